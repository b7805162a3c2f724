package csr_test

import (
	"fmt"
	"math"
	"slices"
	"strings"
	"testing"
	"unsafe"

	"portolan/api"
	"portolan/csr"
	"portolan/tables"
)

// want holds an answer against what it must be.
func want[T comparable](t *testing.T, what string, got, must T) {
	t.Helper()
	if got != must {
		t.Errorf("%s: %v, want %v", what, got, must)
	}
}

func wantList[T comparable](t *testing.T, what string, got []T, must ...T) {
	t.Helper()
	if !slices.Equal(got, must) {
		t.Errorf("%s: %v, want %v", what, got, must)
	}
}

// named are types of these labels.
func named(labels string) []api.TypeDecl {
	var l []api.TypeDecl
	for _, label := range strings.Fields(labels) {
		l = append(l, api.TypeDecl{Label: label})
	}
	return l
}

// nodes are some of the label A.
func nodes(ids ...int64) []api.RawNode {
	var l []api.RawNode
	for _, id := range ids {
		l = append(l, api.RawNode{ID: id, Label: "A"})
	}
	return l
}

func edge(id int64, label string, from, to int64) api.RawEdge {
	return api.RawEdge{ID: id, Label: label, From: from, To: to}
}

// graph is one whose records stand in no order. Its nodes' places are 0 to 5, the edges' 0 to 9; it has loops (one twice, one of each type), several edges between the same nodes, of one type and of two, both ways, a node with edges that only leave it, one with such as only come to it, one without any, and types without edges ahead of, between and behind those that have some.
//
// The edges, by their places: 0 E 4>1, 1 F 1>4, 2 E 1>4, 3 E 1>1, 4 F 1>1, 5 E 1>4, 6 E 1>0, 7 E 1>1, 8 F 4>0, 9 E 2>5.
func graph() api.Raw {
	return api.Raw{
		NodeTypes: named("B A"),
		EdgeTypes: named("None E Void F Last"),
		Nodes:     nodes(30, 10, 0, 50, 20, api.MaxID),
		Edges: []api.RawEdge{
			edge(17, "E", 10, 10),
			edge(12, "E", 10, 50),
			edge(3, "E", 50, 10),
			edge(api.MaxID, "E", 20, api.MaxID),
			edge(11, "F", 10, 50),
			edge(14, "F", 10, 10),
			edge(15, "E", 10, 50),
			edge(18, "F", 50, 0),
			edge(13, "E", 10, 10),
			edge(16, "E", 10, 0),
		},
	}
}

// The types of graph: those that have edges, and those that have none.
const (
	none = 0
	ofE  = 1
	void = 2
	ofF  = 3
	last = 4
)

func loaded(t *testing.T, r api.Raw) *tables.Graph {
	t.Helper()
	g, at, e := tables.Load(r)
	if e != api.OK {
		t.Fatalf("Load: %v, %v", at, e)
	}
	return g
}

// built is an index that Build must make.
func built(t *testing.T, g *tables.Graph, of int, back bool) *csr.Index {
	t.Helper()
	x, e := csr.Build(g, of, back)
	if x == nil || e != api.OK {
		t.Fatalf("Build(%d, %t): %v, %v", of, back, x, e)
	}
	return x
}

// outside are places that no graph of these tests has; some would be one, if a half of theirs alone were looked at.
func outside() []int {
	return []int{math.MinInt, math.MinInt + 1, -1 << 32, -7, -2, -1, 1 << 20, math.MaxInt32, 1 << 32, 1<<32 + 1, math.MaxInt - 1, math.MaxInt}
}

// upTo are the numbers from 0 on, ahead of n.
func upTo(n int) []int {
	l := make([]int, n)
	for i := range l {
		l[i] = i
	}
	return l
}

// asked is what the chapter lists: an index has it, and the plain one that it is held against.
type asked interface {
	Of(node int) []api.Adj
	Degree(node int) int
	Total() int
	Between(node int, other int) []int
	Nodes(node int) []int
}

// answers are all of an index': to the places of so many nodes, and others.
func answers(x asked, count int) string {
	var b strings.Builder
	places := append(outside(), upTo(count+2)...)
	fmt.Fprintln(&b, "Total", x.Total())
	for _, node := range places {
		fmt.Fprintln(&b, node, x.Degree(node), x.Of(node), x.Nodes(node))
		for _, other := range places {
			if l := x.Between(node, other); len(l) > 0 {
				fmt.Fprintln(&b, node, other, l)
			}
		}
	}
	return b.String()
}

// room is the memory of a list, from its first byte to behind its spare room.
type room struct{ from, to uintptr }

// taken is the room of a list, if it has any, behind others.
func taken[T any](l []T, others []room) []room {
	if cap(l) == 0 {
		return others
	}
	from := uintptr(unsafe.Pointer(unsafe.SliceData(l)))
	var one T
	return append(others, room{from, from + uintptr(cap(l))*unsafe.Sizeof(one)})
}

func wantApart(t *testing.T, all []room) {
	t.Helper()
	for i, a := range all {
		for _, b := range all[:i] {
			if a.from < b.to && b.from < a.to {
				t.Fatalf("two lists share memory: %v, %v", a, b)
			}
		}
	}
}

// spoil overwrites all that a caller has of a list in hand, its spare room too.
func spoil[T any](l []T, by T) {
	l = l[:cap(l)]
	for i := range l {
		l[i] = by
	}
}

// withRoom is a list in new memory, with spare room in which something stands.
func withRoom[T any](l []T, spare T) []T {
	return append(slices.Clone(l), spare, spare, spare)[:len(l)]
}
