package csr_test

import (
	"fmt"
	"math"
	"math/rand"
	"slices"
	"testing"

	"portolan/api"
	"portolan/csr"
)

// clipped writes out what would be told of long lists at their beginning.
func clipped(l any) string { return fmt.Sprintf("%.200s", fmt.Sprint(l)) }

func wantMeet(t *testing.T, must []int, l ...[]int) {
	t.Helper()
	if got, e := csr.Meet(l); e != api.OK || !slices.Equal(got, must) {
		t.Fatalf("Meet of %s: %s, %v, want %s", clipped(l), clipped(got), e, clipped(must))
	}
}

// wantNoMeet: nothing but an error.
func wantNoMeet(t *testing.T, must api.Errno, l ...[]int) {
	t.Helper()
	if got, e := csr.Meet(l); e != must || len(got) != 0 {
		t.Fatalf("Meet of %s: %s, %v, want nothing, %v", clipped(l), clipped(got), e, must)
	}
}

// P6.1, X3: no list at all, be it nil or not; lists that are empty are lists.
func TestMeetOfNone(t *testing.T) {
	wantNoMeet(t, api.ErrArg)
	wantNoMeet(t, api.ErrArg, [][]int{}...)
	wantNoMeet(t, api.ErrArg, [][]int{{2, 1}}[:0]...)
	wantMeet(t, nil, nil)
	wantMeet(t, nil, []int{})
	wantMeet(t, nil, nil, nil, []int{})
}

// P6.1, X3: an empty list among others, wherever it stands.
func TestMeetOfEmpty(t *testing.T) {
	full := []int{math.MinInt, -1, 0, 1, math.MaxInt}
	for i := range 4 {
		l := [][]int{full, full, full}
		wantMeet(t, full, l...)
		wantMeet(t, nil, slices.Insert(l, i, []int{})...)
		wantMeet(t, nil, slices.Insert(l, i, nil)...)
	}
}

// P6.1, X3: a list that falls, or has a number twice, at any place, in any list; also where another one is empty, or nothing would be met.
func TestMeetOfUnordered(t *testing.T) {
	for _, wrong := range [][]int{{2, 1}, {1, 1}, {0, 0}, {-1, -2}, {math.MaxInt, math.MinInt}, {math.MinInt, math.MinInt}, {math.MaxInt, math.MaxInt}, {1, 2, 2}, {1, 1, 2}, {1, 3, 2}, {2, 1, 3}, {5, 6, 7, 4}, {1, 2, 3, 3}, {3, 2, 1}} {
		wantNoMeet(t, api.ErrCsrOrder, wrong)
		for _, beside := range [][]int{nil, {}, {1}, {100, 200}, {1, 2, 3}, {math.MaxInt}, {math.MinInt}, wrong} {
			wantNoMeet(t, api.ErrCsrOrder, wrong, beside)
			wantNoMeet(t, api.ErrCsrOrder, beside, wrong)
			wantNoMeet(t, api.ErrCsrOrder, beside, wrong, beside)
			wantNoMeet(t, api.ErrCsrOrder, beside, beside, wrong)
		}
	}
	for n := 2; n < 70; n++ {
		for at := 1; at < n; at++ {
			l := upTo(n)
			l[at] = at - 1
			wantNoMeet(t, api.ErrCsrOrder, upTo(3), l)
		}
	}
}

// P6.1, X3: numbers below 0, the least and the greatest ones.
func TestMeetAtTheEdges(t *testing.T) {
	wantMeet(t, []int{math.MinInt}, []int{math.MinInt}, []int{math.MinInt, math.MaxInt})
	wantMeet(t, []int{math.MaxInt}, []int{0, math.MaxInt}, []int{math.MinInt, math.MaxInt}, []int{math.MaxInt})
	wantMeet(t, []int{math.MinInt, math.MaxInt}, []int{math.MinInt, math.MaxInt}, []int{math.MinInt, 0, math.MaxInt})
	wantMeet(t, nil, []int{math.MinInt}, []int{math.MinInt + 1})
	wantMeet(t, nil, []int{math.MaxInt}, []int{math.MaxInt - 1})
	wantMeet(t, nil, []int{math.MinInt}, []int{math.MaxInt})
	wantMeet(t, []int{-9, -3}, []int{-9, -5, -3, 3}, []int{-10, -9, -4, -3, -1, 5, 9})
	wantMeet(t, []int{math.MinInt, math.MinInt + 1, -1, 0, math.MaxInt - 1, math.MaxInt}, []int{math.MinInt, math.MinInt + 1, -1, 0, math.MaxInt - 1, math.MaxInt})
	wantMeet(t, []int{1<<32 + 1}, []int{1, 1<<32 + 1}, []int{0, 1<<32 + 1, 1<<33 + 1})
}

// choice are the numbers that a subset's bits stand for.
func choice(bits int) []int {
	var l []int
	for i, n := range []int{math.MinInt, -2, 0, 3, math.MaxInt} {
		if bits>>i&1 == 1 {
			l = append(l, n)
		}
	}
	return l
}

// P6.1, X3; P6.3: all choices of up to three lists of the same few numbers, in each order.
func TestMeetOfSubsets(t *testing.T) {
	const all = 1 << 5
	for a := range all {
		wantMeet(t, choice(a), choice(a))
		wantMeet(t, choice(a), choice(a), choice(a))
		wantMeet(t, choice(a), choice(a), choice(a), choice(a))
		for b := range all {
			wantMeet(t, choice(a&b), choice(a), choice(b))
			wantMeet(t, choice(a&b), choice(b), choice(a), choice(b))
			for c := range all {
				wantMeet(t, choice(a&b&c), choice(a), choice(b), choice(c))
			}
		}
	}
}

// P6.3: one list is what is met of it; of a list twice, by the same memory, too.
func TestMeetOfOne(t *testing.T) {
	for n := range 40 {
		l := upTo(n)
		for i := range l {
			l[i] = (i - 20) * (n + 1)
		}
		wantMeet(t, l, l)
		wantMeet(t, l, slices.Clone(l))
		wantMeet(t, l, l, l)
		wantMeet(t, l, l, slices.Clone(l))
		wantMeet(t, l, l, l, l, l, l)
	}
}

// P6.1, X3: one number, or two, to be found at each place of lists of each length, by whatever steps lead there.
func TestMeetAtEachPlace(t *testing.T) {
	for n := 1; n < 70; n++ {
		long := upTo(n)
		for i := range long {
			long[i] = 2 * i
		}
		for at := range long {
			wantMeet(t, []int{2 * at}, []int{2 * at}, long)
			wantMeet(t, []int{2 * at}, long, []int{2*at - 1, 2 * at, 2*at + 1})
			wantMeet(t, nil, []int{2*at - 1, 2*at + 1}, long)
			for behind := at + 1; behind < n; behind++ {
				wantMeet(t, []int{2 * at, 2 * behind}, []int{2 * at, 2 * behind}, long)
				wantMeet(t, []int{2 * at, 2 * behind}, long, slices.Compact([]int{2 * at, 2*at + 1, 2*behind - 1, 2 * behind, 2 * n}))
			}
		}
	}
}

// plainMeet are the numbers of the first list that all others have.
func plainMeet(l [][]int) []int {
	var met []int
	for _, n := range l[0] {
		if !slices.ContainsFunc(l, func(list []int) bool { return !slices.Contains(list, n) }) {
			met = append(met, n)
		}
	}
	return met
}

// P6.1, X3; P6.3: drawn lists, of which some are much longer than others, held against a plain search, and in another order.
func TestMeetAgainstPlainOnes(t *testing.T) {
	r := rand.New(rand.NewSource(6))
	filled := 0
	for range 20000 {
		l := make([][]int, 1+r.Intn(5))
		span := 1 << r.Intn(10)
		for i := range l {
			density := 1 + r.Intn(6)
			for n := -span / 2; n < span/2+1; n++ {
				if r.Intn(6) < density {
					l[i] = append(l[i], n)
				}
			}
		}
		must := plainMeet(l)
		if len(must) > 1 {
			filled++
		}
		wantMeet(t, must, l...)
		r.Shuffle(len(l), func(i, j int) { l[i], l[j] = l[j], l[i] })
		wantMeet(t, must, l...)
		wantMeet(t, must, append(l, l[r.Intn(len(l))])...)
	}
	want(t, "many have numbers in common", filled > 5000, true)
}

// P6.1, X3; P1: many numbers, many lists.
func TestMeetOfMany(t *testing.T) {
	const count = 300000
	long := upTo(count)
	even, odd := make([]int, count), make([]int, count)
	for i := range count {
		even[i], odd[i] = 2*i, 2*i+1
	}
	wantMeet(t, long, long, upTo(count+1))
	wantMeet(t, even[:count/2], long, even)
	wantMeet(t, nil, even, odd)
	wantMeet(t, []int{count - 1}, long, []int{count - 1, count})
	many := make([][]int, 20000)
	for i := range many {
		many[i] = []int{i - 20000, 20000, 30000 + i}
	}
	wantMeet(t, []int{20000}, many...)
	many[19999] = []int{19999, 20001}
	wantMeet(t, nil, many...)
}

// P3: what is handed in stands as it was, with its spare room, and that of the list of lists.
func TestMeetLeavesLists(t *testing.T) {
	for _, lists := range [][][]int{{{1, 2, 3}, {2, 3, 4}, {0, 2, 3}}, {{1, 2, 3}}, {{2, 1}, {1}}, {{1, 5}, {}, {5}}, {{1, 2}, {3, 4}}, {}} {
		l := make([][]int, len(lists))
		for i := range l {
			l[i] = withRoom(lists[i], 77)
		}
		l = withRoom(l, withRoom([]int{9, 8}, 77))
		was := toldWhole(l)
		csr.Meet(l)
		want(t, "what was handed in", toldWhole(l), was)
	}
}

// toldWhole writes lists out, with their lengths and their spare room.
func toldWhole(l [][]int) string {
	text := fmt.Sprint(len(l), ":")
	for _, list := range l[:cap(l)] {
		text += fmt.Sprint(len(list), list[:cap(list)])
	}
	return text
}

// P3: what comes out is new memory: neither changes when the other one is overwritten.
func TestMeetIsNew(t *testing.T) {
	for _, count := range []int{1, 2, 3} {
		one := withRoom([]int{1, 4, 9}, 77)
		l := slices.Repeat([][]int{one}, count)
		met, _ := csr.Meet(l)
		again, _ := csr.Meet(l)
		wantApart(t, taken(met, taken(again, taken(one, nil))))
		spoil(met, 999)
		want(t, "what was handed in", fmt.Sprint(one[:cap(one)]), "[1 4 9 77 77 77]")
		wantList(t, "met a second time", again, 1, 4, 9)
		spoil(one, 999)
		wantList(t, "met a second time", again, 1, 4, 9)
	}
}
