package value_test

import (
	"cmp"
	"math"
	"slices"
	"strings"
	"testing"

	"portolan/api"
	"portolan/value"
)

var (
	null  = api.Value{}
	fault = api.Value{Kind: api.Fault}
	no    = truth(false)
	yes   = truth(true)
)

func truth(b bool) api.Value { return api.Value{Kind: api.Bool, Bool: b} }

func integer(n int64) api.Value { return api.Value{Kind: api.Int, Int: n} }

func text(s string) api.Value { return api.Value{Kind: api.Text, Text: s} }

func node(n int64) api.Value { return api.Value{Kind: api.NodeID, Int: n} }

func edge(n int64) api.Value { return api.Value{Kind: api.EdgeID, Int: n} }

func path(l ...int64) api.Value { return api.Value{Kind: api.Path, Path: l} }

// times is a list of a number that many times.
func times(count int, n int64) []int64 { return slices.Repeat([]int64{n}, count) }

// rising are values, each ahead of those behind it: of each kind the edges, and what lies beside them.
func rising() []api.Value {
	return []api.Value{
		null,
		no, yes,
		integer(math.MinInt64), integer(math.MinInt64 + 1), integer(-256), integer(-3), integer(-1), integer(0), integer(1), integer(2),
		integer(255), integer(256), integer(api.MaxID), integer(api.MaxID + 1), integer(math.MaxInt64 - 1), integer(math.MaxInt64),
		text(""), text("\x00"), text("\x00\x00"), text("\n"), text("'"), text("A"), text("\\"), text("a"), text("a\x00"), text("ab"), text("abc"), text("b"), text("ba"),
		text(strings.Repeat("b", api.MaxText-1)), text(strings.Repeat("b", api.MaxText)), text(strings.Repeat("é", api.MaxText/2)),
		text("ÿ"), text("\uFB00"), text("\uFFFD"), text("\U0001F5FA"),
		node(0), node(1), node(255), node(256), node(api.MaxID - 1), node(api.MaxID),
		edge(0), edge(1), edge(255), edge(256), edge(api.MaxID - 1), edge(api.MaxID),
		path(0), path(0, 0), path(0, 1), path(0, api.MaxID), path(1), path(1, 0, 5),
		path(times(api.MaxTrail, 1)...), path(times(api.MaxTrail+1, 1)...),
		path(1, 2), path(1, 2, 3), path(1, 3), path(256), path(api.MaxID), path(api.MaxID, 0), path(times(api.MaxTrail+1, api.MaxID)...),
	}
}

// noKinds are Kinds of no value; some would be one's, if a byte of theirs alone were looked at.
func noKinds() []api.Kind {
	l := []api.Kind{math.MinInt, -250, -1, api.Fault, 8, 9, 127, 255, math.MaxInt}
	for k := api.Null; k <= api.Fault; k++ {
		l = append(l, 256+k, 1<<32+k, k-256)
	}
	slices.Sort(l)
	return slices.Compact(l)
}

// wrong are those that are no values.
func wrong() []api.Value {
	l := []api.Value{
		text(strings.Repeat("b", api.MaxText+1)), text(strings.Repeat("é", api.MaxText/2) + "e"), text(strings.Repeat("b", 1<<20)),
		text("\xff"), text("a\x80"), text("\xc3"), text("é\xc3"), text("\xc0\x80"), text("\xed\xa0\x80"), text("\xf4\x90\x80\x80"), text("\uFFFD\xff"),
		node(-1), node(api.MaxID + 1), node(math.MinInt64), node(math.MaxInt64),
		edge(-1), edge(api.MaxID + 1), edge(math.MinInt64), edge(math.MaxInt64),
		path(), {Kind: api.Path, Path: []int64{}}, path(times(api.MaxTrail+2, 1)...), path(times(256, 1)...), path(times(257, 1)...), path(times(263, 1)...),
		path(-1), path(api.MaxID + 1), path(math.MinInt64), path(math.MaxInt64),
	}
	for at := range api.MaxTrail + 1 {
		below, above := times(api.MaxTrail+1, 7), times(api.MaxTrail+1, 7)
		below[at], above[at] = -1, api.MaxID+1
		l = append(l, path(below...), path(above...))
	}
	for _, k := range noKinds() {
		l = append(l, api.Value{Kind: k})
	}
	for _, v := range rising() {
		l = append(l, littered(v)...)
	}
	return l
}

// littered are a value with one of the fields that do not count not zero.
func littered(v api.Value) []api.Value {
	var l []api.Value
	a, b, c, d := v, v, v, v
	a.Bool, b.Int, c.Text, d.Path = true, 1, "x", []int64{0}
	if v.Kind != api.Bool {
		l = append(l, a)
	}
	if v.Kind != api.Int && v.Kind != api.NodeID && v.Kind != api.EdgeID {
		l = append(l, b)
	}
	if v.Kind != api.Text {
		l = append(l, c)
	}
	if v.Kind != api.Path {
		l = append(l, d)
	}
	return l
}

// same tells whether two are alike in every field; an empty Path may be nil or not.
func same(a, b api.Value) bool {
	return a.Kind == b.Kind && a.Bool == b.Bool && a.Int == b.Int && a.Text == b.Text && slices.Equal(a.Path, b.Path)
}

// short is a value for a message, where a long text would hide the rest.
func short(v api.Value) api.Value {
	if len(v.Text) > 12 {
		v.Text = v.Text[:12] + ".."
	}
	return v
}

func wantValue(t *testing.T, call string, got, want api.Value, of ...api.Value) {
	t.Helper()
	if !same(got, want) {
		for i := range of {
			of[i] = short(of[i])
		}
		t.Errorf("%s(%+v): %+v, want %+v", call, of, short(got), short(want))
	}
}

func sign(n int) int { return cmp.Compare(n, 0) }

func wantOrder(t *testing.T, a, b api.Value, want int) {
	t.Helper()
	if got := sign(value.Order(a, b)); got != want {
		t.Errorf("Order(%+v, %+v): %d, want %d", short(a), short(b), got, want)
	}
}

// The examples of the chapter.

func TestExampleOrder(t *testing.T) {
	wantOrder(t, null, no, -1)
	wantOrder(t, integer(2), integer(-3), 1)
	wantOrder(t, text("b"), text("ab"), 1)
}

func TestExampleTruths(t *testing.T) {
	wantValue(t, "And", value.And(no, fault), no, no, fault)
	wantValue(t, "And", value.And(null, fault), null, null, fault)
	wantValue(t, "Or", value.Or(yes, null), yes, yes, null)
	wantValue(t, "Not", value.Not(null), null, null)
	wantValue(t, "Equal", value.Equal(integer(1), text("a")), no, integer(1), text("a"))
	wantValue(t, "Less", value.Less(integer(1), text("a")), fault, integer(1), text("a"))
	wantValue(t, "Less", value.Less(null, fault), null, null, fault)
}

func TestExampleBytes(t *testing.T) {
	wantEncode(t, integer(-1), "\x02\xff\xff\xff\xff\xff\xff\xff\xff")
	wantEncode(t, text("a"), "\x03\x00\x00\x00\x01\x61")
	if h := value.Hash(nil); h != 14695981039346656037 {
		t.Error("Hash of nothing:", h)
	}
}

func TestExampleShow(t *testing.T) {
	wantShow(t, text("it's"), `'it\'s'`)
	wantShow(t, path(1, 3, 4), "<#1 @3 @4>")
}

// P2.1: U1.

func TestRight(t *testing.T) {
	for _, v := range rising() {
		if !value.Right(v) {
			t.Errorf("Right(%+v): false", short(v))
		}
		if v.Kind == api.Path {
			continue
		}
		v.Path = []int64{}
		if !value.Right(v) {
			t.Errorf("Right(%+v) with an empty Path: false", short(v))
		}
		v.Path = []int64{1, 2}[:0]
		if !value.Right(v) {
			t.Errorf("Right(%+v) with an empty Path that has spare room: false", short(v))
		}
	}
}

func TestRightOfPathsOfEachLength(t *testing.T) {
	for n := range 2*api.MaxTrail + 4 {
		if got, want := value.Right(path(times(n, 3)...)), n >= 1 && n <= 9; got != want {
			t.Errorf("Right of a Path of %d numbers: %v", n, got)
		}
	}
}

func TestNotRight(t *testing.T) {
	for _, v := range wrong() {
		if value.Right(v) {
			t.Errorf("Right(%+v): true", short(v))
		}
	}
}

func TestOrderOfValues(t *testing.T) {
	l := rising()
	for i, a := range l {
		for k, b := range l {
			wantOrder(t, a, b, cmp.Compare(i, k))
		}
	}
}

func TestOrderOfWhatIsNoValue(t *testing.T) {
	l := []api.Value{
		{Kind: math.MinInt}, {Kind: -250}, {Kind: -1}, null, no, yes, integer(0),
		text("\x80"), text("\xc3"), text("é"), text("\xff"), text("\xff\x00"), text("\xff" + strings.Repeat("b", api.MaxText)),
		node(math.MinInt64), node(-1), node(0), node(api.MaxID), node(api.MaxID + 1), node(math.MaxInt64),
		edge(math.MinInt64), edge(-1), edge(0), edge(api.MaxID), edge(api.MaxID + 1), edge(math.MaxInt64),
		path(), path(math.MinInt64), path(-1), path(-1, 4), path(0), path(times(9, 2)...), path(times(10, 2)...), path(times(11, 2)...), path(api.MaxID + 1), path(math.MaxInt64),
		fault, {Kind: 8}, {Kind: 255}, {Kind: 256}, {Kind: 258}, {Kind: math.MaxInt},
	}
	for i, a := range l {
		for k, b := range l {
			wantOrder(t, a, b, cmp.Compare(i, k))
		}
	}
}

// Fields that do not count are counted neither in Order nor in what stands on it.
func TestFieldsThatDoNotCount(t *testing.T) {
	l := append(rising(), fault, api.Value{Kind: -1}, api.Value{Kind: 8}, api.Value{Kind: 258})
	for _, a := range l {
		for _, b := range littered(a) {
			wantOrder(t, a, b, 0)
			wantOrder(t, b, a, 0)
			wantValue(t, "Not", value.Not(b), value.Not(a), b)
			for _, c := range l {
				wantOrder(t, b, c, sign(value.Order(a, c)))
				wantOrder(t, c, b, sign(value.Order(c, a)))
				wantValue(t, "Equal", value.Equal(b, c), value.Equal(a, c), b, c)
				wantValue(t, "Less", value.Less(c, b), value.Less(c, a), c, b)
				wantValue(t, "And", value.And(b, c), value.And(a, c), b, c)
				wantValue(t, "Or", value.Or(c, b), value.Or(c, a), c, b)
			}
		}
	}
}

// P2.2: of all that there are here, values or not, three by three.
func TestOrderIsALine(t *testing.T) {
	l := append(rising(), wrong()...)
	signs := make([][]int, len(l))
	for i, a := range l {
		for _, b := range l {
			signs[i] = append(signs[i], sign(value.Order(a, b)))
		}
	}
	for i := range l {
		for k := range l {
			if signs[i][k] != -signs[k][i] {
				t.Errorf("Order(%+v, %+v): %d, the other way round %d", short(l[i]), short(l[k]), signs[i][k], signs[k][i])
			}
			if signs[i][k] > 0 {
				continue
			}
			for m := range l {
				if signs[k][m] <= 0 && signs[i][m] != min(signs[i][k], signs[k][m]) {
					t.Errorf("Order does not go on from %+v by %+v to %+v", short(l[i]), short(l[k]), short(l[m]))
				}
			}
		}
	}
}

func TestOrderIsZeroJustOfTheSameBytes(t *testing.T) {
	l := append(rising(), rising()...)
	for _, a := range l {
		for _, b := range l {
			alike := string(value.Encode(a)) == string(value.Encode(b))
			if zero := value.Order(a, b) == 0; zero != alike {
				t.Errorf("Order(%+v, %+v) is 0: %v; the same bytes: %v", short(a), short(b), zero, alike)
			}
		}
	}
}

// P2.1: U6.

func wantShow(t *testing.T, v api.Value, want string) {
	t.Helper()
	if got := value.Show(v); got != want {
		t.Errorf("Show(%+v): %q, want %q", short(v), got, want)
	}
}

func TestShow(t *testing.T) {
	wantShow(t, null, "null")
	wantShow(t, no, "false")
	wantShow(t, yes, "true")
	wantShow(t, integer(0), "0")
	wantShow(t, integer(-7), "-7")
	wantShow(t, integer(math.MinInt64), "-9223372036854775808")
	wantShow(t, integer(math.MaxInt64), "9223372036854775807")
	wantShow(t, node(0), "#0")
	wantShow(t, node(api.MaxID), "#1099511627776")
	wantShow(t, edge(0), "@0")
	wantShow(t, edge(api.MaxID), "@1099511627776")
	wantShow(t, path(0), "<#0>")
	wantShow(t, path(api.MaxID, 0), "<#1099511627776 @0>")
	wantShow(t, path(1, 2, 3, 4, 5, 6, 7, 8, 9), "<#1 @2 @3 @4 @5 @6 @7 @8 @9>")
	wantShow(t, api.Value{Kind: api.Int, Int: 4, Path: []int64{}}, "4")
}

func TestShowOfTexts(t *testing.T) {
	wantShow(t, text(""), "''")
	wantShow(t, text("ab c"), "'ab c'")
	wantShow(t, text("'"), `'\''`)
	wantShow(t, text("\\"), `'\\'`)
	wantShow(t, text("\n"), `'\n'`)
	wantShow(t, text("\\n"), `'\\n'`)
	wantShow(t, text("\\'\n'\\"), `'\\\'\n\'\\'`)
	wantShow(t, text("\r\t\x00\x7f\"`"), "'\r\t\x00\x7f\"`'")
	wantShow(t, text("é\uFFFD\U0001F5FA\u2028"), "'é\uFFFD\U0001F5FA\u2028'")
	wantShow(t, text(strings.Repeat("'", api.MaxText)), "'"+strings.Repeat(`\'`, api.MaxText)+"'")
}

func TestShowOfEachRune(t *testing.T) {
	for r := range rune(0x3000) {
		want := string(r)
		switch r {
		case 39, 92:
			want = "\\" + want
		case 10:
			want = "\\n"
		}
		wantShow(t, text("x"+string(r)+"y"), "'x"+want+"y'")
	}
}

func TestShowOfWhatIsNoValue(t *testing.T) {
	wantShow(t, fault, "fault")
	for _, v := range wrong() {
		wantShow(t, v, "fault")
	}
}

func TestShowTellsValuesApart(t *testing.T) {
	l := rising()
	for i, a := range l {
		for _, b := range l[i+1:] {
			if value.Show(a) == value.Show(b) {
				t.Errorf("%+v and %+v are shown alike: %q", short(a), short(b), value.Show(a))
			}
		}
	}
}
