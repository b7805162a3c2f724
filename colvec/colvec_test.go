package colvec_test

import (
	"math"
	"slices"
	"strconv"
	"strings"
	"testing"

	"portolan/api"
	"portolan/colvec"
	"portolan/value"
)

var (
	null  = api.Value{}
	fault = api.Value{Kind: api.Fault}
	no    = truth(false)
	yes   = truth(true)
)

func truth(b bool) api.Value { return api.Value{Kind: api.Bool, Bool: b} }

func integer(n int64) api.Value { return api.Value{Kind: api.Int, Int: n} }

func text(s string) api.Value { return api.Value{Kind: api.Text, Text: s} }

func node(n int64) api.Value { return api.Value{Kind: api.NodeID, Int: n} }

func edge(n int64) api.Value { return api.Value{Kind: api.EdgeID, Int: n} }

func path(l ...int64) api.Value { return api.Value{Kind: api.Path, Path: l} }

func list(l ...api.Value) []api.Value { return l }

// kinds are those that a column may have.
func kinds() []api.Kind {
	return []api.Kind{api.Bool, api.Int, api.Text, api.NodeID, api.EdgeID, api.Path}
}

// noKinds are those that it may not have; some would be one of them, if a byte or a half of theirs alone were looked at.
func noKinds() []api.Kind {
	l := []api.Kind{math.MinInt, -250, -6, -1, api.Null, api.Fault, 8, 9, 255, math.MaxInt}
	for _, k := range kinds() {
		l = append(l, 256+k, 1<<32+k, k-256)
	}
	return l
}

// samples are values of a kind: its edges, what lies between, some of them twice.
func samples(k api.Kind) []api.Value {
	switch k {
	case api.Bool:
		return list(yes, no, no, yes)
	case api.Int:
		return list(integer(0), integer(1), integer(-1), integer(2), integer(math.MaxInt64), integer(math.MinInt64), integer(1), integer(api.MaxID+1))
	case api.Text:
		return list(text("b"), text(""), text("a"), text("b"), text("null"), text("é\n'"), text(strings.Repeat("x", api.MaxText)), text("a"), text("a\x00"))
	case api.NodeID:
		return list(node(5), node(0), node(1), node(api.MaxID), node(5))
	case api.EdgeID:
		return list(edge(7), edge(0), edge(1), edge(api.MaxID), edge(7))
	case api.Path:
		return list(path(3, 1), path(0), path(1, 2, 3, 4, 5, 6, 7, 8, 9), path(3, 1), path(api.MaxID, 0, api.MaxID), path(3))
	}
	return nil
}

// noValues are some that are none: of no Kind, beyond a bound, or with a field beside the one that counts.
func noValues() []api.Value {
	l := list(
		fault,
		text(strings.Repeat("x", api.MaxText+1)), text("\xff"), text("a\xc3"),
		node(-1), node(api.MaxID+1), edge(-1), edge(api.MaxID+1),
		path(), api.Value{Kind: api.Path, Path: []int64{}}, path(1, 2, 3, 4, 5, 6, 7, 8, 9, 10), path(-1), path(1, api.MaxID+1), path(1, -1),
	)
	for _, k := range noKinds() {
		if k != api.Null {
			l = append(l, api.Value{Kind: k}, api.Value{Kind: k, Bool: true}, api.Value{Kind: k, Int: 1}, api.Value{Kind: k, Text: "a"}, api.Value{Kind: k, Path: []int64{1}})
		}
	}
	for _, x := range list(null, yes, integer(1), text("a"), node(1), edge(1), path(1)) {
		l = append(l, littered(x)...)
	}
	return l
}

// littered are a value with one of the fields that do not count not zero.
func littered(x api.Value) []api.Value {
	var l []api.Value
	a, b, c, d := x, x, x, x
	a.Bool, b.Int, c.Text, d.Path = true, 1, "x", []int64{0}
	if x.Kind != api.Bool {
		l = append(l, a)
	}
	if x.Kind != api.Int && x.Kind != api.NodeID && x.Kind != api.EdgeID {
		l = append(l, b)
	}
	if x.Kind != api.Text {
		l = append(l, c)
	}
	if x.Kind != api.Path {
		l = append(l, d)
	}
	return l
}

// mixed are count values of a kind, with nulls at some places (more of them where step is small; none where it is 0).
func mixed(k api.Kind, count, step int) []api.Value {
	of := samples(k)
	l := make([]api.Value, count)
	for i := range l {
		l[i] = of[i*i%len(of)]
		if step > 0 && i%step == step-1 {
			l[i] = null
		}
	}
	return l
}

// copied is a list in memory of its own, with its paths.
func copied(l []api.Value) []api.Value {
	l = slices.Clone(l)
	for i := range l {
		l[i].Path = slices.Clone(l[i].Path)
	}
	return l
}

// same tells whether two are alike in every field; an empty Path may be nil or not.
func same(a, b api.Value) bool {
	return a.Kind == b.Kind && a.Bool == b.Bool && a.Int == b.Int && a.Text == b.Text && slices.Equal(a.Path, b.Path)
}

// shown is a list for a message, where a long text or a long list would hide the rest.
func shown(l []api.Value) string {
	var words []string
	for i, x := range l {
		if i == 20 {
			words = append(words, ".. of "+strconv.Itoa(len(l)))
			break
		}
		word := value.Show(x)
		words = append(words, word[:min(len(word), 24)])
	}
	return "[" + strings.Join(words, " ") + "]"
}

// dictOf are the texts of a list, each once, as they come first.
func dictOf(l []api.Value) []string {
	var texts []string
	for _, x := range l {
		if x.Kind == api.Text && !slices.Contains(texts, x.Text) {
			texts = append(texts, x.Text)
		}
	}
	return texts
}

func nullsOf(l []api.Value) int {
	n := 0
	for _, x := range l {
		if x.Kind == api.Null {
			n++
		}
	}
	return n
}

// at are the values of a list at places.
func at(l []api.Value, places []int) []api.Value {
	var out []api.Value
	for _, i := range places {
		out = append(out, l[i])
	}
	return out
}

// wantColumn asks a column all that can be asked of it, and holds it against what must be in it.
func wantColumn(t *testing.T, what string, v *colvec.Vec, k api.Kind, want []api.Value) {
	t.Helper()
	if v == nil {
		t.Fatalf("%s: nil, want a column of kind %d", what, k)
	}
	if v.Kind() != k || v.Len() != len(want) || v.Nulls() != nullsOf(want) {
		t.Fatalf("%s: kind %d, length %d, %d nulls; want %d, %d, %d", what, v.Kind(), v.Len(), v.Nulls(), k, len(want), nullsOf(want))
	}
	if got := v.Values(); !slices.EqualFunc(got, want, same) {
		t.Fatalf("%s: Values %s, want %s", what, shown(got), shown(want))
	}
	for i, x := range want {
		if got := v.At(i); !same(got, x) {
			t.Fatalf("%s: At(%d) %s, want %s", what, i, shown(list(got)), shown(list(x)))
		}
	}
	for _, i := range []int{math.MinInt, -64, -1, len(want), len(want) + 1, len(want) + 64, math.MaxInt} {
		if got := v.At(i); !same(got, null) {
			t.Fatalf("%s: At(%d) of %d values: %+v, want null", what, i, len(want), got)
		}
	}
	if got := v.Dict(); !slices.Equal(got, dictOf(want)) {
		t.Fatalf("%s: Dict %q, want %q", what, got, dictOf(want))
	}
}

// made is a column that Of must make.
func made(t *testing.T, k api.Kind, l []api.Value) *colvec.Vec {
	t.Helper()
	v, e := colvec.Of(k, l)
	if e != api.OK || v == nil {
		t.Fatalf("Of(%d, %s): %v, %v", k, shown(l), v, e)
	}
	return v
}

func wantErrno(t *testing.T, what string, got, want api.Errno) {
	t.Helper()
	if got != want {
		t.Errorf("%s: %d, want %d", what, got, want)
	}
}

// wantRefused holds a call that answers a column against the error that it must tell, without a column.
func wantRefused(t *testing.T, what string, v *colvec.Vec, got, want api.Errno) {
	t.Helper()
	if got != want || v != nil {
		t.Errorf("%s: %v, %d, want nil, %d", what, v, got, want)
	}
}

// The examples of the chapter.
func TestExamples(t *testing.T) {
	if colvec.New(api.Null) != nil || colvec.New(api.Fault) != nil {
		t.Error("New(Null), New(Fault): want nil, nil")
	}
	l := list(text("a"), null, text("b"), text("a"))
	v := made(t, api.Text, l)
	wantColumn(t, "Of", v, api.Text, l)
	if d := v.Dict(); !slices.Equal(d, []string{"a", "b"}) {
		t.Errorf("Dict: %q", d)
	}
	if v.Nulls() != 1 || !same(v.At(3), text("a")) || !same(v.At(9), null) {
		t.Error(v.Nulls(), v.At(3), v.At(9))
	}
	w, e := v.Gather([]int{3, 1})
	wantErrno(t, "Gather", e, api.OK)
	wantColumn(t, "Gather", w, api.Text, list(text("a"), null))
	if d := w.Dict(); !slices.Equal(d, []string{"a"}) {
		t.Errorf("Dict of the Gather: %q", d)
	}
	wantErrno(t, "Append", w.Append(integer(1)), api.ErrColvecKind)
	wantErrno(t, "Append", v.Append(integer(1)), api.ErrColvecKind)
}

// P3.1, C1: New is an empty column of Bool to Path, and of no other Kind.
func TestNew(t *testing.T) {
	for _, k := range kinds() {
		wantColumn(t, "New", colvec.New(k), k, nil)
	}
	for _, k := range noKinds() {
		if v := colvec.New(k); v != nil {
			t.Errorf("New(%d): %v, want nil", k, v)
		}
	}
}

// P3.1, C1, and P3.2: Append takes null and values of the kind, and they stand in the order in which they came.
func TestAppend(t *testing.T) {
	for _, k := range kinds() {
		v := colvec.New(k)
		var want []api.Value
		for _, x := range append(list(null), samples(k)...) {
			for _, y := range list(x, null, null, x) {
				wantErrno(t, "Append", v.Append(y), api.OK)
				want = append(want, y)
				wantColumn(t, "Append", v, k, want)
			}
		}
	}
}

// P3.1, C1: an empty Path beside another Kind is nil or not: both are values.
func TestAppendEmptyPath(t *testing.T) {
	for _, x := range list(null, yes, integer(1), text("a"), node(1), edge(1)) {
		for _, k := range kinds() {
			y := x
			y.Path = []int64{}
			v, want := colvec.New(k), list(x)
			if x.Kind != k && x.Kind != api.Null {
				wantErrno(t, "Append", v.Append(y), api.ErrColvecKind)
				continue
			}
			wantErrno(t, "Append", v.Append(y), api.OK)
			wantColumn(t, "Append", v, k, want)
		}
	}
}

// P3.1, C1: what Append refuses is not there afterwards, and what is there stays; nor does a refused text come into the dictionary.
func TestAppendRefuses(t *testing.T) {
	for _, k := range kinds() {
		others := noValues()
		for _, other := range kinds() {
			if other != k {
				others = append(others, samples(other)...)
			}
		}
		for _, start := range [][]api.Value{nil, samples(k), mixed(k, 64, 3)} {
			v := made(t, k, start)
			for _, x := range others {
				if e := v.Append(x); e != api.ErrColvecKind {
					t.Errorf("Append(%+v) to kind %d: %d, want ErrColvecKind", x, k, e)
				}
			}
			wantColumn(t, "refused", v, k, start)
			wantErrno(t, "Append", v.Append(samples(k)[0]), api.OK)
			wantColumn(t, "behind the refused", v, k, append(copied(start), samples(k)[0]))
		}
	}
}

// P3.1, C1: Of is New and Append of each.
func TestOf(t *testing.T) {
	for _, k := range kinds() {
		for _, count := range []int{0, 1, 2, 63, 64, 65, 127, 128, 129, 300} {
			for _, step := range []int{0, 1, 2, 7, 64} {
				l := mixed(k, count, step)
				wantColumn(t, "Of", made(t, k, l), k, l)
			}
		}
		wantColumn(t, "Of nothing", made(t, k, nil), k, nil)
		wantColumn(t, "Of an empty list", made(t, k, []api.Value{}), k, nil)
	}
}

// P3.1, C1: a Kind that may not be is told ahead of a value that may not be.
func TestOfRefuses(t *testing.T) {
	lists := [][]api.Value{nil, {}, {null}, {fault}, {yes}, {integer(1), text("a")}, noValues()}
	for _, k := range noKinds() {
		for _, l := range lists {
			v, e := colvec.Of(k, l)
			wantRefused(t, "Of a kind that may not be", v, e, api.ErrArg)
		}
	}
	for _, k := range kinds() {
		for _, other := range kinds() {
			if other == k {
				continue
			}
			v, e := colvec.Of(k, samples(other))
			wantRefused(t, "Of another kind", v, e, api.ErrColvecKind)
		}
		for _, x := range noValues() {
			good := mixed(k, 5, 3)
			for place := range len(good) + 1 {
				v, e := colvec.Of(k, slices.Insert(slices.Clone(good), place, x))
				wantRefused(t, "Of what is no value", v, e, api.ErrColvecKind)
			}
		}
	}
}

// P3.1, C2: places at which there is no value, also of an empty column and beside the bounds of the bitmap's words.
func TestAt(t *testing.T) {
	for _, k := range kinds() {
		for _, count := range []int{0, 1, 63, 64, 65, 128} {
			l := mixed(k, count, 0)
			v := made(t, k, l)
			for i := -130; i < 260; i++ {
				want := null
				if i >= 0 && i < count {
					want = l[i]
				}
				if got := v.At(i); !same(got, want) {
					t.Errorf("At(%d) of %d values of kind %d: %+v, want %+v", i, count, k, got, want)
				}
			}
		}
	}
}

// P3.1, C2: how many are null, wherever they stand.
func TestNulls(t *testing.T) {
	for _, k := range kinds() {
		for place := range 130 {
			l := mixed(k, 130, 0)
			l[place] = null
			wantColumn(t, "one null", made(t, k, l), k, l)
		}
		all := make([]api.Value, 130)
		wantColumn(t, "nothing but nulls", made(t, k, all), k, all)
	}
}

// P3.1, C2: each text once, as it came first; of other kinds nothing.
func TestDict(t *testing.T) {
	cases := []struct {
		of   []api.Value
		want []string
	}{
		{nil, nil},
		{list(null, null), nil},
		{list(text("")), []string{""}},
		{list(null, text(""), null, text("")), []string{""}},
		{list(text("b"), text("a"), text("b"), text("c"), text("a")), []string{"b", "a", "c"}},
		{list(text("a"), text("ab"), text("A"), text("a\x00"), text("a"), text("e\u0301"), text("\u00e9")), []string{"a", "ab", "A", "a\x00", "e\u0301", "\u00e9"}},
	}
	for _, c := range cases {
		if got := made(t, api.Text, c.of).Dict(); !slices.Equal(got, c.want) {
			t.Errorf("Dict of %s: %q, want %q", shown(c.of), got, c.want)
		}
	}
	for _, k := range kinds() {
		if k != api.Text {
			if got := made(t, k, mixed(k, 9, 4)).Dict(); len(got) != 0 {
				t.Errorf("Dict of kind %d: %q", k, got)
			}
		}
	}
}

// P3.1, C2: a dictionary of many texts, each of which must be found again. (A search through all of them would not end soon.)
func TestManyTexts(t *testing.T) {
	const count = 150000
	l := make([]api.Value, 2*count)
	want := make([]string, count)
	for i := range want {
		want[i] = "text " + strconv.Itoa(i*7919%count)
		l[i], l[2*count-1-i] = text(want[i]), text(want[i])
	}
	v := made(t, api.Text, l)
	if got := v.Dict(); !slices.Equal(got, want) {
		t.Errorf("Dict: %d texts, want %d in their order", len(got), len(want))
	}
	if !slices.EqualFunc(v.Values(), l, same) {
		t.Error("Values are not what was appended")
	}
}

// P3.1, C4: the places of what is true; the other fields do not count, nor do those of other Kinds.
func TestTrue(t *testing.T) {
	cases := []struct {
		of   []api.Value
		want []int
	}{
		{nil, nil},
		{list(), nil},
		{list(yes), []int{0}},
		{list(no, null, fault), nil},
		{list(null, yes, fault), []int{1}},
		{list(yes, no, yes, yes, null, yes, fault, yes), []int{0, 2, 3, 5, 7}},
		{list(integer(1), text("true"), node(1), edge(1), path(1), yes), []int{5}},
		{littered(yes), []int{0, 1, 2}},
		{littered(no), nil},
		{list(api.Value{Kind: api.Null, Bool: true}, api.Value{Kind: api.Int, Bool: true}, api.Value{Kind: api.Fault, Bool: true}, api.Value{Kind: -1, Bool: true}, api.Value{Kind: 257, Bool: true}), nil},
	}
	for _, c := range cases {
		if got := colvec.True(c.of); !slices.Equal(got, c.want) {
			t.Errorf("True(%+v): %v, want %v", c.of, got, c.want)
		}
	}
	var long []api.Value
	var want []int
	for i := range 200 {
		long = append(long, truth(i%3 == 0))
		if i%3 == 0 {
			want = append(want, i)
		}
	}
	if got := colvec.True(long); !slices.Equal(got, want) {
		t.Errorf("True of 200: %v, want %v", got, want)
	}
}

// P3.1, C4: Fault is a Kind; what else is no value is none.
func TestFaults(t *testing.T) {
	good := list(null, yes, no, integer(7), text("fault"), node(7), edge(7), path(7))
	if colvec.Faults(nil) || colvec.Faults(list()) || colvec.Faults(good) {
		t.Error("Faults of values: true")
	}
	for place := range len(good) + 1 {
		if !colvec.Faults(slices.Insert(slices.Clone(good), place, fault)) {
			t.Errorf("Faults with one at %d: false", place)
		}
	}
	if !colvec.Faults(list(fault, fault)) || !colvec.Faults(littered(fault)) {
		t.Error("Faults of faults: false")
	}
	for _, x := range noValues() {
		if got := colvec.Faults(list(x)); got != (x.Kind == api.Fault) {
			t.Errorf("Faults(%+v): %v", x, got)
		}
	}
}
