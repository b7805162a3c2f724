package colvec_test

import (
	"math"
	"slices"
	"testing"

	"portolan/api"
	"portolan/colvec"
)

// upTo are the places from 0 on, that many.
func upTo(count int) []int {
	places := make([]int, count)
	for i := range places {
		places[i] = i
	}
	return places
}

// downFrom are the same, falling.
func downFrom(count int) []int {
	places := upTo(count)
	slices.Reverse(places)
	return places
}

// choices are places of a column of that many values: none, all, some, some of them more than once.
func choices(count int) [][]int {
	l := [][]int{nil, {}, upTo(count), downFrom(count)}
	if count == 0 {
		return l
	}
	last := count - 1
	l = append(l, []int{0}, []int{last}, []int{last, 0, last}, slices.Repeat([]int{last / 2}, 70), append(upTo(count), upTo(count)...))
	var strewn, even []int
	for i := range 150 {
		strewn = append(strewn, (i*i+7*i)%count)
	}
	for i := 0; i < count; i += 2 {
		even = append(even, i)
	}
	return append(l, strewn, even)
}

func gathered(t *testing.T, v *colvec.Vec, places []int) *colvec.Vec {
	t.Helper()
	w, e := v.Gather(places)
	if e != api.OK || w == nil {
		t.Fatalf("Gather(%v) of %s: %v, %d", places, shown(v.Values()), w, e)
	}
	return w
}

func both(t *testing.T, v, w *colvec.Vec) *colvec.Vec {
	t.Helper()
	x, e := v.Concat(w)
	if e != api.OK || x == nil {
		t.Fatalf("Concat of %s and %s: %v, %d", shown(v.Values()), shown(w.Values()), x, e)
	}
	return x
}

// P3.1, C3: the values at places, with a dictionary of their own texts alone.
func TestGather(t *testing.T) {
	for _, k := range kinds() {
		for _, count := range []int{0, 1, 5, 64, 65, 130} {
			for _, step := range []int{0, 1, 3} {
				l := mixed(k, count, step)
				v := made(t, k, l)
				for _, places := range choices(count) {
					wantColumn(t, "Gather", gathered(t, v, places), k, at(l, places))
				}
				wantColumn(t, "gathered of", v, k, l)
			}
		}
	}
}

// P3.1, C3: a place that there is not, wherever it stands among the places.
func TestGatherRefuses(t *testing.T) {
	for _, k := range kinds() {
		for _, count := range []int{0, 1, 64, 100} {
			l := mixed(k, count, 3)
			v := made(t, k, l)
			good := upTo(min(count, 3))
			for _, wrong := range []int{math.MinInt, -count - 1, -64, -2, -1, count, count + 1, count + 64, 1 << 32, math.MaxInt} {
				if wrong >= 0 && wrong < count {
					continue
				}
				for place := range len(good) + 1 {
					w, e := v.Gather(slices.Insert(slices.Clone(good), place, wrong))
					wantRefused(t, "Gather", w, e, api.ErrColvecAt)
				}
			}
			wantColumn(t, "after it refused", v, k, l)
		}
	}
}

// P3.1, C3: the order of a Gather's dictionary is that of its own values, and a text that it leaves out is not in it.
func TestGatherDict(t *testing.T) {
	v := made(t, api.Text, list(text("a"), text("b"), null, text("c"), text("a")))
	cases := []struct {
		places []int
		want   []string
	}{
		{nil, nil},
		{[]int{2}, nil},
		{[]int{4}, []string{"a"}},
		{[]int{3, 1}, []string{"c", "b"}},
		{[]int{3, 4, 0, 3, 2}, []string{"c", "a"}},
		{[]int{1, 4, 3, 0}, []string{"b", "a", "c"}},
	}
	for _, c := range cases {
		if got := gathered(t, v, c.places).Dict(); !slices.Equal(got, c.want) {
			t.Errorf("Dict of Gather(%v): %q, want %q", c.places, got, c.want)
		}
	}
	if got := v.Dict(); !slices.Equal(got, []string{"a", "b", "c"}) {
		t.Errorf("Dict of what was gathered of: %q", got)
	}
}

// P3.3: Gather of all places in order is the same column; of places of a Gather, Gather of the places' places.
func TestGatherOfGather(t *testing.T) {
	for _, k := range kinds() {
		for _, count := range []int{0, 1, 2, 9, 66} {
			l := mixed(k, count, 4)
			v := made(t, k, l)
			wantColumn(t, "all places", gathered(t, v, upTo(count)), k, l)
			for _, first := range choices(count) {
				w := gathered(t, v, first)
				for _, second := range choices(len(first)) {
					var places []int
					for _, i := range second {
						places = append(places, first[i])
					}
					want := gathered(t, v, places)
					wantColumn(t, "places' places", want, k, at(l, places))
					wantColumn(t, "Gather of a Gather", gathered(t, w, second), k, want.Values())
				}
			}
		}
	}
}

// P3.1, C3: both columns' values, one behind the other, wherever the first ends in a word of the bitmap; and both stay as they are.
func TestConcat(t *testing.T) {
	counts := []int{0, 1, 2, 5, 63, 64, 65, 127, 128, 129}
	for _, k := range kinds() {
		for _, first := range counts {
			for _, second := range counts {
				for _, steps := range [][2]int{{0, 0}, {1, 0}, {0, 1}, {1, 1}, {2, 3}, {5, 64}} {
					a, b := mixed(k, first, steps[0]), mixed(k, second, steps[1])
					v, w := made(t, k, a), made(t, k, b)
					wantColumn(t, "Concat", both(t, v, w), k, slices.Concat(a, b))
					wantColumn(t, "the first", v, k, a)
					wantColumn(t, "the second", w, k, b)
				}
			}
		}
	}
}

// P3.1, C3: nil ahead of all, then another kind; also where both are empty.
func TestConcatRefuses(t *testing.T) {
	for _, k := range kinds() {
		for _, count := range []int{0, 3} {
			l := mixed(k, count, 2)
			v := made(t, k, l)
			w, e := v.Concat(nil)
			wantRefused(t, "Concat(nil)", w, e, api.ErrArg)
			w, e = v.Concat(&colvec.Vec{})
			wantRefused(t, "Concat of what New did not make", w, e, api.ErrColvecKind)
			for _, other := range kinds() {
				if other == k {
					continue
				}
				for _, size := range []int{0, 3} {
					w, e := v.Concat(made(t, other, mixed(other, size, 1)))
					wantRefused(t, "Concat of another kind", w, e, api.ErrColvecKind)
				}
			}
			wantColumn(t, "after it refused", v, k, l)
		}
	}
}

// P3.1, C3: a column with itself behind, again and again.
func TestConcatItself(t *testing.T) {
	for _, k := range kinds() {
		for _, count := range []int{0, 1, 5, 64, 70} {
			l := mixed(k, count, 3)
			v := made(t, k, l)
			for range 3 {
				w := both(t, v, v)
				wantColumn(t, "itself", v, k, l)
				l = slices.Concat(l, l)
				wantColumn(t, "with itself", w, k, l)
				v = w
			}
		}
	}
}

// P3.1, C3: texts that both have, that one has, in another order, beside nulls.
func TestConcatDict(t *testing.T) {
	cases := []struct {
		first, second []api.Value
		want          []string
	}{
		{nil, nil, nil},
		{list(null), list(null), nil},
		{nil, list(text("b"), text("a")), []string{"b", "a"}},
		{list(text("b"), text("a")), nil, []string{"b", "a"}},
		{list(text("b"), text("a")), list(null, null), []string{"b", "a"}},
		{list(null), list(null, text("b")), []string{"b"}},
		{list(text("a"), text("b")), list(text("c"), text("b"), text("d"), text("a"), text("c")), []string{"a", "b", "c", "d"}},
		{list(text("a")), list(text(""), null, text("a"), text("")), []string{"a", ""}},
	}
	for _, c := range cases {
		x := both(t, made(t, api.Text, c.first), made(t, api.Text, c.second))
		if got := x.Dict(); !slices.Equal(got, c.want) {
			t.Errorf("Dict of %s and %s: %q, want %q", shown(c.first), shown(c.second), got, c.want)
		}
		wantColumn(t, "Concat", x, api.Text, slices.Concat(c.first, c.second))
	}
}

// P3.1: whatever is grouped first, three columns are put together alike; an empty one changes nothing.
func TestConcatGroups(t *testing.T) {
	for _, k := range kinds() {
		a, b, c := made(t, k, mixed(k, 7, 2)), made(t, k, mixed(k, 60, 9)), made(t, k, mixed(k, 5, 0))
		want := slices.Concat(a.Values(), b.Values(), c.Values())
		wantColumn(t, "the first two first", both(t, both(t, a, b), c), k, want)
		wantColumn(t, "the last two first", both(t, a, both(t, b, c)), k, want)
		wantColumn(t, "nothing ahead", both(t, colvec.New(k), b), k, b.Values())
		wantColumn(t, "nothing behind", both(t, b, colvec.New(k)), k, b.Values())
	}
}

// P3.1, P3.3: a Gather of both is both's Gathers.
func TestGatherOfConcat(t *testing.T) {
	for _, k := range kinds() {
		a, b := mixed(k, 67, 5), mixed(k, 30, 2)
		v, w := made(t, k, a), made(t, k, b)
		x := both(t, v, w)
		for _, places := range choices(len(a) + len(b)) {
			wantColumn(t, "Gather of Concat", gathered(t, x, places), k, at(slices.Concat(a, b), places))
		}
		wantColumn(t, "the first part", gathered(t, x, upTo(len(a))), k, a)
		y := both(t, gathered(t, v, downFrom(len(a))), gathered(t, w, downFrom(len(b))))
		slices.Reverse(a)
		slices.Reverse(b)
		wantColumn(t, "Concat of Gathers", y, k, slices.Concat(a, b))
	}
}
