package colvec_test

import (
	"slices"
	"testing"

	"portolan/api"
	"portolan/colvec"
)

// spoil overwrites what a caller has in hand: the list and its paths, their spare room too.
func spoil(l []api.Value) {
	l = l[:cap(l)]
	for i := range l {
		p := l[i].Path[:cap(l[i].Path)]
		for j := range p {
			p[j] = 999
		}
		l[i] = api.Value{Kind: api.Fault, Bool: true, Int: 999, Text: "spoilt"}
	}
}

func spoilTexts(l []string) {
	l = l[:cap(l)]
	for i := range l {
		l[i] = "spoilt"
	}
}

// roomy is a list with spare room behind it, and behind each of its paths, in which something stands.
func roomy(l []api.Value) []api.Value {
	out := make([]api.Value, len(l)+2)
	copy(out, l)
	out[len(l)], out[len(l)+1] = integer(111), integer(222)
	for i, x := range l {
		if x.Kind == api.Path {
			room := append(slices.Clone(x.Path), 333, 444)
			out[i].Path = room[:len(x.Path)]
		}
	}
	return out[:len(l)]
}

// wantRoom holds a list that roomy made against what it was, with the spare room.
func wantRoom(t *testing.T, l, want []api.Value) {
	t.Helper()
	if !slices.EqualFunc(l, want, same) {
		t.Errorf("what was handed in has changed: %s, want %s", shown(l), shown(want))
	}
	if rest := l[len(l) : len(l)+2]; !same(rest[0], integer(111)) || !same(rest[1], integer(222)) {
		t.Errorf("its spare room has changed: %s", shown(rest))
	}
	for _, x := range l {
		if n := len(x.Path); x.Kind == api.Path && !slices.Equal(x.Path[n:n+2], []int64{333, 444}) {
			t.Errorf("a path's spare room has changed: %v", x.Path[n:n+2])
		}
	}
}

// P3: what is handed in is neither changed nor kept.
func TestHandedIn(t *testing.T) {
	for _, k := range kinds() {
		want := mixed(k, 12, 5)
		l := roomy(copied(want))
		v := made(t, k, l)
		wantRoom(t, l, want)
		w := colvec.New(k)
		for _, x := range l {
			wantErrno(t, "Append", w.Append(x), api.OK)
		}
		wantRoom(t, l, want)
		spoil(l)
		wantColumn(t, "Of, its list spoilt", v, k, want)
		wantColumn(t, "Append, its values spoilt", w, k, want)
	}
}

// P3: a list in which one path's memory stands twice.
func TestHandedInTwice(t *testing.T) {
	p := []int64{1, 2, 3, 4}
	l := list(path(p...), path(p[:2]...), path(p[:2:2]...), path(p[1:]...), path(p...))
	want := list(path(1, 2, 3, 4), path(1, 2), path(1, 2), path(2, 3, 4), path(1, 2, 3, 4))
	v := made(t, api.Path, l)
	wantColumn(t, "one memory", v, api.Path, want)
	p[0], p[1], p[2], p[3] = 9, 9, 9, 9
	wantColumn(t, "one memory, spoilt", v, api.Path, want)
}

// P3: the places that Gather is given are neither changed nor kept, nor the lists that True and Faults are given changed.
func TestHandedPlaces(t *testing.T) {
	for _, k := range kinds() {
		l := mixed(k, 20, 3)
		v := made(t, k, l)
		places := append(make([]int, 0, 8), 4, 4, 0, 19)
		room := places[:cap(places)]
		room[5] = 77
		w := gathered(t, v, places)
		if !slices.Equal(room, []int{4, 4, 0, 19, 0, 77, 0, 0}) {
			t.Errorf("the places have changed: %v", room)
		}
		for i := range room {
			room[i] = 1
		}
		wantColumn(t, "Gather, its places spoilt", w, k, list(l[4], l[4], l[0], l[19]))
	}
	l := roomy(list(yes, null, fault, no, yes))
	places := colvec.True(l)
	colvec.Faults(l)
	wantRoom(t, l, list(yes, null, fault, no, yes))
	spoil(l)
	if !slices.Equal(places, []int{0, 4}) {
		t.Errorf("the answer of True has changed: %v", places)
	}
}

// P3: what is handed out is the caller's own, with its spare room.
func TestHandedOut(t *testing.T) {
	for _, k := range kinds() {
		l := mixed(k, 12, 5)
		v := made(t, k, l)
		w := gathered(t, v, upTo(12))
		x := both(t, v, w)
		want := slices.Concat(l, l)
		for i := range 24 {
			spoil(list(v.At(i%12), w.At(i%12), x.At(i)))
		}
		for _, c := range []*colvec.Vec{v, w, x} {
			spoil(c.Values())
			spoilTexts(c.Dict())
		}
		wantColumn(t, "told", v, k, l)
		wantColumn(t, "gathered, told", w, k, l)
		wantColumn(t, "put together, told", x, k, want)
	}
}

// P3: what was handed out stays as it is, whatever is appended afterwards.
func TestHandedOutStays(t *testing.T) {
	for _, k := range kinds() {
		l := mixed(k, 12, 5)
		v := made(t, k, l)
		values, dict, first := v.Values(), v.Dict(), v.At(0)
		want, texts := copied(l), dictOf(l)
		for _, x := range mixed(k, 100, 3) {
			wantErrno(t, "Append", v.Append(x), api.OK)
		}
		wantErrno(t, "Append", v.Append(null), api.OK)
		if !slices.EqualFunc(values, want, same) || !same(first, want[0]) || !slices.Equal(dict, texts) {
			t.Errorf("what was told has changed: %s, %s, %q", shown(values), shown(list(first)), dict)
		}
	}
}

// P3: no two paths of one answer share memory.
func TestPathsApart(t *testing.T) {
	l := list(path(1, 2), path(3), null, path(1, 2), path(4, 5, 6))
	v := made(t, api.Path, l)
	for i := range l {
		told := v.Values()
		p := told[i].Path[:cap(told[i].Path)]
		for j := range p {
			p[j] = 999
		}
		for j := range l {
			if j != i && !same(told[j], l[j]) {
				t.Errorf("path %d spoilt: path %d is %v, want %v", i, j, told[j].Path, l[j].Path)
			}
		}
	}
}

// C3: v and w stay as they are; columns that came of one another grow apart.
func TestGrowApart(t *testing.T) {
	for _, k := range kinds() {
		for _, count := range []int{0, 1, 3, 12, 63, 64, 65} {
			a, b := mixed(k, count, 4), mixed(k, 5, 2)
			v, w := made(t, k, a), made(t, k, b)
			columns := []*colvec.Vec{v, w, gathered(t, v, upTo(count)), gathered(t, v, nil), both(t, v, w), both(t, w, v), both(t, v, v), both(t, v, colvec.New(k)), both(t, colvec.New(k), v)}
			want := [][]api.Value{a, b, a, nil, slices.Concat(a, b), slices.Concat(b, a), slices.Concat(a, a), a, a}
			for round := range 8 {
				for i, c := range columns {
					x := samples(k)[(round+i)%len(samples(k))]
					if (round+i)%5 == 4 {
						x = null
					}
					if k == api.Text && i%2 == 0 && x.Kind == k {
						x.Text = "new " + string(rune('a'+round)) + string(rune('a'+i))
					}
					wantErrno(t, "Append", c.Append(x), api.OK)
					want[i] = append(slices.Clone(want[i]), x)
				}
				for i, c := range columns {
					wantColumn(t, "grown apart", c, k, want[i])
				}
			}
		}
	}
}
