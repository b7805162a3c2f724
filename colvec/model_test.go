package colvec_test

import (
	"math/rand"
	"slices"
	"testing"

	"portolan/api"
	"portolan/colvec"
)

// pair is a column, and the plain list that it must be.
type pair struct {
	column *colvec.Vec
	plain  []api.Value
}

// drawn is a value of a kind, or null; seldom one with a text or a path that was not there before.
func drawn(r *rand.Rand, k api.Kind) api.Value {
	of := samples(k)
	x := of[r.Intn(len(of))]
	if r.Intn(4) == 0 {
		return null
	}
	if r.Intn(3) == 0 && k == api.Text {
		return text(string(rune('a' + r.Intn(26))))
	}
	if r.Intn(3) == 0 && k == api.Path {
		p := make([]int64, 1+r.Intn(api.MaxTrail+1))
		for i := range p {
			p[i] = r.Int63n(api.MaxID + 1)
		}
		return path(p...)
	}
	return x
}

// drawnPlaces are places of a column of that many values.
func drawnPlaces(r *rand.Rand, count int) []int {
	var places []int
	if count == 0 {
		return places
	}
	for range r.Intn(2 * min(count, 90)) {
		places = append(places, r.Intn(count))
	}
	return places
}

// P3.1, P3.2, P3.3: columns that are appended to, gathered of and put together at random are what plain lists become by the same; all of them, after each step.
func TestAgainstLists(t *testing.T) {
	for seed := range int64(40) {
		r := rand.New(rand.NewSource(seed))
		k := kinds()[int(seed)%len(kinds())]
		pairs := make([]pair, 5)
		for i := range pairs {
			pairs[i].column = colvec.New(k)
		}
		for range 120 {
			a, b, c := r.Intn(len(pairs)), r.Intn(len(pairs)), r.Intn(len(pairs))
			switch n := r.Intn(6); {
			case n == 0 && len(pairs[a].plain) < 200:
				pairs[c] = pair{both(t, pairs[a].column, pairs[b].column), slices.Concat(pairs[a].plain, pairs[b].plain)}
			case n == 1:
				places := drawnPlaces(r, len(pairs[a].plain))
				pairs[c] = pair{gathered(t, pairs[a].column, places), at(pairs[a].plain, places)}
			case n == 2:
				wantErrno(t, "Append", pairs[a].column.Append(fault), api.ErrColvecKind)
			default:
				for range 1 + r.Intn(9) {
					x := drawn(r, k)
					wantErrno(t, "Append", pairs[a].column.Append(x), api.OK)
					pairs[a].plain = append(slices.Clip(pairs[a].plain), x)
				}
			}
			for _, p := range pairs {
				wantColumn(t, "a walk", p.column, k, p.plain)
			}
		}
	}
}
