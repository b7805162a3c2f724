package value_test

import (
	"strings"
	"testing"

	"portolan/api"
	"portolan/value"
)

// ofAllKinds are some of each kind, those of no value too; letters tells of each how truths see it: F and T, null N, a fault X, another kind O.
func ofAllKinds() (l []api.Value, letters string) {
	add := func(letter string, vs ...api.Value) {
		l = append(l, vs...)
		letters += strings.Repeat(letter, len(vs))
	}
	add("F", no, api.Value{Kind: api.Bool, Int: 1, Text: "true", Path: []int64{1}})
	add("T", yes, api.Value{Kind: api.Bool, Bool: true, Int: -1, Text: "x", Path: []int64{0}})
	add("N", null, api.Value{Bool: true, Int: 1, Text: "x", Path: []int64{1}})
	add("X", fault, api.Value{Kind: api.Fault, Bool: true, Int: 1, Text: "x", Path: []int64{1}})
	add("O", integer(0), integer(1), text(""), text("true"), node(0), node(1), edge(0), edge(1), path(0), path(0, 1))
	add("O", api.Value{Kind: api.Int, Bool: true}, api.Value{Kind: api.Text, Bool: true}, node(-1), edge(-1), path(), text("\xff"))
	for _, k := range noKinds() {
		if k != api.Fault {
			add("O", api.Value{Kind: k}, api.Value{Kind: k, Bool: true})
		}
	}
	return l, letters
}

// told is the truth that a letter stands for.
func told(letter byte) api.Value {
	switch letter {
	case 'F':
		return no
	case 'T':
		return yes
	case 'N':
		return null
	}
	return fault
}

// inTable finds what a table, its rows and columns in the order F T N X O, has for two.
func inTable(table string, a, b byte) api.Value {
	const letters = "FTNXO"
	row := strings.Fields(table)[strings.IndexByte(letters, a)]
	return told(row[strings.IndexByte(letters, b)])
}

const (
	andTable = `
		FFFFF
		FTNXX
		FNNNN
		FXNXX
		FXNXX`
	orTable = `
		FTNXX
		TTTTT
		NTNNN
		XTNXX
		XTNXX`
)

// P2.1: U3.

func TestAndOrOfAllPairs(t *testing.T) {
	l, letters := ofAllKinds()
	for i, a := range l {
		for k, b := range l {
			wantValue(t, "And", value.And(a, b), inTable(andTable, letters[i], letters[k]), a, b)
			wantValue(t, "Or", value.Or(a, b), inTable(orTable, letters[i], letters[k]), a, b)
		}
	}
}

func TestNotOfAll(t *testing.T) {
	l, letters := ofAllKinds()
	for i, a := range l {
		want := map[byte]api.Value{'F': yes, 'T': no, 'N': null, 'X': fault, 'O': fault}[letters[i]]
		wantValue(t, "Not", value.Not(a), want, a)
	}
}

// P2.1: U2.

// wantHeld holds two against each other, of which the place in the order is known.
func wantHeld(t *testing.T, a, b api.Value, i, k int) {
	t.Helper()
	equal, less := truth(i == k), truth(i < k)
	if a.Kind != b.Kind {
		less = fault
	}
	if a.Kind == api.Fault || b.Kind == api.Fault {
		equal, less = fault, fault
	}
	if a.Kind == api.Null || b.Kind == api.Null {
		equal, less = null, null
	}
	wantValue(t, "Equal", value.Equal(a, b), equal, a, b)
	wantValue(t, "Less", value.Less(a, b), less, a, b)
}

func TestEqualAndLessOfAllPairs(t *testing.T) {
	l := rising()
	for _, k := range noKinds() {
		l = append(l, api.Value{Kind: k})
	}
	for i, a := range l {
		for k, b := range l {
			wantHeld(t, a, b, i, k)
		}
	}
}

func TestEqualAndLessOfWhatIsNoValue(t *testing.T) {
	long := strings.Repeat("b", api.MaxText)
	for _, l := range [][]api.Value{
		{text(long + "a"), text(long + "b"), text("\x80"), text("\xff"), text("\xff\xff")},
		{node(-2), node(-1), node(0), node(api.MaxID + 1), node(api.MaxID + 2)},
		{edge(-2), edge(-1), edge(0), edge(api.MaxID + 1), edge(api.MaxID + 2)},
		{path(), path(-1), path(-1, 0), path(0), path(times(10, 0)...), path(times(11, 0)...), path(api.MaxID + 1)},
	} {
		for i, a := range l {
			for k, b := range l {
				wantHeld(t, a, b, i, k)
			}
		}
	}
}

// P2.3.

func TestAndOrMayBeTurnedRound(t *testing.T) {
	l, _ := ofAllKinds()
	for _, a := range l {
		for _, b := range l {
			wantValue(t, "And", value.And(a, b), value.And(b, a), a, b)
			wantValue(t, "Or", value.Or(a, b), value.Or(b, a), a, b)
		}
	}
}

func TestAndOrMayBeGroupedOtherwise(t *testing.T) {
	l, _ := ofAllKinds()
	for _, a := range l {
		for _, b := range l {
			for _, c := range l {
				wantValue(t, "And of And", value.And(value.And(a, b), c), value.And(a, value.And(b, c)), a, b, c)
				wantValue(t, "Or of Or", value.Or(value.Or(a, b), c), value.Or(a, value.Or(b, c)), a, b, c)
			}
		}
	}
}

func TestNotOfAndIsOrOfNots(t *testing.T) {
	l, _ := ofAllKinds()
	for _, a := range l {
		for _, b := range l {
			wantValue(t, "Not And", value.Not(value.And(a, b)), value.Or(value.Not(a), value.Not(b)), a, b)
			wantValue(t, "Not Or", value.Not(value.Or(a, b)), value.And(value.Not(a), value.Not(b)), a, b)
		}
	}
}
