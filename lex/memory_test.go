package lex_test

import (
	"slices"
	"testing"
	"unsafe"

	"portolan/api"
	"portolan/lex"
)

// all has every kind of word, twice.
const all = `match (été) <> 42 'it\'s' plain name'plain' order BY été`

// allWords are its words.
func allWords() []api.Token {
	return []api.Token{key(0, "MATCH"), sign(6, "("), name(7, "été"), sign(12, ")"), sign(14, "<>"), number(17, 42), text(20, "it's"), name(28, "plain"), name(34, "name"), text(38, "plain"), key(46, "ORDER"), key(52, "BY"), name(55, "été")}
}

// spoil fills a list and its spare room with something else.
func spoil(l []api.Token) {
	l = l[:cap(l)]
	for i := range l {
		l[i] = api.Token{Kind: 9, Text: "spoilt", Int: -1, At: -1}
	}
}

// P3: what was handed out, changed with its spare room, changes nothing of what comes then, nor of what another call told.
func TestSpoilt(t *testing.T) {
	kept, _, _ := lex.Lex(all)
	for range 3 {
		l, _, _ := lex.Lex(all)
		if !slices.Equal(l, allWords()) {
			t.Fatalf("Lex: %+v", l)
		}
		spoil(l)
		_ = append(l[:1], api.Token{Text: "more"}, api.Token{Text: "and more"})
		wantWords(t, all, allWords()...)
	}
	if !slices.Equal(kept, allWords()) {
		t.Errorf("the list that was kept: %+v", kept)
	}
	wantWords(t, all, allWords()...)
}

// P3: lists of two answers share no memory, their spare room neither.
func TestOwnMemory(t *testing.T) {
	a, _, _ := lex.Lex(all)
	b, _, _ := lex.Lex(all)
	room := b[:cap(b)]
	was := slices.Clone(room)
	spoil(a)
	if !slices.Equal(room, was) {
		t.Errorf("one list spoilt, the other one is %+v, was %+v", room, was)
	}
}

// P3: what is told stays, whatever becomes of the bytes in which the text lay; and these stand as they were.
func TestTextNotKept(t *testing.T) {
	bytes := []byte("(((" + all + ")))")
	lent := unsafe.String(&bytes[3], len(all))
	l, at, e := lex.Lex(lent)
	k := lex.Key(unsafe.String(&bytes[3], 5))
	if string(bytes) != "((("+all+")))" {
		t.Errorf("what was handed in is %q", bytes)
	}
	for i := range bytes {
		bytes[i] = '?'
	}
	if !slices.Equal(l, allWords()) || at != 0 || e != api.OK {
		t.Errorf("the text's bytes spoilt: %+v, %d, %v", l, at, e)
	}
	if k != "MATCH" {
		t.Errorf("the text's bytes spoilt: %q", k)
	}
}

// P3: what comes of a text does not hang on what was asked ahead of it.
func TestNothingKept(t *testing.T) {
	for _, s := range append(drawnParts(), wrongParts()...) {
		l, at, e := lex.Lex(s)
		lex.Key(s)
		wantWords(t, all, allWords()...)
		again, atAgain, eAgain := lex.Lex(s)
		if !slices.Equal(l, again) || at != atAgain || e != eAgain {
			t.Errorf("Lex(%+q): %+v, %d, %v, then %+v, %d, %v", s, l, at, e, again, atAgain, eAgain)
		}
		wantKey(t, "MaTcH", "MATCH")
	}
}

// P3: many at once tell the same as one alone.
func TestAtOnce(t *testing.T) {
	done := make(chan []api.Token)
	for range 8 {
		go func() {
			var l []api.Token
			for range 200 {
				l, _, _ = lex.Lex(all)
			}
			done <- l
		}()
	}
	for range 8 {
		if l := <-done; !slices.Equal(l, allWords()) {
			t.Errorf("Lex: %+v", l)
		}
	}
}
