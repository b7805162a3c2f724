package colvec

import (
	"maps"
	"math/bits"
)

// together is lists, one behind the other, in memory of its own: no column grows into another one's.
func together[T any](lists ...[]T) []T {
	size := 0
	for _, l := range lists {
		size += len(l)
	}
	out := make([]T, 0, size)
	for _, l := range lists {
		out = append(out, l...)
	}
	return out
}

// bitmap are bits by places. Behind the last one that is set there need be no words: a column without nulls has none.
type bitmap []uint64

const wordBits = 64

func (b bitmap) has(at int) bool {
	word := at / wordBits
	return word < len(b) && b[word]>>(at%wordBits)&1 == 1
}

func (b *bitmap) set(at int) {
	word := at / wordBits
	for range word + 1 - len(*b) {
		*b = append(*b, 0)
	}
	(*b)[word] |= 1 << (at % wordBits)
}

// count is how many are set.
func (b bitmap) count() int {
	n := 0
	for _, word := range b {
		n += bits.OnesCount64(word)
	}
	return n
}

// dictionary has texts, each once; a text's number is its place.
type dictionary struct {
	texts   []string
	numbers map[string]int64 // the other way round, so that a search does not go through all texts
}

// number is a text's; one that is not there yet is put behind the others.
func (d *dictionary) number(text string) int64 {
	n, there := d.numbers[text]
	if there {
		goto known
	}
	if d.numbers == nil {
		d.numbers = make(map[string]int64)
	}
	n = int64(len(d.texts))
	d.texts = append(d.texts, text)
	d.numbers[text] = n
known:
	return n
}

// take is the numbers of texts, one a text.
func (d *dictionary) take(texts []string) []int64 {
	numbers := make([]int64, len(texts))
	for i, text := range texts {
		numbers[i] = d.number(text)
	}
	return numbers
}

// copied is one that may take in more texts without this one having them.
func (d dictionary) copied() dictionary {
	return dictionary{texts: together(d.texts), numbers: maps.Clone(d.numbers)}
}
