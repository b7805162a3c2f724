package syntax

import (
	"slices"

	"portolan/api"
)

// reader takes a text's words one by one. Each rule of the grammar is a method, which looks at the next word alone: the word at which it gives up is then the first one that may not stand there.
type reader struct {
	words []api.Token // those that are not taken yet
	end   int         // where the text ends
	deep  int         // how deep the expression is that is being read
}

// refusal is what the reader gives up with: at which word, and why.
type refusal struct {
	at  int
	why api.Errno
}

// refusal is that of the next word.
func (r *reader) refusal(why api.Errno) refusal { return refusal{at: r.next().At, why: why} }

// next is the next word; behind the last one a word of no kind, at the text's end.
func (r *reader) next() api.Token {
	if len(r.words) == 0 {
		return api.Token{At: r.end}
	}
	return r.words[0]
}

// take takes the next word, which must be there.
func (r *reader) take() { r.words = r.words[1:] }

// isNext tells whether the next word is one of these keys or signs. Its kind is asked, as a text between quotes may read like any of them.
func (r *reader) isNext(words ...string) bool {
	next := r.next()
	return (next.Kind == api.TokKey || next.Kind == api.TokSign) && slices.Contains(words, next.Text)
}

// pass takes the next word, if it is that key or sign, and tells whether it was.
func (r *reader) pass(word string) bool {
	if !r.isNext(word) {
		return false
	}
	r.take()
	return true
}

// must takes these keys and signs, one behind the other.
func (r *reader) must(words ...string) {
	for _, word := range words {
		if !r.pass(word) {
			panic(r.refusal(api.ErrSyntax))
		}
	}
}

// mustEnd gives up if there is a word more.
func (r *reader) mustEnd() {
	if len(r.words) > 0 {
		panic(r.refusal(api.ErrSyntax))
	}
}

// mustName takes a name.
func (r *reader) mustName() string {
	next := r.next()
	if next.Kind != api.TokName {
		panic(r.refusal(api.ErrSyntax))
	}
	r.take()
	return next.Text
}

// mustNumber takes a number between these two, or one of them.
func (r *reader) mustNumber(least, most int) int {
	next := r.next()
	if next.Kind != api.TokInt || next.Int < int64(least) || next.Int > int64(most) {
		panic(r.refusal(api.ErrSyntax))
	}
	r.take()
	return int(next.Int)
}

// passName takes the next word, if it is a name; else there is none.
func (r *reader) passName() string {
	if r.next().Kind != api.TokName {
		return ""
	}
	return r.mustName()
}

// listed reads what stands one behind the other, with commas between.
func listed[T any](r *reader, one func() T) []T {
	list := []T{one()}
	for r.pass(",") {
		list = append(list, one())
	}
	return list
}
