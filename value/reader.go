package value

import "portolan/api"

// How many bytes a number, a text's length, and a single one (a kind, a truth, a path's length) have.
const (
	wideNumber = 8
	wideLength = 4
	wideByte   = 1
)

// appendNumber puts the lowest so many bytes of a number behind the others, the highest first.
func appendNumber(b []byte, n uint64, wide int) []byte {
	for i := wide - 1; i >= 0; i-- {
		b = append(b, byte(n>>(8*i)))
	}
	return b
}

// reader goes through bytes from a place on. Once something is wrong it stays so, and what it reads from then on counts for nothing: so whoever reads need ask only once, at the end.
type reader struct {
	bytes []byte
	at    int
	wrong bool
}

// value reads a kind and what such a kind has; whether that is within its bounds is left to Right.
func (r *reader) value() api.Value {
	v := api.Value{Kind: api.Kind(r.number(wideByte))}
	switch v.Kind {
	case api.Bool:
		v.Bool = r.truth()
	case api.Int, api.NodeID, api.EdgeID:
		v.Int = int64(r.number(wideNumber))
	case api.Text:
		v.Text = r.text()
	case api.Path:
		v.Path = r.path()
	}
	return v
}

// number reads one of so many bytes, the highest first.
func (r *reader) number(wide int) uint64 {
	n := uint64(0)
	for range wide {
		if r.at == len(r.bytes) {
			goto missing
		}
		n = n<<8 | uint64(r.bytes[r.at])
		r.at++
	}
	return n
missing:
	r.wrong = true
	return 0
}

// truth reads one. A byte above 1 is none, as Encode writes no such byte.
func (r *reader) truth() bool {
	n := r.number(wideByte)
	if n > 1 {
		r.wrong = true
	}
	return n == 1
}

// text reads one. Its length is looked at first: a wrong one may tell of more bytes than could be held.
func (r *reader) text() string {
	long := r.number(wideLength)
	if long > api.MaxText || int(long) > len(r.bytes)-r.at {
		r.wrong = true
		return ""
	}
	from := r.at
	r.at += int(long)
	return string(r.bytes[from:r.at])
}

// path reads how many numbers there are, and them.
func (r *reader) path() []int64 {
	path := make([]int64, r.number(wideByte))
	for i := range path {
		path[i] = int64(r.number(wideNumber))
	}
	return path
}
