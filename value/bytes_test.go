package value_test

import (
	"encoding/binary"
	"hash/fnv"
	"math"
	"slices"
	"strings"
	"testing"
	"unicode/utf8"

	"portolan/api"
	"portolan/value"
)

func wantEncode(t *testing.T, v api.Value, want string) {
	t.Helper()
	if got := value.Encode(v); string(got) != want {
		t.Errorf("Encode(%+v): %x, want %x", short(v), got, want)
	}
}

func wantDecode(t *testing.T, b string, at int, v api.Value, behind int, want api.Errno) {
	t.Helper()
	got, n, e := value.Decode([]byte(b), at)
	if !same(got, v) || n != behind || e != want {
		t.Errorf("Decode(%.40x, %d): %+v, %d, %v, want %+v, %d, %v", b, at, short(got), n, e, short(v), behind, want)
	}
}

// wantNone is Decode where no value's bytes stand.
func wantNone(t *testing.T, b string, at int) {
	t.Helper()
	wantDecode(t, b, at, api.Value{}, 0, api.ErrValueBytes)
}

// P2.1: U4, Encode.

func TestEncode(t *testing.T) {
	wantEncode(t, null, "\x00")
	wantEncode(t, no, "\x01\x00")
	wantEncode(t, yes, "\x01\x01")
	wantEncode(t, integer(0), "\x02\x00\x00\x00\x00\x00\x00\x00\x00")
	wantEncode(t, integer(0x0102030405060708), "\x02\x01\x02\x03\x04\x05\x06\x07\x08")
	wantEncode(t, integer(math.MaxInt64), "\x02\x7f\xff\xff\xff\xff\xff\xff\xff")
	wantEncode(t, integer(math.MinInt64), "\x02\x80\x00\x00\x00\x00\x00\x00\x00")
	wantEncode(t, integer(-2), "\x02\xff\xff\xff\xff\xff\xff\xff\xfe")
	wantEncode(t, text(""), "\x03\x00\x00\x00\x00")
	wantEncode(t, text("é\n'"), "\x03\x00\x00\x00\x04\xc3\xa9\n'")
	wantEncode(t, text(strings.Repeat("b", 255)), "\x03\x00\x00\x00\xff"+strings.Repeat("b", 255))
	wantEncode(t, text(strings.Repeat("b", api.MaxText)), "\x03\x00\x00\x10\x00"+strings.Repeat("b", 4096))
	wantEncode(t, node(0), "\x04\x00\x00\x00\x00\x00\x00\x00\x00")
	wantEncode(t, node(api.MaxID), "\x04\x00\x00\x01\x00\x00\x00\x00\x00")
	wantEncode(t, edge(0), "\x05\x00\x00\x00\x00\x00\x00\x00\x00")
	wantEncode(t, edge(api.MaxID), "\x05\x00\x00\x01\x00\x00\x00\x00\x00")
	wantEncode(t, path(7), "\x06\x01\x00\x00\x00\x00\x00\x00\x00\x07")
	wantEncode(t, path(1, api.MaxID), "\x06\x02\x00\x00\x00\x00\x00\x00\x00\x01\x00\x00\x01\x00\x00\x00\x00\x00")
	wantEncode(t, path(times(9, 0)...), "\x06\x09"+strings.Repeat("\x00", 72))
	wantEncode(t, api.Value{Kind: api.Bool, Path: []int64{}}, "\x01\x00")
}

func TestEncodeOfWhatIsNoValue(t *testing.T) {
	wantEncode(t, fault, "")
	for _, v := range wrong() {
		wantEncode(t, v, "")
	}
}

// P2.1: U4, Decode.

func TestDecodeFromTheMiddle(t *testing.T) {
	wantDecode(t, "x\x01\x01y", 1, yes, 3, api.OK)
	wantDecode(t, "\x01\x00\x00", 2, null, 3, api.OK)
	wantDecode(t, "\x01\x00\x00", 1, null, 2, api.OK)
}

func TestDecodeOfPlacesBesideTheBytes(t *testing.T) {
	for _, b := range []string{"", "\x00", "\x00\x00\x00", "\x01\x01"} {
		for _, at := range []int{math.MinInt, math.MinInt + 1, -9, -2, -1, len(b), len(b) + 1, len(b) + 9, math.MaxInt - 8, math.MaxInt} {
			wantNone(t, b, at)
		}
	}
	wantDecodeNil(t, -1)
	wantDecodeNil(t, 0)
	wantDecodeNil(t, 1)
}

func wantDecodeNil(t *testing.T, at int) {
	t.Helper()
	if v, n, e := value.Decode(nil, at); !same(v, api.Value{}) || n != 0 || e != api.ErrValueBytes {
		t.Errorf("Decode(nil, %d): %+v, %d, %v", at, v, n, e)
	}
}

// The slice's spare room is no part of its bytes.
func TestDecodeOfCutBytes(t *testing.T) {
	for _, v := range rising() {
		whole := value.Encode(v)
		for n := range whole {
			if got, at, e := value.Decode(whole[:n], 0); !same(got, api.Value{}) || at != 0 || e != api.ErrValueBytes {
				t.Errorf("Decode of %d of the bytes of %+v: %+v, %d, %v", n, short(v), short(got), at, e)
			}
			if n > 100 && n < len(whole)-100 {
				continue
			}
			wantNone(t, "xyz"+string(whole[:n]), 3)
		}
	}
}

func TestDecodeOfBytesThatNoValueHas(t *testing.T) {
	for c := 7; c < 256; c++ {
		wantNone(t, string([]byte{byte(c)})+strings.Repeat("\x00", 100), 0)
	}
	for c := 2; c < 256; c++ {
		wantNone(t, string([]byte{1, byte(c)})+"\x00", 0)
	}
	for _, l := range []string{
		"\x03\x00\x00\x10\x01" + strings.Repeat("b", 4097),
		"\x03\x00\x01\x00\x00" + strings.Repeat("b", 1<<16),
		"\x03\xff\xff\xff\xff" + strings.Repeat("b", 1<<16),
		"\x03\x80\x00\x00\x00" + "b",
		"\x03\x00\x00\x00\x01\xff", "\x03\x00\x00\x00\x01\xc3\xa9", "\x03\x00\x00\x00\x03\xed\xa0\x80",
		"\x04\x00\x00\x01\x00\x00\x00\x00\x01", "\x04\xff\xff\xff\xff\xff\xff\xff\xff", "\x04\x80\x00\x00\x00\x00\x00\x00\x00",
		"\x05\x00\x00\x01\x00\x00\x00\x00\x01", "\x05\xff\xff\xff\xff\xff\xff\xff\xff", "\x05\x80\x00\x00\x00\x00\x00\x00\x00",
		"\x06\x00", "\x06\x00" + strings.Repeat("\x00", 100), "\x06\x0a" + strings.Repeat("\x00", 100), "\x06\xff" + strings.Repeat("\x00", 255*8),
		"\x06\x01\x00\x00\x01\x00\x00\x00\x00\x01", "\x06\x01\xff\xff\xff\xff\xff\xff\xff\xff",
		"\x06\x02" + strings.Repeat("\x00", 8) + "\x00\x00\x01\x00\x00\x00\x00\x01",
		"\x06\x02" + strings.Repeat("\x00", 8) + "\xff\xff\xff\xff\xff\xff\xff\xff",
	} {
		wantNone(t, l, 0)
		wantNone(t, "\x01\x01"+l, 2)
	}
}

// model is Decode, by what a value's bytes are, told for one kind after the other.
func model(b string, at int) (v api.Value, behind int, there bool) {
	if at < 0 || at >= len(b) {
		return v, 0, false
	}
	kind, rest := api.Kind(b[at]), b[at+1:]
	v, behind = api.Value{Kind: kind}, at+1
	number := func(i int) int64 { return int64(binary.BigEndian.Uint64([]byte(rest[i : i+8]))) }
	switch {
	case kind == api.Null:
	case kind == api.Bool && strings.HasPrefix(rest, "\x00"), kind == api.Bool && strings.HasPrefix(rest, "\x01"):
		v.Bool, behind = rest[0] == 1, behind+1
	case kind == api.Int && len(rest) >= 8, (kind == api.NodeID || kind == api.EdgeID) && len(rest) >= 8 && number(0) >= 0 && number(0) <= 1<<40:
		v.Int, behind = number(0), behind+8
	case kind == api.Text && len(rest) >= 4:
		n := int(binary.BigEndian.Uint32([]byte(rest[:4])))
		if n > 4096 || n > len(rest)-4 || !utf8.ValidString(rest[4:4+n]) {
			return api.Value{}, 0, false
		}
		v.Text, behind = rest[4:4+n], behind+4+n
	case kind == api.Path && len(rest) >= 1 && rest[0] >= 1 && rest[0] <= 9 && len(rest) >= 1+8*int(rest[0]):
		for i := range int(rest[0]) {
			n := number(1 + 8*i)
			if n < 0 || n > 1<<40 {
				return api.Value{}, 0, false
			}
			v.Path = append(v.Path, n)
		}
		behind += 1 + 8*int(rest[0])
	default:
		return api.Value{}, 0, false
	}
	return v, behind, true
}

// wantAsModel decodes at a place, and, as P2.4 has it, encodes what was read.
func wantAsModel(t *testing.T, b string, at int) {
	t.Helper()
	v, behind, there := model(b, at)
	if !there {
		wantNone(t, b, at)
		return
	}
	wantDecode(t, b, at, v, behind, api.OK)
	got, n, _ := value.Decode([]byte(b), at)
	if !value.Right(got) || n < at || n > len(b) || string(value.Encode(got)) != b[at:n] {
		t.Errorf("Decode(%.40x, %d): %+v, whose bytes are others", b, at, short(got))
	}
}

func TestDecodeAtEveryPlace(t *testing.T) {
	var all []byte
	for _, v := range rising() {
		if len(v.Text) < 100 {
			all = append(all, value.Encode(v)...)
		}
	}
	for at := -20; at < len(all)+20; at++ {
		wantAsModel(t, string(all), at)
	}
}

func TestDecodeOfOneByteChanged(t *testing.T) {
	for _, v := range rising() {
		b := value.Encode(v)
		for i := range min(len(b), 90) {
			was := b[i]
			for c := range 256 {
				b[i] = byte(c)
				wantAsModel(t, string(b), 0)
			}
			b[i] = was
		}
	}
}

func TestDecodeOfAllShortBytes(t *testing.T) {
	wantAsModel(t, "", 0)
	for a := range 256 {
		wantAsModel(t, string([]byte{byte(a)}), 0)
		for b := range 256 {
			wantAsModel(t, string([]byte{byte(a), byte(b)}), 0)
			wantAsModel(t, string([]byte{byte(a), byte(b)}), 1)
		}
	}
}

// dice are numbers that look thrown, and are the same in every run.
type dice uint64

func (d *dice) below(n int) int {
	*d = *d*6364136223846793005 + 1442695040888963407
	return int(uint64(*d) >> 33 % uint64(n))
}

func TestDecodeOfThrownBytes(t *testing.T) {
	d := dice(2)
	for range 4000 {
		b := make([]byte, d.below(60))
		for i := range b {
			switch d.below(4) {
			case 0, 1:
				b[i] = 0
			case 2:
				b[i] = byte(d.below(10))
			case 3:
				b[i] = byte(d.below(256))
			}
		}
		for at := -1; at <= len(b)+1; at++ {
			wantAsModel(t, string(b), at)
		}
	}
}

// P2.4.

func TestDecodeOfEncode(t *testing.T) {
	for _, v := range rising() {
		b := string(value.Encode(v))
		wantDecode(t, b, 0, v, len(b), api.OK)
		wantDecode(t, "\xff\xfe"+b+"\xff\x00", 2, v, 2+len(b), api.OK)
		wantDecode(t, b+b, len(b), v, 2*len(b), api.OK)
	}
}

func TestNoBytesBeginOthers(t *testing.T) {
	var l []string
	for _, v := range rising() {
		l = append(l, string(value.Encode(v)))
	}
	for i, a := range l {
		if a == "" {
			t.Errorf("%+v has no bytes", short(rising()[i]))
		}
		for k, b := range l {
			if i != k && strings.HasPrefix(b, a) {
				t.Errorf("%.40x begins %.40x", a, b)
			}
		}
	}
}

func TestValuesOneBehindTheOther(t *testing.T) {
	var all []byte
	for _, v := range rising() {
		all = append(all, value.Encode(v)...)
	}
	at := 0
	for _, v := range rising() {
		got, behind, e := value.Decode(all, at)
		if !same(got, v) || e != api.OK {
			t.Fatalf("Decode at %d: %+v, %v, want %+v", at, short(got), e, short(v))
		}
		at = behind
	}
	if at != len(all) {
		t.Errorf("the last place is %d of %d", at, len(all))
	}
}

// P2.1: U5.

func wantHash(t *testing.T, l ...api.Value) {
	t.Helper()
	h := fnv.New64a()
	for _, v := range l {
		h.Write(value.Encode(v))
	}
	if got := value.Hash(l); got != h.Sum64() {
		t.Errorf("Hash of %d values: %d, want %d", len(l), got, h.Sum64())
	}
}

func TestHash(t *testing.T) {
	wantHash(t)
	wantHash(t, rising()...)
	for _, v := range rising() {
		wantHash(t, v)
		wantHash(t, null, v, yes)
	}
	var x uint64 = 14695981039346656037
	if got, want := value.Hash([]api.Value{null}), x*1099511628211; got != want {
		t.Errorf("Hash of null: %d, want %d", got, want)
	}
	if got, want := value.Hash([]api.Value{yes}), ((x^1)*1099511628211^1)*1099511628211; got != want {
		t.Errorf("Hash of true: %d, want %d", got, want)
	}
}

// What is no value has no bytes, and so changes nothing.
func TestHashOfWhatIsNoValue(t *testing.T) {
	want := value.Hash([]api.Value{yes, no})
	for _, v := range wrong() {
		if got := value.Hash([]api.Value{v}); got != value.Hash(nil) {
			t.Errorf("Hash(%+v): %d", short(v), got)
		}
		if got := value.Hash([]api.Value{v, yes, v, no, v}); got != want {
			t.Errorf("Hash with %+v about: %d, want %d", short(v), got, want)
		}
	}
}

func TestHashTellsThePlacesApart(t *testing.T) {
	if value.Hash([]api.Value{yes, no}) == value.Hash([]api.Value{no, yes}) {
		t.Error("true, false and false, true have one Hash")
	}
}

// P3: what is handed in is not changed, what comes out is new memory.

func TestNothingHandedInIsChanged(t *testing.T) {
	room := []int64{1, 2, 3, 77, 78}
	v := path(room[:3]...)
	l := []api.Value{v, text("x"), yes}[:2]
	value.Right(v)
	value.Order(v, v)
	value.Equal(v, v)
	value.Less(v, v)
	value.And(v, v)
	value.Or(v, v)
	value.Not(v)
	value.Encode(v)
	value.Hash(l)
	value.Show(v)
	if !slices.Equal(room, []int64{1, 2, 3, 77, 78}) || !same(l[:3][2], yes) || !same(l[0], v) {
		t.Error("changed:", room, l[:3])
	}
	b := []byte("\x06\x01\x00\x00\x00\x00\x00\x00\x00\x07\x03\x00\x00\x00\x01aspare")
	was := string(b)
	value.Decode(b[:16], 0)
	value.Decode(b[:16], 10)
	value.Decode(b[:15], 10)
	if string(b) != was {
		t.Errorf("changed: %x", b)
	}
}

func TestBytesAreNewMemory(t *testing.T) {
	for _, v := range rising() {
		a, b := value.Encode(v), value.Encode(v)
		was := string(b)
		a = a[:cap(a)]
		for i := range a {
			a[i] = 0xee
		}
		if string(b) != was || string(value.Encode(v)) != was {
			t.Errorf("two Encodes of %+v share memory", short(v))
		}
	}
}

func TestDecodedValuesAreNewMemory(t *testing.T) {
	b := []byte(string(value.Encode(text("abc"))) + string(value.Encode(path(1, 2))))
	word, behind, _ := value.Decode(b, 0)
	first, _, _ := value.Decode(b, behind)
	second, _, _ := value.Decode(b, behind)
	full := first.Path[:cap(first.Path)]
	for i := range full {
		full[i] = 9
	}
	for i := range b {
		b[i] = 0xee
	}
	if word.Text != "abc" || !slices.Equal(second.Path, []int64{1, 2}) {
		t.Errorf("%q and %v share memory", word.Text, second.Path)
	}
}
