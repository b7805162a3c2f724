package vfs_test

import (
	"bytes"
	"math"
	"slices"
	"strings"
	"testing"

	"portolan/api"
	"portolan/vfs"
)

// state is all that a file system tells of itself without being changed.
type state struct {
	names  []string
	pages  []int
	size   int
	calls  int
	failed bool
}

func stateOf(f *vfs.FS) state {
	s := state{names: f.Names(), size: f.Size(), calls: f.Calls(), failed: f.Failed()}
	for _, n := range s.names {
		s.pages = append(s.pages, f.Pages(n))
	}
	return s
}

func (s state) is(o state) bool {
	return slices.Equal(s.names, o.names) && slices.Equal(s.pages, o.pages) &&
		s.size == o.size && s.calls == o.calls && s.failed == o.failed
}

func wantState(t *testing.T, f *vfs.FS, want state) {
	t.Helper()
	if got := stateOf(f); !got.is(want) {
		t.Errorf("state %v, want %v", got, want)
	}
}

func wantAppend(t *testing.T, f *vfs.FS, name, page string, want api.Errno) {
	t.Helper()
	if e := f.Append(name, []byte(page)); e != want {
		t.Errorf("Append(%q, %d bytes): %v, want %v", name, len(page), e, want)
	}
}

func wantRead(t *testing.T, f *vfs.FS, name string, n int, page string, want api.Errno) {
	t.Helper()
	got, e := f.Read(name, n)
	if string(got) != page || e != want {
		t.Errorf("Read(%q, %d): %q, %v, want %q, %v", name, n, got, e, page, want)
	}
}

func wantDelete(t *testing.T, f *vfs.FS, name string, want api.Errno) {
	t.Helper()
	if e := f.Delete(name); e != want {
		t.Errorf("Delete(%q): %v, want %v", name, e, want)
	}
}

// The examples of the chapter.

func TestExampleQuotaAndPages(t *testing.T) {
	f := vfs.New(4, nil)
	wantAppend(t, f, "a", "xyz", api.OK)
	wantAppend(t, f, "a", "pq", api.ErrVfsQuota)
	wantAppend(t, f, "a", "p", api.OK)
	wantRead(t, f, "a", 1, "p", api.OK)
	wantState(t, f, state{names: []string{"a"}, pages: []int{2}, size: 4, calls: 4})
	wantRead(t, f, "a", 2, "", api.ErrVfsPage)
}

func TestExampleFault(t *testing.T) {
	f := vfs.New(9, []int{2})
	wantAppend(t, f, "b", "x", api.OK)
	wantRead(t, f, "b", 0, "", api.ErrVfsIO)
	wantRead(t, f, "b", 0, "x", api.OK)
}

func TestExampleWrongArguments(t *testing.T) {
	f := vfs.New(9, nil)
	wantAppend(t, f, "A", "x", api.ErrVfsName)
	wantAppend(t, f, "a", "", api.ErrVfsLong)
}

// P1.1: V1.

func TestNewHasNothing(t *testing.T) {
	for _, quota := range []int{math.MinInt, -1, 0, 1, math.MaxInt} {
		for _, faults := range [][]int{nil, {}, {1, 2, 3}} {
			wantState(t, vfs.New(quota, faults), state{})
		}
	}
}

func TestTwoFileSystemsAreApart(t *testing.T) {
	f, g := vfs.New(9, []int{2}), vfs.New(9, []int{2})
	wantAppend(t, f, "a", "x", api.OK)
	wantAppend(t, f, "a", "x", api.ErrVfsIO)
	wantState(t, g, state{})
	wantAppend(t, g, "b", "y", api.OK)
	wantState(t, f, state{names: []string{"a"}, pages: []int{1}, size: 1, calls: 2, failed: true})
}

// P1.1: V2, names and pages.

func TestNamesOfOneByte(t *testing.T) {
	for b := range 256 {
		c := byte(b)
		want := api.ErrVfsName
		if c >= 'a' && c <= 'z' || c >= '0' && c <= '9' || c == '-' {
			want = api.OK
		}
		for _, name := range []string{string([]byte{c}), string([]byte{c, 'a'}), string([]byte{'a', c}), string([]byte{'a', c, 'a'})} {
			wantAppend(t, vfs.New(9, nil), name, "x", want)
		}
	}
}

func TestNameLengths(t *testing.T) {
	for n := range 70 {
		want := api.ErrVfsName
		if n >= 1 && n <= 32 {
			want = api.OK
		}
		for _, c := range []string{"a", "z", "0", "9", "-"} {
			wantAppend(t, vfs.New(9, nil), strings.Repeat(c, n), "x", want)
		}
	}
}

func TestNamesThatAreNone(t *testing.T) {
	f := vfs.New(9, []int{1})
	for _, name := range []string{
		"", " ", "a b", "a/b", "a.b", "a_b", "A", "aZ", "é", "ａ", "\u0661", "−", "\ufffd", "日本",
		"a\x00", "\x80", "a\xff", "\xc3", "\xe2\x82", "a\n", "`", "{", ":", strings.Repeat("a", 33), strings.Repeat("a", 32) + "A",
		strings.Repeat("é", 16), strings.Repeat("a", 1<<20),
	} {
		wantAppend(t, f, name, "x", api.ErrVfsName)
		wantRead(t, f, name, 0, "", api.ErrVfsNone)
		wantDelete(t, f, name, api.ErrVfsNone)
		if f.Pages(name) != 0 {
			t.Errorf("%q has pages", name)
		}
	}
	wantState(t, f, state{})
}

func TestPageLengths(t *testing.T) {
	f := vfs.New(math.MaxInt, nil)
	for _, n := range []int{1, 2, 1023, 1024} {
		wantAppend(t, f, "a", strings.Repeat("x", n), api.OK)
	}
	for _, n := range []int{0, 1025, 1026, 2048, 1 << 20} {
		wantAppend(t, f, "a", strings.Repeat("x", n), api.ErrVfsLong)
	}
	if e := f.Append("a", nil); e != api.ErrVfsLong {
		t.Error("no page at all:", e)
	}
	wantState(t, f, state{names: []string{"a"}, pages: []int{4}, size: 1 + 2 + 1023 + 1024, calls: 4})
}

func TestWrongArgumentsAreNotCounted(t *testing.T) {
	f := vfs.New(9, []int{1})
	wantAppend(t, f, "A", "x", api.ErrVfsName)
	wantAppend(t, f, "a", "", api.ErrVfsLong)
	wantRead(t, f, "a", 0, "", api.ErrVfsNone)
	wantDelete(t, f, "a", api.ErrVfsNone)
	wantState(t, f, state{})
	wantAppend(t, f, "a", "x", api.ErrVfsIO)
}

// P2: of several errors the one that is named first.

func TestOrderOfErrors(t *testing.T) {
	full := func(faults ...int) *vfs.FS {
		f := vfs.New(api.MaxFiles, faults)
		for i := range api.MaxFiles {
			wantAppend(t, f, fileName(i), "x", api.OK)
		}
		return f
	}
	wantAppend(t, full(257), "A", "", api.ErrVfsName)
	wantAppend(t, full(257), "new", "", api.ErrVfsLong)
	wantAppend(t, full(257), "new", "x", api.ErrVfsIO)
	wantAppend(t, full(), "new", "x", api.ErrTooMany)
	wantAppend(t, full(), fileName(0), "x", api.ErrVfsQuota)
	wantRead(t, full(257), "new", -1, "", api.ErrVfsNone)
	wantRead(t, full(257), fileName(0), 1, "", api.ErrVfsPage)
	wantRead(t, full(257), fileName(0), 0, "", api.ErrVfsIO)
}

// fileName is a name of its own for each number below 676, rising with it.
func fileName(i int) string {
	return string([]byte{byte('a' + i/26), byte('a' + i%26)})
}

// P1.1: V2, bounds.

func TestFilesBeyondTheBound(t *testing.T) {
	f := vfs.New(math.MaxInt, nil)
	var all []string
	for i := range api.MaxFiles {
		wantAppend(t, f, fileName(i), "x", api.OK)
		all = append(all, fileName(i))
	}
	wantAppend(t, f, "more", "x", api.ErrTooMany)
	if got := f.Names(); !slices.Equal(got, all) || f.Pages("more") != 0 || f.Size() != 256 || f.Calls() != 257 {
		t.Error("behind the 257th:", len(got), f.Pages("more"), f.Size(), f.Calls())
	}
	wantAppend(t, f, fileName(255), "y", api.OK)
	wantDelete(t, f, fileName(0), api.OK)
	wantAppend(t, f, "more", "x", api.OK)
	wantAppend(t, f, fileName(0), "x", api.ErrTooMany)
}

func TestPagesBeyondTheBound(t *testing.T) {
	f := vfs.New(math.MaxInt, nil)
	for i := range api.MaxPages {
		if e := f.Append("a", []byte{byte(i), byte(i >> 8)}); e != api.OK {
			t.Fatal("page", i, e)
		}
	}
	wantAppend(t, f, "a", "x", api.ErrTooMany)
	wantState(t, f, state{names: []string{"a"}, pages: []int{4096}, size: 8192, calls: 4097})
	for i := range api.MaxPages {
		wantRead(t, f, "a", i, string([]byte{byte(i), byte(i >> 8)}), api.OK)
	}
	wantAppend(t, f, "b", "x", api.OK)
	wantDelete(t, f, "a", api.OK)
	wantAppend(t, f, "a", "x", api.OK)
	wantRead(t, f, "a", 0, "x", api.OK)
}

// P1.1 and P1.3: the quota.

func TestQuotaJustMet(t *testing.T) {
	f := vfs.New(1025, nil)
	wantAppend(t, f, "a", strings.Repeat("x", 1024), api.OK)
	wantAppend(t, f, "b", "xy", api.ErrVfsQuota)
	wantAppend(t, f, "b", "x", api.OK)
	wantAppend(t, f, "a", "x", api.ErrVfsQuota)
	wantAppend(t, f, "c", "x", api.ErrVfsQuota)
	wantState(t, f, state{names: []string{"a", "b"}, pages: []int{1, 1}, size: 1025, calls: 5})
	wantDelete(t, f, "b", api.OK)
	wantAppend(t, f, "c", "xy", api.ErrVfsQuota)
	wantAppend(t, f, "c", "x", api.OK)
}

func TestQuotaCountsTheBytesOfAllPagesOfADeletedFile(t *testing.T) {
	f := vfs.New(6, nil)
	for _, p := range []string{"x", "yy", "zzz"} {
		wantAppend(t, f, "a", p, api.OK)
	}
	wantDelete(t, f, "a", api.OK)
	wantState(t, f, state{calls: 3})
	wantAppend(t, f, "b", "123456", api.OK)
	wantAppend(t, f, "b", "7", api.ErrVfsQuota)
}

func TestQuotaOfNothing(t *testing.T) {
	for _, quota := range []int{0, -1, -1024, math.MinInt} {
		f := vfs.New(quota, nil)
		wantAppend(t, f, "a", "x", api.ErrVfsQuota)
		wantAppend(t, f, "a", strings.Repeat("x", 1024), api.ErrVfsQuota)
		wantState(t, f, state{calls: 2})
	}
}

// P1.1: V3, reading.

func TestReadFirstLastAndBeside(t *testing.T) {
	f := vfs.New(9, nil)
	for _, p := range []string{"first", "m", "end"} {
		wantAppend(t, f, "a", p, api.OK)
	}
	for _, n := range []int{-1, 3, 4, math.MinInt, math.MaxInt} {
		wantRead(t, f, "a", n, "", api.ErrVfsPage)
	}
	if f.Calls() != 3 {
		t.Error("a page that is not there was counted:", f.Calls())
	}
	wantRead(t, f, "a", 0, "first", api.OK)
	wantRead(t, f, "a", 1, "m", api.OK)
	wantRead(t, f, "a", 2, "end", api.OK)
	if f.Calls() != 6 {
		t.Error("reads that were not counted:", f.Calls())
	}
}

func TestCallsOnFilesThatAreNotThere(t *testing.T) {
	f := vfs.New(9, []int{2})
	wantAppend(t, f, "a", "x", api.OK)
	for _, name := range []string{"b", "", "A", "aa"} {
		wantRead(t, f, name, 0, "", api.ErrVfsNone)
		wantDelete(t, f, name, api.ErrVfsNone)
		if n := f.Pages(name); n != 0 {
			t.Error("pages of", name, n)
		}
	}
	wantDelete(t, f, "a", api.OK)
	wantDelete(t, f, "a", api.ErrVfsNone)
	wantRead(t, f, "a", 0, "", api.ErrVfsNone)
	wantState(t, f, state{calls: 1})
}

func TestAFileAnewHasNoneOfTheOldPages(t *testing.T) {
	f := vfs.New(9, nil)
	wantAppend(t, f, "a", "old", api.OK)
	wantAppend(t, f, "a", "er", api.OK)
	wantDelete(t, f, "a", api.OK)
	wantAppend(t, f, "a", "new", api.OK)
	wantRead(t, f, "a", 0, "new", api.OK)
	wantRead(t, f, "a", 1, "", api.ErrVfsPage)
}

// P1.1: V4.

func TestNamesRise(t *testing.T) {
	f := vfs.New(99, nil)
	for _, n := range []string{"b", "a", "-", "ab", "0", "z", "a-", "a0", "9", "aa"} {
		wantAppend(t, f, n, "x", api.OK)
	}
	want := []string{"-", "0", "9", "a", "a-", "a0", "aa", "ab", "b", "z"}
	for range 20 {
		if got := f.Names(); !slices.Equal(got, want) {
			t.Fatal(got)
		}
	}
}

// Faults.

func TestFaultOnAppend(t *testing.T) {
	f := vfs.New(9, []int{1, 3})
	wantAppend(t, f, "a", "x", api.ErrVfsIO)
	wantState(t, f, state{calls: 1, failed: true})
	wantAppend(t, f, "a", "y", api.OK)
	wantAppend(t, f, "a", "z", api.ErrVfsIO)
	wantAppend(t, f, "a", "w", api.OK)
	wantRead(t, f, "a", 0, "y", api.OK)
	wantRead(t, f, "a", 1, "w", api.OK)
	wantState(t, f, state{names: []string{"a"}, pages: []int{2}, size: 2, calls: 6, failed: true})
}

func TestFaultOnRead(t *testing.T) {
	f := vfs.New(9, []int{2, 3, 5})
	wantAppend(t, f, "a", "x", api.OK)
	if f.Failed() {
		t.Error("failed ahead of the fault")
	}
	wantRead(t, f, "a", 0, "", api.ErrVfsIO)
	wantRead(t, f, "a", 0, "", api.ErrVfsIO)
	wantRead(t, f, "a", 0, "x", api.OK)
	wantAppend(t, f, "a", "y", api.ErrVfsIO)
	wantState(t, f, state{names: []string{"a"}, pages: []int{1}, size: 1, calls: 5, failed: true})
}

func TestFaultsThatStandTwiceOrAreNeverReached(t *testing.T) {
	f := vfs.New(99, []int{7, 2, math.MinInt, 2, 0, -1, -3, 4, 0, 2, math.MaxInt})
	for call := 1; call <= 9; call++ {
		want := api.OK
		if call == 2 || call == 4 || call == 7 {
			want = api.ErrVfsIO
		}
		wantAppend(t, f, "a", "x", want)
		if f.Calls() != call || f.Failed() != (call >= 2) {
			t.Error("call", call, f.Calls(), f.Failed())
		}
	}
}

func TestFaultsThatNoCallReaches(t *testing.T) {
	f := vfs.New(9, []int{0, -1, math.MinInt, 4, math.MaxInt})
	wantAppend(t, f, "a", "x", api.OK)
	wantRead(t, f, "a", 0, "x", api.OK)
	wantRead(t, f, "a", 0, "x", api.OK)
	wantState(t, f, state{names: []string{"a"}, pages: []int{1}, size: 1, calls: 3})
}

func TestFaultsGoByCountedCallsAlone(t *testing.T) {
	f := vfs.New(1, []int{3})
	wantAppend(t, f, "a", "xy", api.ErrVfsQuota)
	wantAppend(t, f, "", "x", api.ErrVfsName)
	wantAppend(t, f, "a", "", api.ErrVfsLong)
	wantRead(t, f, "a", 0, "", api.ErrVfsNone)
	wantAppend(t, f, "a", "x", api.OK)
	wantRead(t, f, "a", 1, "", api.ErrVfsPage)
	f.Pages("a")
	f.Names()
	f.Size()
	wantDelete(t, f, "a", api.OK)
	wantAppend(t, f, "a", "x", api.ErrVfsIO)
}

func TestDeleteNeverFails(t *testing.T) {
	f := vfs.New(9, []int{2})
	wantAppend(t, f, "a", "x", api.OK)
	wantDelete(t, f, "a", api.OK)
	wantState(t, f, state{calls: 1})
}

func TestErrorsThatAreNoFaultsDoNotTellOfOne(t *testing.T) {
	f := vfs.New(1, nil)
	wantAppend(t, f, "a", "x", api.OK)
	wantAppend(t, f, "a", "y", api.ErrVfsQuota)
	wantAppend(t, f, "A", "y", api.ErrVfsName)
	wantRead(t, f, "b", 0, "", api.ErrVfsNone)
	if f.Failed() {
		t.Error("nothing failed by a fault")
	}
}

// P3: whose memory it is.

func TestAPageHandedInMayChange(t *testing.T) {
	f := vfs.New(99, nil)
	room := []byte("abcdef")
	if e := f.Append("a", room[:3]); e != api.OK {
		t.Fatal(e)
	}
	wantAppend(t, f, "a", "next", api.OK)
	if string(room) != "abcdef" {
		t.Error("what was handed in is changed:", string(room))
	}
	for i := range room {
		room[i] = '!'
	}
	wantRead(t, f, "a", 0, "abc", api.OK)
}

func TestAPageHandedOutMayChange(t *testing.T) {
	f := vfs.New(99, nil)
	wantAppend(t, f, "a", "abc", api.OK)
	wantAppend(t, f, "a", "def", api.OK)
	one, _ := f.Read("a", 0)
	two, _ := f.Read("a", 0)
	fill(one[:cap(one)])
	if string(two) != "abc" {
		t.Error("two answers share memory:", string(two))
	}
	wantRead(t, f, "a", 0, "abc", api.OK)
	wantRead(t, f, "a", 1, "def", api.OK)
}

func fill(b []byte) {
	for i := range b {
		b[i] = '!'
	}
}

func TestNamesHandedOutMayChange(t *testing.T) {
	f := vfs.New(99, nil)
	wantAppend(t, f, "a", "x", api.OK)
	wantAppend(t, f, "b", "x", api.OK)
	one, two := f.Names(), f.Names()
	one = one[:cap(one)]
	for i := range one {
		one[i] = "z"
	}
	want := []string{"a", "b"}
	if !slices.Equal(two, want) || !slices.Equal(f.Names(), want) {
		t.Error(two, f.Names())
	}
	wantRead(t, f, "a", 0, "x", api.OK)
}

func TestFaultsHandedInMayChange(t *testing.T) {
	room := []int{3, 1, 2, 2, 4}
	f := vfs.New(9, room[:4])
	if !slices.Equal(room, []int{3, 1, 2, 2, 4}) {
		t.Error("what was handed in is changed:", room)
	}
	for i := range room {
		room[i] = 4
	}
	for call := 1; call <= 5; call++ {
		want := api.ErrVfsIO
		if call > 3 {
			want = api.OK
		}
		wantAppend(t, f, "a", "x", want)
	}
}

// P1.2, P1.3, P1.4: long runs, held against a plain tale of what was put.

// tale is what a file system must answer, worked out afresh from lists at each call.
type tale struct {
	quota, calls int
	faults       []int
	failed       bool
	put          []record
}

type record struct {
	name, page string
}

func (m *tale) pages(name string) []string {
	var out []string
	for _, r := range m.put {
		if r.name == name {
			out = append(out, r.page)
		}
	}
	return out
}

func (m *tale) names() []string {
	var out []string
	for _, r := range m.put {
		out = append(out, r.name)
	}
	slices.Sort(out)
	return slices.Compact(out)
}

func (m *tale) size() int {
	n := 0
	for _, r := range m.put {
		n += len(r.page)
	}
	return n
}

func (m *tale) fails() bool {
	m.calls++
	hit := slices.Contains(m.faults, m.calls)
	m.failed = m.failed || hit
	return hit
}

func (m *tale) append(name, page string) api.Errno {
	good := len(name) >= 1 && len(name) <= 32 && strings.Trim(name, "abcdefghijklmnopqrstuvwxyz0123456789-") == ""
	switch {
	case !good:
		return api.ErrVfsName
	case len(page) == 0 || len(page) > 1024:
		return api.ErrVfsLong
	case m.fails():
		return api.ErrVfsIO
	case m.size()+len(page) > m.quota:
		return api.ErrVfsQuota
	}
	m.put = append(m.put, record{name, page})
	return api.OK
}

func (m *tale) read(name string, n int) (string, api.Errno) {
	ps := m.pages(name)
	switch {
	case len(ps) == 0:
		return "", api.ErrVfsNone
	case n < 0 || n >= len(ps):
		return "", api.ErrVfsPage
	case m.fails():
		return "", api.ErrVfsIO
	}
	return ps[n], api.OK
}

func (m *tale) delete(name string) api.Errno {
	if len(m.pages(name)) == 0 {
		return api.ErrVfsNone
	}
	m.put = slices.DeleteFunc(m.put, func(r record) bool { return r.name == name })
	return api.OK
}

// dice are numbers that look like chance and are the same in each run.
type dice uint64

func (d *dice) below(n int) int {
	*d = *d*6364136223846793005 + 1442695040888963407
	return int(uint64(*d)>>33) % n
}

func TestLongRuns(t *testing.T) {
	for seed := range 60 {
		d := dice(seed)
		m := &tale{quota: []int{-5, 0, 7, 300, 5000, math.MaxInt}[seed%6]}
		if seed%3 != 0 {
			for range d.below(40) {
				m.faults = append(m.faults, d.below(330)-20)
			}
		}
		f := vfs.New(m.quota, m.faults)
		for step := range 400 {
			takeStep(t, f, m, &d)
			checkWhole(t, f, m)
			if t.Failed() {
				t.Fatalf("seed %d, step %d", seed, step)
			}
		}
		checkKept(t, f, m)
	}
}

func takeStep(t *testing.T, f *vfs.FS, m *tale, d *dice) {
	t.Helper()
	name := []string{"a", "b", "run-0", "run-1", "", "B", "ü", strings.Repeat("9", 32)}[d.below(8)]
	switch d.below(8) {
	case 0, 1, 2, 3:
		page := make([]byte, []int{0, 1, 2, 3, 17, 200, 1024, 1025}[d.below(8)])
		for i := range page {
			page[i] = byte(d.below(256))
		}
		want := m.append(name, string(page))
		wantAppend(t, f, name, string(page), want)
	case 4, 5, 6:
		n := d.below(len(m.pages(name))+3) - 1
		page, want := m.read(name, n)
		wantRead(t, f, name, n, page, want)
		if want == api.ErrVfsIO && len(m.faults) == 0 {
			t.Error("a fault that nobody asked for")
		}
	case 7:
		want := m.delete(name)
		wantDelete(t, f, name, want)
	}
}

func checkWhole(t *testing.T, f *vfs.FS, m *tale) {
	t.Helper()
	want := state{names: m.names(), size: m.size(), calls: m.calls, failed: m.failed}
	for _, n := range want.names {
		want.pages = append(want.pages, len(m.pages(n)))
	}
	wantState(t, f, want)
	if f.Size() > max(m.quota, 0) {
		t.Error("above the quota:", f.Size())
	}
	if len(m.faults) == 0 && f.Failed() {
		t.Error("failed without faults")
	}
}

// checkKept reads all that was put; a page whose call fails is asked for once more.
func checkKept(t *testing.T, f *vfs.FS, m *tale) {
	t.Helper()
	for _, name := range m.names() {
		for n, page := range m.pages(name) {
			got, e := f.Read(name, n)
			for e == api.ErrVfsIO {
				if len(got) != 0 {
					t.Error("bytes beside an error")
				}
				got, e = f.Read(name, n)
			}
			if e != api.OK || !bytes.Equal(got, []byte(page)) {
				t.Errorf("%q, page %d: %q, %v", name, n, got, e)
			}
		}
	}
}

// P1.4: no run without faults answers ErrVfsIO, whatever else it meets.
func TestNoFaultsNoErrorOfFaults(t *testing.T) {
	for _, faults := range [][]int{nil, {}, {0}, {-1, 0}} {
		f := vfs.New(40, faults)
		for i := range 3000 {
			name := fileName(i % 300)
			if e := f.Append(name, []byte("x")); e == api.ErrVfsIO {
				t.Fatal("Append", i)
			}
			if _, e := f.Read(name, i%3-1); e == api.ErrVfsIO {
				t.Fatal("Read", i)
			}
			if i%11 == 0 {
				f.Delete(name)
			}
		}
		if f.Failed() {
			t.Error("failed")
		}
	}
}
