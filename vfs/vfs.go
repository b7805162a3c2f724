// Package vfs is layer 1: files that are not there (see shared/doc/01-vfs.md).
package vfs

import (
	"bytes"
	"maps"
	"slices"

	"portolan/api"
)

// FS is a file system that is not there. A file in it has one page at least.
type FS struct {
	files  map[string][][]byte
	quota  int
	size   int // kept beside the pages, so that the quota can be asked without going through them all
	calls  int
	faults []int // rising, so that a call's number can be searched for
	failed bool
}

// New is one without files: room for so many bytes, the calls that fail.
func New(quota int, faults []int) *FS {
	rising := slices.Clone(faults)
	slices.Sort(rising)
	return &FS{files: make(map[string][][]byte), quota: quota, faults: rising}
}

// Append puts a page behind a file's others.
func (f *FS) Append(name string, page []byte) api.Errno {
	if !isName(name) {
		return api.ErrVfsName
	}
	if len(page) < 1 || len(page) > api.MaxPage {
		return api.ErrVfsLong
	}
	if f.countFails() {
		return api.ErrVfsIO
	}
	if !f.mayGrow(name) {
		return api.ErrTooMany
	}
	if f.size+len(page) > f.quota {
		return api.ErrVfsQuota
	}
	// A copy: the caller may go on to use the page's bytes for something else.
	f.files[name] = append(f.files[name], bytes.Clone(page))
	f.size += len(page)
	return api.OK
}

// Read is a page of a file, from 0 on.
func (f *FS) Read(name string, n int) ([]byte, api.Errno) {
	pages, there := f.files[name]
	if !there {
		return nil, api.ErrVfsNone
	}
	if n < 0 || n >= len(pages) {
		return nil, api.ErrVfsPage
	}
	if f.countFails() {
		return nil, api.ErrVfsIO
	}
	return bytes.Clone(pages[n]), api.OK
}

// Delete takes a file away. It is not counted, so that a script's faults can't keep anybody from tidying up.
func (f *FS) Delete(name string) api.Errno {
	pages, there := f.files[name]
	if !there {
		return api.ErrVfsNone
	}
	for _, page := range pages {
		f.size -= len(page)
	}
	delete(f.files, name)
	return api.OK
}

// Pages is how many pages a file has; 0, if it is not there.
func (f *FS) Pages(name string) int { return len(f.files[name]) }

// Names are all files' names, rising.
func (f *FS) Names() []string { return slices.Sorted(maps.Keys(f.files)) }

// Size is how many bytes all pages have.
func (f *FS) Size() int { return f.size }

// Calls is how many calls were counted.
func (f *FS) Calls() int { return f.calls }

// Failed tells whether a counted call failed by a fault.
func (f *FS) Failed() bool { return f.failed }

// countFails counts a call, and tells whether this one is to fail.
func (f *FS) countFails() bool {
	f.calls++
	_, fails := slices.BinarySearch(f.faults, f.calls)
	f.failed = f.failed || fails
	return fails
}

// mayGrow tells whether the bounds leave room for one page more of that file, which may not be there yet.
func (f *FS) mayGrow(name string) bool {
	pages, there := f.files[name]
	if !there {
		return len(f.files) < api.MaxFiles
	}
	return len(pages) < api.MaxPages
}

// isName tells whether a file may be called so. Bytes that are no rune come out of the range as U+FFFD, which may not stand either.
func isName(name string) bool {
	if len(name) < 1 || len(name) > api.MaxName {
		goto refused
	}
	for _, r := range name {
		if !mayStand(r) {
			goto refused
		}
	}
	return true
refused:
	return false
}

// mayStand tells whether a rune may be in a name.
func mayStand(r rune) bool {
	return r >= 'a' && r <= 'z' || r >= '0' && r <= '9' || r == '-'
}
