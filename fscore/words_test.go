package fscore_test

import (
	"slices"

	"harpsichord/api"
	"harpsichord/fscore"
	"harpsichord/sheet"
)

// The limits that the document names.
const (
	block      = 16
	mostInodes = 200
	mostLinks  = 20
	mostName   = 60
	mostMode   = 4095
	mostTarget = 100
	mostClock  = 1 << 40
	mostFile   = 1 << 20
)

// The kinds that the chapter names.
const (
	file   = 1
	folder = 2
	link   = 3
)

type handle = fscore.Handle

// thing is an inode by the chapter's words, but for its names.
type thing struct {
	handle
	kind, mode, time int
	target           string
	bytes            *sheet.Sheet
}

// entry is a name: the folder in which it is, and the inode that has it.
type entry struct {
	dir  handle
	name string
	of   handle
}

// words are a file system by the chapter's words: all that is said of names, links and parents is looked up in the entries, in any order.
type words struct {
	room    int
	things  map[handle]*thing
	entries []entry
	had     map[int]int // how many inodes had a number
}

func newWords(room int) *words {
	w := &words{room: max(0, room), things: map[handle]*thing{}, had: map[int]int{1: 1}}
	w.things[root] = &thing{handle: root, kind: folder, mode: 493, bytes: sheet.New()} // 7 * 64 + 5 * 8 + 5
	return w
}

// root is the handle of every root.
var root = handle{Id: 1, Gen: 1}

// none is no inode's.
var none = handle{}

// reason is why a call is refused, if it applies.
type reason struct {
	applies bool
	e       api.Errno
}

// first is the error that is named first of those that apply.
func first(l ...reason) api.Errno {
	for _, r := range l {
		if r.applies {
			return r.e
		}
	}
	return api.OK
}

func isName(s string) bool {
	for i := range len(s) {
		if s[i] == '/' || s[i] == 0 {
			return false
		}
	}
	return 1 <= len(s) && len(s) <= mostName && s != "." && s != ".."
}

func isTime(n int) bool {
	return 0 <= n && n <= mostClock
}

// kind is that of an inode; 0, if its handle is stale.
func (w *words) kind(h handle) int {
	if x := w.things[h]; x != nil {
		return x.kind
	}
	return 0
}

func (w *words) stale(h handle) bool {
	return w.kind(h) == 0
}

// of is the inode that has a name in a folder.
func (w *words) of(dir handle, name string) handle {
	for _, x := range w.entries {
		if x.dir == dir && x.name == name {
			return x.of
		}
	}
	return none
}

// in are the names in a folder.
func (w *words) in(dir handle) []string {
	var l []string
	for _, x := range w.entries {
		if x.dir == dir {
			l = append(l, x.name)
		}
	}
	slices.Sort(l)
	return l
}

func (w *words) links(h handle) int {
	n := 0
	for _, x := range w.entries {
		switch {
		case w.kind(h) != folder && x.of == h:
			n++
		case w.kind(h) == folder && x.dir == h && w.kind(x.of) == folder:
			n++
		}
	}
	if w.kind(h) == folder {
		n += 2
	}
	return n
}

func (w *words) parent(dir handle) handle {
	for _, x := range w.entries {
		if x.of == dir {
			return x.dir
		}
	}
	return root
}

// under tells whether a folder is another one, or lies below it.
func (w *words) under(dir, other handle) bool {
	return dir == other || dir != root && w.under(w.parent(dir), other)
}

func (w *words) free() (blocks, inodes int) {
	used := 0
	for _, x := range w.things {
		if x.kind == file {
			used += x.bytes.Blocks()
		}
	}
	return w.room - used, mostInodes - len(w.things)
}

// drop takes a name away, and the inode with its last one.
func (w *words) drop(dir handle, name string) {
	h := w.of(dir, name)
	w.entries = slices.DeleteFunc(w.entries, func(x entry) bool { return x.dir == dir && x.name == name })
	if w.kind(h) == folder || w.links(h) == 0 {
		delete(w.things, h)
	}
}

func (w *words) look(dir handle, name string) (handle, api.Errno) {
	point := name == "." || name == ".."
	e := first(
		reason{w.stale(dir), api.ErrFsStale},
		reason{w.kind(dir) != folder, api.ErrFsNotDir},
		reason{!point && !isName(name), api.ErrFsName},
		reason{!point && w.of(dir, name) == none, api.ErrFsNone},
	)
	switch {
	case e != api.OK:
		return none, e
	case name == ".":
		return dir, e
	case name == "..":
		return w.parent(dir), e
	}
	return w.of(dir, name), e
}

func (w *words) make(dir handle, name string, m fscore.Make) (handle, api.Errno) {
	target := len(m.Target) == 0
	if m.Kind == link {
		target = 1 <= len(m.Target) && len(m.Target) <= mostTarget
	}
	_, inodes := w.free()
	e := first(
		reason{w.stale(dir), api.ErrFsStale},
		reason{w.kind(dir) != folder, api.ErrFsNotDir},
		reason{!isName(name), api.ErrFsName},
		reason{m.Kind < 1 || m.Kind > 3 || m.Mode < 0 || m.Mode > mostMode || !isTime(m.Time) || !target, api.ErrArg},
		reason{w.of(dir, name) != none, api.ErrFsExists},
		reason{m.Kind == folder && w.links(dir) >= mostLinks, api.ErrFsLinks},
		reason{inodes == 0, api.ErrFsSpace},
	)
	if e != api.OK {
		return none, e
	}
	id := 1
	for w.at(id) {
		id++
	}
	w.had[id]++
	h := handle{Id: id, Gen: w.had[id]}
	w.things[h] = &thing{h, m.Kind, m.Mode, m.Time, m.Target, sheet.New()}
	w.entries = append(w.entries, entry{dir, name, h})
	return h, e
}

// at tells whether there is an inode of a number.
func (w *words) at(id int) bool {
	for h := range w.things {
		if h.Id == id {
			return true
		}
	}
	return false
}

func (w *words) link(h, dir handle, name string) api.Errno {
	e := first(
		reason{w.stale(h), api.ErrFsStale},
		reason{w.stale(dir), api.ErrFsStale},
		reason{w.kind(dir) != folder, api.ErrFsNotDir},
		reason{!isName(name), api.ErrFsName},
		reason{w.kind(h) == folder, api.ErrFsDir},
		reason{w.of(dir, name) != none, api.ErrFsExists},
		reason{w.links(h) >= mostLinks, api.ErrFsLinks},
	)
	if e == api.OK {
		w.entries = append(w.entries, entry{dir, name, h})
	}
	return e
}

func (w *words) remove(dir handle, name string, isFolder bool) api.Errno {
	x := w.of(dir, name)
	e := first(
		reason{w.stale(dir), api.ErrFsStale},
		reason{w.kind(dir) != folder, api.ErrFsNotDir},
		reason{!isName(name), api.ErrFsName},
		reason{x == none, api.ErrFsNone},
		reason{!isFolder && w.kind(x) == folder, api.ErrFsDir},
		reason{isFolder && w.kind(x) != folder, api.ErrFsNotDir},
		reason{isFolder && len(w.in(x)) > 0, api.ErrFsEmpty},
	)
	if e == api.OK {
		w.drop(dir, name)
	}
	return e
}

func (w *words) rename(from handle, name string, to handle, other string) api.Errno {
	x, y := w.of(from, name), w.of(to, other)
	e := first(
		reason{w.stale(from), api.ErrFsStale},
		reason{w.stale(to), api.ErrFsStale},
		reason{w.kind(from) != folder, api.ErrFsNotDir},
		reason{w.kind(to) != folder, api.ErrFsNotDir},
		reason{!isName(name), api.ErrFsName},
		reason{!isName(other), api.ErrFsName},
		reason{x == none, api.ErrFsNone},
	)
	if e != api.OK || x == y {
		return e
	}
	isFolder, over := w.kind(x) == folder, w.kind(y) == folder
	e = first(
		reason{isFolder && w.under(to, x), api.ErrFsLoop},
		reason{y != none && isFolder && !over, api.ErrFsNotDir},
		reason{y != none && !isFolder && over, api.ErrFsDir},
		reason{over && len(w.in(y)) > 0, api.ErrFsEmpty},
		reason{isFolder && from != to && y == none && w.links(to) >= mostLinks, api.ErrFsLinks},
	)
	if e != api.OK {
		return e
	}
	if y != none {
		w.drop(to, other)
	}
	for k, x := range w.entries {
		if x.dir == from && x.name == name {
			w.entries[k] = entry{to, other, x.of}
		}
	}
	return e
}

func (w *words) read(h handle, at, n int) ([]byte, api.Errno) {
	e := first(
		reason{w.stale(h), api.ErrFsStale},
		reason{w.kind(h) == folder, api.ErrFsDir},
		reason{w.kind(h) == link || at < 0 || n < 0, api.ErrArg},
	)
	if e != api.OK {
		return nil, e
	}
	return w.things[h].bytes.Read(at, n), e
}

func (w *words) write(h handle, at int, b []byte, time int) api.Errno {
	e := first(
		reason{w.stale(h), api.ErrFsStale},
		reason{w.kind(h) == folder, api.ErrFsDir},
		reason{w.kind(h) == link || at < 0 || !isTime(time), api.ErrArg},
	)
	if e != api.OK {
		return e
	}
	x := w.things[h]
	blocks, _ := w.free()
	if !x.bytes.Clone().Write(at, b) || x.bytes.Need(at, b) > blocks {
		return api.ErrFsSpace
	}
	x.bytes.Write(at, b)
	x.time = time
	return e
}

func (w *words) cut(h handle, n, time int) api.Errno {
	e := first(
		reason{w.stale(h), api.ErrFsStale},
		reason{w.kind(h) == folder, api.ErrFsDir},
		reason{w.kind(h) == link || n < 0 || !isTime(time), api.ErrArg},
		reason{n > mostFile, api.ErrFsSpace},
	)
	if e == api.OK {
		w.things[h].bytes.Cut(n)
		w.things[h].time = time
	}
	return e
}

func (w *words) stat(h handle) (fscore.Info, api.Errno) {
	if w.stale(h) {
		return fscore.Info{}, api.ErrFsStale
	}
	x := w.things[h]
	i := fscore.Info{Handle: h, Kind: x.kind, Mode: x.mode, Links: w.links(h), Time: x.time}
	switch x.kind {
	case file:
		i.Size, i.Blocks = x.bytes.Size(), x.bytes.Blocks()
	case folder:
		i.Size = len(w.in(h))
	case link:
		i.Size = len(x.target)
	}
	return i, api.OK
}

func (w *words) list(dir handle) ([]string, api.Errno) {
	e := first(
		reason{w.stale(dir), api.ErrFsStale},
		reason{w.kind(dir) != folder, api.ErrFsNotDir},
	)
	if e != api.OK {
		return nil, e
	}
	return w.in(dir), e
}

func (w *words) target(h handle) (string, api.Errno) {
	e := first(
		reason{w.stale(h), api.ErrFsStale},
		reason{w.kind(h) != link, api.ErrArg},
	)
	if e != api.OK {
		return "", e
	}
	return w.things[h].target, e
}

func (w *words) clone() *words {
	v := &words{w.room, map[handle]*thing{}, slices.Clone(w.entries), map[int]int{}}
	for h, x := range w.things {
		y := *x
		y.bytes = x.bytes.Clone()
		v.things[h] = &y
	}
	for id, n := range w.had {
		v.had[id] = n
	}
	return v
}
