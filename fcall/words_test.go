package fcall_test

import (
	"encoding/binary"
	"maps"

	"harpsichord/api"
	"harpsichord/fcall"
	"harpsichord/fscore"
)

// The limits that the document names.
const (
	mostClient  = 1000000
	mostNumber  = 1 << 62
	mostClients = 100
	mostBytes   = 200
	mostRead    = 1000
	mostNames   = 50
	mostText    = 1024
	mostFile    = 1 << 20
	mostClock   = 1 << 40
)

// The kinds of inodes, and of calls, that the document names.
const (
	file   = 1
	folder = 2
	link   = 3

	kMake   = 1
	kLink   = 2
	kRemove = 3
	kRename = 4
	kWrite  = 5
	kCut    = 6
	kLook   = 7
	kRead   = 8
	kStat   = 9
	kList   = 10
	kTarget = 11
)

type (
	handle = fscore.Handle
	call   = fcall.Call
	answer = fcall.Answer
)

// kept is what was last done for a client.
type kept struct {
	number int
	a      answer
}

// words are a table by the chapter's words, on a file system of the layer below.
type words struct {
	fs   *fscore.Fs
	last map[int]kept
}

func newWords(room int) *words {
	return &words{fscore.New(room), map[int]kept{}}
}

func (w *words) clone() *words {
	return &words{w.fs.Clone(), maps.Clone(w.last)}
}

// apply does a call, each sentence of the chapter at its place.
func (w *words) apply(c call) answer {
	if !isCall(c) {
		return answer{Code: api.ErrCallForm}
	}
	last, was := w.last[c.Client]
	if was && c.Number < last.number {
		return answer{Code: api.ErrArg}
	}
	if !was && len(w.last) == mostClients {
		return answer{Code: api.ErrArg}
	}
	if !was || c.Number != last.number {
		last = kept{c.Number, w.do(c)}
		w.last[c.Client] = last
	}
	return last.a
}

// do is the chapter's table: the call of fscore, and what it answers.
func (w *words) do(c call) answer {
	var a answer
	switch c.Kind {
	case kMake:
		a.H, a.Code = w.fs.Make(c.H, c.Name, c.M)
	case kLink:
		a.Code = w.fs.Link(c.H, c.G, c.Name)
	case kRemove:
		a.Code = w.fs.Remove(c.H, c.Name, c.Folder)
	case kRename:
		a.Code = w.fs.Rename(c.H, c.Name, c.G, c.Other)
	case kWrite:
		a.Code = w.fs.Write(c.H, c.At, []byte(c.B), c.Time)
	case kCut:
		a.Code = w.fs.Cut(c.H, c.N, c.Time)
	case kLook:
		a.H, a.Code = w.fs.Look(c.H, c.Name)
	case kRead:
		var b []byte
		b, a.Code = w.fs.Read(c.H, c.At, c.N)
		if len(b) > mostRead {
			b = b[:mostRead]
		}
		a.B = string(b)
	case kStat:
		a.Info, a.Code = w.fs.Stat(c.H)
	case kList:
		a.Names, a.Code = w.fs.List(c.H)
		if len(a.Names) > mostNames {
			a.Names = a.Names[:mostNames]
		}
	case kTarget:
		a.B, a.Code = w.fs.Target(c.H)
	}
	return a
}

// bare is a call with nothing but what its kind uses.
func bare(c call) call {
	b := call{Client: c.Client, Number: c.Number, Kind: c.Kind}
	switch b.H = c.H; c.Kind {
	case kMake:
		b.Name, b.M = c.Name, c.M
	case kLink:
		b.G, b.Name = c.G, c.Name
	case kRemove:
		b.Name, b.Folder = c.Name, c.Folder
	case kRename:
		b.Name, b.G, b.Other = c.Name, c.G, c.Other
	case kWrite:
		b.At, b.B, b.Time = c.At, c.B, c.Time
	case kCut:
		b.N, b.Time = c.N, c.Time
	case kLook:
		b.Name = c.Name
	case kRead:
		b.At, b.N = c.At, c.N
	}
	return b
}

func isCall(c call) bool {
	return 1 <= c.Client && c.Client <= mostClient && 1 <= c.Number && c.Number <= mostNumber && 1 <= c.Kind && c.Kind <= 11 && c == bare(c)
}

// bytes are what is written, and whether a field was refused.
type bytes struct {
	b       []byte
	refused bool
}

func (b *bytes) wholes(l ...int) {
	for _, n := range l {
		b.refused = b.refused || n < 0 || n > 1<<62
		b.b = binary.BigEndian.AppendUint64(b.b, uint64(n))
	}
}

func (b *bytes) handles(l ...handle) {
	for _, h := range l {
		b.wholes(h.Id, h.Gen)
	}
}

func (b *bytes) texts(l ...string) {
	for _, s := range l {
		b.refused = b.refused || len(s) > mostText
		b.b = append(binary.BigEndian.AppendUint16(b.b, uint16(len(s))), s...)
	}
}

func (b *bytes) truth(is bool) {
	if is {
		b.b = append(b.b, 1)
	} else {
		b.b = append(b.b, 0)
	}
}

// bytesOf are a call's bytes by the chapter's words, and whether a field is refused, however many bytes there are.
func bytesOf(c call) (string, bool) {
	b := &bytes{}
	b.wholes(c.Client, c.Number)
	b.b = append(b.b, byte(c.Kind))
	switch b.handles(c.H); c.Kind {
	case kMake:
		b.texts(c.Name)
		b.wholes(c.M.Kind, c.M.Mode, c.M.Time)
		b.texts(c.M.Target)
	case kLink:
		b.handles(c.G)
		b.texts(c.Name)
	case kRemove:
		b.texts(c.Name)
		b.truth(c.Folder)
	case kRename:
		b.handles(c.G)
		b.texts(c.Name, c.Other)
	case kWrite:
		b.wholes(c.At, c.Time)
		b.texts(c.B)
	case kCut:
		b.wholes(c.N, c.Time)
	case kLook:
		b.texts(c.Name)
	case kRead:
		b.wholes(c.At, c.N)
	}
	return string(b.b), b.refused
}

// encode writes a call by the chapter's words.
func encode(c call) (string, api.Errno) {
	s, refused := bytesOf(c)
	if !isCall(c) || refused || len(s) > mostBytes {
		return "", api.ErrCallForm
	}
	return s, api.OK
}
