package fcall

import (
	"harpsichord/api"
	"harpsichord/pack"
)

// The kinds of calls: those from looks on only read.
const (
	makes = 1 + iota
	links
	removes
	renames
	writes
	cuts
	looks
	reads
	stats
	lists
	targets
)

// What a call may use beside its client, its number and its kind.
const (
	useH = 1 << iota
	useG
	useName
	useOther
	useM
	useFolder
	useAt
	useN
	useTime
	useB
)

// uses is what the calls of each kind use.
var uses = [...]int{
	makes:   useH | useName | useM,
	links:   useH | useG | useName,
	removes: useH | useName | useFolder,
	renames: useH | useName | useG | useOther,
	writes:  useH | useAt | useB | useTime,
	cuts:    useH | useN | useTime,
	looks:   useH | useName,
	reads:   useH | useAt | useN,
	stats:   useH,
	lists:   useH,
	targets: useH,
}

const (
	mostClient = 1000000
	mostNumber = 1 << 62
	mostBytes  = 200 // of a call that is written
)

// part is a place in a call, of which one field is written: an *int, a *string or a *bool.
type part struct {
	use   int // what of a call it belongs to; 0, if to what all calls use
	kind  int // of the field
	place any
}

// Encode writes a call.
func Encode(c Call) (string, api.Errno) {
	if !isCall(c) {
		return "", api.ErrCallForm
	}
	b, e := pack.Encode(fields(used(&c)))
	if e != api.OK || len(b) > mostBytes {
		return "", api.ErrCallForm
	}
	return string(b), api.OK
}

// Decode reads a call.
func Decode(s string) (Call, api.Errno) {
	if len(s) > mostBytes {
		return Call{}, api.ErrCallForm
	}
	b := []byte(s)
	first, _, e := pack.Some([]int{api.Whole, api.Whole, api.Small}, b)
	if e != api.OK || !isKind(first[2].N) {
		return Call{}, api.ErrCallForm
	}
	c := Call{Kind: first[2].N}
	l := used(&c)
	all, e := pack.Decode(pack.Kinds(fields(l)), b)
	if e != api.OK {
		return Call{}, api.ErrCallForm
	}
	for k, p := range l {
		p.put(all[k])
	}
	if !isCall(c) {
		return Call{}, api.ErrCallForm
	}
	return c, api.OK
}

// Reads tells whether a kind only reads.
func Reads(kind int) bool {
	return kind >= looks && kind <= targets
}

// isCall tells whether c is one: what its kind does not use is zero.
func isCall(c Call) bool {
	if c.Client < 1 || c.Client > mostClient || c.Number < 1 || c.Number > mostNumber || !isKind(c.Kind) {
		return false
	}
	only := Call{Kind: c.Kind}
	l := used(&c)
	for k, p := range used(&only) {
		p.put(l[k].field())
	}
	return only == c
}

func isKind(kind int) bool {
	return kind >= makes && kind <= targets
}

// parts are all of a call, in the order in which they are written.
func parts(c *Call) []part {
	return []part{
		{0, api.Whole, &c.Client}, {0, api.Whole, &c.Number}, {0, api.Small, &c.Kind},
		{useH, api.Whole, &c.H.Id}, {useH, api.Whole, &c.H.Gen},
		{useG, api.Whole, &c.G.Id}, {useG, api.Whole, &c.G.Gen},
		{useName, api.Text, &c.Name}, {useOther, api.Text, &c.Other},
		{useM, api.Whole, &c.M.Kind}, {useM, api.Whole, &c.M.Mode}, {useM, api.Whole, &c.M.Time}, {useM, api.Text, &c.M.Target},
		{useFolder, api.Switch, &c.Folder},
		{useAt, api.Whole, &c.At}, {useN, api.Whole, &c.N}, {useTime, api.Whole, &c.Time},
		{useB, api.Text, &c.B},
	}
}

// used are those parts of a call that its kind uses.
func used(c *Call) []part {
	var l []part
	for _, p := range parts(c) {
		if p.use == 0 || uses[c.Kind]&p.use != 0 {
			l = append(l, p)
		}
	}
	return l
}

func fields(l []part) []api.Field {
	var all []api.Field
	for _, p := range l {
		all = append(all, p.field())
	}
	return all
}

// field is what is written of a part.
func (p part) field() api.Field {
	f := api.Field{Kind: p.kind}
	switch at := p.place.(type) {
	case *int:
		f.N = *at
	case *string:
		f.S = *at
	case *bool:
		if *at {
			f.N = 1
		}
	}
	return f
}

// put lets a part be what was written of it.
func (p part) put(f api.Field) {
	switch at := p.place.(type) {
	case *int:
		*at = f.N
	case *string:
		*at = f.S
	case *bool:
		*at = f.N == 1
	}
}
