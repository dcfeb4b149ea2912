package order

import (
	"slices"

	"harpsichord/api"
	"harpsichord/pack"
	"harpsichord/rank"
)

// The kinds of messages.
const (
	ask   = 1 + iota // others to join a view
	join             // it, with the log that one has
	start            // it with this log
	put              // entries behind those of that Number
	ack              // how far one's log goes
	tell             // how far it is committed
)

// The bounds of what is in a message, and in a log.
const (
	mostView    = 1 << 62
	mostEntries = 150
	mostBody    = 200 // bytes
)

// Message is one between nodes.
type Message struct {
	Kind, View, Normal, Number int
	L                          []api.Entry
}

// Encode writes a message.
func Encode(m Message) (string, api.Errno) {
	if !isMessage(m) {
		return "", api.ErrOrderForm
	}
	l := ofMessage(m)
	for _, x := range m.L {
		l = append(l, ofEntry(x)...)
	}
	return record(l), api.OK
}

// Decode reads a message.
func Decode(s string) (Message, api.Errno) {
	b := []byte(s)
	f, size, e := pack.Some(pack.Kinds(ofMessage(Message{})), b)
	if e != api.OK {
		return Message{}, api.ErrOrderForm
	}
	m := Message{Kind: f[0].N, View: f[1].N, Normal: f[2].N, Number: f[3].N}
	kinds := pack.Kinds(ofEntry(api.Entry{}))
	l, e := pack.Decode(slices.Repeat(kinds, f[4].N), b[size:])
	for part := range slices.Chunk(l, len(kinds)) {
		m.L = append(m.L, toEntry(part))
	}
	if e != api.OK || !isMessage(m) {
		return Message{}, api.ErrOrderForm
	}
	return m, api.OK
}

// isMessage tells whether m is one: what its kind does not use is zero, or empty.
func isMessage(m Message) bool {
	if m.View < 1 || m.View > mostView {
		return false
	}
	switch m.Kind {
	case ask:
		return m.Normal == 0 && m.Number == 0 && len(m.L) == 0
	case join:
		return m.Normal >= 0 && m.Normal < m.View && m.Number == 0 && isLogTo(m.Normal, m.L)
	case start:
		return m.Normal == 0 && m.Number == 0 && isLogTo(m.View-1, m.L)
	case put:
		return m.Normal == 0 && isPartTo(m.View, m.Number, m.L)
	case ack, tell:
		return m.Normal == 0 && m.Number >= 0 && m.Number <= mostEntries && len(m.L) == 0
	}
	return false
}

// isLogTo tells whether entries are a log whose Views are at most that one.
func isLogTo(view int, l []api.Entry) bool {
	return rank.Right(l) && lastView(l) <= view
}

// isPartTo tells whether entries, perhaps none, can stand in such a log behind so many first ones.
func isPartTo(view, first int, l []api.Entry) bool {
	if first < 0 || len(l) > mostEntries-first {
		return false
	}
	alone := slices.Clone(l)
	for at := range alone {
		alone[at].Number -= first
	}
	return isLogTo(view, alone)
}

// lastView is the View of the last entry, which is the greatest one; 0 of none.
func lastView(l []api.Entry) int {
	if len(l) == 0 {
		return 0
	}
	return l[len(l)-1].View
}

// ofMessage are a message's own fields, behind which those of its entries stand.
func ofMessage(m Message) []api.Field {
	return []api.Field{small(m.Kind), whole(m.View), whole(m.Normal), whole(m.Number), small(len(m.L))}
}

func ofEntry(x api.Entry) []api.Field {
	return []api.Field{whole(x.View), whole(x.Number), {Kind: api.Text, S: x.Body}}
}

// toEntry is the entry of which ofEntry tells these fields.
func toEntry(f []api.Field) api.Entry {
	return api.Entry{View: f[0].N, Number: f[1].N, Body: f[2].S}
}

// record is a record of fields with which nothing is amiss.
func record(l []api.Field) string {
	b, _ := pack.Encode(l)
	return string(b)
}

func small(n int) api.Field {
	return api.Field{Kind: api.Small, N: n}
}

func whole(n int) api.Field {
	return api.Field{Kind: api.Whole, N: n}
}
