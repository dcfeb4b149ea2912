package zstate

import (
	"slices"

	"harpsichord/api"
	"harpsichord/lease"
	"harpsichord/pack"
	"harpsichord/ztree"
)

// Encode writes a transaction.
func Encode(t Txn) ([]byte, api.Errno) {
	if len(t.L) > mostChanges {
		return nil, api.ErrStateForm
	}
	l := ofTxn(t)
	for _, c := range t.L {
		l = append(l, ofChange(c)...)
	}
	b, e := pack.Encode(l)
	if e != api.OK || len(b) > api.MaxRecord {
		return nil, api.ErrStateForm
	}
	return b, api.OK
}

// Decode reads a transaction.
func Decode(b []byte) (Txn, api.Errno) {
	f, l, is := apart(ofTxn(Txn{}), ofChange(api.Change{}), b)
	if !is {
		return Txn{}, api.ErrStateForm
	}
	t := Txn{Kind: f[0].N, Session: f[1].N, Number: f[2].N, Span: f[3].N, Now: f[4].N}
	for _, c := range l {
		t.L = append(t.L, api.Change{Kind: c[0].N, Path: c[1].S, Data: c[2].S, Version: c[3].N - 1, Ephemeral: c[4].N == 1, Sequence: c[5].N == 1})
	}
	return t, api.OK
}

// Pack makes records: a first one, one of each znode, and one of each lease.
func (s *State) Pack() []string {
	znodes, leases := s.tree.All(), s.leases.All()
	l := []string{record(ofState(s.zxid, len(znodes), len(leases)))}
	for _, z := range znodes {
		l = append(l, record(ofZnode(z)))
	}
	for _, x := range leases {
		l = append(l, record(ofLease(x, s.last[x.Id])))
	}
	return l
}

// Load is the state whose Pack is l.
func Load(l []string) (*State, api.Errno) {
	if len(l) == 0 {
		return nil, api.ErrStateForm
	}
	f, e := pack.Decode(pack.Kinds(ofState(0, 0, 0)), []byte(l[0]))
	if e != api.OK || 1+f[1].N+f[2].N != len(l) {
		return nil, api.ErrStateForm
	}
	behind := 1 + f[1].N // the last znode
	tree, isTree := loadTree(l[1:behind])
	leases, last, areLeases := loadLeases(l[behind:])
	if !isTree || !areLeases {
		return nil, api.ErrStateForm
	}
	return &State{f[0].N, tree, leases, last}, api.OK
}

// loadTree is the tree of some znodes' records; false, if there is none.
func loadTree(l []string) (*ztree.Tree, bool) {
	var all []api.Znode
	for _, r := range l {
		f, e := pack.Decode(pack.Kinds(ofZnode(api.Znode{})), []byte(r))
		if e != api.OK {
			return nil, false
		}
		stat := api.Stat{Created: f[2].N, Changed: f[3].N, Children: f[4].N, Version: f[5].N, Kids: f[6].N, Owner: f[7].N}
		all = append(all, api.Znode{Path: f[0].S, Data: f[1].S, Stat: stat, Next: f[8].N})
	}
	tree, e := ztree.Load(all)
	return tree, e == api.OK
}

// loadLeases are the leases of some records, and what was last done for these; false, if they are none.
func loadLeases(l []string) (*lease.Table, map[int]done, bool) {
	var all []lease.Lease
	last := map[int]done{}
	for _, r := range l {
		f, paths, is := apart(ofLease(lease.Lease{}, done{}), ofPath(""), []byte(r))
		if !is {
			return nil, nil, false
		}
		d := done{f[3].N, Reply{Code: api.Errno(f[4].N)}}
		for _, path := range paths {
			d.reply.Paths = append(d.reply.Paths, path[0].S)
		}
		if !d.possible() {
			return nil, nil, false
		}
		x := lease.Lease{Id: f[0].N, Span: f[1].N, Last: f[2].N}
		all = append(all, x)
		last[x.Id] = d
	}
	leases, e := lease.Load(all)
	return leases, last, e == api.OK
}

// possible tells whether it can be what was last done: without a Number nothing was, and an error has no paths.
func (d done) possible() bool {
	failed, paths := d.reply.Code != api.OK, len(d.reply.Paths) > 0
	if d.number == 0 {
		return !failed && !paths
	}
	return !failed || !paths
}

// apart reads a record: its head's fields, of which the last one says how many parts there are, and those of each part. The fields that it is given say of which kinds these are. False, if it is no such record.
func apart(head, part []api.Field, b []byte) ([]api.Field, [][]api.Field, bool) {
	f, size, e := pack.Some(pack.Kinds(head), b)
	if e != api.OK || len(b) > api.MaxRecord {
		return nil, nil, false
	}
	many := f[len(f)-1].N
	if many > mostChanges {
		return nil, nil, false
	}
	rest, e := pack.Decode(slices.Repeat(pack.Kinds(part), many), b[size:])
	if e != api.OK {
		return nil, nil, false
	}
	return f, slices.Collect(slices.Chunk(rest, len(part))), true
}

// record is a record of fields with which nothing is amiss.
func record(l []api.Field) string {
	b, _ := pack.Encode(l)
	return string(b)
}

// ofTxn are a transaction's own fields, behind which those of its changes stand.
func ofTxn(t Txn) []api.Field {
	return []api.Field{small(t.Kind), whole(t.Session), whole(t.Number), whole(t.Span), whole(t.Now), small(len(t.L))}
}

// ofChange are a change's fields. Its Version is -1 at least, which no field can have.
func ofChange(c api.Change) []api.Field {
	return []api.Field{small(c.Kind), text(c.Path), text(c.Data), whole(c.Version + 1), flag(c.Ephemeral), flag(c.Sequence)}
}

// ofState are the fields of a state's first record.
func ofState(zxid, znodes, leases int) []api.Field {
	return []api.Field{whole(zxid), small(znodes), small(leases)}
}

func ofZnode(z api.Znode) []api.Field {
	s := z.Stat
	return []api.Field{text(z.Path), text(z.Data), whole(s.Created), whole(s.Changed), whole(s.Children), whole(s.Version), whole(s.Kids), whole(s.Owner), whole(z.Next)}
}

// ofLease are the fields of a lease, and of what was last done for it.
func ofLease(x lease.Lease, d done) []api.Field {
	l := []api.Field{whole(x.Id), whole(x.Span), whole(x.Last), whole(d.number), small(int(d.reply.Code)), small(len(d.reply.Paths))}
	for _, path := range d.reply.Paths {
		l = append(l, ofPath(path)...)
	}
	return l
}

func ofPath(path string) []api.Field {
	return []api.Field{text(path)}
}

func small(n int) api.Field {
	return api.Field{Kind: api.Small, N: n}
}

func whole(n int) api.Field {
	return api.Field{Kind: api.Whole, N: n}
}

func text(s string) api.Field {
	return api.Field{Kind: api.Text, S: s}
}

func flag(is bool) api.Field {
	f := api.Field{Kind: api.Switch}
	if is {
		f.N = 1
	}
	return f
}
