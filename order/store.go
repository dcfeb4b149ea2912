package order

import (
	"strings"

	"harpsichord/api"
	"harpsichord/ledger"
	"harpsichord/pack"
	"harpsichord/platter"
)

// A disk's first sector has the sign that it is a node's; all others have a ledger, of which the first record has the views, and each other one an entry. The sign is written ahead of all else, and a crash keeps writes in their order. So a disk without it is new only if nothing is on it, or a piece of the sign: a ledger alone does not tell its own torn beginnings from what somebody else wrote.
const (
	sign         = "harpsichord order"
	signs        = 1    // sectors
	leastSectors = 1100 // which a full log may need
)

// lasting is what lasts of a node.
type lasting struct {
	promised, normal int
	log              []api.Entry
}

// store keeps what lasts.
type store struct {
	disk   *platter.Disk
	ledger *ledger.Ledger
	signed bool
}

// openStore finds what is on a disk that is not dead, and has sectors enough; false, if that is nothing of a node's.
func openStore(d *platter.Disk) (*store, lasting, bool) {
	l, e := ledger.Open(d, signs, d.Many()-signs)
	if e != api.OK {
		return nil, lasting{}, false
	}
	s := &store{d, l, text(d, 0) == sign}
	if !s.signed && !isNew(d) {
		return nil, lasting{}, false
	}
	what, ok := toLasting(l.All())
	return s, what, ok
}

// keep lets this last, and nothing else. If the disk dies, what lasted does so yet, or this.
func (s *store) keep(what lasting) {
	if !s.signed {
		s.disk.Write(0, []byte(sign)) // waits for the ledger's Sync
		s.signed = true
	}
	all := []string{record(ofViews(what.promised, what.normal))}
	for _, x := range what.log {
		all = append(all, record(ofEntry(x)))
	}
	s.ledger.Replace(all)
}

// add lets entries last behind those that do.
func (s *store) add(l []api.Entry) {
	for _, x := range l {
		s.ledger.Append(record(ofEntry(x)))
	}
	s.ledger.Sync()
}

// isNew tells whether there is nothing on a disk, but perhaps what the sign begins with.
func isNew(d *platter.Disk) bool {
	for n := signs; n < d.Many(); n++ {
		if text(d, n) != "" {
			return false
		}
	}
	return strings.HasPrefix(sign, text(d, 0))
}

// text is what stands in a sector, without the bytes 0 behind it.
func text(d *platter.Disk, n int) string {
	b, _ := d.Read(n)
	return strings.TrimRight(string(b), "\x00")
}

// toLasting is what lasts by these records; false, if no node wrote them.
func toLasting(all []string) (lasting, bool) {
	if len(all) == 0 {
		return lasting{}, true
	}
	f, e := pack.Decode(pack.Kinds(ofViews(0, 0)), []byte(all[0]))
	if e != api.OK {
		return lasting{}, false
	}
	what := lasting{promised: f[0].N, normal: f[1].N}
	for _, r := range all[1:] {
		f, e := pack.Decode(pack.Kinds(ofEntry(api.Entry{})), []byte(r))
		if e != api.OK {
			return lasting{}, false
		}
		what.log = append(what.log, toEntry(f))
	}
	return what, what.normal <= what.promised && isLogTo(what.normal, what.log)
}

// ofViews are the fields of the first record.
func ofViews(promised, normal int) []api.Field {
	return []api.Field{whole(promised), whole(normal)}
}
