package shell

import (
	"strconv"
	"strings"

	"undercroft/api"
	"undercroft/appliance"
	"undercroft/disk"
	"undercroft/heal"
	"undercroft/store"
	"undercroft/vdev"
)

// box is an appliance, and what it stands on.
type box struct {
	kind      int
	power     *disk.Power
	disks     []*disk.Disk
	store     *store.Store
	appliance *appliance.Appliance
	asked     int // the number of its last request
}

// kind is which kind of top a word is; 0: none.
func kind(word string) int {
	switch word {
	case "single":
		return api.Single
	case "mirror":
		return api.Mirror
	case "parity":
		return api.Parity
	}
	return 0
}

// made is a new one.
func made(pool uint64, kind, leaves, sectors, seed int) (*box, api.Errno) {
	if leaves > api.MaxLeaves {
		return nil, api.ErrArg
	}
	b := &box{kind: kind, power: disk.NewPower()}
	for range leaves {
		d, e := disk.New(b.power, sectors)
		if e != api.OK {
			return nil, e
		}
		b.disks = append(b.disks, d)
	}
	t, e := vdev.Create(pool, []api.Top{{Kind: kind, Leaves: leaves, Sectors: sectors}}, b.disks)
	if e != api.OK {
		return nil, e
	}
	if b.store, e = store.New(t); e != api.OK {
		return nil, e
	}
	if b.appliance, e = appliance.New(b.store, "tank", seed); e != api.OK {
		return nil, e
	}
	return b, api.OK
}

// make makes an appliance: `make X KIND LEAVES SECTORS SEED`.
func (s *script) make(words []string) (string, error) {
	if len(words) != 6 || words[1] != "a" && words[1] != "b" || kind(words[2]) == 0 {
		return "", badLine{"no making"}
	}
	var n [3]int
	for i := range n {
		x, err := number(words[3+i])
		if err != nil {
			return "", err
		}
		n[i] = x
	}
	pool := uint64(1)
	if words[1] == "b" {
		pool = 2
	}
	b, e := made(pool, kind(words[2]), n[0], n[1], n[2])
	if e != api.OK {
		return result(e, 0), nil
	}
	s.boxes[words[1]] = b
	return result(api.OK, b.appliance.Machine().Cap), nil
}

// crash lets the power go out, and no write that waits stays.
func (s *script) crash(words []string) (string, error) { return s.restart(words, false) }

// keep lets the power go out, and all writes that wait stay.
func (s *script) keep(words []string) (string, error) { return s.restart(words, true) }

// restart lets the power go out and come back; all is opened anew.
func (s *script) restart(words []string, stay bool) (string, error) {
	if len(words) != 2 {
		return "", badLine{"no crash"}
	}
	b, err := s.there(words[1])
	if err != nil {
		return "", err
	}
	all := make([]bool, b.power.Waiting())
	for i := range all {
		all[i] = stay
	}
	b.power.Up(all)
	if e := b.open(); e != api.OK {
		return result(e, 0), nil
	}
	return result(api.OK, b.appliance.Machine().Logged), nil
}

// open opens it anew, from the disks that have not failed.
func (b *box) open() api.Errno {
	var whole []*disk.Disk
	for _, d := range b.disks {
		if !d.Failed() {
			whole = append(whole, d)
		}
	}
	t, e := vdev.Import(whole)
	if e != api.OK {
		return e
	}
	st, e := store.Open(t)
	if e != api.OK {
		return e
	}
	a, e := appliance.Open(st)
	if e != api.OK {
		return e
	}
	b.store, b.appliance = st, a
	return api.OK
}

// disk is the appliance and the number of the disk that words name.
func (s *script) disk(words []string) (*box, int, error) {
	if len(words) != 3 {
		return nil, 0, badLine{"no disk"}
	}
	b, err := s.there(words[1])
	if err != nil {
		return nil, 0, err
	}
	n, err := number(words[2])
	if err == nil && n >= len(b.disks) {
		err = badLine{"no such disk"}
	}
	return b, n, err
}

// fail lets a disk fail: `fail X D`.
func (s *script) fail(words []string) (string, error) {
	b, n, err := s.disk(words)
	if err != nil {
		return "", err
	}
	bad := b.kind == api.Single
	for _, d := range b.disks {
		bad = bad || d.Failed()
	}
	if bad {
		return done(api.ErrRequest), nil
	}
	b.disks[n].Fail()
	return done(api.OK), nil
}

// new replaces a disk that has failed: `new X D`.
func (s *script) new(words []string) (string, error) {
	b, n, err := s.disk(words)
	if err != nil {
		return "", err
	}
	if !b.disks[n].Failed() {
		return done(api.ErrRequest), nil
	}
	b.disks[n].Replace()
	return done(b.heal(n)), nil
}

// heal gives a new disk what it lacks.
func (b *box) heal(n int) api.Errno {
	const top, blocks = 0, 1000
	e := b.store.Tank().Replace(top, n, b.disks[n], b.store.Txg())
	for c := (api.Cursor{}); e == api.OK && !c.Done; {
		c, _, e = heal.Resilver(b.store, top, n, c, blocks)
	}
	return e
}

// state tells how an appliance stands: `state X`.
func (s *script) state(words []string) (string, error) {
	if len(words) != 2 {
		return "", badLine{"no state"}
	}
	b, err := s.there(words[1])
	if err != nil {
		return "", err
	}
	m := b.appliance.Machine()
	var names []string
	for _, d := range m.Grove.Datasets {
		names = append(names, d.Name)
	}
	return strings.Join(names, " ") + "; logged " + strconv.Itoa(m.Logged) + "; flushed " + strconv.Itoa(b.appliance.Flushed()), nil
}
