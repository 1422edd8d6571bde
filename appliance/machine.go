package appliance

import (
	"maps"
	"slices"

	"undercroft/api"
	"undercroft/forest"
	"undercroft/receive"
)

// Which requests a verb is one of.
const (
	administrative = 1 + iota
	changing
	reading
)

// deed is what a verb does.
type deed struct {
	group int
	does  func(m *machine, r api.Request) api.Reply
}

// machine is what is answered, and what is there behind it. (Sessions and the log are the appliance's.)
type machine struct {
	deeds  map[int]deed
	forest *forest.Forest
	grove  api.Grove // the forest's state
	takes  map[string]*receive.Receiver
	weight int
	cap    int
}

// newMachine is one with a forest and streams that are received.
func newMachine(f *forest.Forest, takes map[string]*receive.Receiver, most int) *machine {
	m := &machine{deeds: deeds(), forest: f, grove: f.State(), takes: takes, cap: most}
	m.weight = weigh(m.grove, takes)
	return m
}

// deeds are what all verbs do.
func deeds() map[int]deed {
	return map[int]deed{
		api.VerbCreate:   {administrative, (*machine).create},
		api.VerbDestroy:  {administrative, (*machine).destroy},
		api.VerbRename:   {administrative, (*machine).rename},
		api.VerbSnapshot: {administrative, (*machine).snapshot},
		api.VerbRelease:  {administrative, (*machine).release},
		api.VerbRollback: {administrative, (*machine).rollback},
		api.VerbClone:    {administrative, (*machine).clone},
		api.VerbPromote:  {administrative, (*machine).promote},
		api.VerbBookmark: {administrative, (*machine).bookmark},
		api.VerbForget:   {administrative, (*machine).forget},
		api.VerbSet:      {administrative, (*machine).set},
		api.VerbQuota:    {administrative, (*machine).quota},
		api.VerbReserve:  {administrative, (*machine).reserve},
		api.VerbCommit:   {administrative, (*machine).commit},
		api.VerbDrop:     {administrative, (*machine).drop},
		api.VerbMkdir:    {changing, (*machine).mkdir},
		api.VerbMakeFile: {changing, (*machine).makeFile},
		api.VerbWrite:    {changing, (*machine).write},
		api.VerbTruncate: {changing, (*machine).truncate},
		api.VerbLink:     {changing, (*machine).link},
		api.VerbMove:     {changing, (*machine).move},
		api.VerbRemove:   {changing, (*machine).remove},
		api.VerbChmod:    {changing, (*machine).chmod},
		api.VerbVolWrite: {changing, (*machine).volWrite},
		api.VerbDiscard:  {changing, (*machine).discard},
		api.VerbTake:     {changing, (*machine).take},
		api.VerbFeed:     {changing, (*machine).feed},
		api.VerbSync:     {reading, (*machine).sync},
		api.VerbGet:      {reading, (*machine).get},
		api.VerbUsed:     {reading, (*machine).used},
		api.VerbDatasets: {reading, (*machine).datasets},
		api.VerbSnaps:    {reading, (*machine).snaps},
		api.VerbRead:     {reading, (*machine).read},
		api.VerbList:     {reading, (*machine).list},
		api.VerbStat:     {reading, (*machine).stat},
		api.VerbVolRead:  {reading, (*machine).volRead},
		api.VerbSend:     {reading, (*machine).send},
		api.VerbToken:    {reading, (*machine).token},
	}
}

// dataset is one of the forest's state; nil: there is none.
func (m *machine) dataset(name string) *api.Dataset {
	i := slices.IndexFunc(m.grove.Datasets, func(d api.Dataset) bool { return d.Name == name })
	if i < 0 {
		return nil
	}
	return &m.grove.Datasets[i]
}

// do does what a request asks; its reply has no session and no number yet.
func (m *machine) do(r api.Request) api.Reply {
	d := m.deeds[r.Verb]
	if d.group == reading {
		return d.does(m, r)
	}
	takes := maps.Clone(m.takes)
	if t := takes[r.Name]; r.Verb == api.VerbFeed && t != nil && m.weight+len(r.Data) > m.cap {
		takes[r.Name], _ = receive.Load(t.Save()) // it may have to be as it was
	}
	clock := m.forest.Clock()
	reply := d.does(m, r)
	grove := m.grove
	if m.forest.Clock() != clock {
		grove = m.forest.State()
	}
	weight := weigh(grove, m.takes)
	if weight > m.cap && weight > m.weight {
		m.forest, _ = forest.Load(m.grove)
		m.takes = takes
		return api.Reply{Err: api.ErrNoSpace}
	}
	m.grove, m.weight = grove, weight
	return reply
}

// weigh is the weight of a state.
func weigh(g api.Grove, takes map[string]*receive.Receiver) int {
	n := 2048
	for _, d := range g.Datasets {
		n += 64 + len(d.Name) + weighCells(d.Cells)
		for _, p := range d.Props {
			n += 8 + len(p.Name) + len(p.Value)
		}
		for _, x := range d.Marks {
			n += 24 + len(x.Name)
		}
		for _, s := range d.Snaps {
			n += 32 + len(s.Name) + weighCells(s.Cells)
		}
	}
	for name, t := range takes {
		n += 16 + saved(name, t)
	}
	return n
}

// saved is how many bytes a take's Save has.
func saved(name string, t *receive.Receiver) int { return 2 + len(name) + t.Token().Bytes }

func weighCells(l []api.Cell) int {
	n := 0
	for _, c := range l {
		n += 16 + len(c.Data)
	}
	return n
}

// told are the streams that are received, by names.
func (m *machine) told() []api.Take {
	var l []api.Take
	for _, name := range slices.Sorted(maps.Keys(m.takes)) {
		t := m.takes[name]
		l = append(l, api.Take{Name: name, Token: t.Token(), Saved: t.Save()})
	}
	return l
}

// only is a reply with an error alone.
func only(e api.Errno) api.Reply { return api.Reply{Err: e} }
