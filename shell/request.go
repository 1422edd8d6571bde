package shell

import (
	"strconv"
	"strings"

	"undercroft/api"
	"undercroft/replica"
)

const (
	session      = 1 // of a script's own requests
	replications = 8 // the session of replications
)

// verb is what a word asks for, and which words may follow, a letter each.
type verb struct {
	verb  int
	forms []string
}

// verbs are all. The letters: Name, Item, Other, Path, At, Many, Text, and S for the word sync.
func verbs() map[string]verb {
	return map[string]verb{
		"create":   {api.VerbCreate, []string{"N", "NM"}},
		"destroy":  {api.VerbDestroy, []string{"N"}},
		"promote":  {api.VerbPromote, []string{"N"}},
		"used":     {api.VerbUsed, []string{"N"}},
		"snaps":    {api.VerbSnaps, []string{"N"}},
		"rename":   {api.VerbRename, []string{"NO"}},
		"snapshot": {api.VerbSnapshot, []string{"NI"}},
		"release":  {api.VerbRelease, []string{"NI"}},
		"rollback": {api.VerbRollback, []string{"NI"}},
		"forget":   {api.VerbForget, []string{"NI"}},
		"get":      {api.VerbGet, []string{"NI"}},
		"clone":    {api.VerbClone, []string{"NIO"}},
		"bookmark": {api.VerbBookmark, []string{"NIO"}},
		"set":      {api.VerbSet, []string{"NIO"}},
		"quota":    {api.VerbQuota, []string{"NM"}},
		"reserve":  {api.VerbReserve, []string{"NM"}},
		"mkdir":    {api.VerbMkdir, []string{"NPM"}},
		"file":     {api.VerbMakeFile, []string{"NPM"}},
		"truncate": {api.VerbTruncate, []string{"NPM"}},
		"chmod":    {api.VerbChmod, []string{"NPM"}},
		"write":    {api.VerbWrite, []string{"NPAT", "NPATS"}},
		"link":     {api.VerbLink, []string{"NPO"}},
		"move":     {api.VerbMove, []string{"NPO"}},
		"remove":   {api.VerbRemove, []string{"NP"}},
		"list":     {api.VerbList, []string{"NP"}},
		"stat":     {api.VerbStat, []string{"NP"}},
		"read":     {api.VerbRead, []string{"NPAM", "NPAMI"}},
		"put":      {api.VerbVolWrite, []string{"NAT"}},
		"discard":  {api.VerbDiscard, []string{"NAM"}},
		"view":     {api.VerbVolRead, []string{"NAM"}},
		"sync":     {api.VerbSync, []string{""}},
		"datasets": {api.VerbDatasets, []string{""}},
	}
}

// put puts a word into a request.
func put(r *api.Request, letter byte, word string) error {
	var err error
	switch letter {
	case 'N':
		r.Name = word
	case 'I':
		r.Item = word
	case 'O':
		r.Other = word
	case 'P':
		r.Path = word
	case 'T':
		r.Data = []byte(word)
	case 'A':
		r.At, err = number(word)
	case 'M':
		r.Many, err = number(word)
	case 'S':
		r.Item = word
		if word != "sync" {
			err = badLine{"not sync"}
		}
	}
	if err == nil && word == "" {
		err = badLine{"a blank too many"}
	}
	return err
}

// read is the request that words behind the appliance's are.
func read(words []string) (api.Request, error) {
	if len(words) == 0 {
		return api.Request{}, badLine{"no verb"}
	}
	v, ok := verbs()[words[0]]
	if !ok {
		return api.Request{}, badLine{"no such verb"}
	}
	args := words[1:]
	for _, form := range v.forms {
		if len(form) != len(args) {
			continue
		}
		r := api.Request{Verb: v.verb}
		for i, word := range args {
			if err := put(&r, form[i], word); err != nil {
				return api.Request{}, err
			}
		}
		return r, nil
	}
	return api.Request{}, badLine{"too few words, or too many"}
}

// request asks an appliance: `X VERB ARG ..`.
func (s *script) request(words []string) (string, error) {
	b, err := s.there(words[0])
	if err != nil {
		return "", err
	}
	r, err := read(words[1:])
	if err != nil {
		return "", err
	}
	b.asked++
	r.Session, r.ID = session, b.asked
	return told(b.appliance.Ask(r)), nil
}

// told is a reply as text.
func told(a api.Reply) string {
	if a.Err != api.OK {
		return result(a.Err, 0)
	}
	l := []string{"ok"}
	if a.Number != 0 {
		l = append(l, strconv.Itoa(a.Number))
	}
	if a.Text != "" {
		l = append(l, `"`+a.Text+`"`)
	}
	if len(a.List) > 0 {
		l = append(l, "["+strings.Join(a.List, ", ")+"]")
	}
	if len(a.Data) > 0 {
		l = append(l, hex(a.Data))
	}
	return strings.Join(l, " ")
}

// hex is bytes as digits to the base sixteen.
func hex(b []byte) string {
	const digits = "0123456789abcdef"
	var out strings.Builder
	for _, x := range b {
		out.WriteByte(digits[x>>4])
		out.WriteByte(digits[x&15])
	}
	return out.String()
}

// replicate carries a snapshot over: `replicate X NAME SNAP BASE TO`.
func (s *script) replicate(words []string) (string, error) {
	if len(words) != 6 {
		return "", badLine{"no replication"}
	}
	for _, w := range words {
		if w == "" {
			return "", badLine{"a blank too many"}
		}
	}
	from, err := s.there(words[1])
	if err != nil {
		return "", err
	}
	other := "b"
	if words[1] == "b" {
		other = "a"
	}
	to, err := s.there(other)
	if err != nil {
		return "", err
	}
	j := api.Job{Name: words[2], Snap: words[3], Base: words[4], To: words[5], Session: replications, First: s.asked + 1, Anew: true}
	if j.Base == "-" {
		j.Base = ""
	}
	if e := s.carry(j, from, to); e != api.OK {
		return "failed " + strconv.Itoa(int(e)), nil
	}
	return "done", nil
}

// carry asks what a replication asks, till it goes no more: why it failed, or OK.
func (s *script) carry(j api.Job, from, to *box) api.Errno {
	r, e := replica.New(j)
	if e != api.OK {
		return e
	}
	for {
		q, who, goes := r.Next()
		if !goes {
			_, _, e := r.State()
			return e
		}
		b := from
		if who == 1 {
			b = to
		}
		s.asked = max(s.asked, q.ID)
		a := b.appliance.Ask(q)
		if a.Err == api.ErrState { // it would be asked without an end
			return a.Err
		}
		r.Hear(who, a)
	}
}
