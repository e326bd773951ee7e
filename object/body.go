package object

import (
	"slices"

	"sediment/api"
	"sediment/wire"
)

// said is what an object's body says: nothing of a blob, which may have any bytes.
type said struct {
	entries []api.Entry
	commit  api.Commit
}

// read is what an object's body says, and whether the object may be.
func read(o api.Object) (said, bool) {
	kinds := [...]func(*said, string) bool{
		api.KindBlob:   (*said).readBlob,
		api.KindTree:   (*said).readTree,
		api.KindCommit: (*said).readCommit,
	}
	if o.Kind < api.KindBlob || o.Kind >= len(kinds) || len(o.Body) > api.MaxBody {
		return said{}, false
	}
	var s said
	if !kinds[o.Kind](&s, o.Body) {
		return said{}, false
	}
	return s, true
}

// readBlob takes any bytes.
func (s *said) readBlob(string) bool {
	return true
}

// readTree reads entries till the body ends; nothing ahead of them says how many they are.
func (s *said) readTree(body string) bool {
	r := wire.NewReader(body)
	for r.End() == api.ErrMore {
		kind := r.Number(api.KindTree)
		name := r.Text(api.MaxName)
		s.entries = append(s.entries, api.Entry{Name: name, Kind: kind, Id: r.Id()})
	}
	return r.End() == api.OK && entriesMayBe(s.entries)
}

// readCommit reads a commit.
func (s *said) readCommit(body string) bool {
	r := wire.NewReader(body)
	s.commit.Tree = r.Id()
	for range r.Number(api.MaxParents) {
		s.commit.Parents = append(s.commit.Parents, r.Id())
	}
	s.commit.Text = r.Text(api.MaxText)
	return r.End() == api.OK && commitMayBe(s.commit)
}

// entriesMayBe says whether entries may be.
func entriesMayBe(l []api.Entry) bool {
	if len(l) > api.MaxEntries {
		return false
	}
	for at, e := range l {
		if !nameMayBe(e.Name) || e.Kind != api.KindBlob && e.Kind != api.KindTree {
			return false
		}
		if at > 0 && l[at-1].Name >= e.Name {
			return false
		}
	}
	return true
}

// nameMayBe says whether an entry may have a name.
func nameMayBe(name string) bool {
	if len(name) < 1 || len(name) > api.MaxName {
		return false
	}
	for i := range len(name) { // over bytes: those of longer runes may not be, one by one
		if name[i] < 0x21 || name[i] > 0x7e || name[i] == '/' {
			return false
		}
	}
	return true
}

// commitMayBe says whether a commit may be.
func commitMayBe(c api.Commit) bool {
	if len(c.Parents) > api.MaxParents || len(c.Text) > api.MaxText {
		return false
	}
	for at, id := range c.Parents {
		if slices.Contains(c.Parents[:at], id) {
			return false
		}
	}
	return true
}
