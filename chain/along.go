package chain

import (
	"strings"

	"sediment/api"
	"sediment/delta"
)

// told is what is known of a part's text: it, or why there is none.
type told struct {
	text string
	err  api.Errno
}

// along are the places of a part, its base, that one's base and so on, to a plain one.
func along(l []api.Part, at int) ([]int, api.Errno) {
	var way []int
	err := api.ErrArg
	if len(l) > api.MaxParts || at < 0 || at >= len(l) {
		goto wrong
	}
next:
	if !formed(l[at], at) {
		err = api.ErrForm // of one that is too deep, too: it is told first
		goto wrong
	}
	way = append(way, at)
	if len(way) > api.MaxDepth+1 {
		err = api.ErrDeep
		goto wrong
	}
	if l[at].Delta {
		at = l[at].Base
		goto next
	}
	return way, api.OK
wrong:
	return nil, err
}

// formed says whether a part's base may be, at its place.
func formed(p api.Part, at int) bool {
	if p.Delta {
		return p.Base >= 0 && p.Base < at
	}
	return p.Base == 0
}

// teller tells the texts of a list's parts; one that many parts are told by is found once.
func teller(l []api.Part) func(at int) (string, api.Errno) {
	found := map[int]told{}
	return func(at int) (string, api.Errno) {
		way, err := along(l, at)
		if err != api.OK {
			return "", err
		}
		var t told
		for i := len(way) - 1; i >= 0; i-- { // each one's base is told ahead of it
			known, ok := found[way[i]]
			if !ok {
				known = tell(l[way[i]], t.text)
				found[way[i]] = known
			}
			t = known
			if t.err != api.OK {
				break
			}
		}
		return t.text, t.err
	}
}

// tell is the text of a part whose base has a text, if it has a base.
func tell(p api.Part, base string) told {
	if p.Delta {
		s, err := delta.Apply(base, p.Text)
		return told{s, err}
	}
	if len(p.Text) > api.MaxFrame {
		return told{err: api.ErrRange}
	}
	return told{text: strings.Clone(p.Text)} // an answer would share memory with what was handed in
}
