package pack

import (
	"sediment/api"
	"sediment/wire"
)

// mark is what a pack's bytes begin with.
const mark = "SPK1"

// maxText is how many bytes a part's text that is read has, at most; no part of a pack comes near it.
const maxText = 1 << 16

// reader reads parts.
type reader struct {
	*wire.Reader
}

// parts are those that the bytes begin with, at most as many as they say; their spots; and whether these are all that was said, with nothing behind them.
func (r reader) parts() (l []api.Part, spots []int, all bool) {
	var n, spot int
	var p api.Part
	if r.Raw(len(mark)) != mark {
		goto end
	}
	n = r.Number(api.MaxParts)
next:
	if len(l) == n {
		all = r.End() == api.OK
		goto end
	}
	spot = r.At()
	p = r.part(len(l))
	if r.Err() != api.OK {
		goto end
	}
	l, spots = append(l, p), append(spots, spot)
	goto next
end:
	return l, spots, all
}

// part is the one that is to stand at a place; whether its base may be is asked of the whole list.
func (r reader) part(at int) api.Part {
	n := r.Number(api.MaxParts)
	p := api.Part{Delta: n > 0, Text: r.Text(maxText)}
	if p.Delta {
		p.Base = at - n
	}
	return p
}

// ahead is how far a part's base is ahead of it, at its place; 0, if it has none.
func ahead(p api.Part, at int) int {
	if !p.Delta {
		return 0
	}
	return at - p.Base
}
