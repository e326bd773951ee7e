package chain_test

import (
	"math"
	"slices"
	"strconv"
	"strings"
	"testing"
	"unsafe"

	"sediment/api"
	"sediment/chain"
	"sediment/delta"
)

const whole = "0123456789abcdef"

// example is the delta of the document: "x" and all of whole.
const example = "\x10\x11\x02\x78\x21\x00"

// text is n bytes of some letters, of which no stretch is like the next one.
func text(n, seed int, letters string) string {
	b := make([]byte, n)
	x := uint32(seed)*2654435761 + 12345
	for i := range b {
		x = x*1664525 + 1013904223
		b[i] = letters[int(x>>16)%len(letters)]
	}
	return string(b)
}

// run are n bytes that are alike.
func run(n int) string {
	return strings.Repeat("a", n)
}

// plain is a part that is told by itself.
func plain(s string) api.Part {
	return api.Part{Text: s}
}

// of is a part that tells s by the text t of the part at base.
func of(base int, t, s string) api.Part {
	d, err := delta.Write(len(t), delta.Make(t, s)...)
	if err != api.OK {
		panic(strconv.Itoa(int(err)))
	}
	return api.Part{Delta: true, Base: base, Text: d}
}

// raw is a part that is a delta of bytes.
func raw(base int, d string) api.Part {
	return api.Part{Delta: true, Base: base, Text: d}
}

// tower are n parts, each a delta of the one ahead of it, and their texts.
func tower(n int) (l []api.Part, texts []string) {
	for i := range n {
		s := whole + strings.Repeat("+", i)
		if i == 0 {
			l = append(l, plain(s))
		} else {
			l = append(l, of(i-1, texts[i-1], s))
		}
		texts = append(texts, s)
	}
	return l, texts
}

// show is a list of parts to be read.
func show(l []api.Part) string {
	var s []string
	for _, p := range l {
		s = append(s, strconv.FormatBool(p.Delta)+" "+strconv.Itoa(p.Base)+" "+strconv.Quote(p.Text[:min(len(p.Text), 40)]))
	}
	return strings.Join(s, ", ")
}

// wantDepth is a part's depth, by another hand than the program's.
func wantDepth(l []api.Part, at int) (int, api.Errno) {
	if len(l) > 200 || at < 0 || at >= len(l) {
		return 0, api.ErrArg
	}
	for n := 0; ; n++ {
		switch p := l[at]; {
		case p.Delta && (p.Base < 0 || p.Base >= at), !p.Delta && p.Base != 0:
			return 0, api.ErrForm
		case n == 5:
			return 0, api.ErrDeep
		case !p.Delta:
			return n, api.OK
		default:
			at = p.Base
		}
	}
}

// wantText is a part's text, by that hand: the base's is asked for first.
func wantText(l []api.Part, at int) (string, api.Errno) {
	if _, err := wantDepth(l, at); err != api.OK {
		return "", err
	}
	p := l[at]
	if !p.Delta && len(p.Text) > 4099 {
		return "", api.ErrRange
	}
	if !p.Delta {
		return p.Text, api.OK
	}
	base, err := wantText(l, p.Base)
	if err != api.OK {
		return "", err
	}
	return delta.Apply(base, p.Text)
}

// wantAll are the texts of all parts, by that hand.
func wantAll(l []api.Part) ([]string, api.Errno) {
	var all []string
	for at := range l {
		s, err := wantText(l, at)
		if err != api.OK {
			return nil, err
		}
		all = append(all, s)
	}
	return all, api.OK
}

// wantPack are the parts of texts, by that hand: each one's depth is kept beside it.
func wantPack(texts []string, bases []int) (l []api.Part) {
	var depths []int
	for i, s := range texts {
		b := bases[i]
		l, depths = append(l, plain(s)), append(depths, 0)
		if b < 0 || b >= i || depths[b] == 4 {
			continue
		}
		if p := of(b, texts[b], s); len(p.Text) < len(s) {
			l[i], depths[i] = p, depths[b]+1
		}
	}
	return l
}

// hold holds all that is told of a list against what the other hand tells, and says whether it is right.
func hold(t *testing.T, l []api.Part) bool {
	t.Helper()
	for at := -2; at < len(l)+2; at++ {
		depth, err := chain.Depth(l, at)
		if want, wantErr := wantDepth(l, at); depth != want || err != wantErr {
			t.Errorf("%.300s: depth of %d: %d, error %d; not %d, error %d", show(l), at, depth, err, want, wantErr)
		}
		s, err := chain.Text(l, at)
		if want, wantErr := wantText(l, at); s != want || err != wantErr {
			t.Errorf("%.300s: text of %d: %.40q, error %d; not %.40q, error %d", show(l), at, s, err, want, wantErr)
		}
	}
	all, err := chain.All(l)
	want, wantErr := wantAll(l)
	if !slices.Equal(all, want) || err != wantErr {
		t.Errorf("%.300s: %.99q, error %d; not %.99q, error %d", show(l), all, err, want, wantErr)
	}
	right := chain.Right(l)
	if right != (wantErr == api.OK) {
		t.Errorf("%.300s: right %t", show(l), right)
	}
	return right
}

func TestExample(t *testing.T) { // P9.1, P9.2, P9.3
	l := []api.Part{plain(whole), raw(0, example)}
	want := []string{whole, "x" + whole}
	if !chain.Right(l) {
		t.Error("not right")
	}
	for at, s := range want {
		if depth, err := chain.Depth(l, at); depth != at || err != api.OK {
			t.Errorf("depth of %d: %d, error %d", at, depth, err)
		}
		if got, err := chain.Text(l, at); got != s || err != api.OK {
			t.Errorf("text of %d: %q, error %d", at, got, err)
		}
	}
	if all, err := chain.All(l); !slices.Equal(all, want) || err != api.OK {
		t.Errorf("%q, error %d", all, err)
	}
	if got, err := chain.Pack(want, []int{-1, 0}); !slices.Equal(got, l) || err != api.OK {
		t.Errorf("packed: %s, error %d", show(got), err)
	}
}

func TestRight(t *testing.T) { // P9.1
	full := slices.Repeat([]api.Part{plain("a")}, 200)
	deep, _ := tower(5)
	deeper, _ := tower(6)
	bare := []api.Part{plain(whole)}
	for i, c := range []struct {
		l    []api.Part
		want bool
	}{
		{nil, true},
		{[]api.Part{}, true},
		{[]api.Part{{}}, true},
		{bare, true},
		{full, true},
		{append(slices.Clip(full), plain("a")), false}, // too many
		{slices.Repeat([]api.Part{plain("a")}, 1<<20), false},
		{[]api.Part{plain(run(4099))}, true},
		{[]api.Part{plain(run(4100))}, false},
		{[]api.Part{plain(run(1 << 20))}, false},
		{append(slices.Clip(full[:199]), plain(run(4100))), false},
		{[]api.Part{{Base: 1}}, false},
		{[]api.Part{{Base: -1}}, false},
		{[]api.Part{plain(""), {Base: 1}}, false},
		{[]api.Part{plain(""), plain(""), {Base: 1}}, false}, // what is told by itself has no base
		{[]api.Part{{Base: math.MinInt}}, false},
		{[]api.Part{{Base: math.MaxInt}}, false},
		{[]api.Part{raw(0, "\x00\x00")}, false}, // its own base
		{[]api.Part{raw(-1, "\x00\x00")}, false},
		{[]api.Part{raw(1, "\x00\x00"), plain("")}, false}, // a base behind it
		{append(slices.Clip(bare), raw(0, example)), true},
		{append(slices.Clip(bare), raw(1, example)), false},
		{append(slices.Clip(bare), raw(2, example)), false},
		{append(slices.Clip(bare), raw(-1, example)), false},
		{append(slices.Clip(bare), raw(math.MinInt, example)), false},
		{append(slices.Clip(bare), raw(math.MaxInt, example)), false},
		{append(slices.Clip(bare), raw(0, "")), false},
		{append(slices.Clip(bare), raw(0, example+"\x00")), false},
		{append(slices.Clip(bare), raw(0, example[1:])), false},
		{[]api.Part{plain(whole[1:]), raw(0, example)}, false}, // a base of another size
		{[]api.Part{plain(whole + "g"), raw(0, example)}, false},
		{append(slices.Clip(bare), raw(0, example), plain("b"), raw(1, "\x11\x01\x03\x10"), raw(2, "\x01\x00")), true},
		{deep, true},
		{deeper, false},
		{append(slices.Clip(deep), raw(3, "\x13\x01\x03\x00")), true},
		{append(slices.Clip(deep), raw(4, "\x14\x01\x03\x00")), false},
		{[]api.Part{plain(run(4099)), raw(0, "\x83\x20\x83\x20\x87\x40\x00")}, true},
		{[]api.Part{plain(run(4099)), raw(0, "\x83\x20\x84\x20\x87\x40\x00\x03\x00")}, false}, // a text of 4100 bytes
		{[]api.Part{plain(""), raw(0, "\x00\x83\x20\x86\x40"+run(4099))}, true},               // a delta of more bytes than a text may have
		{[]api.Part{plain(""), raw(0, "\x00\x84\x20\x88\x40"+run(4100))}, false},
	} {
		if got := hold(t, c.l); got != c.want {
			t.Errorf("%d: %.300s: %t", i, show(c.l), got)
		}
	}
}

func TestNoPlace(t *testing.T) { // P9.1, P9.2
	bad := raw(9, "") // of which something else would be told, too
	for _, l := range [][]api.Part{nil, {}, {plain("a")}, {bad}, {bad, bad, bad}, slices.Repeat([]api.Part{plain("a")}, 200), slices.Repeat([]api.Part{bad}, 200)} {
		for _, at := range []int{-1, len(l), len(l) + 1, 1 << 32, -1 << 32, math.MinInt, math.MaxInt} {
			if depth, err := chain.Depth(l, at); depth != 0 || err != api.ErrArg {
				t.Errorf("%d parts: depth of %d: %d, error %d", len(l), at, depth, err)
			}
			if s, err := chain.Text(l, at); s != "" || err != api.ErrArg {
				t.Errorf("%d parts: text of %d: %q, error %d", len(l), at, s, err)
			}
		}
	}
	for _, p := range []api.Part{plain("a"), bad, plain(run(4100))} {
		for _, n := range []int{201, 202, 1 << 20} {
			l := slices.Repeat([]api.Part{p}, n)
			for _, at := range []int{0, 1, 199, 200, n - 1, n, -1} {
				if depth, err := chain.Depth(l, at); depth != 0 || err != api.ErrArg {
					t.Errorf("%d parts: depth of %d: %d, error %d", n, at, depth, err)
				}
				if s, err := chain.Text(l, at); s != "" || err != api.ErrArg {
					t.Errorf("%d parts: text of %d: %q, error %d", n, at, s, err)
				}
			}
			if all, err := chain.All(l); len(all) != 0 || err != api.ErrArg {
				t.Errorf("%d parts: %d texts, error %d", n, len(all), err)
			}
			if chain.Right(l) {
				t.Errorf("%d parts are right", n)
			}
		}
	}
}

func TestDepths(t *testing.T) { // P9.1
	l, texts := tower(9)
	for at := range l {
		depth, err := chain.Depth(l, at)
		s, textErr := chain.Text(l, at)
		if at > 4 {
			if depth != 0 || err != api.ErrDeep || s != "" || textErr != api.ErrDeep {
				t.Errorf("%d: depth %d, error %d; %q, error %d", at, depth, err, s, textErr)
			}
		} else if depth != at || err != api.OK || s != texts[at] || textErr != api.OK {
			t.Errorf("%d: depth %d, error %d; %q, error %d", at, depth, err, s, textErr)
		}
	}
}

// TestWhatIsWrongAlongAChain: the first one's error is told, whatever is wrong further along.
func TestWhatIsWrongAlongAChain(t *testing.T) { // P9.1
	for _, bad := range []api.Part{{Base: 1}, {Base: -1}, raw(0, ""), raw(8, ""), raw(-1, "")} {
		for at := range 8 {
			l, texts := tower(8)
			if bad.Base == 0 {
				bad.Base = at // its own base
			}
			l[at] = bad
			for end := range l {
				want := api.OK
				switch {
				case end >= at && end <= at+5: // the sixth one is looked at, none behind it
					want = api.ErrForm
				case end > 4:
					want = api.ErrDeep
				}
				depth, err := chain.Depth(l, end)
				s, textErr := chain.Text(l, end)
				if err != want || textErr != want {
					t.Errorf("%s: of %d: depth %d, error %d; %q, error %d; not error %d", show(l), end, depth, err, s, textErr, want)
				}
				if want == api.OK && (depth != end || s != texts[end]) || want != api.OK && (depth != 0 || s != "") {
					t.Errorf("%s: of %d: depth %d, %q", show(l), end, depth, s)
				}
			}
			hold(t, l)
			if bad.Base == at {
				bad.Base = 0
			}
		}
	}
}

// TestTextsAreWrong: a depth is told all the same; of several errors that of the one that is the furthest along.
func TestTextsAreWrong(t *testing.T) { // P9.1, P9.2
	long, formless, other := plain(run(4100)), raw(0, "\x10"), raw(0, "\x05\x00")
	for i, c := range []struct {
		l    []api.Part
		errs []api.Errno // of each part's text
	}{
		{[]api.Part{long}, []api.Errno{api.ErrRange}},
		{[]api.Part{long, formless}, []api.Errno{api.ErrRange, api.ErrRange}},
		{[]api.Part{long, other, raw(1, "")}, []api.Errno{api.ErrRange, api.ErrRange, api.ErrRange}},
		{[]api.Part{plain(whole), formless}, []api.Errno{api.OK, api.ErrForm}},
		{[]api.Part{plain(whole), other}, []api.Errno{api.OK, api.ErrRange}},
		{[]api.Part{plain(whole), formless, raw(1, "\x05\x00")}, []api.Errno{api.OK, api.ErrForm, api.ErrForm}},
		{[]api.Part{plain(whole), other, raw(1, "\x10")}, []api.Errno{api.OK, api.ErrRange, api.ErrRange}},
		{[]api.Part{plain(whole), formless, raw(1, "\x00\x00")}, []api.Errno{api.OK, api.ErrForm, api.ErrForm}}, // it has no text, not an empty one
		{[]api.Part{plain(whole), other, raw(1, "\x00\x00")}, []api.Errno{api.OK, api.ErrRange, api.ErrRange}},
		{[]api.Part{plain(whole), formless, raw(0, example), raw(2, "\x10"), raw(2, "\x11\x01\x03\x00")}, []api.Errno{api.OK, api.ErrForm, api.OK, api.ErrForm, api.OK}},
		{[]api.Part{long, plain("a"), raw(1, "\x01\x02\x02b\x03\x00"), formless, raw(2, "\x02\x00")}, []api.Errno{api.ErrRange, api.OK, api.OK, api.ErrRange, api.OK}}, // whatever is wrong beside it
	} {
		for at, want := range c.errs {
			if depth, err := chain.Depth(c.l, at); depth > 2 || c.l[at].Delta != (depth > 0) || err != api.OK {
				t.Errorf("%d: depth of %d: %d, error %d", i, at, depth, err)
			}
			if s, err := chain.Text(c.l, at); err != want || want != api.OK && s != "" {
				t.Errorf("%d: text of %d: %.40q, error %d; not %d", i, at, s, err, want)
			}
		}
		want := api.OK
		if at := slices.IndexFunc(c.errs, func(err api.Errno) bool { return err != api.OK }); at >= 0 {
			want = c.errs[at]
		}
		if all, err := chain.All(c.l); len(all) != 0 || err != want {
			t.Errorf("%d: all: %.99q, error %d; not %d", i, all, err, want)
		}
		hold(t, c.l)
	}
}

func TestFirstErrorOfAll(t *testing.T) { // P9.2
	deep, _ := tower(6)
	wrong := []struct {
		p   api.Part
		err api.Errno
	}{{plain(run(4100)), api.ErrRange}, {api.Part{Base: 3}, api.ErrForm}, {raw(0, ""), api.ErrForm}, {raw(0, "\x05\x00"), api.ErrRange}, {raw(99, "\x05\x00"), api.ErrForm}, {raw(4, "\x14\x01\x03\x00"), api.ErrDeep}}
	for _, a := range wrong {
		for _, b := range wrong {
			l := append(slices.Clone(deep[:5]), a.p, plain("a"), b.p)
			if all, err := chain.All(l); len(all) != 0 || err != a.err {
				t.Errorf("%s: %q, error %d; not %d", show(l), all, err, a.err)
			}
			if all, err := chain.All(l[:5]); len(all) != 5 || err != api.OK {
				t.Errorf("%q, error %d", all, err)
			}
			hold(t, l)
		}
	}
}

// TestAnyLists: of parts as they come, some of them right.
func TestAnyLists(t *testing.T) { // P9.1, P9.2, P9.5
	right, errs := 0, map[api.Errno]int{}
	for seed := range 4000 {
		x := uint32(seed)*77777 + 5
		next := func(n int) int {
			x = x*1664525 + 1013904223
			return int(x>>8) % n
		}
		var l []api.Part
		var texts []string
		for i := range next(12) {
			s := text(next(8), seed+i, whole) + whole[next(3):] + text(next(20), seed, "xyz")
			p := plain(s)
			if high := seed%3 == 0; i > 0 && (high || next(4) > 0) {
				b := next(i)
				if high { // most are deltas of deltas
					b = max(b, i-2)
				}
				p = of(b, texts[b], s)
			}
			switch next(40) { // something is wrong
			case 0:
				p.Base += next(5) - 2
			case 1:
				p.Delta = !p.Delta
			case 2:
				p.Text = p.Text[next(len(p.Text)):]
			case 3:
				p.Text += "\x02a"
			case 4:
				p = plain(run(4099 + next(3)))
			}
			l, texts = append(l, p), append(texts, s)
		}
		if hold(t, l) {
			right++
			all, _ := chain.All(l)
			for n := range l { // what stands behind turns nothing
				if got, err := chain.All(l[:n]); !chain.Right(l[:n]) || !slices.Equal(got, all[:n]) || err != api.OK {
					t.Errorf("%s: its first %d: %q, error %d", show(l), n, got, err)
				}
			}
		}
		for at := range l {
			_, err := chain.Text(l, at)
			errs[err]++
		}
	}
	if right < 400 || errs[api.OK] < 1000 || errs[api.ErrForm] < 300 || errs[api.ErrDeep] < 300 || errs[api.ErrRange] < 300 {
		t.Errorf("%d are right, errors %v: the lists tell little", right, errs)
	}
}

// packed holds what is packed of texts against what the other hand makes, and against the texts.
func packed(t *testing.T, texts []string, bases []int) []api.Part {
	t.Helper()
	l, err := chain.Pack(texts, bases)
	if want := wantPack(texts, bases); !slices.Equal(l, want) || err != api.OK {
		t.Errorf("%.200q, %v: %.300s, error %d; not %.300s", texts, bases, show(l), err, show(want))
	}
	if all, err := chain.All(l); !slices.Equal(all, texts) || err != api.OK || !chain.Right(l) {
		t.Errorf("%.200q, %v: told again %.200q, error %d", texts, bases, all, err)
	}
	for at, s := range texts {
		if got, err := chain.Text(l, at); got != s || err != api.OK {
			t.Errorf("text of %d: %.40q, error %d; not %.40q", at, got, err, s)
		}
		if depth, err := chain.Depth(l, at); depth > api.MaxDepth || err != api.OK {
			t.Errorf("depth of %d: %d, error %d", at, depth, err)
		}
		if len(l[at].Text) > len(s) {
			t.Errorf("%d: %d bytes of %d", at, len(l[at].Text), len(s))
		}
	}
	return l
}

func TestPackWrong(t *testing.T) { // P9.3
	long := run(4100)
	for i, c := range []struct {
		texts []string
		bases []int
		err   api.Errno
	}{
		{nil, nil, api.OK},
		{[]string{}, []int{}, api.OK},
		{nil, []int{-1}, api.ErrArg},
		{[]string{"a"}, nil, api.ErrArg},
		{[]string{"a"}, []int{-1, -1}, api.ErrArg},
		{[]string{"a", "b"}, []int{-1}, api.ErrArg},
		{[]string{long}, nil, api.ErrArg}, // first of both
		{[]string{long}, []int{-1}, api.ErrRange},
		{[]string{"a", long}, []int{-1, -1}, api.ErrRange},
		{[]string{long, "a"}, []int{-1, 0}, api.ErrRange},
		{[]string{run(4099)}, []int{-1}, api.OK},
		{[]string{run(4099), run(4099)}, []int{-1, 0}, api.OK},
		{[]string{run(4099), run(4100)}, []int{-1, 0}, api.ErrRange},
		{[]string{run(1 << 20)}, []int{-1}, api.ErrRange},
		{make([]string, 200), make([]int, 200), api.OK},
		{make([]string, 200), make([]int, 199), api.ErrArg},
		{make([]string, 200), make([]int, 201), api.ErrArg},
		{make([]string, 201), make([]int, 201), api.ErrArg},
		{make([]string, 201), make([]int, 200), api.ErrArg},
		{make([]string, 1<<20), make([]int, 1<<20), api.ErrArg},
		{slices.Repeat([]string{long}, 200), make([]int, 200), api.ErrRange},
		{slices.Repeat([]string{long}, 201), make([]int, 201), api.ErrArg},
	} {
		l, err := chain.Pack(c.texts, c.bases)
		if err != c.err || err != api.OK && len(l) != 0 || err == api.OK && len(l) != len(c.texts) {
			t.Errorf("%d: %d parts, error %d; not %d", i, len(l), err, c.err)
		}
		if c.err == api.OK {
			packed(t, c.texts, c.bases)
		}
	}
}

func TestPackBases(t *testing.T) { // P9.3
	texts := []string{whole, whole + "g", whole + "h", "x" + whole}
	for at := range texts {
		for _, b := range []int{math.MinInt, -1 << 32, -2, -1, 0, 1, 2, 3, 4, 5, 200, 1 << 32, math.MaxInt} {
			bases := []int{-1, -1, -1, -1}
			bases[at] = b
			l := packed(t, texts, bases)
			for i, p := range l {
				if stands := i == at && b >= 0 && b < i; p.Delta != stands || stands && p.Base != b || !stands && (p.Base != 0 || p.Text != texts[i]) {
					t.Errorf("%v: part %d is %s", bases, i, show(l[i:i+1]))
				}
			}
		}
	}
}

// TestPackDepths: what would be too deep is plain, and others stand upon it again.
func TestPackDepths(t *testing.T) { // P9.3, P9.4
	var texts []string
	var bases []int
	for i := range api.MaxParts {
		texts, bases = append(texts, text(200, 1, whole)+strconv.Itoa(i)), append(bases, i-1)
	}
	l := packed(t, texts, bases)
	for at, p := range l {
		depth, err := chain.Depth(l, at)
		if depth != at%5 || err != api.OK || p.Delta != (at%5 > 0) {
			t.Errorf("%d: depth %d, error %d, %s", at, depth, err, show(l[at:at+1]))
		}
	}
	bases = []int{-1, 0, 1, 2, 3, 3, 4, 2, 4, 6, 8, 7, 0, 11}
	l = packed(t, texts[:len(bases)], bases)
	for at, want := range []int{0, 1, 2, 3, 4, 4, 0, 3, 0, 1, 1, 4, 1, 0} {
		if depth, err := chain.Depth(l, at); depth != want || err != api.OK {
			t.Errorf("%d: depth %d, error %d; not %d", at, depth, err, want)
		}
	}
}

// TestPackBytes: a delta stands just where it has fewer bytes than the text.
func TestPackBytes(t *testing.T) { // P9.3
	far := text(4099, 3, whole+"ghijklmnopqrstuvwxyz\x80\xc3\xff")
	for i, c := range []struct {
		base, s string
		delta   bool
	}{
		{"", "", false},
		{whole, "", false},
		{whole, "a", false},
		{"", whole, false},
		{whole[1:], whole[1:], false}, // no whole window
		{whole, whole, true},
		{whole, "x" + whole, true},
		{whole, whole[1:] + "0", false},
		{whole, run(4099), false},
		{run(4099), run(4099), true},
		{far, run(70) + far[3000:3016] + run(80), true}, // all of its numbers are long
		{far, run(2000) + far[4083:] + run(2083), true},
		{far, far[3000:3015] + "-" + far[2000:2015], false},
	} {
		l := packed(t, []string{c.base, c.s}, []int{-1, 0})
		if l[1].Delta != c.delta || !c.delta && l[1] != plain(c.s) || len(l[1].Text) > len(c.s) || c.delta && len(l[1].Text) == len(c.s) {
			t.Errorf("%d: %s", i, show(l))
		}
	}
}

// TestPackOfAnyTexts: with whatever bases.
func TestPackOfAnyTexts(t *testing.T) { // P9.3, P9.4, P9.5
	for seed := range 300 {
		x := uint32(seed)*77777 + 5
		next := func(n int) int {
			x = x*1664525 + 1013904223
			return int(x>>8) % n
		}
		n := seed % 60
		texts, bases := make([]string, n), make([]int, n)
		pool := text(300, seed/10, whole+"\x00\x80\xff")
		for i := range texts {
			at := next(250)
			texts[i] = pool[at:at+next(50)] + text(next(5), i, "xyz") + pool[next(200):][:next(100)]
			bases[i] = next(i+4) - 2
		}
		l := packed(t, texts, bases)
		cut := next(n + 1)
		if got, err := chain.All(l[:cut]); !slices.Equal(got, texts[:cut]) || err != api.OK || !chain.Right(l[:cut]) {
			t.Errorf("the first %d of %d: %q, error %d", cut, n, got, err)
		}
		if got, err := chain.Pack(texts[:cut], bases[:cut]); !slices.Equal(got, l[:cut]) || err != api.OK {
			t.Errorf("the first %d of %d are packed to %s, error %d", cut, n, show(got), err)
		}
	}
}

// TestLargest: as many parts as may be, of as many bytes.
func TestLargest(t *testing.T) { // P9.2, P9.3
	var texts []string
	var bases []int
	s := text(4099, 1, whole)
	for i := range 200 {
		texts, bases = append(texts, s[i:]+s[:i]), append(bases, i-1-i%3)
	}
	packed(t, texts, bases)
	if !hold(t, slices.Repeat([]api.Part{plain(s)}, 200)) {
		t.Error("not right")
	}
}

// room is a list with spare room, in which something stands.
func room[T any](spare T, l ...T) []T {
	all := append(slices.Clone(l), spare, spare, spare)
	return all[:len(l)]
}

// TestNothingIsKept: what was handed in may be changed behind the call, and is as it was behind it.
func TestNothingIsKept(t *testing.T) { // P9.1, P9.2, P9.3, rule 4
	first, second := []byte(whole), []byte(example)
	base, d := unsafe.String(&first[0], len(first)), unsafe.String(&second[0], len(second))
	third := []byte("x" + whole)
	s := unsafe.String(&third[0], len(third))
	parts := []api.Part{plain(base), raw(0, d)}
	l, texts, bases := room(plain("room"), parts...), room("room", base, s, s), room(7, -1, 0, -1)
	for range 2 {
		chain.Right(l)
		chain.Depth(l, 1)
	}
	one, _ := chain.Text(l, 0)
	other, _ := chain.Text(l, 1)
	alone, _ := chain.Text(l[:1], 0)
	all, _ := chain.All(l)
	packed, _ := chain.Pack(texts, bases)
	if string(first) != whole || string(second) != example || string(third) != "x"+whole {
		t.Errorf("changed: %q, %x, %q", first, second, third)
	}
	if !slices.Equal(l[:5], append(parts, slices.Repeat([]api.Part{plain("room")}, 3)...)) || !slices.Equal(texts[:6], []string{base, s, s, "room", "room", "room"}) || !slices.Equal(bases[:6], []int{-1, 0, -1, 7, 7, 7}) {
		t.Errorf("changed: %s, %q, %v", show(l[:5]), texts[:6], bases[:6])
	}
	clear(first)
	clear(second)
	clear(third)
	clear(l[:cap(l)])
	clear(texts[:cap(texts)])
	clear(bases[:cap(bases)])
	if one != whole || other != "x"+whole || alone != whole || !slices.Equal(all, []string{whole, "x" + whole}) {
		t.Errorf("%q, %q, %q, %q", one, other, alone, all)
	}
	if !slices.Equal(packed, []api.Part{plain(whole), raw(0, example), plain("x" + whole)}) {
		t.Errorf("packed: %s", show(packed))
	}
}

// TestAnswersAreNew: whoever changes one changes no other, its spare room included.
func TestAnswersAreNew(t *testing.T) { // P9.2, P9.3, rule 4
	for n := range 12 {
		l, texts := tower(min(n, 5))
		for len(texts) < n {
			l, texts = append(l, plain(whole)), append(texts, whole)
		}
		a, _ := chain.All(l)
		b, _ := chain.All(l)
		for i := range a[:cap(a)] {
			a[:cap(a)][i] = "-"
		}
		if again, _ := chain.All(l); !slices.Equal(b, texts) || !slices.Equal(again, texts) {
			t.Errorf("%q, %q", b, again)
		}
		bases := make([]int, n)
		for i := range bases {
			bases[i] = i - 1
		}
		want := wantPack(texts, bases)
		p, _ := chain.Pack(texts, bases)
		q, _ := chain.Pack(texts, bases)
		for i := range p[:cap(p)] {
			p[:cap(p)][i] = plain("-")
		}
		if again, _ := chain.Pack(texts, bases); !slices.Equal(q, want) || !slices.Equal(again, want) {
			t.Errorf("%s, %s", show(q), show(again))
		}
	}
}
