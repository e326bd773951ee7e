package delta_test

import (
	"math"
	"slices"
	"strconv"
	"strings"
	"testing"
	"unsafe"

	"sediment/api"
	"sediment/delta"
	"sediment/match"
)

const whole = "0123456789abcdef"

// text is n bytes of some letters, of which no stretch is like the next one.
func text(n, seed int, letters string) string {
	b := make([]byte, n)
	x := uint32(seed)*2654435761 + 12345
	for i := range b {
		x = x*1664525 + 1013904223
		b[i] = letters[int(x>>16)%len(letters)]
	}
	return string(b)
}

// run are n bytes that are alike.
func run(n int) string {
	return strings.Repeat("a", n)
}

// cut is a piece that copies n bytes from p on.
func cut(p, n float64) api.Piece {
	return api.Piece{Copy: complex(p, n)}
}

// raw is a piece of bytes.
func raw(s string) api.Piece {
	return api.Piece{Text: s}
}

// texts are some: short and long, alike and unlike.
func texts() []string {
	l := []string{"", "a", whole, whole[1:], whole + "XY", "x" + whole, strings.Repeat(whole, 3), strings.Repeat("日本é", 12), strings.Repeat("\x00", 40), strings.Repeat("\xff", 23), text(api.MaxFrame, 1, "abcd"), text(api.MaxFrame, 1, "abcd")[7:] + "tail", run(api.MaxFrame)}
	for n := range 10 {
		l = append(l, text(10+n*13, n, "ab"), text(200-n*9, n, "\x00\x0f\xf0\xff"))
	}
	for n := range 8 { // what others have, moved and with other things between
		l = append(l, l[len(l)-3][n:]+"-"+whole[:3+n]+l[3*n+1]+l[len(l)-2*n-1])
	}
	pool := text(300, 1, whole+"ghijk")
	for n := range 12 { // stretches that others have, in another order, next to one another or not
		var s string
		for k := range n {
			at := (n*37 + k*61) % 250
			s += pool[at:at+10+n*3] + pool[:k%2]
		}
		l = append(l, s)
	}
	return slices.DeleteFunc(l, func(s string) bool { return len(s) > api.MaxFrame })
}

// wantMade are the pieces of a text, by another hand than the program's: each byte is told first by which copy it is of, then those that are told alike are put together.
func wantMade(base, s string) (l []api.Piece) {
	x := match.New(base)
	began := make([]int, len(s)) // of each byte: where its copy began, or -1
	for at := range began {
		began[at] = -1
	}
	for at := range began {
		if _, n := x.Find(s, at); began[at] < 0 {
			for k := range n {
				began[at+k] = at
			}
		}
	}
	for at, b := range began {
		if b == at {
			p, n := x.Find(s, at)
			l = append(l, cut(float64(p), float64(n)))
		} else if b < 0 && (at == 0 || began[at-1] >= 0) {
			l = append(l, raw(s[at:at+1]))
		} else if b < 0 {
			l[len(l)-1].Text += s[at : at+1]
		}
	}
	return l
}

// joined is the text of right pieces, by that hand: byte by byte.
func joined(base string, l []api.Piece) string {
	var b []byte
	for _, p := range l {
		for k := range int(imag(p.Copy)) {
			b = append(b, base[int(real(p.Copy))+k])
		}
		b = append(b, p.Text...)
	}
	return string(b)
}

// number is one as bytes, by that hand.
func number(n int) string {
	if n < 128 {
		return string([]byte{byte(n)})
	}
	return string([]byte{byte(128 + n%128)}) + number(n/128)
}

// written are a delta's bytes, by that hand.
func written(b, size int, l []api.Piece) string {
	d := number(b) + number(size)
	for _, p := range l {
		if n := int(imag(p.Copy)); n > 0 {
			d += number(2*n+1) + number(int(real(p.Copy)))
		} else {
			d += number(2*len(p.Text)) + p.Text
		}
	}
	return d
}

// taken is the number that bytes begin with, and what is behind it; -1, if there is none.
func taken(d string) (int, string) {
	for size := 1; size <= len(d); size++ {
		if d[size-1] >= 128 {
			continue
		}
		n := 0
		for i := range min(size, 6) {
			n += int(d[i]) % 128 << (7 * i)
		}
		if size > 6 || size > 1 && d[size-1] == 0 {
			return -1, ""
		}
		return n, d[size:]
	}
	return -1, ""
}

// said is what a delta's bytes say, by that hand; -1, if they are none.
func said(d string) (int, []api.Piece) {
	b, d := taken(d)
	size, d := taken(d)
	if b < 0 || b > api.MaxFrame || size < 0 || size > api.MaxFrame {
		return -1, nil
	}
	var l []api.Piece
	for d != "" {
		k, p := 0, 0
		k, d = taken(d)
		n := k / 2
		if k < 2 || n > api.MaxFrame {
			return -1, nil
		}
		if size -= n; k%2 == 1 {
			if p, d = taken(d); p < 0 || p+n > b {
				return -1, nil
			}
			l = append(l, cut(float64(p), float64(n)))
			continue
		}
		if n > len(d) {
			return -1, nil
		}
		l, d = append(l, raw(d[:n])), d[n:]
	}
	if size != 0 {
		return -1, nil
	}
	return b, l
}

// show is a list of pieces to be read.
func show(l []api.Piece) string {
	var s []string
	for _, p := range l {
		s = append(s, strconv.FormatComplex(p.Copy, 'g', -1, 128)+" "+strconv.Quote(p.Text))
	}
	return strings.Join(s, ", ")
}

func TestExample(t *testing.T) { // P8.1, P8.2, P8.3, P8.4
	s := "x" + whole
	want := []api.Piece{raw("x"), cut(0, 16)}
	if l := delta.Make(whole, s); !slices.Equal(l, want) {
		t.Errorf("made: %s", show(l))
	}
	d, err := delta.Write(16, want...)
	if d != "\x10\x11\x02\x78\x21\x00" || err != api.OK {
		t.Errorf("written: %x, error %d", d, err)
	}
	if b, l, err := delta.Read(d); b != 16 || !slices.Equal(l, want) || err != api.OK {
		t.Errorf("read: %d, %s, error %d", b, show(l), err)
	}
	if got, err := delta.Apply(whole, d); got != s || err != api.OK {
		t.Errorf("applied: %q, error %d", got, err)
	}
	if got, err := delta.Text(whole, want...); got != s || err != api.OK {
		t.Errorf("text: %q, error %d", got, err)
	}
}

func TestMakeExamples(t *testing.T) { // P8.1
	other := "ghijklmnopqrstuv"
	for _, c := range []struct {
		base, s string
		want    []api.Piece
	}{
		{"", "", nil},
		{whole, "", nil},
		{"", "a", []api.Piece{raw("a")}},
		{"", whole, []api.Piece{raw(whole)}},
		{whole[1:], whole[1:], []api.Piece{raw(whole[1:])}}, // no window
		{whole, whole, []api.Piece{cut(0, 16)}},
		{whole, whole[1:], []api.Piece{raw(whole[1:])}},
		{whole, whole + whole, []api.Piece{cut(0, 16), cut(0, 16)}},
		{whole + other, other + whole, []api.Piece{cut(16, 16), cut(0, 16)}},
		{whole + other, whole + other, []api.Piece{cut(0, 32)}},
		{whole + other, "ab" + other + "cd" + whole + "ef", []api.Piece{raw("ab"), cut(16, 16), raw("cd"), cut(0, 16), raw("ef")}},
		{whole + other, whole + "-" + other, []api.Piece{cut(0, 16), raw("-"), cut(16, 16)}},
		{whole + "A" + whole + "AB", whole + "ABC", []api.Piece{cut(17, 18), raw("C")}},
		{"1032547698abcdef", whole, []api.Piece{raw(whole)}},
		{"4123056789abcdef", whole, []api.Piece{raw(whole)}}, // a window of the same number
		{run(40), run(100), []api.Piece{cut(0, 40), cut(0, 40), cut(0, 20)}},
		{run(40), run(90), []api.Piece{cut(0, 40), cut(0, 40), raw(run(10))}},
		{whole + "日本", "é" + whole + "日é", []api.Piece{raw("é"), cut(0, 19), raw("é")}},
	} {
		if l := delta.Make(c.base, c.s); !slices.Equal(l, c.want) {
			t.Errorf("%q by %q: %s; not %s", c.s, c.base, show(l), show(c.want))
		}
	}
}

func TestMadeOfLongTexts(t *testing.T) { // P8.1
	most, more := run(api.MaxFrame), run(api.MaxFrame+1)
	if l := delta.Make(most, most); !slices.Equal(l, []api.Piece{cut(0, api.MaxFrame)}) {
		t.Errorf("both as long as may be: %s", show(l))
	}
	if l := delta.Make("", most); !slices.Equal(l, []api.Piece{raw(most)}) {
		t.Errorf("by nothing: %d pieces", len(l))
	}
	for _, c := range [][2]string{{more, whole}, {whole, more}, {more, more}, {most, more}, {more, most}, {more, ""}, {"", more}, {run(1 << 20), most}, {most, run(1 << 20)}} {
		if l := delta.Make(c[0], c[1]); len(l) != 0 {
			t.Errorf("of %d bytes by %d: %d pieces", len(c[1]), len(c[0]), len(l))
		}
	}
}

// TestMade: what is made is what another hand makes, and tells the text, written and applied, too.
func TestMade(t *testing.T) { // P8.1, P8.2, P8.3, P8.4, P8.5
	copies, raws := 0, 0
	for _, base := range texts() {
		for _, s := range texts() {
			l := delta.Make(base, s)
			if want := wantMade(base, s); !slices.Equal(l, want) {
				t.Fatalf("%q by %q: %s; not %s", s, base, show(l), show(want))
			}
			if got, err := delta.Text(base, l...); got != s || err != api.OK {
				t.Fatalf("%q by %q: text %q, error %d", s, base, got, err)
			}
			d, err := delta.Write(len(base), l...)
			if want := written(len(base), len(s), l); d != want || err != api.OK {
				t.Fatalf("%q by %q: written %x, error %d; not %x", s, base, d, err, want)
			}
			if got, err := delta.Apply(base, d); got != s || err != api.OK {
				t.Fatalf("%q by %q: applied %q, error %d", s, base, got, err)
			}
			for _, p := range l {
				copies, raws = copies+min(1, int(imag(p.Copy))), raws+min(1, len(p.Text))
			}
		}
	}
	if copies < 400 || raws < 400 {
		t.Errorf("%d copies, %d pieces of bytes: the texts tell little", copies, raws)
	}
}

// rightPieces are some that are right for a base of b bytes.
func rightPieces(b int) []api.Piece {
	l := []api.Piece{raw("a"), raw("\x00"), raw(whole), raw(run(api.MaxFrame - 1)), raw(run(api.MaxFrame)), {Copy: complex(math.Copysign(0, -1), math.Copysign(0, -1)), Text: "b"}}
	for _, n := range []int{1, 2, 15, 16, 17, 63, 64, 4098, 4099} {
		for _, p := range []int{0, 1, 7, 127, 128, b - n - 1, b - n} {
			if p >= 0 && p+n <= b {
				l = append(l, cut(float64(p), float64(n)))
			}
		}
	}
	if b > 0 {
		l = append(l, cut(math.Copysign(0, -1), 1))
	}
	return l
}

// wrongPieces are some that are not.
func wrongPieces(b int) []api.Piece {
	m := float64(b)
	l := []api.Piece{{}, raw(run(api.MaxFrame + 1)), raw(run(1 << 16)), {Copy: cut(0, 1).Copy, Text: "a"}, {Copy: cut(0, 1).Copy, Text: run(api.MaxFrame + 1)}}
	for _, x := range []float64{math.NaN(), math.Inf(1), math.Inf(-1), 0.5, -0.5, 1.5, math.SmallestNonzeroFloat64, math.MaxFloat64, -math.MaxFloat64, -1, 1 << 32, 1 << 53, 1 << 63, 1 << 64, -1 << 63, math.Nextafter(1, 0), math.Nextafter(1, 2)} {
		l = append(l, cut(x, 1), cut(0, x), cut(x, x), cut(1, x), api.Piece{Copy: complex(x, 0), Text: "a"}, api.Piece{Copy: complex(0, x), Text: "a"})
	}
	for p := range 5 {
		l = append(l, cut(m-float64(p), float64(p+1)), cut(0, m+1+float64(p)))
	}
	return append(l, cut(1, 0), cut(m, 0), cut(-1, 0), cut(-1, 2), cut(0, api.MaxFrame+1), cut(1, api.MaxFrame), cut(0, -m), cut(m, -m-1), cut(m+1, -1), cut(0.25, m-0.25), cut(0, m+0.5))
}

func TestPiecesOneByOne(t *testing.T) { // P8.2, P8.3, P8.6
	for _, b := range []int{0, 1, 2, 16, 17, 127, 128, 200, 4098, 4099} {
		base := text(b, b, whole)
		for _, p := range rightPieces(b) {
			l := []api.Piece{p}
			want := joined(base, l)
			if got, err := delta.Text(base, p); got != want || err != api.OK {
				t.Errorf("%d bytes, %s: %q, error %d; not %q", b, show(l), got, err, want)
			}
			d, err := delta.Write(b, p)
			if d != written(b, len(want), l) || err != api.OK {
				t.Errorf("%d bytes, %s: %x, error %d", b, show(l), d, err)
			}
			if gotB, got, err := delta.Read(d); gotB != b || !slices.Equal(got, l) || err != api.OK {
				t.Errorf("%d bytes, %s: read %d, %s, error %d", b, show(l), gotB, show(got), err)
			}
			if got, err := delta.Apply(base, d); got != want || err != api.OK {
				t.Errorf("%d bytes, %s: applied %q, error %d", b, show(l), got, err)
			}
		}
		for _, p := range wrongPieces(b) {
			most := raw(run(api.MaxFrame))
			for _, l := range [][]api.Piece{{p}, {raw("a"), p}, {p, raw("a")}, {most, most, p}, {p, most, most}, {p, p}} {
				if got, err := delta.Text(base, l...); got != "" || err != api.ErrArg {
					t.Errorf("%d bytes, %.99s: %.40q, error %d", b, show(l), got, err)
				}
				if d, err := delta.Write(b, l...); d != "" || err != api.ErrArg {
					t.Errorf("%d bytes, %.99s: %.40x, error %d", b, show(l), d, err)
				}
			}
		}
	}
}

func TestBasesThatMayNotBe(t *testing.T) { // P8.2, P8.3
	for _, l := range [][]api.Piece{nil, {}, {raw("a")}, {cut(0, 1)}, {cut(0, -1)}, {raw(run(4000)), raw(run(100))}} {
		for _, b := range []int{math.MinInt, -1 << 40, -2, -1, api.MaxFrame + 1, 1 << 40, math.MaxInt} {
			if d, err := delta.Write(b, l...); d != "" || err != api.ErrArg {
				t.Errorf("%d bytes, %.99s: %x, error %d", b, show(l), d, err)
			}
		}
		for _, b := range []int{api.MaxFrame + 1, 1 << 20} {
			if s, err := delta.Text(run(b), l...); s != "" || err != api.ErrArg {
				t.Errorf("%d bytes, %.99s: %.40q, error %d", b, show(l), s, err)
			}
		}
	}
}

func TestTextOf(t *testing.T) { // P8.2
	for _, c := range []struct {
		base string
		l    []api.Piece
		want string
	}{
		{"", nil, ""},
		{whole, nil, ""},
		{whole, []api.Piece{}, ""},
		{whole, []api.Piece{cut(10, 6), cut(0, 10)}, "abcdef0123456789"},
		{whole, []api.Piece{cut(3, 1), raw("-"), raw("-"), cut(3, 2), cut(3, 1)}, "3--343"},
		{"ab", []api.Piece{cut(1, 1), cut(0, 2), raw("ab")}, "babab"},
		{"日本", []api.Piece{cut(3, 3), cut(0, 1), raw("\x00")}, "本\xe6\x00"},
		{run(api.MaxFrame), []api.Piece{cut(0, api.MaxFrame)}, run(api.MaxFrame)},
	} {
		if got, err := delta.Text(c.base, c.l...); got != c.want || err != api.OK {
			t.Errorf("%.40q, %s: %.40q, error %d; not %.40q", c.base, show(c.l), got, err, c.want)
		}
	}
}

func TestWriteExamples(t *testing.T) { // P8.3
	for _, c := range []struct {
		b    int
		l    []api.Piece
		want string
	}{
		{0, nil, "\x00\x00"},
		{4099, nil, "\x83\x20\x00"},
		{0, []api.Piece{raw("a")}, "\x00\x01\x02a"},
		{1, []api.Piece{cut(0, 1)}, "\x01\x01\x03\x00"},
		{127, []api.Piece{cut(64, 63)}, "\x7f\x3f\x7f\x40"},
		{300, []api.Piece{cut(236, 64)}, "\xac\x02\x40\x81\x01\xec\x01"},
		{0, []api.Piece{raw(run(64))}, "\x00\x40\x80\x01" + run(64)},
		{4099, []api.Piece{cut(0, 4099)}, "\x83\x20\x83\x20\x87\x40\x00"},
		{4099, []api.Piece{cut(4098, 1), raw("a"), raw("b")}, "\x83\x20\x03\x03\x82\x20\x02a\x02b"}, // bytes next to bytes stay apart
		{0, []api.Piece{raw(run(4099))}, "\x00\x83\x20\x86\x40" + run(4099)},
	} {
		if d, err := delta.Write(c.b, c.l...); d != c.want || err != api.OK {
			t.Errorf("%d, %.99s: %.40x, error %d; not %.40x", c.b, show(c.l), d, err, c.want)
		}
		if b, l, err := delta.Read(c.want); b != c.b || !slices.Equal(l, c.l) || err != api.OK {
			t.Errorf("%.40x: %d, %.99s, error %d", c.want, b, show(l), err)
		}
	}
}

func TestTextsThatAreTooLong(t *testing.T) { // P8.2, P8.3
	base := run(api.MaxFrame)
	for _, c := range []struct {
		l    []api.Piece
		long bool
	}{
		{[]api.Piece{cut(0, 4098), raw("a")}, false},
		{[]api.Piece{cut(0, 4098), raw("ab")}, true},
		{[]api.Piece{cut(0, 4099), raw("a")}, true},
		{[]api.Piece{raw("a"), cut(0, 4099)}, true},
		{[]api.Piece{raw("a"), cut(0, 4098)}, false},
		{[]api.Piece{raw(base), raw("a")}, true},
		{[]api.Piece{cut(0, 2050), cut(0, 2050)}, true},
		{[]api.Piece{cut(0, 2050), cut(0, 2049)}, false},
		{slices.Repeat([]api.Piece{cut(7, 1)}, 4099), false},
		{slices.Repeat([]api.Piece{cut(7, 1)}, 4100), true},
		{slices.Repeat([]api.Piece{raw("a")}, 4099), false},
		{slices.Repeat([]api.Piece{raw("a")}, 4100), true},
		{slices.Repeat([]api.Piece{cut(0, 4099)}, 1<<20), true}, // all of it comes to 2^32 and more
		{slices.Repeat([]api.Piece{raw(base)}, 1<<10), true},
	} {
		want := api.OK
		if c.long {
			want = api.ErrRange
		}
		s, err := delta.Text(base, c.l...)
		if err != want || c.long && s != "" || !c.long && s != joined(base, c.l) {
			t.Errorf("%d pieces: %d bytes, error %d; not %d", len(c.l), len(s), err, want)
		}
		d, err := delta.Write(len(base), c.l...)
		if err != want || c.long && d != "" || !c.long && d != written(len(base), len(s), c.l) {
			t.Errorf("%d pieces: written %d bytes, error %d; not %d", len(c.l), len(d), err, want)
		}
	}
}

// reads holds what is read of bytes against what another hand reads, and tells whether they are a delta's.
func reads(t *testing.T, d string) bool {
	t.Helper()
	b, l, err := delta.Read(d)
	wantB, want := said(d)
	if wantB < 0 {
		if b != 0 || len(l) != 0 || err != api.ErrForm {
			t.Errorf("%.60x: %d, %.99s, error %d", d, b, show(l), err)
		}
		if s, err := delta.Apply(run(max(b, 0)), d); s != "" || err != api.ErrForm {
			t.Errorf("%.60x: applied %q, error %d", d, s, err)
		}
		return false
	}
	if b != wantB || !slices.Equal(l, want) || err != api.OK {
		t.Errorf("%.60x: %d, %.99s, error %d; not %d, %.99s", d, b, show(l), err, wantB, show(want))
	}
	if again, err := delta.Write(b, l...); again != d || err != api.OK {
		t.Errorf("%.60x: written again %.60x, error %d", d, again, err)
	}
	base := text(b, b, whole)
	if s, err := delta.Apply(base, d); s != joined(base, want) || err != api.OK {
		t.Errorf("%.60x: applied %.60q, error %d", d, s, err)
	}
	return true
}

func TestReadWrong(t *testing.T) { // P8.4
	good := "\x10\x11\x02x\x21\x00"
	for _, d := range []string{
		"", "\x10", "\x10\x11", "\x80", "\x10\x80",
		good + "\x00", good + "\x01", good + "\x01\x00", good + "\x80", // something more
		good + "\x02a", good + "\x03\x00",
		"\x10\x10" + good[2:], "\x10\x12" + good[2:], "\x10\x00" + good[2:], // another size
		"\x0f" + good[1:], "\x00" + good[1:], // a base that ends ahead of the copy
		"\x10\x11\x02x\x21\x01", "\x10\x11\x02x\x23\x00", "\x10\x11\x02x\x20\x00",
		"\x10\x11\x02x\x21\x80\x00", "\x90\x00\x11\x02x\x21\x00", "\x10\x91\x00\x02x\x21\x00", "\x10\x11\x82\x00x\x21\x00", "\x10\x11\x02x\xa1\x00\x00", // numbers of another form
		"\x00\x00\x00", "\x00\x00\x01\x00", "\x05\x00\x01\x00", "\x05\x00\x01\x03", // pieces of nothing
		"\x05\x01\x00\x02a", "\x05\x01\x02a\x00", "\x05\x01\x01\x01\x02a",
		"\x00\x02\x04a", "\x00\x01\x02", "\x00\x01\x03\x00",
		"\x84\x20\x00", "\x84\x20\x01\x02a", "\x84\x20\x01\x03\x00", // a base of 4100 bytes
		"\x00\x84\x20\x88\x40" + run(4100), "\x00\x84\x20\x86\x40" + run(4099) + "\x02a", // a text of so many
		"\x83\x20\x84\x20\x89\x40\x00", "\x83\x20\x84\x20\x87\x40\x00\x03\x00",
		"\x00\x00\x88\x40" + run(4100), "\x00\x04\x88\x40" + run(4100),
		"\xff\xff\xff\xff\xff\x1f\x00", "\x00\xff\xff\xff\xff\xff\x1f", "\x00\x00\xff\xff\xff\xff\xff\x1f", "\xff\xff\xff\xff\xff\xff\x00",
		"\x10\x01\x03\xff\xff\xff\xff\xff\x1f", "\x10\x01\xff\xff\xff\xff\xff\x1f\x00",
		run(1 << 20), strings.Repeat("\x00", 1<<20), "\x10\x10" + strings.Repeat("\x03\x00", 1<<19),
	} {
		if reads(t, d) {
			t.Errorf("%.60x is none", d)
		}
	}
	if !reads(t, good) {
		t.Errorf("%x is one", good)
	}
}

func TestReadOfAnyBytes(t *testing.T) { // P8.4, P8.6
	bytes := []byte{0, 1, 2, 3, 4, 5, 0x80, 0xff}
	right := 0
	for length := range 8 {
		all := 1 << (3 * length)
		step := 1 + all/60000
		for x := 0; x < all; x += step {
			b := make([]byte, length)
			for i := range b {
				b[i] = bytes[x>>(3*i)&7]
			}
			if reads(t, string(b)) {
				right++
			}
		}
	}
	if right < 200 {
		t.Errorf("%d are right: the bytes tell little", right)
	}
}

// TestReadOfSpoiltBytes: cut off anywhere, or with a byte changed, or one more.
func TestReadOfSpoiltBytes(t *testing.T) { // P8.4, P8.6
	right := 0
	for n := range 20 {
		base := text(100+n*17, n, whole)
		s := base[n*3:n*3+20] + whole[:n%16] + base[n:n+40] + text(n, 1, "xyz") + base[50:]
		d, err := delta.Write(len(base), delta.Make(base, s)...)
		if err != api.OK || !reads(t, d) {
			t.Fatalf("%x: error %d", d, err)
		}
		for at := range d {
			if reads(t, d[:at]) || reads(t, d[at+1:]) {
				right++
			}
			for _, c := range []string{"\x00", "\x01", "\x7f", "\x80", "\xff", d[at : at+1], string([]byte{d[at] ^ 1}), string([]byte{d[at] + 2})} {
				if reads(t, d[:at]+c+d[at+1:]) {
					right++
				}
				if reads(t, d[:at]+c+d[at:]) {
					right++
				}
			}
		}
	}
	if right < 500 { // where another byte stands in a text, or another place
		t.Errorf("%d are right", right)
	}
}

func TestApplyToOthers(t *testing.T) { // P8.4
	d := "\x10\x11\x02x\x21\x00"
	for _, c := range []struct {
		base, d, want string
		err           api.Errno
	}{
		{whole, d, "x" + whole, api.OK},
		{"ghijklmnopqrstuv", d, "xghijklmnopqrstuv", api.OK}, // any base of so many bytes
		{whole[1:], d, "", api.ErrRange},
		{whole + "g", d, "", api.ErrRange},
		{"", d, "", api.ErrRange},
		{run(api.MaxFrame), d, "", api.ErrRange},
		{run(api.MaxFrame + 1), d, "", api.ErrRange},
		{run(1 << 20), d, "", api.ErrRange},
		{whole, d + "\x00", "", api.ErrForm},
		{whole[1:], d + "\x00", "", api.ErrForm}, // first of both
		{run(api.MaxFrame + 1), d[1:], "", api.ErrForm},
		{run(api.MaxFrame + 1), "\x84\x20\x00", "", api.ErrForm},
		{"", "", "", api.ErrForm},
		{"", "\x00\x00", "", api.OK},
		{"a", "\x00\x00", "", api.ErrRange},
		{"a", "\x01\x00", "", api.OK},
		{"", "\x01\x00", "", api.ErrRange},
		{"", "\x00\x03\x02a\x04bc", "abc", api.OK},
		{run(api.MaxFrame), "\x83\x20\x83\x20\x87\x40\x00", run(api.MaxFrame), api.OK},
	} {
		if s, err := delta.Apply(c.base, c.d); s != c.want || err != c.err {
			t.Errorf("%.40q, %x: %.40q, error %d; not %.40q, error %d", c.base, c.d, s, err, c.want, c.err)
		}
	}
}

// TestWhatIsWrittenIsRead: of lists of right pieces that nobody makes of texts.
func TestWhatIsWrittenIsRead(t *testing.T) { // P8.2, P8.3, P8.4, P8.6
	for seed := range 300 {
		b := 1 + seed*13
		base := text(b, seed, whole)
		x, left := uint32(seed)*77777+5, api.MaxFrame
		next := func(n int) int {
			x = x*1664525 + 1013904223
			return int(x>>8) % n
		}
		var l []api.Piece
		for range seed % 40 {
			n := 1 + next(min(b, 200))
			if left -= n; left < 0 {
				break
			}
			if next(2) == 0 {
				l = append(l, raw(text(n, seed, "\x00\x80\xff")))
			} else {
				l = append(l, cut(float64(next(b-n+1)), float64(n)))
			}
		}
		want := joined(base, l)
		d, err := delta.Write(b, l...)
		if d != written(b, len(want), l) || err != api.OK {
			t.Errorf("%s: %x, error %d", show(l), d, err)
		}
		if gotB, got, err := delta.Read(d); gotB != b || !slices.Equal(got, l) || err != api.OK {
			t.Errorf("%s: %d, %s, error %d", show(l), gotB, show(got), err)
		}
		for _, s := range []func() (string, api.Errno){func() (string, api.Errno) { return delta.Text(base, l...) }, func() (string, api.Errno) { return delta.Apply(base, d) }} {
			if got, err := s(); got != want || err != api.OK {
				t.Errorf("%s: %q, error %d", show(l), got, err)
			}
		}
	}
}

// TestNothingIsKept: what was handed in may be changed behind the call, and is as it was behind it.
func TestNothingIsKept(t *testing.T) { // P8.1, P8.2, P8.3, P8.4, rule 4
	first, second := []byte(whole), []byte("x"+whole)
	base, s := unsafe.String(&first[0], len(first)), unsafe.String(&second[0], len(second))
	made := delta.Make(base, s)
	l := make([]api.Piece, 2, 5)
	copy(l, []api.Piece{{Text: s[:1]}, cut(0, 16)})
	for i := range l[2:cap(l)] {
		l[2:cap(l)][i].Text = "room"
	}
	told, _ := delta.Text(base, l...)
	one, _ := delta.Text(base, l[:1]...)
	all, _ := delta.Text(base, l[1:]...)
	d, _ := delta.Write(16, l...)
	third := []byte(d)
	_, read, _ := delta.Read(unsafe.String(&third[0], len(third)))
	applied, _ := delta.Apply(base, unsafe.String(&third[0], len(third)))
	if string(first) != whole || string(second) != "x"+whole || string(third) != d || !slices.Equal(l[:cap(l)], []api.Piece{raw("x"), cut(0, 16), raw("room"), raw("room"), raw("room")}) {
		t.Errorf("changed: %q, %q, %x, %s", first, second, third, show(l[:cap(l)]))
	}
	clear(first)
	clear(second)
	clear(third)
	for _, got := range [][]api.Piece{made, read} {
		if !slices.Equal(got, []api.Piece{raw("x"), cut(0, 16)}) {
			t.Errorf("pieces %s", show(got))
		}
	}
	if told != "x"+whole || one != "x" || all != whole || applied != "x"+whole || d != "\x10\x11\x02x\x21\x00" {
		t.Errorf("%q, %q, %q, %q, %x", told, one, all, applied, d)
	}
}

// TestAnswersAreNew: whoever changes one changes no other, its spare room included.
func TestAnswersAreNew(t *testing.T) { // P8.1, P8.4, rule 4
	for n := range 12 {
		s := strings.Repeat("x"+whole, n)
		d, _ := delta.Write(16, delta.Make(whole, s)...)
		for _, answer := range []func() []api.Piece{func() []api.Piece { return delta.Make(whole, s) }, func() []api.Piece { _, l, _ := delta.Read(d); return l }} {
			a, b := answer(), answer()
			room := a[:cap(a)]
			for i := range room {
				room[i] = raw("-")
			}
			if want := wantMade(whole, s); !slices.Equal(b, want) || !slices.Equal(answer(), want) {
				t.Errorf("%q: %s", s, show(b))
			}
		}
	}
}
