package wire_test

import (
	"math"
	"strings"
	"testing"
	"unsafe"

	"sediment/api"
	"sediment/wire"
)

// readNumber is what the document says of a number read, by another hand than the program's.
func readNumber(s string, most int) (n, size int, err api.Errno) {
	for size < len(s) && size < 6 && s[size] >= 128 {
		size++
	}
	if size == 6 {
		return 0, 0, api.ErrMany
	}
	if size == len(s) {
		return 0, 0, api.ErrShort
	}
	for i := size; i >= 0; i-- {
		n = n*128 + int(s[i])%128
	}
	if s[size] == 0 && size > 0 {
		return 0, 0, api.ErrForm
	}
	if n > 1<<40-1 || n > most {
		return 0, 0, api.ErrMany
	}
	return n, size + 1, api.OK
}

// stays says that r has an error that nothing changes any more.
func stays(t *testing.T, r *wire.Reader, at int, err api.Errno) {
	t.Helper()
	for range 2 {
		if got := r.Number(math.MaxInt); got != 0 {
			t.Errorf("Number %d", got)
		}
		if got := r.Text(math.MaxInt); got != "" {
			t.Errorf("Text %q", got)
		}
		if got := r.Id(); got != (api.Id{}) {
			t.Errorf("Id %x", got)
		}
		for _, n := range []int{-1, 0, 1, math.MaxInt} {
			if got := r.Raw(n); got != "" {
				t.Errorf("Raw(%d) %q", n, got)
			}
		}
		if r.At() != at || r.Err() != err || r.End() != err {
			t.Errorf("at %d, error %d, end %d; not at %d, error %d", r.At(), r.Err(), r.End(), at, err)
		}
	}
}

func TestNumberRead(t *testing.T) { // P3.2
	for _, c := range []struct {
		s    string
		most int
		n    int
		err  api.Errno
	}{
		{"\x00", 0, 0, api.OK},
		{"\x01", 1, 1, api.OK},
		{"\x01", 0, 0, api.ErrMany},
		{"\x7f", 127, 127, api.OK},
		{"\x7f", 126, 0, api.ErrMany},
		{"\xac\x02", 300, 300, api.OK},
		{"\xac\x02", 299, 0, api.ErrMany},
		{"\xac\x02", math.MaxInt, 300, api.OK},
		{"\x00", -1, 0, api.ErrMany},
		{"\x00", math.MinInt, 0, api.ErrMany},
		{"\xff\xff\xff\xff\xff\x1f", api.MaxNumber, api.MaxNumber, api.OK},
		{"\xff\xff\xff\xff\xff\x1f", math.MaxInt, api.MaxNumber, api.OK},
		{"\xff\xff\xff\xff\xff\x1f", api.MaxNumber - 1, 0, api.ErrMany},
		{"\x80\x80\x80\x80\x80\x20", math.MaxInt, 0, api.ErrMany},
		{"\xff\xff\xff\xff\xff\x7f", math.MaxInt, 0, api.ErrMany},
		{"", 9, 0, api.ErrShort},
		{"", -1, 0, api.ErrShort},
		{"\x80", 9, 0, api.ErrShort},
		{"\xff\xff\xff\xff\xff", 9, 0, api.ErrShort},
		{"\x80\x00", 9, 0, api.ErrForm},
		{"\x80\x00", -1, 0, api.ErrForm},
		{"\xff\x00", 0, 0, api.ErrForm},
		{"\x80\x80\x80\x80\x80\x00", 9, 0, api.ErrForm},
		{"\xff\xff\xff\xff\xff\x00", 9, 0, api.ErrForm},
		{"\x80\x80\x80\x80\x80\x80", 9, 0, api.ErrMany},
		{"\x80\x80\x80\x80\x80\x80\x00", 9, 0, api.ErrMany},
		{"\xff\xff\xff\xff\xff\xff\x01", math.MaxInt, 0, api.ErrMany},
	} {
		r := wire.NewReader(c.s)
		if got := r.Number(c.most); got != c.n || r.Err() != c.err {
			t.Errorf("%x, at most %d: %d, error %d; not %d, error %d", c.s, c.most, got, r.Err(), c.n, c.err)
		}
		if c.err != api.OK {
			stays(t, r, 0, c.err)
		} else if r.At() != len(c.s) || r.End() != api.OK {
			t.Errorf("%x: at %d, end %d", c.s, r.At(), r.End())
		}
	}
}

func TestNumberOfAnyBytes(t *testing.T) { // P3.2
	bytes := []byte{0, 1, 0x1f, 0x20, 0x7f, 0x80, 0xff}
	for length := range 8 {
		all := 1
		for range length {
			all *= len(bytes)
		}
		step := 1 + all/20000
		for x := 0; x < all; x += step {
			b := make([]byte, length)
			for i, y := 0, x; i < length; i, y = i+1, y/len(bytes) {
				b[i] = bytes[y%len(bytes)]
			}
			for _, most := range []int{-1, 0, 1, 127, 1 << 14, 1<<40 - 1, math.MaxInt} {
				n, size, err := readNumber(string(b), most)
				r := wire.NewReader(string(b))
				if got := r.Number(most); got != n || r.At() != size || r.Err() != err {
					t.Fatalf("%x, at most %d: %d, at %d, error %d; not %d, at %d, error %d", b, most, got, r.At(), r.Err(), n, size, err)
				}
			}
		}
	}
}

func TestNumbersBehindOneAnother(t *testing.T) { // P3.2
	r := wire.NewReader("\x05\xac\x02\x80\x80\x01\xff\xff\xff\xff\xff\x1f\x00\x80\x00")
	at := 0
	for _, c := range [][2]int{{5, 1}, {300, 2}, {16384, 3}, {api.MaxNumber, 6}, {0, 1}} {
		if r.At() != at {
			t.Errorf("at %d, not %d", r.At(), at)
		}
		if got := r.Number(api.MaxNumber); got != c[0] || r.Err() != api.OK {
			t.Errorf("%d, error %d; not %d", got, r.Err(), c[0])
		}
		at += c[1]
	}
	if got := r.Number(api.MaxNumber); got != 0 {
		t.Errorf("%d", got)
	}
	stays(t, r, at, api.ErrForm)
}

func TestTextRead(t *testing.T) { // P3.2
	for _, c := range []struct {
		s    string
		most int
		text string
		at   int
		err  api.Errno
	}{
		{"\x02ab", 2, "ab", 3, api.OK},
		{"\x02abc", 9, "ab", 3, api.OK},
		{"\x00", 0, "", 1, api.OK},
		{"\x00abc", 0, "", 1, api.OK},
		{"\x02ab", 1, "", 0, api.ErrMany},
		{"\x02a", 1, "", 0, api.ErrMany},
		{"\x02a", 2, "", 0, api.ErrShort},
		{"\x02", 2, "", 0, api.ErrShort},
		{"\x00", -1, "", 0, api.ErrMany},
		{"", 2, "", 0, api.ErrShort},
		{"\x82", 2, "", 0, api.ErrShort},
		{"\x82\x00ab", 2, "", 0, api.ErrForm},
		{"\xff\xff\xff\xff\xff\x1fabc", math.MaxInt, "", 0, api.ErrShort},
		{"\xff\xff\xff\xff\xff\x1fabc", 3, "", 0, api.ErrMany},
		{"\xff\xff\xff\xff\xff\xff\x01", math.MaxInt, "", 0, api.ErrMany},
		{"\x02\xc3\xa9", 2, "é", 3, api.OK},
	} {
		r := wire.NewReader(c.s)
		if got := r.Text(c.most); got != c.text || r.At() != c.at || r.Err() != c.err {
			t.Errorf("%x, at most %d: %q, at %d, error %d; not %q, at %d, error %d", c.s, c.most, got, r.At(), r.Err(), c.text, c.at, c.err)
		}
		if c.err != api.OK {
			stays(t, r, c.at, c.err)
		}
	}
}

func TestTextAtAPlace(t *testing.T) { // P3.2
	r := wire.NewReader("xyz\x82\x01" + text(129))
	r.Raw(3)
	if got := r.Text(130); got != "" || r.At() != 3 {
		t.Errorf("%q, at %d", got, r.At())
	}
	stays(t, r, 3, api.ErrShort)
}

func TestIdRead(t *testing.T) { // P3.2
	a, b := id(7), id(99)
	r := wire.NewReader(string(a[:]) + string(b[:]) + string(a[:31]))
	if got := r.Id(); got != a || r.At() != 32 {
		t.Errorf("%x, at %d", got, r.At())
	}
	if got := r.Id(); got != b || r.At() != 64 {
		t.Errorf("%x, at %d", got, r.At())
	}
	if got := r.Id(); got != (api.Id{}) {
		t.Errorf("%x", got)
	}
	stays(t, r, 64, api.ErrShort)
	for n := range 32 {
		r := wire.NewReader(text(n))
		if got := r.Id(); got != (api.Id{}) {
			t.Errorf("%x", got)
		}
		stays(t, r, 0, api.ErrShort)
	}
}

func TestRawRead(t *testing.T) { // P3.2
	s := text(50)
	for at := range len(s) + 1 {
		for n := range len(s) - at + 1 {
			r := wire.NewReader(s)
			r.Raw(at)
			if got := r.Raw(n); got != s[at:at+n] || r.At() != at+n || r.Err() != api.OK {
				t.Fatalf("%d bytes at %d: %q, at %d, error %d", n, at, got, r.At(), r.Err())
			}
		}
		for n, err := range map[int]api.Errno{
			-1: api.ErrForm, math.MinInt: api.ErrForm, len(s) - at + 1: api.ErrShort, math.MaxInt: api.ErrShort, math.MaxInt - at: api.ErrShort,
		} {
			r := wire.NewReader(s)
			r.Raw(at)
			if got := r.Raw(n); got != "" {
				t.Errorf("%d bytes at %d: %q", n, at, got)
			}
			stays(t, r, at, err)
		}
	}
}

func TestFirstErrorStays(t *testing.T) { // P3.2
	r := wire.NewReader("\x80\x00")
	r.Raw(-1)
	r.Raw(3)
	r.Id()
	stays(t, r, 0, api.ErrForm)
	r = wire.NewReader("\x80\x00")
	r.Id()
	r.Number(-1)
	stays(t, r, 0, api.ErrShort)
	r = wire.NewReader("\x09")
	r.Number(8)
	r.Number(9)
	stays(t, r, 0, api.ErrMany)
}

func TestReaderBegins(t *testing.T) { // P3.2
	r := wire.NewReader("")
	if r.At() != 0 || r.Err() != api.OK || r.End() != api.OK || r.Raw(0) != "" || r.Err() != api.OK {
		t.Errorf("at %d, error %d, end %d", r.At(), r.Err(), r.End())
	}
}

func TestReaderKeepsNothing(t *testing.T) { // P3.2
	b := []byte("\x03abcxyz")
	r := wire.NewReader(unsafe.String(&b[0], len(b)))
	head := r.Text(9)
	b[1], b[4] = '!', '!'
	if got := r.Raw(3); head != "abc" || got != "xyz" {
		t.Errorf("%q %q", head, got)
	}
}

func TestEnd(t *testing.T) { // P3.3
	r := wire.NewReader("\x01\x02ab")
	for _, c := range []struct {
		read func()
		end  api.Errno
	}{
		{func() {}, api.ErrMore},
		{func() { r.Number(9) }, api.ErrMore},
		{func() { r.Raw(0) }, api.ErrMore},
		{func() { r.Text(9) }, api.OK},
		{func() { r.Raw(0) }, api.OK},
		{func() { r.Number(9) }, api.ErrShort},
	} {
		c.read()
		if got := r.End(); got != c.end {
			t.Errorf("at %d: %d, not %d", r.At(), got, c.end)
		}
	}
	stays(t, r, 4, api.ErrShort)
}

func TestEndIsNoError(t *testing.T) { // P3.3
	r := wire.NewReader("ab")
	if r.End() != api.ErrMore || r.Err() != api.OK || r.Raw(2) != "ab" || r.End() != api.OK {
		t.Error("asking for the end took away from what is read")
	}
	r = wire.NewReader("\x80\x00more")
	r.Number(9)
	if got := r.End(); got != api.ErrForm {
		t.Errorf("the first error is ahead of what is left: %d", got)
	}
}

func TestNilReader(t *testing.T) { // P3.3
	stays(t, nil, 0, api.ErrShort)
}

func TestWhatWasWrittenIsRead(t *testing.T) { // P3.4
	var w wire.Writer
	l := numbers()
	for i, n := range l {
		w.Number(n)
		w.Text(text(i))
		w.Id(id(byte(i)))
		w.Raw(strings.Repeat("r", i%7))
	}
	r := wire.NewReader(w.String())
	for i, n := range l {
		if got := r.Number(n); got != n {
			t.Fatalf("number %d: %d", n, got)
		}
		if got := r.Text(i); got != text(i) {
			t.Fatalf("text %d: %q", i, got)
		}
		if got := r.Id(); got != id(byte(i)) {
			t.Fatalf("id %d: %x", i, got)
		}
		if got := r.Raw(i % 7); got != strings.Repeat("r", i%7) {
			t.Fatalf("bytes %d: %q", i, got)
		}
	}
	if r.End() != api.OK || r.At() != len(w.String()) {
		t.Errorf("end %d, at %d", r.End(), r.At())
	}
}

func TestOneForm(t *testing.T) { // P3.5
	read := 0
	x := uint32(1)
	for range 200000 {
		b := make([]byte, 1+x>>29)
		for i := range b {
			x = x*1664525 + 1013904223
			b[i] = byte(x >> 24)
			if x>>10%4 == 0 {
				b[i] &= 0x80
			} else if x>>10%4 < 3 {
				b[i] |= 0x80
			}
		}
		r := wire.NewReader(string(b))
		n := r.Number(math.MaxInt)
		if r.End() != api.OK {
			continue
		}
		read++
		var w wire.Writer
		w.Number(n)
		if w.String() != string(b) {
			t.Fatalf("%x is read as %d, whose bytes are %x", b, n, w.String())
		}
	}
	if read < 1000 {
		t.Errorf("%d read whole", read)
	}
}
