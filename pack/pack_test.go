package pack_test

import (
	"encoding/binary"
	"hash/crc32"
	"math"
	"slices"
	"strconv"
	"strings"
	"testing"
	"unsafe"

	"sediment/api"
	"sediment/chain"
	"sediment/delta"
	"sediment/digest"
	"sediment/object"
	"sediment/pack"
)

const whole = "0123456789abcdef"

// text is n bytes of some letters, of which no stretch is like the next one.
func text(n, seed int, letters string) string {
	b := make([]byte, n)
	x := uint32(seed)*2654435761 + 12345
	for i := range b {
		x = x*1664525 + 1013904223
		b[i] = letters[int(x>>16)%len(letters)]
	}
	return string(b)
}

// number is a number's bytes, by another hand than the program's.
func number(n int) string {
	return string(binary.AppendUvarint(nil, uint64(n)))
}

// sealed is a text with its sum, by that hand.
func sealed(s string) string {
	return string(binary.LittleEndian.AppendUint32([]byte(s), crc32.ChecksumIEEE([]byte(s))))
}

// frame is a blob's.
func frame(body string) string {
	return "b" + number(len(body)) + body
}

// plain is a part that is told by itself.
func plain(s string) api.Part {
	return api.Part{Text: s}
}

// raw is a part that is a delta of bytes.
func raw(base int, d string) api.Part {
	return api.Part{Delta: true, Base: base, Text: d}
}

// of is a part that tells s by the text t of the part at base.
func of(base int, t, s string) api.Part {
	d, err := delta.Write(len(t), delta.Make(t, s)...)
	if err != api.OK {
		panic(strconv.Itoa(int(err)))
	}
	return raw(base, d)
}

// show is a list of parts to be read.
func show(l []api.Part) string {
	var s []string
	for _, p := range l {
		s = append(s, strconv.FormatBool(p.Delta)+" "+strconv.Itoa(p.Base)+" "+strconv.Quote(p.Text[:min(len(p.Text), 40)]))
	}
	return strings.Join(s, ", ")
}

// partBytes are those of a part at a place, by that hand.
func partBytes(p api.Part, at int) string {
	n := 0
	if p.Delta {
		n = at - p.Base
	}
	return number(n) + number(len(p.Text)) + p.Text
}

// body is a list's bytes without their sum, by that hand, with a number of parts that is said; and the parts' spots, with the place where they end.
func body(said int, l []api.Part) (string, []int) {
	s := "SPK1" + number(said)
	spots := []int{len(s)}
	for i, p := range l {
		s += partBytes(p, i)
		spots = append(spots, len(s))
	}
	return s, spots
}

// written are a list's bytes, by that hand.
func written(l []api.Part) string {
	s, _ := body(len(l), l)
	return sealed(s)
}

// blobs are n parts of blobs that are told by themselves, all unlike.
func blobs(n int) (l []api.Part) {
	for i := range n {
		l = append(l, plain(frame("blob "+strconv.Itoa(i))))
	}
	return l
}

// mixed are a pack's parts, some of them deltas, of blobs, a tree and a commit; and the objects.
func mixed() ([]api.Part, []api.Object) {
	var all []api.Object
	add := func(o api.Object, err api.Errno) api.Id {
		if err != api.OK {
			panic(strconv.Itoa(int(err)))
		}
		all = append(all, o)
		id, _ := object.Id(o)
		return id
	}
	long := text(300, 1, whole)
	a := add(object.Blob(long))
	b := add(object.Blob(long[:150] + "--" + long[150:]))
	add(object.Blob(""))
	c := add(object.Blob("++" + long))
	tree := add(object.Tree(api.Entry{Name: "a", Kind: api.KindBlob, Id: a}, api.Entry{Name: "b", Kind: api.KindBlob, Id: b}))
	wide := add(object.Tree(api.Entry{Name: "a", Kind: api.KindBlob, Id: a}, api.Entry{Name: "b", Kind: api.KindBlob, Id: b}, api.Entry{Name: "c", Kind: api.KindBlob, Id: c}))
	first := add(object.Commit(api.Commit{Tree: tree, Text: "first"}))
	add(object.Commit(api.Commit{Tree: wide, Parents: []api.Id{first}, Text: "second"}))
	add(object.Tree())
	return packed(all, []int{-1, 0, -1, 1, -1, 4, -1, 6, -1}), all
}

// packed are the parts of objects.
func packed(l []api.Object, bases []int) []api.Part {
	var frames []string
	for _, o := range l {
		s, _ := object.Frame(o)
		frames = append(frames, s)
	}
	parts, err := chain.Pack(frames, bases)
	if err != api.OK {
		panic(strconv.Itoa(int(err)))
	}
	return parts
}

// full are as many parts as may be, most of them deltas, some of a base that is far ahead.
func full() []api.Part {
	var l []api.Object
	var bases []int
	long := text(200, 5, whole)
	for i := range api.MaxParts {
		o, _ := object.Blob(long[i/2:] + strconv.Itoa(i) + long[:i/2])
		base := i - 1 - i%3
		if i%7 == 6 {
			base = 0
		}
		l, bases = append(l, o), append(bases, base)
	}
	return packed(l, bases)
}

// wantObjects are the objects of a list's parts, by that hand, and whether it is a pack.
func wantObjects(l []api.Part) ([]api.Object, bool) {
	if len(l) > 200 {
		return nil, false
	}
	var all []api.Object
	for i := range l {
		s, err := chain.Text(l, i)
		o, readErr := object.Read(s)
		if err != api.OK || readErr != api.OK || slices.Contains(all, o) {
			return nil, false
		}
		all = append(all, o)
	}
	return all, true
}

// hold holds what is told of a pack against a list's parts and objects.
func hold(t *testing.T, p *pack.Pack, l []api.Part) {
	t.Helper()
	objects, ok := wantObjects(l)
	if !ok {
		t.Fatalf("no pack: %.300s", show(l))
	}
	_, spots := body(len(l), l)
	if p.Len() != len(l) || !slices.Equal(p.Parts(), l) {
		t.Errorf("%d parts, %.300s; not %.300s", p.Len(), show(p.Parts()), show(l))
	}
	for i, o := range objects {
		s, _ := object.Frame(o)
		id := digest.Sum(s)
		if got, ok := p.Object(i); got != o || !ok {
			t.Errorf("object %d: %d %.40q, %t; not %d %.40q", i, got.Kind, got.Body, ok, o.Kind, o.Body)
		}
		if p.Id(i) != id || p.Spot(i) != spots[i] || p.Find(id) != i {
			t.Errorf("%d: id %x, spot %d, found at %d; not %x, %d", i, p.Id(i), p.Spot(i), p.Find(id), id, spots[i])
		}
		id[i%32] ^= 1
		if p.Find(id) != -1 {
			t.Errorf("%x found at %d", id, p.Find(id))
		}
	}
	for _, i := range []int{-1, len(l), len(l) + 1, 200, 1 << 32, -1 << 32, math.MinInt, math.MaxInt} {
		if i >= 0 && i < len(l) {
			continue
		}
		if o, ok := p.Object(i); p.Id(i) != (api.Id{}) || p.Spot(i) != 0 || o != (api.Object{}) || ok {
			t.Errorf("place %d of %d: id %x, spot %d, object %v, %t", i, len(l), p.Id(i), p.Spot(i), o, ok)
		}
	}
	if p.Find(api.Id{}) != -1 || p.Find(digest.Sum("nothing")) != -1 {
		t.Error("found what isn't there")
	}
}

// refused says that b are no pack's bytes.
func refused(t *testing.T, b string) {
	t.Helper()
	if p, err := pack.Open(b); p != nil || err != api.ErrForm {
		t.Errorf("%.80x of %d bytes: opened %t, error %d", b, len(b), p != nil, err)
	}
}

// wrongs are lists that are no packs.
func wrongs() [][]api.Part {
	l, _ := mixed()
	blob, other, empty := plain(frame(whole)), plain(frame(whole+"g")), plain("b\x00")
	a, b := frame(whole), frame(whole+"g")
	tower := []api.Part{blob}
	texts := []string{a}
	for i := range 5 {
		texts = append(texts, frame(whole+strings.Repeat("+", i+1)))
		tower = append(tower, of(i, texts[i], texts[i+1]))
	}
	return [][]api.Part{
		append(blobs(200), empty), // too many
		{{}},                      // no frames
		{plain("a")},
		{plain("b")},
		{plain("b\x01")},
		{plain("b\x01aa")},
		{plain("x\x01a")},
		{plain("b\x81\x00a")},
		{plain("t\x01\x00")}, // trees and commits that may not be
		{plain("c\x00")},
		{plain("b" + number(4097) + text(4097, 1, whole))},
		{blob, plain("")},
		{plain(""), blob},
		{blob, blob}, // ids that are alike
		{empty, empty},
		{blob, other, blob},
		{blob, of(0, a, a)},
		{blob, of(0, a, b), of(1, b, a)},
		{blob, of(0, a, b), other},
		append(slices.Clone(l), l[0]),
		{{Base: 1, Text: a}}, // no lists that are right
		{{Base: -1, Text: a}},
		{blob, {Base: 1, Text: b}},
		{raw(0, "\x00\x00")},
		{raw(-1, "\x00\x00")},
		{blob, raw(1, "\x12\x00")},
		{blob, raw(2, "\x12\x00"), empty},
		{blob, raw(-1, of(0, a, b).Text)},
		{blob, raw(-200, of(0, a, b).Text)},
		{blob, raw(math.MinInt, of(0, a, b).Text)},
		{blob, raw(math.MaxInt, of(0, a, b).Text)},
		{blob, raw(0, "")},
		{blob, raw(0, of(0, a, b).Text+"\x00")},
		{blob, raw(0, of(0, a+"h", b).Text)}, // a base of another size
		{blob, raw(0, "\x12\x02\x04b\x01")},  // a text that is no frame
		{blob, raw(0, "\x12\x00")},
		{blob, of(0, a, "x"+a[1:])},
		tower,
	}
}

func TestWriteExamples(t *testing.T) { // P10.1
	for _, c := range []struct {
		l    []api.Part
		want string
	}{
		{nil, "SPK1\x00"},
		{[]api.Part{}, "SPK1\x00"},
		{[]api.Part{plain("b\x02ab")}, "\x53\x50\x4b\x31\x01\x00\x04\x62\x02\x61\x62"},
		{[]api.Part{plain("b\x10" + whole), plain("t\x00"), raw(0, "\x12\x13\x04b\x11\x21\x02\x02!")}, "SPK1\x03\x00\x12b\x10" + whole + "\x00\x02t\x00\x02\x09\x12\x13\x04b\x11\x21\x02\x02!"},
	} {
		if got, err := pack.Write(c.l); got != sealed(c.want) || err != api.OK {
			t.Errorf("%s: %x, error %d", show(c.l), got, err)
		}
		p, err := pack.Open(sealed(c.want))
		if err != api.OK {
			t.Errorf("%s: opened with error %d", show(c.l), err)
		}
		hold(t, p, c.l)
	}
}

// TestWriteAndOpen: of as many parts as may be, of each size that the numbers' bytes hang on.
func TestWriteAndOpen(t *testing.T) { // P10.1, P10.2, P10.4
	l, _ := mixed()
	lists := [][]api.Part{l, full(), blobs(199), blobs(200)}
	for n := range len(l) {
		lists = append(lists, l[:n])
	}
	for _, n := range []int{1, 2, 127, 128, 129} {
		lists = append(lists, full()[:n])
	}
	for _, far := range []int{1, 2, 126, 127, 128, 129, 198, 199} { // how far a base is ahead
		first, _ := object.Frame(api.Object{Kind: api.KindBlob, Body: "blob 0"})
		lists = append(lists, append(blobs(far), of(0, first, frame("last"))))
	}
	for _, n := range []int{0, 1, 125, 126, 127, 128, 4095, 4096} {
		lists = append(lists, []api.Part{plain(frame(text(n, n, whole))), plain("t\x00")})
	}
	lists = append(lists, []api.Part{plain("t\x00"), raw(0, "\x02\x83\x20\x86\x40"+frame(text(4096, 1, whole)))}) // a delta of more bytes than a frame may have
	for i, l := range lists {
		b, err := pack.Write(l)
		if b != written(l) || err != api.OK {
			t.Errorf("list %d: %.80x of %d bytes, error %d; not %.80x", i, b, len(b), err, written(l))
		}
		p, err := pack.Open(b)
		if err != api.OK {
			t.Errorf("list %d: opened with error %d", i, err)
			continue
		}
		hold(t, p, l)
		if again, err := pack.Write(p.Parts()); again != b || err != api.OK {
			t.Errorf("list %d: written again %.80x, error %d", i, again, err)
		}
	}
}

func TestNoPacks(t *testing.T) { // P10.1, P10.2
	for i, l := range wrongs() {
		if _, ok := wantObjects(l); ok {
			t.Errorf("list %d: %s is a pack", i, show(l))
		}
		if b, err := pack.Write(l); b != "" || err != api.ErrArg {
			t.Errorf("list %d: %s: %x, error %d", i, show(l), b, err)
		}
		if !slices.ContainsFunc(l, func(p api.Part) bool { return !p.Delta && p.Base != 0 }) { // bytes tell of no such base
			refused(t, written(l))
		}
	}
	for _, p := range []api.Part{{}, plain("b\x00"), raw(9, "")} {
		for _, n := range []int{201, 1 << 20} {
			if b, err := pack.Write(slices.Repeat([]api.Part{p}, n)); b != "" || err != api.ErrArg {
				t.Errorf("%d parts: %d bytes, error %d", n, len(b), err)
			}
		}
	}
}

// TestWhatIsRefused: bytes that say something else than their parts do.
func TestWhatIsRefused(t *testing.T) { // P10.2
	l, _ := mixed()
	all, _ := body(len(l), l)
	one := "\x00\x04b\x02ab"
	two := "\x00\x02t\x00"
	for _, b := range []string{
		"", "S", "SPK1", "SPK1\x00", "SPK1\x01" + one, all, written(l)[1:], // not sealed
		sealed(""), sealed("S"), sealed("SPK"), sealed("SPK1"), sealed("SPK\x00"), sealed("\x00"),
		sealed("SPK2\x00"), sealed("spk1\x00"), sealed("SPK2\x01" + one), sealed("SIX1\x01" + one), sealed("SPK1"), sealed("1KPS\x00"), sealed("PK1\x00"), sealed("SSPK1\x00"),
		sealed("SPK1\x80\x00"), sealed("SPK1\x81\x00" + one), sealed("SPK1\x80"), // numbers of another form
		sealed("SPK1\x01\x80\x00\x04b\x02ab"), sealed("SPK1\x01\x00\x84\x00b\x02ab"),
		sealed("SPK1\x00" + one), sealed("SPK1\x01"), sealed("SPK1\x02" + one), sealed("SPK1\x01" + one + two), sealed("SPK1\x01" + one + "\x00"), sealed("SPK1\x02" + one + "\x00"),
		sealed("SPK1\xc9\x01" + strings.Repeat(one, 201)), sealed("SPK1\xff\xff\xff\xff\xff\x1f"), sealed("SPK1\xff\xff\xff\xff\xff\xff"),
		sealed("SPK1\x01\xc9\x01\x02\x00\x00"), sealed("SPK1\x01\x01\x02\x00\x00"), sealed("SPK1\x02" + one + "\xff\xff\xff\xff\xff\x1f\x02\x00\x00"),
		sealed("SPK1\x01\x00\xff\xff\xff\xff\xff\x1f" + "b\x02ab"), sealed("SPK1\x01\x00\x05b\x02ab"), sealed("SPK1\x01\x00\x03b\x02ab"),
		sealed(written(l)), sealed(all + "\x00"), "\x00" + written(l), written(l) + "\x00", written(l) + sealed(""),
	} {
		refused(t, b)
	}
	for n := range len(all) {
		refused(t, all[:n])
		refused(t, sealed(all[:n]))
	}
}

// TestTurnedBytes: sealed bytes of which one is another are opened just where they are a pack's, as the other hand writes it.
func TestTurnedBytes(t *testing.T) { // P10.2, P10.4
	l := []api.Part{plain("b\x10" + whole), plain("t\x00"), raw(0, "\x12\x13\x04b\x11\x21\x02\x02!"), plain("b\x01!")}
	all, _ := body(len(l), l)
	opened := 0
	for at := range len(all) {
		for x := range 256 {
			b := []byte(all)
			b[at] = byte(x)
			p, err := pack.Open(sealed(string(b)))
			if err != api.OK {
				if p != nil || err != api.ErrForm {
					t.Errorf("%x: opened %t, error %d", b, p != nil, err)
				}
				continue
			}
			opened++
			if written(p.Parts()) != sealed(string(b)) {
				t.Errorf("%x: %s", b, show(p.Parts()))
			}
			hold(t, p, p.Parts())
			if string(b) != all {
				refused(t, string(b)+written(l)[len(all):]) // the sum is another one's
			}
		}
	}
	if opened < 2000 {
		t.Errorf("%d are opened: the bytes tell little", opened)
	}
}

func TestNilPack(t *testing.T) { // P10.2
	var p *pack.Pack
	if p.Len() != 0 || len(p.Parts()) != 0 {
		t.Errorf("%d parts, %s", p.Len(), show(p.Parts()))
	}
	for _, i := range []int{-1, 0, 1, math.MinInt, math.MaxInt} {
		if o, ok := p.Object(i); p.Id(i) != (api.Id{}) || p.Spot(i) != 0 || o != (api.Object{}) || ok {
			t.Errorf("%d: id %x, spot %d, object %v, %t", i, p.Id(i), p.Spot(i), o, ok)
		}
	}
	for _, id := range []api.Id{{}, digest.Sum("a")} {
		if p.Find(id) != -1 {
			t.Errorf("found at %d", p.Find(id))
		}
	}
}

// wantNumber is the number that s begins with, by the other hand, at most most; and what stands behind it.
func wantNumber(s string, most int) (int, string, bool) {
	n, size := binary.Uvarint([]byte(s[:min(len(s), 6)]))
	if size <= 0 || n > uint64(most) || number(int(n)) != s[:size] {
		return 0, "", false
	}
	return int(n), s[size:], true
}

// wantSave is what can be saved of bytes, by that hand: the parts are cut off the beginning one by one.
func wantSave(b string) (all []api.Object) {
	s, ok := strings.CutPrefix(b, "SPK1")
	if !ok {
		return nil
	}
	n, s, ok := wantNumber(s, 200)
	var l []api.Part
	for ok && len(l) < n {
		var far, size int
		if far, s, ok = wantNumber(s, 200); !ok {
			break
		}
		if size, s, ok = wantNumber(s, 65536); !ok || size > len(s) {
			break
		}
		p := plain(s[:size])
		if far > 0 {
			p = raw(len(l)-far, s[:size])
		}
		l, s = append(l, p), s[size:]
	}
	for i := range l {
		s, err := chain.Text(l, i)
		o, readErr := object.Read(s)
		if err == api.OK && readErr == api.OK && !slices.Contains(all, o) {
			all = append(all, o)
		}
	}
	return all
}

// list is some objects to be read.
func list(l []api.Object) string {
	var s []string
	for _, o := range l {
		s = append(s, strconv.Itoa(o.Kind)+" "+strconv.Quote(o.Body[:min(len(o.Body), 40)]))
	}
	return strings.Join(s, ", ")
}

// saved says that just some objects are saved of b.
func saved(t *testing.T, b string, want []api.Object) {
	t.Helper()
	if got := pack.Save(b); !slices.Equal(got, want) {
		t.Errorf("of %.80x, %d bytes: %.300s; not %.300s", b, len(b), list(got), list(want))
	}
}

// blobsOf are the blobs of bodies.
func blobsOf(bodies ...string) (l []api.Object) {
	for _, s := range bodies {
		l = append(l, api.Object{Kind: api.KindBlob, Body: s})
	}
	return l
}

func TestSave(t *testing.T) { // P10.3
	const a, b, c = "\x00\x03b\x01a", "\x00\x03b\x01b", "\x00\x03b\x01c"
	base := "\x00\x12b\x10" + whole
	tells := "\x12\x13\x04b\x11\x21\x02\x02!" // whole and "!", by base
	for i, x := range []struct {
		b    string
		want []api.Object
	}{
		{"", nil},
		{"SPK", nil},
		{"SPK1", nil},
		{"SPK1\x00", nil},
		{"SPK1\x00" + a, nil},
		{"SPK1\x01", nil},
		{"SPK1\x01" + a, blobsOf("a")}, // sealed or not
		{sealed("SPK1\x01" + a), blobsOf("a")},
		{"SPK1\x01" + a + "\xff\xff", blobsOf("a")},
		{"SPK1\x02" + a, blobsOf("a")}, // fewer than said
		{"SPK1\xc8\x01" + a + b, blobsOf("a", "b")},
		{"SPK1\xc9\x01" + a + b, nil}, // more than there may be
		{"SPK1\xff\xff\xff\xff\xff\x1f" + a, nil},
		{"SPK1\xff\xff\xff\xff\xff\xff" + a, nil},
		{"SPK1\x81\x00" + a, nil},
		{"SPK1\x80", nil},
		{"spk1\x01" + a, nil},
		{"SPK2\x01" + a, nil},
		{"\x00SPK1\x01" + a, nil},
		{"SPK1\x02" + a + b, blobsOf("a", "b")},
		{"SPK1\x02" + b + a, blobsOf("b", "a")},
		{"SPK1\x02" + a + b + c, blobsOf("a", "b")}, // what stands behind is none of the parts
		{"SPK1\x01" + a + b + c, blobsOf("a")},
		{"SPK1\x04" + a + b + a + b, blobsOf("a", "b")}, // each once
		{"SPK1\x03" + a + a + c, blobsOf("a", "c")},
		{"SPK1\x03" + a + "\x00\x03b\x02b" + c, blobsOf("a", "c")}, // no frame
		{"SPK1\x03" + a + "\x00\x00" + c, blobsOf("a", "c")},
		{"SPK1\x03" + a + "\x00\x03t\x01b" + c, blobsOf("a", "c")},
		{"SPK1\x03" + a + "\x00\x04b\x01b" + c, blobsOf("a")}, // it takes a byte of the next one
		{"SPK1\x03" + a + "\x00\x83\x00b\x01b" + c, blobsOf("a")},
		{"SPK1\x03" + a + "\x80\x00\x03b\x01b" + c, blobsOf("a")},
		{"SPK1\x03" + a + "\x00\xff\xff\xff\xff\xff\x1fb" + c, blobsOf("a")},
		{"SPK1\x03" + a + "\x01\x02\x00\x00" + c, blobsOf("a", "c")},            // a delta of another base
		{"SPK1\x03" + a + "\x02\x02\x03\x00" + c, blobsOf("a", "c")},            // of one that isn't there
		{"SPK1\x03" + a + "\xc8\x01\x02\x03\x00" + c, blobsOf("a", "c")},        // 200 ahead
		{"SPK1\x03" + a + "\xc9\x01\x02\x03\x00" + c, blobsOf("a")},             // 201
		{"SPK1\x03" + a + "\xff\xff\xff\xff\xff\x1f\x02\x03\x00", blobsOf("a")}, //
		{"SPK1\x02" + base + "\x01\x09" + tells, blobsOf(whole, whole+"!")},     //
		{"SPK1\x02" + base + "\x01\x09" + tells[:8], blobsOf(whole)},            //
		{"SPK1\x02" + base + "\x01\x08" + tells[:8], blobsOf(whole)},            //
		{"SPK1\x03" + base + "\x01\x09" + tells + a, blobsOf(whole, whole+"!", "a")},
		{"SPK1\x02" + "\x00\x12x\x10" + whole + "\x01\x09" + tells, blobsOf(whole + "!")}, // a base that is no frame
		{"SPK1\x03" + base + "\x00\x00" + "\x02\x09" + tells, blobsOf(whole, whole+"!")},
		{"SPK1\x03" + base + "\x00\x00" + "\x01\x09" + tells, blobsOf(whole)},
		{"SPK1\x03" + base + "\x01\x09" + tells + "\x02\x09" + tells, blobsOf(whole, whole+"!")},
		{"SPK1\x04" + base + "\x01\x01\x12" + "\x01\x02\x00\x00" + a, blobsOf(whole, "a")}, // a base that has no text
	} {
		if got := wantSave(x.b); !slices.Equal(got, x.want) {
			t.Errorf("%d: the other hand saves %s", i, list(got))
		}
		saved(t, x.b, x.want)
	}
}

// TestSaveLongTexts: what is too long for a frame is read, and gone past, up to a bound.
func TestSaveLongTexts(t *testing.T) { // P10.3
	const a = "\x00\x03b\x01a"
	for _, n := range []int{4099, 4100, 65535, 65536, 65537, 65538, 1 << 20} {
		for _, far := range []string{"\x00", "\x01"} {
			b := "SPK1\x03" + a + far + number(n) + strings.Repeat("x", n) + "\x00\x03b\x01c"
			want := blobsOf("a", "c")
			if n > 65536 {
				want = want[:1]
			}
			saved(t, b, want)
		}
	}
	long := text(4096, 1, whole)
	saved(t, "SPK1\x02\x00\x83\x20"+frame(long)+a, blobsOf(long, "a"))
	saved(t, "SPK1\x02\x00\x84\x20"+frame(long+"!")+a, blobsOf("a"))
}

// TestSaveDeepOnes: what is too deep has no text.
func TestSaveDeepOnes(t *testing.T) { // P10.3
	l := []api.Part{plain(frame(whole))}
	bodies := []string{whole}
	for i := range 8 {
		s := whole + strings.Repeat("+", i+1)
		l, bodies = append(l, of(i, frame(bodies[i]), frame(s))), append(bodies, s)
	}
	saved(t, written(l), blobsOf(bodies[:5]...))
	saved(t, written(append(l, plain("b\x00"))), blobsOf(append(slices.Clone(bodies[:5]), "")...))
}

// TestSaveCounts: of as many parts as may be, with whatever number said.
func TestSaveCounts(t *testing.T) { // P10.3
	l := full()
	objects, _ := wantObjects(l)
	for said := range 260 {
		b, _ := body(said, l)
		want := objects[:min(said, 200)]
		if said > 200 {
			want = nil
		}
		saved(t, b, want)
		saved(t, sealed(b), want)
	}
	more := append(slices.Clone(l), blobs(50)...)
	b, _ := body(200, more)
	saved(t, b, objects) // what stands behind isn't read
	b, _ = body(201, more)
	saved(t, b, nil)
}

// TestSaveOfNoPacks: of lists that are no packs those parts are saved that can be.
func TestSaveOfNoPacks(t *testing.T) { // P10.3
	for _, l := range wrongs() {
		if len(l) > 200 || slices.ContainsFunc(l, func(p api.Part) bool { return p.Delta && (p.Base < -100 || p.Base > len(l)) }) {
			continue
		}
		saved(t, written(l), wantSave(written(l)))
	}
}

// TestSaveBeginnings: of a beginning just the parts are saved that are whole there.
func TestSaveBeginnings(t *testing.T) { // P10.5
	l, objects := mixed()
	lists := [][]api.Part{l, l[:1], nil, blobs(130), full()[:20]}
	for i, l := range lists {
		b, _ := pack.Write(l)
		all, _ := wantObjects(l)
		_, spots := body(len(l), l)
		if i == 0 && !slices.Equal(all, objects) {
			t.Errorf("the objects are %s", list(all))
		}
		for n := range len(b) + 1 {
			whole := 0
			for whole < len(l) && spots[whole+1] <= n {
				whole++
			}
			saved(t, b[:n], all[:whole])
			saved(t, b[:n]+"\xff", wantSave(b[:n]+"\xff"))
		}
		saved(t, b+b, all)
	}
}

// TestSaveOfTurnedBytes: of bytes of which one is another, as the other hand does.
func TestSaveOfTurnedBytes(t *testing.T) { // P10.3
	l, _ := mixed()
	b := []byte(written(l))
	for at := range b {
		was := b[at]
		for _, x := range []byte{0, 1, 2, 3, 127, 128, 200, 255, was ^ 1, was + 1, was - 1, was ^ 128} {
			b[at] = x
			saved(t, string(b), wantSave(string(b)))
		}
		b[at] = was
	}
}

// TestSaveOfAnyBytes: of bytes as they come.
func TestSaveOfAnyBytes(t *testing.T) { // P10.3
	some := 0
	for seed := range 20000 {
		b := "SPK1" + number(seed%9)
		for _, x := range text(seed%30, seed, "0000112233456789") {
			b += []string{"\x00\x03b\x01a", "\x00\x12b\x10" + whole, "\x01\x09\x12\x13\x04b\x11\x21\x02\x02!", "\x00", "\x02t\x00", "\x01", "\x02", "\x03b", "\x80", "!"}[x-'0']
		}
		want := wantSave(b)
		saved(t, b, want)
		some += min(len(want), 1)
		if _, err := pack.Open(b); err != api.ErrForm {
			t.Errorf("%x is opened", b)
		}
	}
	if some < 5000 {
		t.Errorf("of %d something is saved: the bytes tell little", some)
	}
}

// TestSumsThatLookLikeParts: the sum is none of the parts, though it may look like one.
func TestSumsThatLookLikeParts(t *testing.T) { // P10.5
	for _, sum := range []string{"\x00\x02b\x00", "\x00\x02t\x00", "\x01\x02\x06\x04"} {
		b := summed("SPK1\x01\x00\x0ab\x08some", sum)
		if p, err := pack.Open(b); p.Len() != 1 || err != api.OK {
			t.Fatalf("%x: %d parts, error %d", b, p.Len(), err)
		}
		saved(t, b, blobsOf(b[9:17]))
	}
}

// summed is s with four bytes behind it by which all of it has a sum, and the sum.
func summed(s, sum string) string {
	var rows [32]uint64 // what is turned of the sum by turning a bit, and, above it, which bit that is
	none := crc32.ChecksumIEEE([]byte(s + "\x00\x00\x00\x00"))
	for i := range rows {
		bit := binary.LittleEndian.AppendUint32(nil, 1<<i)
		rows[i] = uint64(crc32.ChecksumIEEE([]byte(s+string(bit)))^none) | 1<<(32+i)
	}
	left := uint64(none ^ binary.LittleEndian.Uint32([]byte(sum)))
	for i := range rows {
		at := i
		for rows[at]>>i&1 == 0 {
			at++
		}
		rows[i], rows[at] = rows[at], rows[i]
		for j := range rows {
			if j != i && rows[j]>>i&1 == 1 {
				rows[j] ^= rows[i]
			}
		}
		if left>>i&1 == 1 {
			left ^= rows[i]
		}
	}
	return s + string(binary.LittleEndian.AppendUint32(nil, uint32(left>>32))) + sum
}

// TestNothingIsKept: what was handed in may be changed behind the call, and is as it was behind it.
func TestNothingIsKept(t *testing.T) { // P10.1, P10.2, P10.3, rule 4
	l, objects := mixed()
	want := written(l)
	b := []byte(want)
	s := unsafe.String(&b[0], len(b))
	p, _ := pack.Open(s)
	some := pack.Save(s)
	if string(b) != want {
		t.Errorf("changed: %x", b)
	}
	clear(b)
	hold(t, p, l)
	if !slices.Equal(some, objects) {
		t.Errorf("saved: %s", list(some))
	}
	first := []byte(l[0].Text)
	parts := append(slices.Clone(l), plain("room"), plain("room"))
	parts[0].Text = unsafe.String(&first[0], len(first))
	got, _ := pack.Write(parts[:len(l)])
	if string(first) != l[0].Text || !slices.Equal(parts, append(slices.Clone(l), plain("room"), plain("room"))) {
		t.Errorf("changed: %s", show(parts))
	}
	clear(first)
	if got != want {
		t.Errorf("written: %x", got)
	}
	alone := []byte(frame(whole))
	got, _ = pack.Write([]api.Part{plain(unsafe.String(&alone[0], len(alone)))})
	clear(alone)
	if got != written([]api.Part{plain(frame(whole))}) {
		t.Errorf("written: %x", got)
	}
}

// TestAnswersAreNew: whoever changes one changes no other, its spare room included.
func TestAnswersAreNew(t *testing.T) { // P10.2, P10.3, rule 4
	for n := range 12 {
		l := full()[:n]
		b, _ := pack.Write(l)
		p, _ := pack.Open(b)
		q, _ := pack.Open(b)
		parts := p.Parts()
		parts = parts[:cap(parts)]
		for i := range parts {
			parts[i] = plain("-")
		}
		hold(t, p, l)
		hold(t, q, l)
		objects := pack.Save(b)
		objects = objects[:cap(objects)]
		for i := range objects {
			objects[i] = api.Object{}
		}
		want, _ := wantObjects(l)
		saved(t, b, want)
	}
}
