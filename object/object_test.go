package object_test

import (
	"crypto/sha256"
	"math"
	"slices"
	"strings"
	"testing"
	"unsafe"

	"sediment/api"
	"sediment/object"
)

// id is one of its own for each number.
func id(n int) api.Id {
	return sha256.Sum256([]byte{byte(n), byte(n >> 8)})
}

// number is a number's bytes, by another hand than the program's.
func number(n int) string {
	if n < 128 {
		return string([]byte{byte(n)})
	}
	return string([]byte{byte(n%128 + 128)}) + number(n/128)
}

func text(s string) string { return number(len(s)) + s }

func raw(id api.Id) string { return string(id[:]) }

// treeBody is the body of entries as they stand, whether they may be or not.
func treeBody(l ...api.Entry) string {
	s := ""
	for _, e := range l {
		s += number(e.Kind) + text(e.Name) + raw(e.Id)
	}
	return s
}

// commitBody is the body of a commit, whether it may be or not.
func commitBody(c api.Commit) string {
	s := raw(c.Tree) + number(len(c.Parents))
	for _, p := range c.Parents {
		s += raw(p)
	}
	return s + text(c.Text)
}

func blob(s string) api.Object { return api.Object{Kind: api.KindBlob, Body: s} }

func tree(l ...api.Entry) api.Object { return api.Object{Kind: api.KindTree, Body: treeBody(l...)} }

func commit(c api.Commit) api.Object { return api.Object{Kind: api.KindCommit, Body: commitBody(c)} }

// frame is an object's, whether it may be or not.
func frame(o api.Object) string {
	return map[int]string{1: "b", 2: "t", 3: "c"}[o.Kind] + text(o.Body)
}

// many are n entries that may be, but for their number, in order.
func many(n int) []api.Entry {
	var l []api.Entry
	for i := range n {
		l = append(l, api.Entry{Name: "e" + string(rune('0'+i/10)) + string(rune('0'+i%10)), Kind: 1 + i%2, Id: id(i)})
	}
	return l
}

func ids(n int) []api.Id {
	var l []api.Id
	for i := range n {
		l = append(l, id(i))
	}
	return l
}

// lists are entries, in order, that may be.
func lists() [][]api.Entry {
	return [][]api.Entry{
		nil,
		{{Name: "f", Kind: api.KindBlob, Id: id(1)}},
		{{Name: "d", Kind: api.KindTree}},
		{{Name: strings.Repeat("n", 32), Kind: api.KindTree, Id: id(1)}},
		{{Name: "!", Kind: 1, Id: id(1)}, {Name: "A", Kind: 2, Id: id(1)}, {Name: "B", Kind: 1, Id: id(1)}, {Name: "a", Kind: 2, Id: id(2)}, {Name: "~", Kind: 1, Id: id(3)}},
		{{Name: "a", Kind: 1}, {Name: "a.", Kind: 1}, {Name: "a.b", Kind: 2}, {Name: "a0", Kind: 1}, {Name: "aa", Kind: 2}},
		many(2), many(31), many(32),
	}
}

// commits are some that may be.
func commits() []api.Commit {
	return []api.Commit{
		{},
		{Tree: id(1), Text: "first"},
		{Tree: id(1), Parents: ids(1), Text: "second"},
		{Tree: id(1), Parents: []api.Id{id(1)}},
		{Tree: id(3), Parents: []api.Id{id(9), {}, id(8), id(2)}, Text: "\x00\xff\n é"},
		{Tree: id(4), Parents: ids(4), Text: strings.Repeat("t", 64)},
	}
}

// objects are some that may be.
func objects() []api.Object {
	l := []api.Object{blob(""), blob("ab"), blob("b\x02ab"), blob("\x00"), blob("é\xff"), blob(strings.Repeat("x", 127)), blob(strings.Repeat("x", 128)), blob(strings.Repeat("x", 4095)), blob(strings.Repeat("x", 4096))}
	for _, e := range lists() {
		l = append(l, tree(e...), blob(treeBody(e...)))
	}
	for _, c := range commits() {
		l = append(l, commit(c), blob(commitBody(c)))
	}
	return l
}

// wrongLists are entries that may not be, in whatever order they stand.
func wrongLists() [][]api.Entry {
	l := [][]api.Entry{
		{{Name: "", Kind: 1}},
		{{Name: strings.Repeat("n", 33), Kind: 1}},
		{{Name: "f", Kind: 0}},
		{{Name: "f", Kind: 3}},
		{{Name: "f", Kind: 1, Id: id(1)}, {Name: "f", Kind: 1, Id: id(1)}},
		{{Name: "f", Kind: 1, Id: id(1)}, {Name: "f", Kind: 2, Id: id(2)}},
		{{Name: "a", Kind: 1}, {Name: "f", Kind: 1}, {Name: "f", Kind: 2}, {Name: "g", Kind: 1}},
		{{Name: "a", Kind: 1}, {Name: "b/", Kind: 2}},
		{{Name: "a", Kind: 1}, {Name: "b", Kind: 4}},
		{{Name: "é", Kind: 1}},
		many(33), many(40),
	}
	for b := range 256 {
		if b < 0x21 || b > 0x7e || b == '/' {
			l = append(l, []api.Entry{{Name: string([]byte{byte(b)}), Kind: 1}}, []api.Entry{{Name: string([]byte{'n', byte(b), 'n'}), Kind: 2}}, []api.Entry{{Name: string([]byte{'n', byte(b)}), Kind: 1}})
		}
	}
	return l
}

func wrongCommits() []api.Commit {
	return []api.Commit{
		{Parents: ids(5)},
		{Text: strings.Repeat("t", 65)},
		{Parents: []api.Id{id(1), id(1)}},
		{Parents: []api.Id{{}, {}}},
		{Parents: []api.Id{id(1), id(2), id(3), id(1)}},
		{Parents: []api.Id{id(1), id(2), id(3), id(2)}},
		{Parents: []api.Id{id(1), id(2), id(3), id(3)}},
	}
}

// wrongObjects are some that may not be.
func wrongObjects() []api.Object {
	l := []api.Object{
		{}, {Kind: 0, Body: "ab"}, {Kind: 4}, {Kind: -1}, {Kind: math.MaxInt}, {Kind: math.MinInt}, {Kind: 4, Body: commitBody(api.Commit{})},
		blob(strings.Repeat("x", 4097)), blob(strings.Repeat("x", 1<<20)),
		{Kind: 2, Body: strings.Repeat("x", 4097)}, {Kind: 3, Body: strings.Repeat("x", 4097)},
		{Kind: 3, Body: ""},
		{Kind: 2, Body: "\x00"},
		{Kind: 2, Body: commitBody(api.Commit{})},
		{Kind: 3, Body: treeBody(many(1)...)},
		{Kind: 2, Body: "\x81\x00\x01f" + raw(id(1))},              // a kind in two bytes
		{Kind: 2, Body: "\x01\x81\x00f" + raw(id(1))},              // a length in two bytes
		{Kind: 3, Body: raw(id(1)) + "\x80\x00\x00"},               // a number of parents in two bytes
		{Kind: 3, Body: raw(id(1)) + "\x00\x80\x00"},               // a text's length in two bytes
		{Kind: 3, Body: raw(id(1)) + "\x00\x40"},                   // a text that isn't there
		{Kind: 3, Body: raw(id(1)) + "\x02" + raw(id(1)) + "\x00"}, // a parent that isn't there
		{Kind: 3, Body: raw(id(1)) + "\xff\xff\xff\xff\xff\x1f"},
		tree(api.Entry{Name: "b", Kind: 1}, api.Entry{Name: "a", Kind: 1}),
		tree(api.Entry{Name: "a", Kind: 1}, api.Entry{Name: "B", Kind: 1}),
		tree(api.Entry{Name: "aa", Kind: 1}, api.Entry{Name: "a", Kind: 1}),
		tree(api.Entry{Name: "a", Kind: 1}, api.Entry{Name: "c", Kind: 1}, api.Entry{Name: "b", Kind: 1}),
		{Kind: 2, Body: strings.Repeat(treeBody(many(1)...), 100)},
	}
	for _, e := range wrongLists() {
		l = append(l, tree(e...))
	}
	for _, c := range wrongCommits() {
		l = append(l, commit(c))
	}
	for _, o := range []api.Object{tree(many(3)...), commit(commits()[4])} {
		l = append(l, api.Object{Kind: o.Kind, Body: o.Body + "\x00"}, api.Object{Kind: o.Kind, Body: o.Body + o.Body[:1]}, api.Object{Kind: o.Kind, Body: "\x00" + o.Body})
		for n := range len(o.Body) {
			if o.Kind != api.KindTree || n%len(treeBody(many(1)...)) != 0 {
				l = append(l, api.Object{Kind: o.Kind, Body: o.Body[:n]})
			}
		}
	}
	return l
}

func TestRight(t *testing.T) { // P6.1
	for _, o := range objects() {
		if !object.Right(o) {
			t.Errorf("%d %.40q: not right", o.Kind, o.Body)
		}
	}
	for _, o := range wrongObjects() {
		if object.Right(o) {
			t.Errorf("%d %.40q: right", o.Kind, o.Body)
		}
	}
}

func TestNameBytes(t *testing.T) { // P6.1
	for b := 0x21; b <= 0x7e; b++ {
		for _, name := range []string{"", "n", strings.Repeat("n", 31)} {
			name = name[len(name)/2:] + string(rune(b)) + name[:len(name)/2]
			o, err := object.Tree(api.Entry{Name: name, Kind: 1})
			if b == '/' {
				if err != api.ErrArg {
					t.Errorf("%q: error %d", name, err)
				}
			} else if err != api.OK || !object.Right(o) || o != tree(api.Entry{Name: name, Kind: 1}) {
				t.Errorf("%q: %q, error %d", name, o.Body, err)
			}
		}
	}
}

func TestFrameExamples(t *testing.T) { // P6.1
	for s, o := range map[string]api.Object{
		"b\x02ab":                              blob("ab"),
		"b\x00":                                blob(""),
		"t\x00":                                {Kind: api.KindTree},
		"b\x80\x01" + strings.Repeat("x", 128): blob(strings.Repeat("x", 128)),
		"t\x23\x01\x01f" + raw(id(7)):          tree(api.Entry{Name: "f", Kind: api.KindBlob, Id: id(7)}),
		"c\x23" + raw(id(7)) + "\x00\x01x":     commit(api.Commit{Tree: id(7), Text: "x"}),
	} {
		if got, err := object.Frame(o); got != s || err != api.OK {
			t.Errorf("%q, error %d; not %q", got, err, s)
		}
	}
}

func TestFrame(t *testing.T) { // P6.1
	for _, o := range objects() {
		if got, err := object.Frame(o); got != frame(o) || err != api.OK || len(got) > api.MaxFrame {
			t.Errorf("%d %.40q: %.40q, error %d", o.Kind, o.Body, got, err)
		}
	}
	for _, o := range wrongObjects() {
		if got, err := object.Frame(o); got != "" || err != api.ErrArg {
			t.Errorf("%d %.40q: %.40q, error %d", o.Kind, o.Body, got, err)
		}
	}
}

func TestRead(t *testing.T) { // P6.1, P6.4
	for _, o := range objects() {
		if got, err := object.Read(frame(o)); got != o || err != api.OK {
			t.Errorf("%.40q: %d %.40q, error %d", frame(o), got.Kind, got.Body, err)
		}
	}
	for _, o := range wrongObjects() {
		notRead(t, frame(o))
	}
}

func notRead(t *testing.T, s string) {
	t.Helper()
	if got, err := object.Read(s); got != (api.Object{}) || err != api.ErrForm {
		t.Errorf("%.40q: %d %.40q, error %d", s, got.Kind, got.Body, err)
	}
}

func TestReadWrong(t *testing.T) { // P6.1
	for _, s := range []string{
		"", "b", "t", "c", "\x00", "\x02ab", "a\x02ab", "d\x02ab", "B\x02ab", "bt\x00", "bt", "tc\x00", "btc", "b\x02a", "b\x02abc", "b\x82\x00ab", "b\x80", "\x01\x00", "b\xff\xff\xff\xff\xff\x1fab", "b\xff\xff\xff\xff\xff\xff\x01",
		"b\x81\x20" + strings.Repeat("x", 4097), "t\x00\x00", "c\x00", "t\x01\x00", "b" + strings.Repeat("\x80", 5000), strings.Repeat("b", 1<<20),
	} {
		notRead(t, s)
	}
	for _, o := range []api.Object{blob("0123"), tree(many(2)...), commit(commits()[4])} {
		s := frame(o)
		for n := range len(s) {
			notRead(t, s[:n])
		}
		notRead(t, s+"\x00")
		notRead(t, s+s)
	}
	for b := range 256 {
		if s := string([]byte{byte(b)}) + text(""); s != "b\x00" && s != "t\x00" {
			notRead(t, s)
		}
	}
}

func TestId(t *testing.T) { // P6.1
	for _, o := range objects() {
		if got, ok := object.Id(o); got != sha256.Sum256([]byte(frame(o))) || !ok {
			t.Errorf("%d %.40q: %x, %v", o.Kind, o.Body, got, ok)
		}
	}
	for _, o := range wrongObjects() {
		if got, ok := object.Id(o); got != (api.Id{}) || ok {
			t.Errorf("%d %.40q: %x, %v", o.Kind, o.Body, got, ok)
		}
	}
}

func TestBlob(t *testing.T) { // P6.2
	for _, s := range []string{"", "ab", "\x00\xff", "é", strings.Repeat("x", 4095), strings.Repeat("x", 4096)} {
		if o, err := object.Blob(s); o != blob(s) || err != api.OK {
			t.Errorf("%.40q: %d %.40q, error %d", s, o.Kind, o.Body, err)
		}
	}
	for _, n := range []int{4097, 5000, 1 << 24} {
		if o, err := object.Blob(strings.Repeat("x", n)); o != (api.Object{}) || err != api.ErrArg {
			t.Errorf("%d bytes: %d %.40q, error %d", n, o.Kind, o.Body, err)
		}
	}
}

func TestTree(t *testing.T) { // P6.2
	for _, l := range lists() {
		for turn := range len(l) + 1 {
			mixed := slices.Concat(l[turn:], l[:turn])
			if turn%2 == 1 {
				slices.Reverse(mixed)
			}
			if o, err := object.Tree(mixed...); o != tree(l...) || err != api.OK {
				t.Errorf("%v: %q, error %d", mixed, o.Body, err)
			}
		}
	}
	for _, l := range append(wrongLists(), many(1<<16)) {
		if o, err := object.Tree(l...); o != (api.Object{}) || err != api.ErrArg {
			t.Errorf("%d entries: %q, error %d", len(l), o.Body, err)
		}
		slices.Reverse(l)
		if o, err := object.Tree(l...); o != (api.Object{}) || err != api.ErrArg {
			t.Errorf("%d entries: %q, error %d", len(l), o.Body, err)
		}
	}
	for _, kind := range []int{-1, 0, 3, 129, math.MinInt, math.MaxInt} { // 129 begins as 1 does
		if o, err := object.Tree(api.Entry{Name: "f", Kind: kind}); o != (api.Object{}) || err != api.ErrArg {
			t.Errorf("kind %d: %q, error %d", kind, o.Body, err)
		}
	}
}

func TestCommit(t *testing.T) { // P6.2
	for _, c := range commits() {
		if o, err := object.Commit(c); o != commit(c) || err != api.OK {
			t.Errorf("%v: %q, error %d", c, o.Body, err)
		}
	}
	for _, c := range append(wrongCommits(), api.Commit{Parents: ids(5000)}, api.Commit{Text: strings.Repeat("t", 1<<20)}) {
		if o, err := object.Commit(c); o != (api.Object{}) || err != api.ErrArg {
			t.Errorf("%d parents: %q, error %d", len(c.Parents), o.Body, err)
		}
	}
}

func sameCommit(a, b api.Commit) bool {
	return a.Tree == b.Tree && a.Text == b.Text && slices.Equal(a.Parents, b.Parents)
}

func TestEntries(t *testing.T) { // P6.3, P6.5
	for _, l := range lists() {
		o, _ := object.Tree(l...)
		if got, err := object.Entries(o); !slices.Equal(got, l) || err != api.OK {
			t.Errorf("%v: %v, error %d", l, got, err)
		}
	}
	for _, o := range slices.Concat(objects(), wrongObjects()) {
		if o.Kind == api.KindTree && object.Right(o) {
			continue
		}
		if got, err := object.Entries(o); len(got) != 0 || err != api.ErrArg {
			t.Errorf("%d %.40q: %v, error %d", o.Kind, o.Body, got, err)
		}
	}
}

func TestCommits(t *testing.T) { // P6.3, P6.5
	for _, c := range commits() {
		o, _ := object.Commit(c)
		if got, err := object.Commits(o); !sameCommit(got, c) || err != api.OK {
			t.Errorf("%v: %v, error %d", c, got, err)
		}
	}
	for _, o := range slices.Concat(objects(), wrongObjects()) {
		if o.Kind == api.KindCommit && object.Right(o) {
			continue
		}
		if got, err := object.Commits(o); !sameCommit(got, api.Commit{}) || err != api.ErrArg {
			t.Errorf("%d %.40q: %v, error %d", o.Kind, o.Body, got, err)
		}
	}
}

func TestChildren(t *testing.T) { // P6.3
	for _, l := range lists() {
		var want []api.Child
		for _, e := range l {
			want = append(want, api.Child{Id: e.Id, Kind: e.Kind})
		}
		if got := object.Children(tree(l...)); !slices.Equal(got, want) {
			t.Errorf("%v: %v", l, got)
		}
		if got := object.Children(blob(treeBody(l...))); len(got) != 0 {
			t.Errorf("a blob: %v", got)
		}
	}
	for _, c := range commits() {
		want := []api.Child{{Id: c.Tree, Kind: api.KindTree}}
		for _, p := range c.Parents {
			want = append(want, api.Child{Id: p, Kind: api.KindCommit})
		}
		if got := object.Children(commit(c)); !slices.Equal(got, want) {
			t.Errorf("%v: %v", c, got)
		}
	}
	for _, o := range wrongObjects() {
		if got := object.Children(o); len(got) != 0 {
			t.Errorf("%d %.40q: %v", o.Kind, o.Body, got)
		}
	}
}

func TestUnlikeObjectsHaveUnlikeFrames(t *testing.T) { // P6.4
	frames, names := map[string]api.Object{}, map[api.Id]api.Object{}
	for _, o := range objects() {
		s, _ := object.Frame(o)
		n, _ := object.Id(o)
		if other, ok := frames[s]; ok && other != o {
			t.Errorf("%d %.40q and %d %.40q have one frame", o.Kind, o.Body, other.Kind, other.Body)
		}
		if other, ok := names[n]; ok && other != o {
			t.Errorf("%d %.40q and %d %.40q have one id", o.Kind, o.Body, other.Kind, other.Body)
		}
		frames[s], names[n] = o, o
	}
}

func TestWhatIsReadHasThatFrame(t *testing.T) { // P6.4
	for _, o := range objects() {
		whole := frame(o)
		if len(whole) > 400 {
			continue
		}
		for at := range whole {
			for _, b := range []byte{0, 1, 2, 3, 0x20, 0x21, 0x2f, 0x7f, 0x80, 0xff, 'b', 't', 'c', whole[at] + 1, whole[at] ^ 0x80} {
				for _, s := range []string{whole[:at] + string([]byte{b}) + whole[at+1:], whole[:at] + string([]byte{b}) + whole[at:], whole[:at] + whole[at+1:]} {
					got, err := object.Read(s)
					if err != api.OK {
						notRead(t, s)
					} else if again, err := object.Frame(got); again != s || err != api.OK {
						t.Errorf("%q: %q, error %d", s, again, err)
					}
				}
			}
		}
	}
}

func TestWhatIsHandedInStaysAsItIs(t *testing.T) { // P6.2, rule 4
	l := many(8)
	slices.Reverse(l)
	before := slices.Clone(l)
	object.Tree(l[:5]...)
	if !slices.Equal(l, before) {
		t.Errorf("%v, not %v", l, before)
	}
	c := api.Commit{Parents: ids(6)[:3], Text: "x"}
	object.Commit(c)
	if !slices.Equal(c.Parents[:6], ids(6)) {
		t.Errorf("%v", c.Parents[:6])
	}
}

func TestAnswersAreNewMemory(t *testing.T) { // P6.2, P6.3, rule 4
	b := []byte("\x00ab")
	s := unsafe.String(&b[1], 2)
	o, _ := object.Blob(s)
	b[1] = '!'
	if o.Body != "ab" {
		t.Errorf("a blob: %q", o.Body)
	}
	b = []byte(frame(blob("ab")))
	o, _ = object.Read(unsafe.String(&b[0], len(b)))
	b[2] = '!'
	if o.Body != "ab" {
		t.Errorf("what was read: %q", o.Body)
	}
	b = []byte(treeBody(many(1)...))
	entries, _ := object.Entries(api.Object{Kind: api.KindTree, Body: unsafe.String(&b[0], len(b))})
	clear(b)
	if !slices.Equal(entries, many(1)) {
		t.Errorf("entries: %v", entries)
	}
	b = []byte(commitBody(commits()[5]))
	c, _ := object.Commits(api.Object{Kind: api.KindCommit, Body: unsafe.String(&b[0], len(b))})
	clear(b)
	if !sameCommit(c, commits()[5]) {
		t.Errorf("a commit: %v", c)
	}
}

func TestAnswersStandAlone(t *testing.T) { // P6.3, rule 4
	o := tree(many(5)...)
	a, _ := object.Entries(o)
	clear(a[:cap(a)])
	if b, _ := object.Entries(o); !slices.Equal(b, many(5)) {
		t.Errorf("entries: %v", b)
	}
	children := object.Children(o)
	clear(children[:cap(children)])
	if again := object.Children(o); len(again) != 5 || again[0] != (api.Child{Id: id(0), Kind: 1}) {
		t.Errorf("children: %v", again)
	}
	o = commit(commits()[5])
	c, _ := object.Commits(o)
	clear(c.Parents[:cap(c.Parents)])
	if again, _ := object.Commits(o); !sameCommit(again, commits()[5]) {
		t.Errorf("a commit: %v", again)
	}
}
