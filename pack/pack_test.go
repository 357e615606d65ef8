package pack_test

import (
	"math"
	"math/big"
	"slices"
	"strconv"
	"strings"
	"testing"

	"canton/api"
	"canton/pack"
)

// wantNum is the encoding of n as the document says it: the digits to the base 128, with 128 added to all but the last one.
func wantNum(n int64) string {
	two := strconv.FormatInt(n, 2)
	two = strings.Repeat("0", 6-(len(two)+6)%7) + two
	b := make([]byte, len(two)/7)
	for i := range b {
		digit, _ := strconv.ParseUint(two[7*i:7*i+7], 2, 8)
		b[i] = byte(digit) + 128
	}
	b[len(b)-1] -= 128
	return string(b)
}

func wantText(s string) string {
	return wantNum(int64(len(s))) + s
}

func wantTexts(l []string) string {
	all := wantNum(int64(len(l)))
	for _, s := range l {
		all += wantText(s)
	}
	return all
}

// left is what remains of bytes that are read as the document says it, and the error.
type left struct {
	rest string
	err  api.Errno
}

func (l *left) num(most int64) int64 {
	if l.err != api.OK {
		return 0
	}
	last := 0
	for last < len(l.rest) && l.rest[last] >= 128 {
		last++
	}
	if last > 0 && l.rest[0] == 128 || last >= 7 {
		return l.fail(api.ErrCorrupt)
	}
	if last == len(l.rest) {
		return l.fail(api.ErrEnd)
	}
	n := new(big.Int)
	for i := range last + 1 {
		n.Mul(n, big.NewInt(128))
		n.Add(n, big.NewInt(int64(l.rest[i]&127)))
	}
	if n.Cmp(big.NewInt(1<<48)) > 0 || n.Cmp(big.NewInt(most)) > 0 {
		return l.fail(api.ErrCorrupt)
	}
	l.rest = l.rest[last+1:]
	return n.Int64()
}

func (l *left) text() string {
	n := l.num(1 << 48)
	if int64(len(l.rest)) < n {
		l.fail(api.ErrEnd)
		return ""
	}
	s := l.rest[:n]
	l.rest = l.rest[n:]
	return s
}

func (l *left) texts() []string {
	var all []string
	for range l.num(1 << 48) {
		all = append(all, l.text())
		if l.err != api.OK {
			return nil
		}
	}
	return all
}

func (l *left) fail(e api.Errno) int64 {
	*l = left{err: e}
	return 0
}

// agree reads b in the order of kinds (n: a number up to most, t: a string, l: a list) and holds all that the reader answers against the document.
func agree(t *testing.T, b string, most int64, kinds string) {
	t.Helper()
	r, want := pack.New([]byte(b)), &left{rest: b}
	for i, kind := range kinds {
		ok := true
		switch kind {
		case 'n':
			ok = r.Num(most) == want.num(most)
		case 't':
			ok = r.Text() == want.text()
		case 'l':
			ok = slices.Equal(r.Texts(), want.texts())
		}
		if end := want.err == api.OK && want.rest == ""; !ok || r.Err() != want.err || r.End() != end {
			t.Errorf("%q, most %d, read as %s: at %d as document %v, error %d, end %v; want %d, %v", b, most, kinds, i, ok, r.Err(), r.End(), want.err, end)
			return
		}
	}
}

// edgeNums is the numbers at which an encoding gets longer, those beside them, and the last ones.
func edgeNums() []int64 {
	l := []int64{0, 1, 2, 63, 64, 127, 300, 1<<48 - 2, 1<<48 - 1, 1 << 48}
	for shift := 7; shift <= 42; shift += 7 {
		l = append(l, 1<<shift-1, 1<<shift, 1<<shift+1, 1<<shift+1<<(shift-1), 127<<(shift-7))
	}
	return l
}

func wrongNums() []int64 {
	return []int64{-1, -2, -127, -128, -300, -1 << 48, math.MinInt64, math.MinInt64 + 1, 1<<48 + 1, 1<<48 + 2, 1 << 49, 1 << 62, math.MaxInt64}
}

// edgeTexts is strings whose lengths are at the edges of a byte of the number ahead of them, and of all bytes.
func edgeTexts() []string {
	l := []string{"", "a", "\x00", "\x80", "\xff", "/a/b", "é", "\xff\xff\xff\xff\xff\xff\xff\x01"}
	for _, n := range []int{126, 127, 128, 129, 255, 256, 16383, 16384} {
		l = append(l, strings.Repeat("x", n))
	}
	every := make([]byte, 256)
	for i := range every {
		every[i] = byte(i)
	}
	return append(l, string(every))
}

func edgeLists() [][]string {
	return [][]string{nil, {}, {""}, {"", ""}, {"a"}, {"a", ""}, {"", "a"}, {"a", "b", "c"}, {"c", "a", "c"}, edgeTexts(), make([]string, 127), make([]string, 128), make([]string, 300)}
}

// holds is that w has written want, and no invalid number.
func holds(t *testing.T, w *pack.Writer, want string) {
	t.Helper()
	if b, e := w.Bytes(); string(b) != want || e != api.OK {
		t.Errorf("Bytes: %q, %d; want %q", b, e, want)
	}
}

// P2.1 (B1): a Writer.

func TestNumsOfTheDocument(t *testing.T) {
	for _, c := range []struct {
		n    int64
		want string
	}{
		{0, "\x00"},
		{1, "\x01"},
		{127, "\x7f"},
		{128, "\x81\x00"},
		{129, "\x81\x01"},
		{300, "\x82\x2c"},
		{16383, "\xff\x7f"},
		{16384, "\x81\x80\x00"},
		{1<<42 - 1, "\xff\xff\xff\xff\xff\x7f"},
		{1 << 42, "\x81\x80\x80\x80\x80\x80\x00"},
		{1<<48 - 1, "\xbf\xff\xff\xff\xff\xff\x7f"},
		{1 << 48, "\xc0\x80\x80\x80\x80\x80\x00"},
	} {
		w := &pack.Writer{}
		w.Num(c.n)
		holds(t, w, c.want)
		if wantNum(c.n) != c.want {
			t.Errorf("the test's own encoding of %d: %q", c.n, wantNum(c.n))
		}
	}
}

func TestNums(t *testing.T) {
	for _, n := range edgeNums() {
		w := &pack.Writer{}
		w.Num(n)
		holds(t, w, wantNum(n))
	}
	all, want := &pack.Writer{}, ""
	for n := range int64(40000) {
		all.Num(n)
		want += wantNum(n)
	}
	holds(t, all, want)
}

func TestTextsAreWrittenBehindTheirLengths(t *testing.T) {
	for _, s := range edgeTexts() {
		w := &pack.Writer{}
		w.Text(s)
		holds(t, w, wantText(s))
	}
	for _, l := range edgeLists() {
		w := &pack.Writer{}
		w.Texts(l)
		holds(t, w, wantTexts(l))
	}
}

func TestWriterAppends(t *testing.T) {
	w := &pack.Writer{}
	holds(t, w, "")
	w.Num(300)
	holds(t, w, "\x82\x2c")
	w.Text("ab")
	holds(t, w, "\x82\x2c\x02ab")
	w.Texts([]string{"", "c"})
	holds(t, w, "\x82\x2c\x02ab\x02\x00\x01c")
	w.Num(0)
	w.Texts(nil)
	w.Text("")
	holds(t, w, "\x82\x2c\x02ab\x02\x00\x01c\x00\x00\x00")
}

func TestInvalidNumsAreRefused(t *testing.T) {
	for _, n := range wrongNums() {
		for at := range 4 {
			w := &pack.Writer{}
			for i := range 4 {
				if i == at {
					w.Num(n)
				}
				w.Num(5)
				w.Text("a")
				w.Texts([]string{"b"})
				b, e := w.Bytes()
				if wrong := i >= at; wrong != (e == api.ErrArg) || wrong != (len(b) == 0) || !wrong && e != api.OK {
					t.Errorf("Num(%d) at %d: Bytes at %d: %q, %d", n, at, i, b, e)
				}
			}
		}
	}
}

// P2.1 (B2): New, Err and End.

func TestNewReader(t *testing.T) {
	for _, c := range []struct {
		b   []byte
		end bool
	}{{nil, true}, {[]byte{}, true}, {[]byte{0}, false}, {[]byte{128}, false}, {[]byte("abc"), false}} {
		if r := pack.New(c.b); r.Err() != api.OK || r.End() != c.end {
			t.Errorf("New(%q): Err %d, End %v", c.b, r.Err(), r.End())
		}
	}
}

func TestEnd(t *testing.T) {
	r := pack.New([]byte("\x05\x01a\x01\x00"))
	for i, read := range []func(){func() { r.Num(5) }, func() { r.Text() }, func() { r.Texts() }} {
		if r.End() || r.Err() != api.OK {
			t.Errorf("End ahead of %d: %v, %d", i, r.End(), r.Err())
		}
		read()
	}
	if !r.End() || r.Err() != api.OK {
		t.Errorf("End behind all: %v, %d", r.End(), r.Err())
	}
	if r.Num(5) != 0 || r.End() || r.Err() != api.ErrEnd {
		t.Errorf("behind the end: End %v, Err %d", r.End(), r.Err())
	}
}

// P2.1 (B3): Num, Text and Texts.

func TestReadNum(t *testing.T) {
	const any = math.MaxInt64
	for _, c := range []struct {
		b    string
		most int64
		n    int64
		err  api.Errno
	}{
		{"\x00", 0, 0, api.OK},
		{"\x7f", 127, 127, api.OK},
		{"\x7f", 126, 0, api.ErrCorrupt},
		{"\x82\x2c", 300, 300, api.OK},
		{"\x82\x2c", 299, 0, api.ErrCorrupt},
		{"\x82\x2c", 301, 300, api.OK},
		{"\x00", -1, 0, api.ErrCorrupt},
		{"\x00", math.MinInt64, 0, api.ErrCorrupt},
		{"\x05", -6, 0, api.ErrCorrupt},
		{"\xbf\xff\xff\xff\xff\xff\x7f", 1<<48 - 1, 1<<48 - 1, api.OK},
		{"\xc0\x80\x80\x80\x80\x80\x00", 1 << 48, 1 << 48, api.OK},
		{"\xc0\x80\x80\x80\x80\x80\x00", any, 1 << 48, api.OK},
		{"\xc0\x80\x80\x80\x80\x80\x00", 1<<48 - 1, 0, api.ErrCorrupt},
		{"\xc0\x80\x80\x80\x80\x80\x01", any, 0, api.ErrCorrupt},
		{"\xff\xff\xff\xff\xff\xff\x7f", any, 0, api.ErrCorrupt},
		// the bytes end too early
		{"", any, 0, api.ErrEnd},
		{"", -1, 0, api.ErrEnd},
		{"\x81", any, 0, api.ErrEnd},
		{"\x81", -1, 0, api.ErrEnd},
		{"\xff\xff", 0, 0, api.ErrEnd},
		{"\xff\xff\xff\xff\xff\xff", any, 0, api.ErrEnd},
		{"\x81\x80\x80\x80\x80\x80", any, 0, api.ErrEnd},
		// too long, or with a zero ahead, even if the bytes end too early as well
		{"\x81\x80\x80\x80\x80\x80\x80", any, 0, api.ErrCorrupt},
		{"\xff\xff\xff\xff\xff\xff\xff", any, 0, api.ErrCorrupt},
		{"\x81\x80\x80\x80\x80\x80\x80\x00", any, 0, api.ErrCorrupt},
		{"\x81\x80\x80\x80\x80\x80\x80\x80\x80\x80\x00", any, 0, api.ErrCorrupt},
		{"\x80", any, 0, api.ErrCorrupt},
		{"\x80\x00", any, 0, api.ErrCorrupt},
		{"\x80\x01", any, 0, api.ErrCorrupt},
		{"\x80\x81", any, 0, api.ErrCorrupt},
		{"\x80\x80\x80\x80\x80\x80\x00", any, 0, api.ErrCorrupt},
	} {
		r := pack.New([]byte(c.b))
		if n := r.Num(c.most); n != c.n || r.Err() != c.err || r.End() != (c.err == api.OK) {
			t.Errorf("%q: Num(%d) = %d, error %d, end %v; want %d, %d", c.b, c.most, n, r.Err(), r.End(), c.n, c.err)
		}
		agree(t, c.b, c.most, "n")
	}
}

func TestReadText(t *testing.T) {
	for _, c := range []struct {
		b   string
		s   string
		err api.Errno
	}{
		{"\x00", "", api.OK},
		{"\x01a", "a", api.OK},
		{"\x03\x00\x80\xff", "\x00\x80\xff", api.OK},
		{"\x81\x00" + strings.Repeat("x", 128), strings.Repeat("x", 128), api.OK},
		{"", "", api.ErrEnd},
		{"\x01", "", api.ErrEnd},
		{"\x03ab", "", api.ErrEnd},
		{"\x81\x00" + strings.Repeat("x", 127), "", api.ErrEnd},
		{"\x81", "", api.ErrEnd},
		{"\xc0\x80\x80\x80\x80\x80\x00a", "", api.ErrEnd},
		{"\xc0\x80\x80\x80\x80\x80\x01a", "", api.ErrCorrupt},
		{"\x80\x01a", "", api.ErrCorrupt},
		{"\x81\x80\x80\x80\x80\x80\x80\x00", "", api.ErrCorrupt},
	} {
		r := pack.New([]byte(c.b))
		if s := r.Text(); s != c.s || r.Err() != c.err || r.End() != (c.err == api.OK) {
			t.Errorf("%q: Text = %q, error %d, end %v; want %q, %d", c.b, s, r.Err(), r.End(), c.s, c.err)
		}
		agree(t, c.b, 0, "t")
	}
}

func TestReadTexts(t *testing.T) {
	for _, c := range []struct {
		b   string
		l   []string
		err api.Errno
	}{
		{"\x00", nil, api.OK},
		{"\x01\x00", []string{""}, api.OK},
		{"\x02\x00\x01a", []string{"", "a"}, api.OK},
		{"\x03\x01a\x02bc\x00", []string{"a", "bc", ""}, api.OK},
		{"", nil, api.ErrEnd},
		{"\x01", nil, api.ErrEnd},
		{"\x02\x01a", nil, api.ErrEnd},
		{"\x02\x01a\x02b", nil, api.ErrEnd},
		{"\x02\x01a\x81", nil, api.ErrEnd},
		{"\xc0\x80\x80\x80\x80\x80\x00\x00\x00", nil, api.ErrEnd},
		{"\x02\x01a\x80\x00", nil, api.ErrCorrupt},
		{"\x02\x80\x00\x01a", nil, api.ErrCorrupt},
		{"\x80\x00", nil, api.ErrCorrupt},
		{"\xc0\x80\x80\x80\x80\x80\x01\x00", nil, api.ErrCorrupt},
		{"\xc0\x80\x80\x80\x80\x80\x00\x80\x00", nil, api.ErrCorrupt},
	} {
		r := pack.New([]byte(c.b))
		if l := r.Texts(); !slices.Equal(l, c.l) || r.Err() != c.err || r.End() != (c.err == api.OK) {
			t.Errorf("%q: Texts = %q, error %d, end %v; want %q, %d", c.b, l, r.Err(), r.End(), c.l, c.err)
		}
		agree(t, c.b, 0, "l")
	}
}

// shortTexts is all texts of up to most letters of an alphabet.
func shortTexts(alphabet string, most int) []string {
	all := []string{""}
	begin := 0
	for range most {
		end := len(all)
		for _, s := range all[begin:end] {
			for i := range len(alphabet) {
				all = append(all, s+alphabet[i:i+1])
			}
		}
		begin = end
	}
	return all
}

func TestAllShortBytes(t *testing.T) {
	for _, b := range shortTexts("\x00\x01\x02\x7f\x80\x81\xff", 5) {
		for _, kinds := range []string{"nnn", "ttt", "lll", "ntl", "tln"} {
			agree(t, b, 1<<48, kinds)
		}
		for _, most := range []int64{-1, 0, 1, 127, 128, 129, 255} {
			agree(t, b, most, "nn")
		}
	}
	for _, b := range shortTexts("\x00\x80\x81\xff", 8) {
		agree(t, b, math.MaxInt64, "nn")
	}
	for first := range 256 {
		for second := range 256 {
			agree(t, string([]byte{byte(first), byte(second)}), 1<<48, "nn")
		}
	}
}

func TestMost(t *testing.T) {
	for _, n := range edgeNums() {
		for _, most := range slices.Concat(edgeNums(), wrongNums(), []int64{n - 1, n, n + 1}) {
			agree(t, wantNum(n), most, "n")
		}
	}
}

// P2.2 (there and back).

func TestWhatIsWrittenIsReadBack(t *testing.T) {
	w := &pack.Writer{}
	for i, l := range edgeLists() {
		w.Texts(l)
		w.Num(int64(i))
	}
	for _, n := range edgeNums() {
		w.Num(n)
		for _, s := range edgeTexts() {
			w.Text(s)
		}
	}
	b, e := w.Bytes()
	r := pack.New(b)
	for i, l := range edgeLists() {
		if got := r.Texts(); !slices.Equal(got, l) || r.Num(int64(i)) != int64(i) {
			t.Errorf("list %d: %q; want %q", i, got, l)
		}
	}
	for _, n := range edgeNums() {
		if got := r.Num(n); got != n {
			t.Errorf("Num: %d; want %d", got, n)
		}
		for _, s := range edgeTexts() {
			if got := r.Text(); got != s {
				t.Errorf("Text: %q; want %q", got, s)
			}
		}
	}
	if e != api.OK || r.Err() != api.OK || !r.End() {
		t.Errorf("errors %d and %d, end %v", e, r.Err(), r.End())
	}
}

func TestEveryBitOfNums(t *testing.T) {
	for high := range 49 {
		for low := range high + 1 {
			n := min(int64(1)<<high+int64(1)<<low, 1<<48)
			w := &pack.Writer{}
			w.Num(n)
			b, _ := w.Bytes()
			if r := pack.New(b); r.Num(n) != n || !r.End() {
				t.Errorf("%d: %q, error %d", n, b, r.Err())
			}
		}
	}
}

// TestWhatIsReadWasWritten has bytes be written again from what they were read as.
func TestWhatIsReadWasWritten(t *testing.T) {
	many := 0
	for _, b := range slices.Concat(shortTexts("\x00\x01\x02\x7f\x80\x81\xff", 5), shortTexts("\x00\x80\x81\xff", 8)) {
		for _, kind := range "ntl" {
			r, w := pack.New([]byte(b)), &pack.Writer{}
			switch kind {
			case 'n':
				w.Num(r.Num(math.MaxInt64))
			case 't':
				w.Text(r.Text())
			case 'l':
				w.Texts(r.Texts())
			}
			if !r.End() {
				continue
			}
			many++
			holds(t, w, b)
		}
	}
	if many < 100 {
		t.Errorf("only %d texts could be read", many)
	}
}

func TestEncodingsThatAreCutOff(t *testing.T) {
	for _, n := range edgeNums() {
		for _, s := range []string{wantNum(n), wantText("abc"), wantTexts([]string{"a", "", "bc"})} {
			for end := range len(s) {
				agree(t, s[:end], 1<<48, "nntl")
				agree(t, s[:end], 1<<48, "tn")
				agree(t, s[:end], 1<<48, "ln")
			}
		}
	}
}

// P2.3: an error persists.

func TestErrorPersists(t *testing.T) {
	const more = "\x01\x01\x01a\x01\x01b"
	for _, c := range []struct {
		b    string
		kind rune
		err  api.Errno
	}{
		{"\x80\x01" + more, 'n', api.ErrCorrupt},
		{"\x80\x01" + more, 't', api.ErrCorrupt},
		{"\x80\x01" + more, 'l', api.ErrCorrupt},
		{"\xc0\x80\x80\x80\x80\x80\x01" + more, 'n', api.ErrCorrupt},
		{"\x7f" + more, 'n', api.ErrCorrupt}, // 127 is greater than most
		{"\x7f" + more, 't', api.ErrEnd},
		{"\x7f" + more, 'l', api.ErrEnd},
		{"\x02\x01a\x80" + more, 'l', api.ErrCorrupt},
		{"\x81", 'n', api.ErrEnd},
		{"", 't', api.ErrEnd},
	} {
		r := pack.New([]byte(c.b))
		kinds := []rune{c.kind, 'n', 't', 'l', 'n', 'l', 't'}
		for i, kind := range kinds {
			none := true
			switch kind {
			case 'n':
				none = r.Num(100) == 0
			case 't':
				none = r.Text() == ""
			case 'l':
				none = len(r.Texts()) == 0
			}
			if !none || r.Err() != c.err || r.End() {
				t.Errorf("%q, call %d: nothing %v, error %d, end %v; want %d", c.b, i, none, r.Err(), r.End(), c.err)
			}
		}
	}
}

func TestErrorBehindOthers(t *testing.T) {
	r := pack.New([]byte("\x05\x01a\x01\x01b\x80\x00\x01"))
	if n, s, l := r.Num(9), r.Text(), r.Texts(); n != 5 || s != "a" || !slices.Equal(l, []string{"b"}) || r.Err() != api.OK {
		t.Errorf("%d, %q, %q, error %d", n, s, l, r.Err())
	}
	if r.Num(9) != 0 || r.Err() != api.ErrCorrupt || r.Num(9) != 0 || r.Err() != api.ErrCorrupt || r.End() {
		t.Errorf("error %d, end %v", r.Err(), r.End())
	}
}
