package pack_test

import (
	"math"
	"slices"
	"strings"
	"testing"

	"canton/api"
	"canton/pack"
)

// anyBytes is bytes of all sorts: right ones, wrong ones, very long ones, and many that follow one another without a rule.
func anyBytes() []string {
	const long = 1 << 16
	l := shortTexts("\x00\x02\x80\xff", 4)
	for _, s := range []string{"\x00", "\x01", "\x7f", "\x80", "\x81", "\xff", "\x01a", "\x81\x00", "\xc0\x80\x80\x80\x80\x80\x00"} {
		l = append(l, strings.Repeat(s, long), "\xbf\xff\xff\xff\xff\xff\x7f"+strings.Repeat(s, long))
	}
	mixed := uint32(1)
	for size := range 200 {
		b := make([]byte, size)
		for i := range b {
			mixed = mixed*1664525 + 1013904223
			b[i] = byte(mixed >> 24)
			if i%3 == 0 {
				b[i] %= 5
			}
		}
		l = append(l, string(b))
	}
	return l
}

// P1 and P2: every function ends, without a panic, whatever it is given, and answers zero values with an error.

func TestAnyBytes(t *testing.T) {
	for _, b := range anyBytes() {
		for _, kinds := range []string{"nntl", "tltn", "llnt"} {
			agree(t, b, math.MaxInt64, kinds)
		}
		for _, most := range []int64{math.MinInt64, -1, 0, 1, 255, 1 << 48} {
			agree(t, b, most, "nn")
		}
	}
}

func TestAnyArgumentsOfAWriter(t *testing.T) {
	for _, n := range slices.Concat(edgeNums(), wrongNums()) {
		w := &pack.Writer{}
		w.Texts(nil)
		w.Num(n)
		w.Text(strings.Repeat("\xff", 1<<16))
		b, e := w.Bytes()
		if right := n >= 0 && n <= 1<<48; right != (e == api.OK) || !right && (e != api.ErrArg || len(b) != 0) {
			t.Errorf("with %d: %d bytes, %d", n, len(b), e)
		}
	}
}

// P3: the same bytes are read alike, and one reader or writer has no effect on another.

func TestObjectsAreApart(t *testing.T) {
	b := []byte("\x05\x01a\x01\x01b")
	bad, one, two := pack.New([]byte("\x80")), pack.New(b), pack.New(b)
	bad.Num(1)
	one.Num(9)
	if n := two.Num(9); n != 5 {
		t.Errorf("the second reader's number: %d", n)
	}
	if one.Text() != "a" || two.Text() != "a" || !slices.Equal(one.Texts(), []string{"b"}) || !slices.Equal(two.Texts(), []string{"b"}) || !one.End() || !two.End() {
		t.Errorf("errors %d and %d", one.Err(), two.Err())
	}
	v, w := &pack.Writer{}, &pack.Writer{}
	v.Num(-1)
	w.Num(1)
	holds(t, w, "\x01")
	holds(t, &pack.Writer{}, "")
}

// P3: arguments are neither changed nor kept, up to their spare capacity.

func TestReaderKeepsNoArgument(t *testing.T) {
	whole := []byte("\x05\x01a\x02\x01b\x00spare")
	kept := slices.Clone(whole)
	r := pack.New(whole[:7])
	if r.Num(9) != 5 || !slices.Equal(whole, kept) {
		t.Errorf("%q became %q", kept, whole)
	}
	clear(whole)
	s := r.Text()
	clear(kept)
	if l := r.Texts(); s != "a" || !slices.Equal(l, []string{"b", ""}) || !r.End() {
		t.Errorf("behind a change of the argument: %q, %q, error %d", s, l, r.Err())
	}
	if !slices.Equal(whole, make([]byte, len(whole))) {
		t.Errorf("the argument was changed: %q", whole)
	}
}

func TestWriterKeepsNoArgument(t *testing.T) {
	whole := []string{"a", "b", "spare", "spare"}
	w := &pack.Writer{}
	w.Texts(whole[:2])
	if !slices.Equal(whole, []string{"a", "b", "spare", "spare"}) {
		t.Errorf("the list was changed: %q", whole)
	}
	whole[0] = "c"
	holds(t, w, "\x02\x01a\x01b")
}

// P3: what is returned is nobody else's, up to its spare capacity.

func TestBytesAreNewlyAllocated(t *testing.T) {
	w, want := &pack.Writer{}, ""
	for i := range 100 {
		w.Num(int64(i))
		want += wantNum(int64(i))
		one, _ := w.Bytes()
		two, _ := w.Bytes()
		spoil(one, 0xee)
		if string(two) != want || slices.Contains(two[len(two):cap(two)], 0xee) {
			t.Errorf("two results share memory: %q", two)
		}
		holds(t, w, want)
		w.Text("x")
		want += "\x01x"
		for _, c := range one[:cap(one)] {
			if c != 0xee {
				t.Errorf("a result was changed by what was written behind it: %q", one[:cap(one)])
			}
		}
	}
}

func TestTextsAreNewlyAllocated(t *testing.T) {
	l := []string{"a", "bc", "", "d", "e"}
	r := pack.New([]byte(wantTexts(l) + wantTexts(l)))
	one := r.Texts()
	spoil(one, "spoilt")
	two := r.Texts()
	if !slices.Equal(two, l) || !r.End() || slices.Contains(two[len(two):cap(two)], "spoilt") {
		t.Errorf("behind a change of the first list: %q, error %d", two, r.Err())
	}
}

func spoil[E any](l []E, e E) {
	l = l[:cap(l)]
	for i := range l {
		l[i] = e
	}
}
