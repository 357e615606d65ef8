package wal_test

import (
	"bytes"
	"slices"
	"testing"

	"canton/api"
	"canton/sector"
	"canton/wal"
)

// P1 and P2: every function ends, without a panic, whatever it is given, and a call that answers an error has changed nothing.

func TestAnyArguments(t *testing.T) {
	for _, sectors := range []int{1, 2, 3, 4, 5, 100, 4095, 4096} {
		l, e := wal.Open(sector.New(sectors))
		if (l != nil) != (sectors >= 3) || (e == api.OK) != (sectors >= 3) {
			t.Errorf("%d sectors: error %d", sectors, e)
		}
		if l == nil {
			continue
		}
		var want [][]byte
		for _, n := range []int{0, 1, 16, 17, most - 1, most, most + 1, 1 << 16, 1 << 22} {
			if l.Append(rising(n, 1)) == api.OK {
				want = append(want, rising(n, 1))
			}
			has(t, l, sectors, want...)
			if l.Start(rising(n, 2)) == api.OK {
				want = [][]byte{rising(n, 2)}
			}
			has(t, l, sectors, want...)
		}
	}
}

func TestAnyDiskOfAFewSectors(t *testing.T) {
	for sectors := 1; sectors <= 5; sectors++ {
		for at := range 16 * sectors {
			for _, c := range []byte{1, 82, 87, 255} {
				b := bytes.Repeat([]byte{c}, 16*sectors)
				b[at] = 0
				wal.Open(sector.Of(b))
				b = make([]byte, 16*sectors)
				b[at] = c
				wal.Open(sector.Of(b))
			}
		}
	}
	var d sector.Disk
	if l, e := wal.Open(&d); l != nil || e != api.ErrArg {
		t.Errorf("a disk of no sectors: error %d", e)
	}
}

// P3: the same calls have the same answers, and one log has no effect on another.

func TestLogsAreApart(t *testing.T) {
	one, two := sector.New(13), sector.New(13)
	l, m := open(t, one), open(t, two)
	l.Append([]byte("a"))
	has(t, m, 13)
	m.Start([]byte("b"))
	has(t, l, 13, []byte("a"))
	one.Fuse(0)
	one.Sync()
	if e := m.Append([]byte("c")); e != api.OK {
		t.Errorf("error %d", e)
	}
	has(t, l, 13, []byte("a"))
	has(t, m, 13, []byte("b"), []byte("c"))
}

// What else is written to its disk has no part in what a log tells.
func TestLogTellsByItsCallsAlone(t *testing.T) {
	d := sector.New(13)
	l := open(t, d)
	l.Append([]byte("a"))
	d.Write(0, bytes.Repeat([]byte{255}, 16*13))
	has(t, l, 13, []byte("a"))
	d.Crash(nil)
	has(t, l, 13, []byte("a"))
}

func TestAskingChangesNothing(t *testing.T) {
	d := sector.New(13)
	l := open(t, d)
	l.Append([]byte("a"))
	acts := d.Acts()
	for range 3 {
		has(t, l, 13, []byte("a"))
	}
	if d.Acts() != acts || len(d.Loose()) != 0 {
		t.Errorf("%d acts, then %d", acts, d.Acts())
	}
}

// P3: arguments are neither changed nor kept, up to their spare capacity.

func TestNoArgumentIsKept(t *testing.T) {
	for _, n := range []int{0, 1, 15, 16, 17, 32} {
		whole := rising(64, 3)
		d := sector.New(30)
		l := open(t, d)
		for _, do := range []func([]byte) api.Errno{l.Append, l.Start, l.Append} {
			if e := do(whole[:n]); e != api.OK || !bytes.Equal(whole, rising(64, 3)) {
				t.Errorf("error %d; the argument became %v", e, whole)
			}
		}
		disk := d.Bytes()
		clear(whole)
		has(t, l, 30, rising(n, 3), rising(n, 3))
		if !bytes.Equal(d.Bytes(), disk) {
			t.Errorf("%d bytes: the disk changed with the argument", n)
		}
	}
}

// A record that a log has told can be given to it again.
func TestRecordOfALogAsItsArgument(t *testing.T) {
	l := open(t, sector.New(30))
	l.Append([]byte("ab"))
	l.Append(l.Records()[0])
	has(t, l, 30, []byte("ab"), []byte("ab"))
	l.Start(l.Records()[1][:1])
	has(t, l, 30, []byte("a"))
}

// P3: what is returned is nobody else's, up to its spare capacity.

func TestRecordsAreNewlyAllocated(t *testing.T) {
	d := sector.Of(logOf(41, 0, nil, []byte("a"), nil, rising(40, 1)))
	l := open(t, d)
	for range 3 {
		want := [][]byte{[]byte("a"), {}, rising(40, 1)}
		one, two := l.Records(), l.Records()
		for _, r := range one {
			r = r[:cap(r)]
			for i := range r {
				r[i] = 0xee
			}
		}
		one = one[:cap(one)]
		for i := range one {
			one[i] = []byte("spoilt")
		}
		if !alike(two, want) || slices.ContainsFunc(two[:cap(two)], func(r []byte) bool { return string(r) == "spoilt" || slices.Contains(r[:cap(r)], 0xee) }) {
			t.Errorf("Records is shared: %v", two)
		}
		has(t, l, 41, want...)
		has(t, open(t, d), 41, want...)
	}
	was := l.Records()
	l.Append([]byte("more"))
	l.Start([]byte("new"))
	if !alike(was, [][]byte{[]byte("a"), {}, rising(40, 1)}) {
		t.Errorf("a result was changed: %v", was)
	}
}
