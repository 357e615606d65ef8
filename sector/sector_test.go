package sector_test

import (
	"bytes"
	"math"
	"slices"
	"testing"

	"canton/api"
	"canton/sector"
)

const most = 4096 // sectors

// plain is a disk as the document says it: flat bytes, and for each sector whether it is loose.
type plain struct {
	current, synced []byte
	loose           []bool
	acts, fuse      int
	fused, down     bool
}

func plainOf(b []byte) *plain {
	return &plain{current: bytes.Clone(b), synced: bytes.Clone(b), loose: make([]bool, len(b)/16)}
}

func (p *plain) act(right bool, perform func()) api.Errno {
	if p.down {
		return api.ErrDown
	}
	if p.fused && p.fuse == 0 {
		p.down = true
		return api.ErrDown
	}
	if !right {
		return api.ErrArg
	}
	perform()
	p.acts++
	p.fuse--
	return api.OK
}

// within is asked of numbers that do not wrap round: the tests that pass others say what they want themselves.
func (p *plain) within(at int, n int) bool {
	return at >= 0 && n >= 0 && at+n <= len(p.current)
}

func (p *plain) write(at int, b []byte) api.Errno {
	return p.act(p.within(at, len(b)), func() {
		for i, c := range b {
			p.current[at+i] = c
			p.loose[(at+i)/16] = true
		}
	})
}

func (p *plain) sync() api.Errno {
	return p.act(true, func() {
		p.synced = bytes.Clone(p.current)
		clear(p.loose)
	})
}

func (p *plain) setFuse(n int) {
	p.fused, p.fuse = n >= 0, n
}

func (p *plain) crash(keep []bool) {
	for i, at := range p.indices() {
		if i >= len(keep) || !keep[i] {
			copy(p.current[at*16:at*16+16], p.synced[at*16:])
		}
	}
	p.synced = bytes.Clone(p.current)
	clear(p.loose)
	p.fused, p.down = false, false
}

func (p *plain) indices() []int {
	var l []int
	for i, loose := range p.loose {
		if loose {
			l = append(l, i)
		}
	}
	return l
}

// alike holds all that a disk tells against the plain one.
func alike(t *testing.T, d *sector.Disk, p *plain) {
	t.Helper()
	if got := d.Bytes(); !bytes.Equal(got, p.current) {
		t.Errorf("Bytes: %v; want %v", got, p.current)
	}
	if d.Size() != len(p.current) || d.Acts() != p.acts || d.Down() != p.down || !slices.Equal(d.Loose(), p.indices()) {
		t.Errorf("Size %d, Acts %d, Down %v, Loose %v; want %d, %d, %v, %v", d.Size(), d.Acts(), d.Down(), d.Loose(), len(p.current), p.acts, p.down, p.indices())
	}
	got, e := d.Read(0, len(p.current))
	if p.down {
		if e != api.ErrDown || len(got) != 0 {
			t.Errorf("Read without power: %v, %d", got, e)
		}
	} else if e != api.OK || !bytes.Equal(got, p.current) {
		t.Errorf("Read of all: %v, %d; want %v", got, e, p.current)
	}
}

// rising is n bytes, none of which is zero and no two of which are alike in one sector or at the same place of two that lie beside one another.
func rising(n int) []byte {
	b := make([]byte, n)
	for i := range b {
		b[i] = byte(1 + i%251)
	}
	return b
}

// pair is a disk with the contents b, and the plain one.
func pair(b []byte) (*sector.Disk, *plain) {
	return sector.Of(b), plainOf(b)
}

// subsets is all ways to keep some of n loose sectors.
func subsets(n int) [][]bool {
	l := [][]bool{{}}
	for range n {
		var longer [][]bool
		for _, k := range l {
			longer = append(longer, append(slices.Clone(k), false), append(slices.Clone(k), true))
		}
		l = longer
	}
	return l
}

// P3.1 (C1): New, Of, and what a disk tells of itself.

func TestNew(t *testing.T) {
	for _, n := range []int{1, 2, 3, 100, most - 1, most} {
		d := sector.New(n)
		if d == nil {
			t.Fatalf("New(%d) is nil", n)
		}
		alike(t, d, plainOf(make([]byte, 16*n)))
	}
	for _, n := range []int{0, -1, -16, math.MinInt, most + 1, 2 * most, 16 * most, 1 << 32, 1<<32 + 1, 1 << 60, math.MaxInt} {
		if sector.New(n) != nil {
			t.Errorf("New(%d) is a disk", n)
		}
	}
}

func TestOf(t *testing.T) {
	for _, n := range []int{1, 2, 3, most} {
		b := rising(16 * n)
		d := sector.Of(b)
		if d == nil {
			t.Fatalf("Of %d sectors is nil", n)
		}
		alike(t, d, plainOf(b))
	}
	for _, n := range []int{0, 1, 15, 17, 31, 33, 16*most - 1, 16*most + 1, 16*most + 15, 16*most + 16, 32 * most} {
		if sector.Of(rising(n)) != nil {
			t.Errorf("Of %d bytes is a disk", n)
		}
	}
	if sector.Of(nil) != nil {
		t.Error("Of no bytes is a disk")
	}
}

func TestContentsOfANewDiskAreSynced(t *testing.T) {
	for _, d := range []*sector.Disk{sector.New(2), sector.Of(rising(32))} {
		was := d.Bytes()
		d.Write(0, bytes.Repeat([]byte{255}, 32))
		d.Crash(nil)
		if !bytes.Equal(d.Bytes(), was) {
			t.Errorf("behind a crash: %v; want %v", d.Bytes(), was)
		}
	}
}

func TestActsCountsActsThatWerePerformed(t *testing.T) {
	d := sector.New(2)
	for i, c := range []struct {
		name string
		do   func()
		acts int
	}{
		{"Write", func() { d.Write(0, []byte{1}) }, 1},
		{"Write of many sectors", func() { d.Write(0, rising(32)) }, 2},
		{"Write of no bytes", func() { d.Write(32, nil) }, 3},
		{"Sync", func() { d.Sync() }, 4},
		{"Sync of nothing", func() { d.Sync() }, 5},
		{"Write that is refused", func() { d.Write(32, []byte{1}) }, 5},
		{"Read", func() { d.Read(0, 1) }, 5},
		{"Crash", func() { d.Crash(nil) }, 5},
		{"Fuse", func() { d.Fuse(0) }, 5},
		{"Sync that has the power go off", func() { d.Sync() }, 5},
		{"Write without power", func() { d.Write(0, nil) }, 5},
		{"Crash", func() { d.Crash(nil) }, 5},
		{"Sync", func() { d.Sync() }, 6},
	} {
		if c.do(); d.Acts() != c.acts {
			t.Errorf("%d, behind %s: %d acts; want %d", i, c.name, d.Acts(), c.acts)
		}
	}
}

func TestLooseIsInOrder(t *testing.T) {
	d, p := pair(make([]byte, 16*most))
	for i := range most {
		at := i * 1531 % most // each sector once, forwards and backwards by turns
		if i%3 == 0 {
			continue
		}
		d.Write(16*at+at%16, []byte{1})
		p.write(16*at+at%16, []byte{1})
	}
	if got, want := d.Loose(), p.indices(); !slices.Equal(got, want) || len(want) < most/2 {
		t.Errorf("Loose has %d sectors, sorted: %v; want %d", len(got), slices.IsSorted(got), len(want))
	}
}

// P3.1 (C2): Write, Sync and Read.

func TestWriteOfTheDocument(t *testing.T) {
	d := sector.New(3)
	if e := d.Write(15, []byte{7, 8}); e != api.OK || !slices.Equal(d.Loose(), []int{0, 1}) {
		t.Errorf("error %d, Loose %v", e, d.Loose())
	}
	if b := d.Bytes(); b[15] != 7 || b[16] != 8 || bytes.Count(b, []byte{0}) != 46 {
		t.Errorf("Bytes: %v", b)
	}
}

func TestWritesAndReadsOfAllRanges(t *testing.T) {
	const size = 64
	for at := -2; at <= size+2; at++ {
		for n := range size + 3 {
			d, p := pair(bytes.Repeat([]byte{200}, size))
			if got, want := d.Write(at, rising(n)), p.write(at, rising(n)); got != want {
				t.Errorf("Write(%d, %d bytes): %d; want %d", at, n, got, want)
			}
			alike(t, d, p)
			d, p = pair(rising(size))
			b, e := d.Read(at, n)
			if right := p.within(at, n); right && (e != api.OK || !bytes.Equal(b, p.current[at:at+n])) || !right && (e != api.ErrArg || len(b) != 0) {
				t.Errorf("Read(%d, %d): %v, %d", at, n, b, e)
			}
			alike(t, d, p)
		}
	}
}

func TestRangesThatWrapRound(t *testing.T) {
	d, p := pair(rising(48))
	for _, at := range []int{math.MinInt, math.MinInt + 1, math.MinInt + 48, -48, -16, -1, 49, 1 << 31, 1 << 32, math.MaxInt - 47, math.MaxInt - 1, math.MaxInt} {
		for _, n := range []int{0, 1, 48} {
			if e := d.Write(at, make([]byte, n)); e != api.ErrArg {
				t.Errorf("Write(%d, %d bytes): %d", at, n, e)
			}
		}
		for _, n := range []int{math.MinInt, -1, 0, 1, 48, math.MaxInt} {
			if b, e := d.Read(at, n); e != api.ErrArg || len(b) != 0 {
				t.Errorf("Read(%d, %d): %v, %d", at, n, b, e)
			}
		}
	}
	for _, c := range [][2]int{{0, -1}, {0, math.MinInt}, {0, 49}, {0, math.MaxInt}, {1, math.MaxInt}, {47, math.MaxInt - 46}, {48, -1}, {48, -48}, {48, 1}, {48, math.MinInt}, {16, -16}} {
		if b, e := d.Read(c[0], c[1]); e != api.ErrArg || len(b) != 0 {
			t.Errorf("Read(%d, %d): %v, %d", c[0], c[1], b, e)
		}
	}
	alike(t, d, p)
}

func TestWriteAtTheEdgesOfTheGreatestDisk(t *testing.T) {
	d, p := pair(rising(16 * most))
	for _, at := range []int{0, 15, 16, 16*most - 17, 16*most - 1} {
		d.Write(at, []byte{255})
		p.write(at, []byte{255})
	}
	alike(t, d, p)
	if d.Write(0, make([]byte, 16*most)) != api.OK || d.Write(0, make([]byte, 16*most+1)) != api.ErrArg || d.Write(16*most, nil) != api.OK || d.Write(16*most+1, nil) != api.ErrArg {
		t.Error("a range at the end of the disk")
	}
	if len(d.Loose()) != most || bytes.Count(d.Bytes(), []byte{0}) != 16*most {
		t.Errorf("behind a Write of all: %d loose sectors", len(d.Loose()))
	}
}

func TestSectorIsLooseThoughItsContentsAreTheSame(t *testing.T) {
	d, p := pair(rising(48))
	d.Write(20, rising(48)[20:40])
	p.write(20, rising(48)[20:40])
	alike(t, d, p)
	if !slices.Equal(d.Loose(), []int{1, 2}) {
		t.Errorf("Loose: %v", d.Loose())
	}
	d.Crash([]bool{true, false})
	p.crash([]bool{true, false})
	alike(t, d, p)
}

func TestNoSectorIsLooseBehindASync(t *testing.T) {
	d, p := pair(rising(64))
	for _, at := range []int{3, 30, 60} {
		d.Write(at, []byte{255, 254})
		p.write(at, []byte{255, 254})
		if e := d.Sync(); e != api.OK || p.sync() != api.OK || len(d.Loose()) != 0 {
			t.Errorf("Sync: %d, Loose %v", e, d.Loose())
		}
		alike(t, d, p)
	}
	d.Crash(nil)
	p.crash(nil)
	alike(t, d, p)
}

// P3.1 (the fuse and the power).

func TestFuseBurnsDown(t *testing.T) {
	for n := range 6 {
		d, p := pair(rising(32))
		d.Fuse(n)
		p.setFuse(n)
		for i := range 8 {
			if i%2 == 0 {
				if got, want := d.Write(i, []byte{255}), p.write(i, []byte{255}); got != want {
					t.Errorf("fuse %d, Write at %d: %d; want %d", n, i, got, want)
				}
			} else if got, want := d.Sync(), p.sync(); got != want {
				t.Errorf("fuse %d, Sync at %d: %d; want %d", n, i, got, want)
			}
			alike(t, d, p)
		}
		if d.Acts() != n || !d.Down() {
			t.Errorf("fuse %d: %d acts, down %v", n, d.Acts(), d.Down())
		}
	}
}

func TestFuseIsAbsentAtFirst(t *testing.T) {
	d := sector.New(1)
	for i := range 1000 {
		if d.Sync() != api.OK || d.Down() || d.Acts() != i+1 {
			t.Fatalf("act %d: down %v, %d acts", i, d.Down(), d.Acts())
		}
	}
}

func TestPowerGoesOffAtTheActAlone(t *testing.T) {
	d := sector.Of(rising(16))
	d.Fuse(0)
	if b, e := d.Read(3, 2); d.Down() || e != api.OK || !bytes.Equal(b, []byte{4, 5}) {
		t.Errorf("ahead of the act: down %v, Read %v, %d", d.Down(), b, e)
	}
	if e := d.Write(0, nil); e != api.ErrDown || !d.Down() {
		t.Errorf("the act: %d, down %v", e, d.Down())
	}
}

func TestFuseIsReplacedAndRemoved(t *testing.T) {
	for _, gone := range []int{-1, -2, math.MinInt} {
		d := sector.New(1)
		d.Fuse(1)
		d.Sync()
		d.Fuse(gone)
		if d.Sync() != api.OK || d.Sync() != api.OK || d.Down() {
			t.Errorf("behind Fuse(%d): the power goes off", gone)
		}
	}
	d := sector.New(1)
	d.Fuse(0)
	d.Fuse(2)
	if d.Sync() != api.OK || d.Sync() != api.OK || d.Sync() != api.ErrDown {
		t.Error("a greater fuse")
	}
	d = sector.New(1)
	d.Fuse(math.MaxInt)
	d.Sync()
	d.Fuse(0)
	if d.Sync() != api.ErrDown || d.Acts() != 1 {
		t.Error("a smaller fuse")
	}
}

func TestFuseDoesNotTurnThePowerOn(t *testing.T) {
	for _, n := range []int{-1, 0, 1, 5} {
		d := sector.New(1)
		d.Fuse(0)
		d.Sync()
		if d.Fuse(n); !d.Down() || d.Sync() != api.ErrDown || d.Write(0, nil) != api.ErrDown || d.Acts() != 0 {
			t.Errorf("behind Fuse(%d) the power is on", n)
		}
		d.Crash(nil)
		for range 9 {
			if d.Sync() != api.OK {
				t.Errorf("the fuse %d is there behind a crash", n)
			}
		}
	}
}

func TestRefusedActBurnsNoFuse(t *testing.T) {
	d := sector.New(1)
	d.Fuse(1)
	for range 5 {
		if e := d.Write(16, []byte{1}); e != api.ErrArg || d.Down() {
			t.Fatalf("error %d, down %v", e, d.Down())
		}
	}
	if d.Sync() != api.OK || d.Sync() != api.ErrDown {
		t.Error("the fuse")
	}
}

func TestNoPowerIsToldAheadOfWrongArguments(t *testing.T) {
	d := sector.New(1)
	d.Fuse(0)
	// The act that finds the fuse at 0 is such an act even if its range is wrong.
	for range 2 {
		if e := d.Write(-1, []byte{1}); e != api.ErrDown || !d.Down() {
			t.Errorf("Write: %d, down %v", e, d.Down())
		}
	}
	if b, e := d.Read(-1, -1); e != api.ErrDown || len(b) != 0 {
		t.Errorf("Read: %v, %d", b, e)
	}
}

func TestWhatADiskTellsWithoutPower(t *testing.T) {
	d, p := pair(rising(48))
	d.Fuse(2)
	p.setFuse(2)
	d.Sync()
	p.sync()
	d.Write(14, []byte{255, 254, 253})
	p.write(14, []byte{255, 254, 253})
	d.Sync()
	p.sync()
	alike(t, d, p)
	if !d.Down() || d.Size() != 48 || d.Acts() != 2 || !slices.Equal(d.Loose(), []int{0, 1}) || d.Bytes()[15] != 254 {
		t.Errorf("Down %v, Size %d, Acts %d, Loose %v, Bytes %v", d.Down(), d.Size(), d.Acts(), d.Loose(), d.Bytes())
	}
}

// P3.1 (C3) and P3.2: Crash.

func TestCrashKeepsWhatIsNamed(t *testing.T) {
	for _, keep := range subsets(5) {
		for more := range 2 {
			for short := range len(keep) + 1 {
				named := slices.Clone(keep[:short])
				if more == 1 {
					named = append(named, true, true, true, true, true, true)
				}
				d, p := pair(rising(96))
				for _, at := range []int{80, 0, 16, 63, 15} { // sectors 5, 0, 1, 3, 0 and 4
					d.Write(at, []byte{255, 254})
					p.write(at, []byte{255, 254})
				}
				if !slices.Equal(d.Loose(), []int{0, 1, 3, 4, 5}) {
					t.Fatalf("Loose: %v", d.Loose())
				}
				d.Crash(named)
				p.crash(named)
				alike(t, d, p)
			}
		}
	}
}

// The first of the document's examples of the whole.
func TestCrashMayKeepTheSecondSectorAlone(t *testing.T) {
	d := sector.New(2)
	d.Write(0, rising(32))
	d.Crash([]bool{false, true})
	if want := append(make([]byte, 16), rising(32)[16:]...); !bytes.Equal(d.Bytes(), want) {
		t.Errorf("Bytes: %v", d.Bytes())
	}
}

func TestKeepIsByPlaceInLooseNotBySector(t *testing.T) {
	d := sector.New(4)
	d.Write(33, []byte{1})
	d.Write(50, []byte{2})
	d.Crash([]bool{true})
	if b := d.Bytes(); b[33] != 1 || b[50] != 0 {
		t.Errorf("Bytes: %v", b)
	}
}

func TestCrashSyncsWhatItKeeps(t *testing.T) {
	d := sector.New(2)
	d.Write(0, []byte{1})
	d.Write(16, []byte{2})
	d.Crash([]bool{true, false})
	if len(d.Loose()) != 0 {
		t.Errorf("Loose: %v", d.Loose())
	}
	d.Crash(nil)
	if b := d.Bytes(); b[0] != 1 || b[16] != 0 {
		t.Errorf("behind a second crash: %v", b)
	}
	d.Write(0, []byte{3})
	d.Crash([]bool{false})
	if b := d.Bytes(); b[0] != 1 {
		t.Errorf("behind a third crash: %v", b)
	}
}

func TestCrashGivesBackWhatWasSyncedThoughWrittenTwice(t *testing.T) {
	d := sector.Of(rising(16))
	d.Write(0, []byte{100})
	d.Sync()
	d.Write(0, []byte{101})
	d.Write(0, []byte{102})
	d.Write(5, []byte{103})
	d.Crash(nil)
	want := rising(16)
	want[0] = 100
	if !bytes.Equal(d.Bytes(), want) {
		t.Errorf("Bytes: %v", d.Bytes())
	}
}

func TestCrashTurnsThePowerOnAndRemovesTheFuse(t *testing.T) {
	for _, n := range []int{0, 1, 2, 3} {
		d := sector.New(1)
		d.Fuse(n)
		d.Sync()
		d.Sync()
		d.Crash(nil)
		for range 9 {
			if d.Down() || d.Sync() != api.OK {
				t.Fatalf("fuse %d: down %v", n, d.Down())
			}
		}
	}
}

// P3.2: what was synced and not written since is there behind every crash, and each sector is one of two.

func TestWhatStays(t *testing.T) {
	for _, keep := range subsets(4) {
		d := sector.New(4)
		d.Write(0, bytes.Repeat([]byte{1}, 64))
		d.Sync()
		d.Write(8, bytes.Repeat([]byte{2}, 48)) // the halves of the sectors 0 and 3, and all between
		written := d.Bytes()
		d.Fuse(0)
		d.Sync()
		d.Crash(keep)
		for i, kept := range keep {
			want := bytes.Repeat([]byte{1}, 16)
			if kept {
				want = written[16*i : 16*i+16]
			}
			if got := d.Bytes()[16*i : 16*i+16]; !bytes.Equal(got, want) {
				t.Errorf("keep %v, sector %d: %v; want %v", keep, i, got, want)
			}
		}
		if b := d.Bytes(); !bytes.Equal(b[:8], bytes.Repeat([]byte{1}, 8)) || !bytes.Equal(b[56:], bytes.Repeat([]byte{1}, 8)) {
			t.Errorf("keep %v: synced bytes that were not written are gone: %v", keep, b)
		}
	}
}

// P3.1 to P3.3 over long scripts of all calls.
func TestScripts(t *testing.T) {
	mixed := uint32(1)
	next := func(below int) int {
		mixed = mixed*1664525 + 1013904223
		return int(mixed>>8) % below
	}
	for sectors := 1; sectors <= 9; sectors++ {
		d, p := pair(rising(16 * sectors))
		for range 3000 {
			step(t, d, p, next)
			alike(t, d, p)
		}
		if d.Acts() < 100 {
			t.Errorf("%d sectors: only %d acts", sectors, d.Acts())
		}
	}
}

// step does the same call on both disks, chosen by next.
func step(t *testing.T, d *sector.Disk, p *plain, next func(int) int) {
	t.Helper()
	switch k := next(20); {
	case k < 11:
		at, b := next(d.Size()+4)-2, make([]byte, next(40))
		for i := range b {
			b[i] = byte(next(256))
		}
		if got, want := d.Write(at, b), p.write(at, b); got != want {
			t.Errorf("Write(%d, %d bytes): %d; want %d", at, len(b), got, want)
		}
	case k < 14:
		if got, want := d.Sync(), p.sync(); got != want {
			t.Errorf("Sync: %d; want %d", got, want)
		}
	case k < 16:
		n := next(12) - 3
		d.Fuse(n)
		p.setFuse(n)
	default:
		keep := make([]bool, next(10))
		for i := range keep {
			keep[i] = next(2) == 0
		}
		d.Crash(keep)
		p.crash(keep)
	}
}

// P3.3: a call that returns an error changes no contents, not even those that a crash brings back.

func TestErrorsChangeNothing(t *testing.T) {
	d, p := pair(rising(48))
	d.Write(0, []byte{200})
	p.write(0, []byte{200})
	for _, do := range []func() api.Errno{
		func() api.Errno { return d.Write(47, []byte{1, 2}) },
		func() api.Errno { return d.Write(17, make([]byte, 32)) },
		func() api.Errno { return d.Write(-1, make([]byte, 49)) },
		func() api.Errno { return d.Write(49, nil) },
		func() api.Errno { _, e := d.Read(47, 2); return e },
	} {
		if e := do(); e != api.ErrArg {
			t.Errorf("error %d", e)
		}
		alike(t, d, p)
	}
	d.Fuse(0)
	p.setFuse(0)
	for i := range 3 {
		if i%2 == 0 {
			d.Sync()
			p.sync()
		} else {
			d.Write(20, []byte{1})
			p.write(20, []byte{1})
		}
		alike(t, d, p)
	}
	d.Crash(nil)
	p.crash(nil)
	alike(t, d, p)
}
