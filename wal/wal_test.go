package wal_test

import (
	"bytes"
	"encoding/binary"
	"math/rand"
	"slices"
	"testing"

	"canton/api"
	"canton/sector"
	"canton/wal"
)

const most = 16384 // bytes of a record

// sum is the checksum as chapter 4 says it.
func sum(seed int, b []byte) uint32 {
	x, y := (seed+1)%65521, 1
	for _, c := range b {
		x = (x + int(c) + 1) % 65521
		y = (y + x) % 65521
	}
	return uint32(y*65536 + x)
}

// raw is a sector that is a header, of any three numbers.
func raw(index, size, sum uint32) []byte {
	h := make([]byte, 16)
	h[0] = 'R'
	binary.BigEndian.PutUint32(h[1:], index)
	binary.BigEndian.PutUint32(h[5:], size)
	binary.BigEndian.PutUint32(h[9:], sum)
	return h
}

func head(index int, b []byte) []byte {
	return raw(uint32(index), uint32(len(b)), sum(index%65536, b))
}

// whole is b and zeros up to a whole sector.
func whole(b []byte) []byte {
	w := bytes.Clone(b)
	for len(w)%16 != 0 {
		w = append(w, 0)
	}
	return w
}

// laid is records as they stand in an area, the first of which has that index.
func laid(index int, records ...[]byte) []byte {
	var b []byte
	for i, r := range records {
		b = append(b, head(index+i, r)...)
		b = append(b, whole(r)...)
	}
	return b
}

// half is how many bytes an area has.
func half(sectors int) int { return (sectors - 1) / 2 * 16 }

// image is the contents of a disk with a sign, whose areas begin with these bytes.
func image(sectors int, sign []byte, areas ...[]byte) []byte {
	b := make([]byte, 16*sectors)
	copy(b, sign)
	for i, a := range areas {
		copy(b[16+i*half(sectors):][:half(sectors)], a)
	}
	return b
}

// logOf is the contents of a disk whose log, in that area, has these records; the other area has rest.
func logOf(sectors int, area int, rest []byte, records ...[]byte) []byte {
	areas := [][]byte{rest, rest}
	areas[area] = laid(0, records...)
	return image(sectors, []byte{'W', byte(area)}, areas...)
}

// rising is n bytes, none of which is zero.
func rising(n int, first int) []byte {
	b := make([]byte, n)
	for i := range b {
		b[i] = byte(1 + (first+i)%251)
	}
	return b
}

func sectorsOf(n int) int { return 1 + (n+15)/16 }

// roomOf is what E2 says.
func roomOf(sectors int, records [][]byte) int {
	left := half(sectors) / 16
	for _, r := range records {
		left -= sectorsOf(len(r))
	}
	if left == 0 {
		return 0
	}
	return min(16*(left-1), most)
}

func open(t *testing.T, d *sector.Disk) *wal.Log {
	t.Helper()
	l, e := wal.Open(d)
	if e != api.OK || l == nil {
		t.Fatalf("Open: error %d", e)
	}
	return l
}

func alike(a, b [][]byte) bool { return slices.EqualFunc(a, b, bytes.Equal) }

// has holds all that a log tells against the records that it is to have.
func has(t *testing.T, l *wal.Log, sectors int, want ...[]byte) {
	t.Helper()
	if got := l.Records(); !alike(got, want) {
		t.Errorf("Records: %v; want %v", got, want)
	}
	if got := l.Room(); got != roomOf(sectors, want) {
		t.Errorf("Room: %d; want %d", got, roomOf(sectors, want))
	}
}

// same holds all that can be seen of a disk against another one.
func same(t *testing.T, got, want *sector.Disk) {
	t.Helper()
	if !bytes.Equal(got.Bytes(), want.Bytes()) {
		t.Errorf("Bytes: %v; want %v", got.Bytes(), want.Bytes())
	}
	if !slices.Equal(got.Loose(), want.Loose()) || got.Acts() != want.Acts() || got.Down() != want.Down() {
		t.Errorf("Loose %v, %d acts, down %v; want %v, %d, %v", got.Loose(), got.Acts(), got.Down(), want.Loose(), want.Acts(), want.Down())
	}
}

// act is a Write, or, without bytes, a Sync.
type act struct {
	at int
	b  []byte
}

func perform(d *sector.Disk, acts []act) api.Errno {
	for _, a := range acts {
		e := d.Sync
		if len(a.b) > 0 {
			e = func() api.Errno { return d.Write(a.at, a.b) }
		}
		if e := e(); e != api.OK {
			return e
		}
	}
	return api.OK
}

// appending is the acts of an Append to a log that has these records, in that area.
func appending(sectors, area int, records [][]byte, b []byte) []act {
	at := 16 + area*half(sectors) + len(laid(0, records...))
	l := []act{{at + 16, whole(b)}, {}, {at, head(len(records), b)}, {}}
	if len(b) == 0 {
		return l[1:]
	}
	return l
}

// starting is the acts of a Start of a log in that area.
func starting(sectors, area int, b []byte) []act {
	other := 1 - area
	at := 16 + other*half(sectors)
	l := []act{{at, make([]byte, half(sectors))}, {at + 16, whole(b)}, {}, {at, head(0, b)}, {}, {0, whole([]byte{'W', byte(other)})}, {}}
	if len(b) == 0 {
		return append(l[:1], l[2:]...)
	}
	return l
}

// subsets calls do with all ways to keep some of n loose sectors.
func subsets(n int, do func(keep []bool)) {
	for mask := range 1 << n {
		keep := make([]bool, n)
		for i := range keep {
			keep[i] = mask>>i&1 == 1
		}
		do(keep)
	}
}

// P5.1 (E1): Open's errors.

func TestOpenErrors(t *testing.T) {
	for _, c := range []struct {
		name    string
		sectors int
		sign    []byte
		down    bool
		want    api.Errno
	}{
		{"no power, too small, no sign", 2, []byte{1}, true, api.ErrDown},
		{"no power, no sign", 3, []byte{1}, true, api.ErrDown},
		{"no power", 3, nil, true, api.ErrDown},
		{"too small, no sign", 2, []byte{1}, false, api.ErrArg},
		{"two sectors", 2, nil, false, api.ErrArg},
		{"one sector", 1, nil, false, api.ErrArg},
		{"no sign", 3, []byte{1}, false, api.ErrCorrupt},
	} {
		d := sector.Of(image(c.sectors, c.sign))
		if c.down {
			d.Fuse(0)
			d.Sync()
		}
		was := d.Acts()
		if l, e := wal.Open(d); e != c.want || l != nil {
			t.Errorf("%s: error %d, a log: %v; want %d", c.name, e, l != nil, c.want)
		}
		if d.Acts() != was || !bytes.Equal(d.Bytes(), image(c.sectors, c.sign)) {
			t.Errorf("%s: the disk changed", c.name)
		}
	}
}

func TestOpenOfAnySign(t *testing.T) {
	areas := [][]byte{laid(0, []byte("none")), laid(0, []byte("one"))}
	for at := range 16 {
		for c := range 256 {
			for _, first := range []byte{0, 'W'} {
				for _, second := range []byte{0, 1} {
					sign := make([]byte, 16)
					sign[0], sign[1] = first, second
					sign[at] = byte(c)
					want, area := api.ErrCorrupt, 0
					switch {
					case bytes.Equal(sign, make([]byte, 16)), bytes.Equal(sign, whole([]byte{'W', 0})):
						want = api.OK
					case bytes.Equal(sign, whole([]byte{'W', 1})):
						want, area = api.OK, 1
					}
					l, e := wal.Open(sector.Of(image(9, sign, areas...)))
					if e != want || (l != nil) != (want == api.OK) {
						t.Fatalf("sign %v: error %d; want %d", sign, e, want)
					}
					if l != nil {
						has(t, l, 9, []byte([]string{"none", "one"}[area]))
					}
				}
			}
		}
	}
}

// P5.1 (E1): Open's records.

func TestOpenOfALaidLog(t *testing.T) {
	for sectors := 3; sectors <= 40; sectors++ {
		for area := range 2 {
			for n := range 50 {
				var records [][]byte
				for len(laid(0, append(records, rising(n, 3*len(records)))...)) <= half(sectors) {
					records = append(records, rising(n, 3*len(records)))
					b := logOf(sectors, area, rising(half(sectors), 7), records...)
					d := sector.Of(b)
					has(t, open(t, d), sectors, records...)
					same(t, d, sector.Of(b))
				}
			}
		}
	}
}

// What is there instead of a record ends the records, and is cleared with all behind it.
func TestOpenEndsAtWhatIsNoRecord(t *testing.T) {
	first, b := []byte("first"), rising(20, 4)
	right := head(1, b)
	spoilt := func(at int, by byte) []byte {
		h := bytes.Clone(right)
		h[at] ^= by
		return append(h, whole(b)...)
	}
	ends := map[string][]byte{
		"nothing":                       nil,
		"another first byte":            spoilt(0, 1),
		"no first byte":                 spoilt(0, 'R'),
		"the first byte of a sign":      spoilt(0, 'R'^'W'),
		"the index before":              laid(0, b),
		"the index behind":              laid(2, b),
		"an index of four bytes":        spoilt(1, 1),
		"a smaller number of bytes":     spoilt(8, 4),
		"a greater number of bytes":     spoilt(8, 1),
		"as many bytes as fit, wrong":   append(raw(1, 96, sum(1, b)), whole(b)...),
		"more bytes than fit":           append(raw(1, 97, sum(1, append(bytes.Clone(b), make([]byte, 77)...))), whole(b)...),
		"the checksum of another index": append(raw(1, 20, sum(0, b)), whole(b)...),
		"the checksum of whole sectors": append(raw(1, 20, sum(1, whole(b))), whole(b)...),
		"no checksum":                   append(raw(1, 20, 0), whole(b)...),
		"a byte changed":                append(bytes.Clone(right), whole(rising(20, 5))...),
		"bytes without a header":        append(make([]byte, 16), whole(b)...),
		"all at its greatest":           bytes.Repeat([]byte{255}, 112),
		"a number of bytes of 2^32 - 1": append(raw(1, 1<<32-1, sum(1, b)), whole(b)...),
		"a number of bytes of 2^31":     append(raw(1, 1<<31, sum(1, b)), whole(b)...),
		"a record one sector later":     append(make([]byte, 16), laid(1, b)...),
		"the last byte alone":           append(make([]byte, 111), 1),
	}
	for i := range 16 {
		ends["a bit of byte "+string(rune('A'+i))] = spoilt(i, 128)
	}
	for name, end := range ends {
		for area := range 2 {
			// The areas have 9 sectors: two for the first record, seven behind it.
			rest := rising(9*16, 2)
			was := logOf(19, area, rest, first)
			copy(was[16+area*9*16+32:], end)
			// Behind the place there may be a right record, which is not reached.
			d, clear := sector.Of(was), sector.Of(was)
			has(t, open(t, d), 19, first)
			if len(end) > 0 {
				perform(clear, []act{{16 + area*9*16 + 32, make([]byte, 7*16)}, {}})
			}
			same(t, d, clear)
			if t.Failed() {
				t.Fatalf("%s, in area %d", name, area)
			}
		}
	}
}

func TestOpenEndsAtTheFirstOfManyRecords(t *testing.T) {
	records := [][]byte{[]byte("a"), nil, rising(17, 1), rising(32, 2), []byte("e")}
	for bad := range records {
		was := logOf(41, 0, nil, records...)
		at := 16 + len(laid(0, records[:bad]...))
		was[at] = 'r'
		d := sector.Of(was)
		has(t, open(t, d), 41, records[:bad]...)
		if want := logOf(41, 0, nil, records[:bad]...); !bytes.Equal(d.Bytes()[16:], want[16:]) {
			t.Errorf("record %d: the disk has %v", bad, d.Bytes())
		}
	}
}

// The list of what ends the records does not name the zeros behind a record's bytes.
func TestOpenTakesARecordWhateverIsBehindItsBytes(t *testing.T) {
	was := logOf(9, 0, nil, []byte("ab"))
	was[16+16+15] = 77
	d := sector.Of(was)
	has(t, open(t, d), 9, []byte("ab"))
	same(t, d, sector.Of(was))
}

func TestOpenOfGreatRecords(t *testing.T) {
	// An area has 2047 sectors, of which a record of 16384 bytes has 1025.
	for _, c := range []struct{ n, records int }{{most - 1, 1}, {most, 1}, {most + 1, 0}, {most + 15, 0}, {most + 16, 0}} {
		d := sector.Of(logOf(4096, 1, nil, rising(c.n, 0)))
		l := open(t, d)
		if got := l.Records(); len(got) != c.records || c.records == 1 && !bytes.Equal(got[0], rising(c.n, 0)) {
			t.Errorf("%d bytes: %d records; want %d", c.n, len(got), c.records)
		}
	}
	has(t, open(t, sector.Of(logOf(4096, 0, nil, rising(most, 0), rising(1021*16, 3)))), 4096, rising(most, 0), rising(1021*16, 3))
	empty := make([][]byte, 2047)
	has(t, open(t, sector.Of(logOf(4096, 0, nil, empty...))), 4096, empty...)
}

// P5.1 (E1): Open's acts.

func TestOpenClearsWithTwoActs(t *testing.T) {
	for area := range 2 {
		for at := range 5 * 16 { // of what is behind the record, up to the end of the area
			was := logOf(16, area, rising(112, 1), []byte("x"))
			from := 16 + area*112 + 32
			was[from+at] = 255
			was[15*16] = 9 // the sector that is not used
			for fuse := -1; fuse < 3; fuse++ {
				d, p := sector.Of(was), sector.Of(was)
				d.Fuse(fuse)
				p.Fuse(fuse)
				want := perform(p, []act{{from, make([]byte, 80)}, {}})
				l, e := wal.Open(d)
				if e != want || (l != nil) != (want == api.OK) {
					t.Fatalf("area %d, byte %d, fuse %d: error %d, a log: %v; want %d", area, at, fuse, e, l != nil, want)
				}
				if same(t, d, p); l != nil {
					has(t, l, 16, []byte("x"))
				}
			}
		}
	}
}

func TestOpenOfAClearAreaIsNoAct(t *testing.T) {
	for _, records := range [][][]byte{nil, {nil}, {[]byte("x")}, {rising(80, 0)}, {rising(33, 0), rising(5, 0)}} {
		for area := range 2 {
			was := logOf(14, area, rising(96, 1), records...)
			was[13*16] = 1
			d := sector.Of(was)
			d.Write(16*13, []byte{2})
			d.Fuse(0)
			has(t, open(t, d), 14, records...)
			if d.Acts() != 1 || d.Down() || !slices.Equal(d.Loose(), []int{13}) {
				t.Errorf("%d acts, down %v, Loose %v", d.Acts(), d.Down(), d.Loose())
			}
		}
	}
}

func TestOpenOfANewDisk(t *testing.T) {
	for _, sectors := range []int{3, 4, 5, 6, 7, 2050, 2051, 2052, 2053, 4095, 4096} {
		d := sector.New(sectors)
		has(t, open(t, d), sectors)
		same(t, d, sector.New(sectors))
	}
}

// P5.1 (E2): Room and Records.

func TestRoomIsWhatCanBeAppended(t *testing.T) {
	for sectors := 3; sectors <= 24; sectors++ {
		for n := range 40 {
			was := logOf(sectors, 0, nil, rising(n, 0))
			if sectorsOf(n)*16 > half(sectors) {
				continue
			}
			room := open(t, sector.Of(was)).Room()
			left := half(sectors)/16 - sectorsOf(n)
			if want := max(0, 16*(left-1)); room != want {
				t.Errorf("%d sectors, %d bytes: Room %d; want %d", sectors, n, room, want)
			}
			for more := range 2 {
				want := api.OK
				if more == 1 || left == 0 {
					want = api.ErrFull
				}
				if e := open(t, sector.Of(was)).Append(rising(room+more, 1)); e != want {
					t.Errorf("%d sectors, %d bytes, Append of %d: error %d; want %d", sectors, n, room+more, e, want)
				}
			}
		}
	}
}

func TestRoomIsAtMostThatOfARecord(t *testing.T) {
	// An area of 1024 sectors has room for one record that is too small by a sector.
	for sectors, want := range map[int]int{3: 0, 4: 0, 5: 16, 6: 16, 2049: most - 16, 2050: most - 16, 2051: most, 2053: most, 4096: most} {
		if got := open(t, sector.New(sectors)).Room(); got != want {
			t.Errorf("%d sectors: Room %d; want %d", sectors, got, want)
		}
	}
	l := open(t, sector.New(4096))
	for _, c := range []struct{ n, room int }{{most, 16336}, {0, 16320}, {16319, 0}, {0, 0}} {
		e := l.Append(rising(c.n, 0))
		if l.Room() != c.room || (e == api.OK) != (len(l.Records()) < 4 && c.n+c.room > 0) {
			t.Errorf("behind an Append of %d bytes: Room %d, error %d; want %d", c.n, l.Room(), e, c.room)
		}
	}
}

func TestRecordsWithoutPower(t *testing.T) {
	d := sector.New(9)
	l := open(t, d)
	l.Append([]byte("kept"))
	d.Fuse(0)
	d.Sync()
	has(t, l, 9, []byte("kept"))
	if e := l.Append(nil); e != api.ErrDown {
		t.Errorf("Append: error %d", e)
	}
	if e := l.Start(nil); e != api.ErrDown {
		t.Errorf("Start: error %d", e)
	}
	has(t, l, 9, []byte("kept"))
}

// P5.1 (E3): Append.

// The example of the chapter.
func TestAppendOfTheDocument(t *testing.T) {
	d := sector.New(13)
	l := open(t, d)
	l.Append(rising(17, 0))
	l.Append(nil)
	for i := range 13 {
		if b, _ := d.Read(16*i, 1); (b[0] == 'R') != (i == 1 || i == 4) {
			t.Errorf("sector %d begins with %d", i, b[0])
		}
	}
	// Of the bytes 1 to 17, x is 1 + 153 + 17 = 171 at last, and y is 1 + 17 + 153 + 969 = 4 * 256 + 116.
	if b, _ := d.Read(16, 16); !bytes.Equal(b, []byte{82, 0, 0, 0, 0, 0, 0, 0, 17, 4, 116, 0, 171, 0, 0, 0}) {
		t.Errorf("the first header: %v", b)
	}
	if b, _ := d.Read(64, 16); !bytes.Equal(b, []byte{82, 0, 0, 0, 1, 0, 0, 0, 0, 0, 1, 0, 2, 0, 0, 0}) {
		t.Errorf("the second header: %v", b)
	}
	if !bytes.Equal(d.Bytes()[:16], make([]byte, 16)) {
		t.Errorf("the sign: %v", d.Bytes()[:16])
	}
}

func TestAppendErrors(t *testing.T) {
	for _, c := range []struct {
		sectors, n int
		down       bool
		want       api.Errno
	}{
		{13, most + 1, true, api.ErrArg}, {13, most + 1, false, api.ErrArg}, {4096, most + 1, false, api.ErrArg}, {4096, 1 << 20, false, api.ErrArg},
		{13, most, true, api.ErrFull}, {13, most, false, api.ErrFull}, {13, 49, false, api.ErrFull}, {13, 64, true, api.ErrFull},
		{13, 48, true, api.ErrDown}, {13, 0, true, api.ErrDown}, {4096, most, true, api.ErrDown},
		{13, 48, false, api.OK}, {4096, most, false, api.OK},
	} {
		d := sector.New(c.sectors)
		l := open(t, d)
		l.Append([]byte("first"))
		if c.down {
			d.Fuse(0)
		}
		was, acts := d.Bytes(), d.Acts()
		if e := l.Append(rising(c.n, 0)); e != c.want {
			t.Errorf("%d sectors, %d bytes: error %d; want %d", c.sectors, c.n, e, c.want)
		}
		if c.want == api.OK {
			has(t, l, c.sectors, []byte("first"), rising(c.n, 0))
			continue
		}
		has(t, l, c.sectors, []byte("first"))
		if !bytes.Equal(d.Bytes(), was) || d.Acts() != acts || d.Down() != (c.want == api.ErrDown) {
			t.Errorf("%d sectors, %d bytes: the disk changed", c.sectors, c.n)
		}
	}
}

func TestAppendActs(t *testing.T) {
	records := [][]byte{[]byte("first"), nil}
	for area := range 2 {
		for n := range 66 {
			b := rising(n, 9)
			for fuse := -1; fuse < 5; fuse++ {
				was := logOf(20, area, rising(144, 1), records...)
				d, p := sector.Of(was), sector.Of(was)
				l := open(t, d)
				d.Fuse(fuse)
				p.Fuse(fuse)
				want := perform(p, appending(20, area, records, b))
				if n > 80 {
					want = api.ErrFull
				}
				if e := l.Append(b); e != want {
					t.Errorf("area %d, %d bytes, fuse %d: error %d; want %d", area, n, fuse, e, want)
				}
				same(t, d, p)
				if want == api.OK {
					has(t, l, 20, append(slices.Clone(records), b)...)
				} else {
					has(t, l, 20, records...)
				}
			}
		}
	}
}

func TestAppendTillItIsFull(t *testing.T) {
	for _, n := range []int{0, 1, 16, 17, 31, 32, 100} {
		for sectors := 3; sectors < 40; sectors++ {
			d := sector.New(sectors)
			l := open(t, d)
			var records [][]byte
			for len(laid(0, append(records, rising(n, len(records)))...)) <= half(sectors) {
				b := rising(n, len(records))
				records = append(records, b)
				if e := l.Append(b); e != api.OK {
					t.Fatalf("%d sectors, record %d of %d bytes: error %d", sectors, len(records), n, e)
				}
			}
			has(t, l, sectors, records...)
			if e := l.Append(rising(n, 0)); e != api.ErrFull {
				t.Errorf("%d sectors, %d records of %d bytes: error %d", sectors, len(records), n, e)
			}
			has(t, l, sectors, records...)
			if want := image(sectors, nil, laid(0, records...)); !bytes.Equal(d.Bytes(), want) {
				t.Errorf("%d sectors, %d records of %d bytes: the disk has %v; want %v", sectors, len(records), n, d.Bytes(), want)
			}
			has(t, open(t, d), sectors, records...)
		}
	}
}

// P5.1 (E4): Start.

func TestStartErrors(t *testing.T) {
	for _, c := range []struct {
		sectors, n int
		down       bool
		want       api.Errno
	}{
		{13, most + 1, true, api.ErrArg}, {13, most + 1, false, api.ErrArg}, {4096, most + 1, false, api.ErrArg}, {4096, 1 << 20, false, api.ErrArg},
		{13, most, true, api.ErrFull}, {13, 81, false, api.ErrFull}, {14, 81, true, api.ErrFull}, {3, 1, false, api.ErrFull}, {4, 1, false, api.ErrFull}, {2049, most, false, api.ErrFull},
		{13, 80, true, api.ErrDown}, {3, 0, true, api.ErrDown},
		{13, 80, false, api.OK}, {3, 0, false, api.OK}, {4, 0, false, api.OK}, {2051, most, false, api.OK}, {4096, most, false, api.OK},
	} {
		d := sector.New(c.sectors)
		l := open(t, d)
		l.Append(nil)
		if c.down {
			d.Fuse(0)
		}
		was, acts := d.Bytes(), d.Acts()
		if e := l.Start(rising(c.n, 0)); e != c.want {
			t.Errorf("%d sectors, %d bytes: error %d; want %d", c.sectors, c.n, e, c.want)
		}
		if c.want == api.OK {
			has(t, l, c.sectors, rising(c.n, 0))
			continue
		}
		has(t, l, c.sectors, nil)
		if !bytes.Equal(d.Bytes(), was) || d.Acts() != acts || d.Down() != (c.want == api.ErrDown) {
			t.Errorf("%d sectors, %d bytes: the disk changed", c.sectors, c.n)
		}
	}
}

func TestStartOfAFullLog(t *testing.T) {
	d := sector.New(13)
	l := open(t, d)
	for range 6 {
		l.Append(nil)
	}
	if l.Room() != 0 || l.Append(nil) != api.ErrFull {
		t.Error("the log is not full")
	}
	if e := l.Start(rising(80, 0)); e != api.OK {
		t.Errorf("error %d", e)
	}
	has(t, l, 13, rising(80, 0))
}

func TestStartActs(t *testing.T) {
	records := [][]byte{[]byte("first"), nil}
	for area := range 2 {
		for n := range 66 {
			b := rising(n, 9)
			for fuse := -1; fuse < 8; fuse++ {
				was := logOf(14, area, rising(96, 1), records...)
				was[13*16] = 9
				d, p := sector.Of(was), sector.Of(was)
				l := open(t, d)
				d.Fuse(fuse)
				p.Fuse(fuse)
				want := perform(p, starting(14, area, b))
				if e := l.Start(b); e != want {
					t.Errorf("area %d, %d bytes, fuse %d: error %d; want %d", area, n, fuse, e, want)
				}
				same(t, d, p)
				if want == api.OK {
					has(t, l, 14, b)
				} else {
					has(t, l, 14, records...)
				}
			}
		}
	}
}

// A log goes on from area to area; what a Start leaves behind in the other one is not seen again.
func TestStartsAndAppendsByTurns(t *testing.T) {
	d := sector.New(18)
	l := open(t, d)
	areas := [][]byte{nil, nil}
	var records [][]byte
	for i := range 20 {
		b := rising(i*7%50, i)
		area := i / 4 % 2
		if i%4 == 0 && i > 0 {
			records = nil
			if e := l.Start(b); e != api.OK {
				t.Fatalf("Start %d: error %d", i, e)
			}
		} else if e := l.Append(b); e != api.OK {
			if e != api.ErrFull || len(laid(0, append(slices.Clone(records), b)...)) <= half(18) {
				t.Fatalf("Append %d: error %d", i, e)
			}
			continue
		}
		records = append(records, b)
		areas[area] = laid(0, records...)
		sign := []byte{'W', byte(area)}
		if i < 4 {
			sign = nil
		}
		if want := image(18, sign, areas...); !bytes.Equal(d.Bytes(), want) || len(d.Loose()) != 0 {
			t.Errorf("call %d: the disk has %v; want %v", i, d.Bytes(), want)
		}
		has(t, l, 18, records...)
		has(t, open(t, d), 18, records...)
	}
}

// A failed call leaves the log as it was: once there is power again, the next call goes on from there.
func TestCallBehindAFailedOne(t *testing.T) {
	for fuse := range 7 {
		for _, start := range []bool{false, true} {
			d := sector.New(20)
			l := open(t, d)
			l.Append([]byte("a"))
			d.Fuse(fuse)
			var e api.Errno
			if start {
				e = l.Start(rising(40, 0))
			} else {
				e = l.Append(rising(40, 0))
			}
			if e == api.OK {
				continue
			}
			d.Crash(nil)
			has(t, l, 20, []byte("a"))
			if e := l.Append([]byte("b")); e != api.OK {
				t.Errorf("fuse %d, start %v: error %d", fuse, start, e)
			}
			has(t, l, 20, []byte("a"), []byte("b"))
			has(t, open(t, d), 20, []byte("a"), []byte("b"))
		}
	}
}

// The zeros behind a record's bytes are written too, whatever a call that was cut off has left there.
func TestZerosAreWritten(t *testing.T) {
	for area := range 2 {
		for n := range 40 {
			was := logOf(20, area, nil, []byte("a"))
			d, p := sector.Of(was), sector.Of(was)
			l := open(t, d)
			for _, disk := range []*sector.Disk{d, p} {
				disk.Write(16+area*144+32, rising(112, 0))
				disk.Write(16+(1-area)*144, rising(144, 0))
			}
			perform(p, appending(20, area, [][]byte{[]byte("a")}, rising(n, 9)))
			l.Append(rising(n, 9))
			same(t, d, p)
			perform(p, starting(20, area, rising(n, 9)))
			l.Start(rising(n, 9))
			same(t, d, p)
		}
	}
}

// P5.2 and P5.3: wherever the power fails, and whichever sectors are kept.

// reopened holds what Open finds against the two that it may find; it may be cut off as well.
func reopened(t *testing.T, b []byte, sectors int, may ...[][]byte) {
	t.Helper()
	d := sector.Of(b)
	found := open(t, d).Records()
	if !slices.ContainsFunc(may, func(m [][]byte) bool { return alike(m, found) }) {
		t.Errorf("found %v; want one of %v", found, may)
	}
	if len(d.Loose()) != 0 {
		t.Errorf("Loose: %v", d.Loose())
	}
	for fuse := range 2 {
		again := sector.Of(b)
		again.Fuse(fuse)
		if _, e := wal.Open(again); e == api.OK {
			continue
		}
		subsets(len(again.Loose()), func(keep []bool) {
			cut := sector.Of(b)
			cut.Fuse(fuse)
			wal.Open(cut)
			cut.Crash(keep)
			has(t, open(t, cut), sectors, found...)
		})
	}
}

func TestAppendIsWholeOrNot(t *testing.T) {
	for _, records := range [][][]byte{nil, {[]byte("a")}, {nil, rising(17, 5)}} {
		for area := range 2 {
			for _, n := range []int{0, 1, 15, 16, 17, 32, 33, 48} {
				b := rising(n, 8)
				for fuse := range 5 {
					torn(t, logOf(18, area, rising(128, 1), records...), fuse, func(l *wal.Log) api.Errno { return l.Append(b) }, records, append(slices.Clone(records), b))
				}
			}
		}
	}
}

func TestStartIsWholeOrNot(t *testing.T) {
	for _, records := range [][][]byte{nil, {[]byte("a")}, {nil, rising(17, 5)}} {
		for area := range 2 {
			for _, n := range []int{0, 1, 15, 16, 17, 32, 33, 64} {
				b := rising(n, 8)
				// The other area has records as well: they must not be seen again.
				for _, other := range [][]byte{laid(0, []byte("x"), []byte("y"), nil), laid(0, rising(64, 1)), rising(80, 1), nil} {
					for fuse := range 8 {
						torn(t, logOf(12, area, other, records...), fuse, func(l *wal.Log) api.Errno { return l.Start(b) }, records, [][]byte{b})
					}
				}
			}
		}
	}
}

// torn does a call that the fuse cuts off, and crashes with each set of sectors.
func torn(t *testing.T, was []byte, fuse int, do func(*wal.Log) api.Errno, before, after [][]byte) {
	t.Helper()
	d := sector.Of(was)
	l := open(t, d)
	d.Fuse(fuse)
	e := do(l)
	subsets(len(d.Loose()), func(keep []bool) {
		d := sector.Of(was)
		l := open(t, d)
		d.Fuse(fuse)
		if again := do(l); again != e {
			t.Errorf("error %d, then %d", e, again)
		}
		d.Crash(keep)
		if e == api.OK {
			reopened(t, d.Bytes(), len(was)/16, after)
		} else {
			reopened(t, d.Bytes(), len(was)/16, before, after)
		}
	})
	if t.Failed() {
		t.Fatalf("fuse %d, %v behind %v", fuse, after, before)
	}
}

// What a call that was cut off leaves behind is no record later on, whatever its bytes were.
func TestBytesOfACallThatWasCutOffAreNeverARecord(t *testing.T) {
	for area := range 2 {
		d := sector.Of(logOf(30, area, nil, []byte("a")))
		l := open(t, d)
		// The bytes of the record that is cut off look like the record that would follow a short one.
		trap := append(make([]byte, 16), laid(2, []byte("trap"))...)
		d.Fuse(2)
		if e := l.Append(trap); e != api.ErrDown {
			t.Fatalf("error %d", e)
		}
		d.Crash(slices.Repeat([]bool{true}, 10))
		l = open(t, d)
		has(t, l, 30, []byte("a"))
		l.Append([]byte("b"))
		has(t, open(t, d), 30, []byte("a"), []byte("b"))
	}
}

// P5.4: whatever a disk has on it.

// found reads a disk by the words of E1: its records, where they end, and whether it has a log at all.
func found(b []byte) (records [][]byte, end int, right bool) {
	sectors := len(b) / 16
	area := 0
	switch string(b[:16]) {
	case string(make([]byte, 16)), string(whole([]byte{'W', 0})):
	case string(whole([]byte{'W', 1})):
		area = 1
	default:
		return nil, 0, false
	}
	at, last := 16+area*half(sectors), 16+(area+1)*half(sectors)
	for at < last {
		h := b[at : at+16]
		n := int(binary.BigEndian.Uint32(h[5:]))
		if h[0] != 'R' || h[13] != 0 || h[14] != 0 || h[15] != 0 || binary.BigEndian.Uint32(h[1:]) != uint32(len(records)) || n > most || n > last-at-16 {
			break
		}
		if binary.BigEndian.Uint32(h[9:]) != sum(len(records)%65536, b[at+16:at+16+n]) {
			break
		}
		records = append(records, b[at+16:at+16+n])
		at += 16 * sectorsOf(n)
	}
	return records, at, true
}

func TestOpenOfAnyDisk(t *testing.T) {
	r := rand.New(rand.NewSource(5))
	counts := map[int]int{}
	for range 20000 {
		b := anyDisk(r)
		d, p := sector.Of(b), sector.Of(b)
		records, end, right := found(b)
		l, e := wal.Open(d)
		if !right {
			if e != api.ErrCorrupt || l != nil {
				t.Fatalf("%v: error %d", b, e)
			}
			same(t, d, p)
			continue
		}
		if e != api.OK || l == nil {
			t.Fatalf("%v: error %d", b, e)
		}
		has(t, l, len(b)/16, records...)
		counts[len(records)]++
		area, size := 0, half(len(b)/16)
		if b[1] == 1 {
			area = 1
		}
		if last := 16 + (area+1)*size; slices.ContainsFunc(b[end:last], func(c byte) bool { return c != 0 }) {
			perform(p, []act{{end, make([]byte, last-end)}, {}})
		}
		same(t, d, p)
		if t.Failed() {
			t.Fatalf("of %v", b)
		}
	}
	for n := range 4 {
		if counts[n] < 100 {
			t.Errorf("%d disks with %d records", counts[n], n)
		}
	}
}

// anyDisk is a disk that is now all noise, now a right log of which some bytes were changed.
func anyDisk(r *rand.Rand) []byte {
	sectors := 3 + r.Intn(30)
	var areas [2][]byte
	for i := range areas {
		for n := 0; len(areas[i]) < half(sectors); n++ {
			areas[i] = append(areas[i], laid(n, rising(r.Intn(40), r.Intn(99)))...)
		}
		areas[i] = areas[i][:half(sectors)]
		if r.Intn(2) == 0 {
			from := 16 * r.Intn(half(sectors)/16+1)
			clear(areas[i][from:])
		}
	}
	b := image(sectors, [][]byte{nil, {'W'}, {'W', 1}}[r.Intn(3)], areas[:]...)
	for range r.Intn(4) {
		b[r.Intn(len(b))] = byte(r.Intn(256))
	}
	if r.Intn(10) == 0 {
		r.Read(b)
	}
	return b
}
