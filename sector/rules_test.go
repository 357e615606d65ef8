package sector_test

import (
	"bytes"
	"math"
	"slices"
	"testing"

	"canton/api"
	"canton/sector"
)

func anyNumbers() []int {
	return []int{math.MinInt, math.MinInt + 1, -65536, -4096, -17, -16, -1, 0, 1, 15, 16, 17, 31, 32, 4095, 4096, 4097, 65536, 1 << 31, 1 << 32, 1 << 60, math.MaxInt - 16, math.MaxInt - 1, math.MaxInt}
}

// P1 and P2: every function ends, without a panic, whatever it is given, and answers zero values with an error.

func TestAnyArguments(t *testing.T) {
	for _, n := range anyNumbers() {
		if d := sector.New(n); (d != nil) != (n >= 1 && n <= 4096) {
			t.Errorf("New(%d): %v", n, d != nil)
		}
	}
	for _, fuse := range []int{-1, 0, math.MaxInt, math.MinInt} {
		d := sector.New(2)
		for _, at := range anyNumbers() {
			for _, n := range anyNumbers() {
				b, e := d.Read(at, n)
				if (e == api.OK) != (!d.Down() && at >= 0 && n >= 0 && at <= 32 && n <= 32-at) || e == api.OK && len(b) != n || e != api.OK && len(b) != 0 {
					t.Errorf("Read(%d, %d): %d bytes, %d", at, n, len(b), e)
				}
			}
			for _, n := range []int{0, 1, 16, 32, 33, 1 << 16} {
				e := d.Write(at, make([]byte, n))
				if (e == api.OK) != (!d.Down() && at >= 0 && at <= 32 && n <= 32-at) {
					t.Errorf("Write(%d, %d bytes): %d", at, n, e)
				}
			}
			d.Crash(make([]bool, 1<<12))
			d.Fuse(at)
			d.Sync()
			d.Crash(nil)
			d.Fuse(fuse)
		}
	}
}

func TestAnyCalls(t *testing.T) {
	for _, size := range []int{0, 1, 15, 16, 17, 32, 1 << 16, 1<<16 + 16, 1 << 20} {
		b := rising(size)
		if d := sector.Of(b); (d != nil) != (size > 0 && size <= 1<<16 && size%16 == 0) {
			t.Errorf("Of %d bytes: %v", size, d != nil)
		}
	}
	d := sector.New(1)
	d.Crash(nil)
	d.Crash([]bool{true, true})
	if d.Down() || d.Acts() != 0 || len(d.Loose()) != 0 {
		t.Errorf("behind a crash of nothing: down %v, %d acts, Loose %v", d.Down(), d.Acts(), d.Loose())
	}
}

// P3: the same calls have the same answers, and one disk has no effect on another.

func TestDisksAreApart(t *testing.T) {
	b := rising(32)
	one, two := sector.Of(b), sector.Of(b)
	one.Write(3, []byte{255})
	one.Fuse(0)
	one.Sync()
	alike(t, two, plainOf(b))
	if two.Sync() != api.OK || !one.Down() {
		t.Errorf("down %v and %v", one.Down(), two.Down())
	}
	two.Crash(nil)
	if !one.Down() || !slices.Equal(one.Loose(), []int{0}) {
		t.Errorf("behind a crash of the other: down %v, Loose %v", one.Down(), one.Loose())
	}
}

func TestAskingChangesNothing(t *testing.T) {
	d, p := pair(rising(48))
	d.Fuse(4)
	p.setFuse(4)
	for range 6 {
		d.Write(15, []byte{255, 254})
		p.write(15, []byte{255, 254})
		for range 3 {
			alike(t, d, p)
		}
	}
}

// P3: arguments are neither changed nor kept, up to their spare capacity.

func TestOfKeepsNoArgument(t *testing.T) {
	whole := rising(64)
	d := sector.Of(whole[:32])
	if !bytes.Equal(whole, rising(64)) {
		t.Errorf("the argument became %v", whole)
	}
	clear(whole)
	alike(t, d, plainOf(rising(32)))
	d.Write(0, bytes.Repeat([]byte{255}, 32))
	d.Crash(nil)
	alike(t, d, &plain{current: rising(32), loose: make([]bool, 2), acts: 1})
	if !bytes.Equal(whole, make([]byte, 64)) {
		t.Errorf("the argument became %v", whole)
	}
}

func TestWriteKeepsNoArgument(t *testing.T) {
	for _, at := range []int{0, 5, 16} {
		whole := rising(64)
		d, p := pair(make([]byte, 48))
		d.Write(at, whole[:32])
		p.write(at, whole[:32])
		if !bytes.Equal(whole, rising(64)) {
			t.Errorf("the argument became %v", whole)
		}
		clear(whole)
		alike(t, d, p)
		d.Write(at, bytes.Repeat([]byte{255}, 32))
		if !bytes.Equal(whole, make([]byte, 64)) {
			t.Errorf("the argument became %v", whole)
		}
	}
}

func TestCrashKeepsNoArgument(t *testing.T) {
	whole := []bool{true, false, true, true}
	kept := slices.Clone(whole)
	d := sector.New(3)
	d.Write(0, rising(48))
	d.Crash(whole[:2])
	if !slices.Equal(whole, kept) {
		t.Errorf("%v became %v", kept, whole)
	}
	// What lies behind the end of keep is not one of its elements.
	if b := d.Bytes(); b[0] != 1 || b[16] != 0 || b[32] != 0 {
		t.Errorf("Bytes: %v", b)
	}
}

// P3: what is returned is nobody else's, up to its spare capacity.

func TestBytesAreNewlyAllocated(t *testing.T) {
	d, p := pair(rising(48))
	d.Write(20, []byte{255})
	p.write(20, []byte{255})
	spoil(d.Bytes(), 0xee)
	alike(t, d, p)
	for _, c := range [][2]int{{0, 48}, {0, 16}, {16, 16}, {3, 4}, {20, 20}, {48, 0}, {0, 0}} {
		one, _ := d.Read(c[0], c[1])
		two, _ := d.Read(c[0], c[1])
		spoil(one, 0xee)
		if !bytes.Equal(two, p.current[c[0]:c[0]+c[1]]) || slices.Contains(two[:cap(two)], 0xee) {
			t.Errorf("Read(%d, %d) is shared: %v", c[0], c[1], two[:cap(two)])
		}
		alike(t, d, p)
	}
	one := d.Bytes()
	d.Write(0, bytes.Repeat([]byte{77}, 48))
	if !bytes.Equal(one, p.current) {
		t.Errorf("a result was changed by a Write: %v", one)
	}
	d.Crash(nil)
	if !bytes.Equal(d.Bytes(), rising(48)) {
		t.Errorf("behind a crash: %v", d.Bytes())
	}
}

func TestLooseIsNewlyAllocated(t *testing.T) {
	d, p := pair(rising(160))
	for _, at := range []int{0, 40, 41, 100, 159} {
		d.Write(at, []byte{255})
		p.write(at, []byte{255})
		one, two := d.Loose(), d.Loose()
		spoil(one, -1)
		if !slices.Equal(two, p.indices()) || slices.Contains(two[:cap(two)], -1) {
			t.Errorf("Loose is shared: %v", two[:cap(two)])
		}
		alike(t, d, p)
	}
}

func spoil[E any](l []E, e E) {
	l = l[:cap(l)]
	for i := range l {
		l[i] = e
	}
}
