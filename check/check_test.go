package check_test

import (
	"bytes"
	"math"
	"math/big"
	"slices"
	"testing"

	"canton/check"
)

const (
	prime = 65521
	most  = 1 << 48
)

// wantSum is the checksum without a loop from sum to sum: every byte counts once in x, and in y once for itself and for each byte behind it.
func wantSum(seed uint16, b []byte) uint32 {
	x, y := big.NewInt(int64(seed)+1), big.NewInt(1)
	y.Add(y, big.NewInt((int64(seed)+1)*int64(len(b))))
	for i, c := range b {
		x.Add(x, big.NewInt(int64(c)+1))
		y.Add(y, big.NewInt((int64(c)+1)*int64(len(b)-i)))
	}
	x.Mod(x, big.NewInt(prime))
	y.Mod(y, big.NewInt(prime))
	return uint32(y.Int64()*65536 + x.Int64())
}

// wantNewer holds two pairs against each other number by number.
func wantNewer(a, b, c, d int64) bool {
	for _, n := range []int64{a, b, c, d} {
		if n < 0 || n > most {
			return false
		}
	}
	return slices.Compare([]int64{a, b}, []int64{c, d}) > 0
}

func sums(t *testing.T, seed uint16, b []byte) uint32 {
	t.Helper()
	got := check.Sum(seed, b)
	if want := wantSum(seed, b); got != want {
		t.Errorf("Sum(%d, %d bytes from %v on) = %d; want %d", seed, len(b), b[:min(len(b), 8)], got, want)
	}
	return got
}

func someSeeds() []uint16 {
	return []uint16{0, 1, 2, 255, 256, 32767, 32768, 65519, 65520, 65521, 65522, 65534, 65535}
}

// mixed is n bytes of all sorts, others for each start.
func mixed(n int, start uint32) []byte {
	b := make([]byte, n)
	for i := range b {
		start = start*1664525 + 1013904223
		b[i] = byte(start >> 24)
	}
	return b
}

func someBytes() [][]byte {
	l := [][]byte{nil, {}, {0}, {0, 0}, {1}, {255}, {255, 255}, {0, 1}, {1, 0}, []byte("ab"), []byte("ba"), []byte("/a/b"), bytes.Repeat([]byte{255}, 255), bytes.Repeat([]byte{255}, 256), bytes.Repeat([]byte{0}, 300)}
	for n := range 40 {
		l = append(l, mixed(n, uint32(n)), mixed(16*n, uint32(n)))
	}
	return append(l, mixed(1<<14, 7), bytes.Repeat([]byte{255}, 1<<14), make([]byte, 1<<14))
}

// P4.1 (D1): Sum.

func TestSumOfTheDocument(t *testing.T) {
	for _, none := range [][]byte{nil, {}} {
		if got := check.Sum(0, none); got != 65537 {
			t.Errorf("Sum(0, none) = %d", got)
		}
	}
}

func TestSumsThatWereWorkedOutByHand(t *testing.T) {
	for _, c := range []struct {
		seed uint16
		b    []byte
		x, y uint32
	}{
		{0, nil, 1, 1},
		{0, []byte{0}, 2, 3},
		{0, []byte{1}, 3, 4},
		{0, []byte{255}, 257, 258},
		{0, []byte{0, 0}, 3, 6},
		{0, []byte{1, 0}, 4, 8},
		{0, []byte{0, 1}, 4, 7},
		{9, []byte{4, 5, 6}, 28, 65},
		{65519, nil, 65520, 1},
		{65520, nil, 0, 1},
		{65521, nil, 1, 1},
		{65535, nil, 15, 1},
		{65535, []byte{0}, 16, 17},
		{65519, []byte{0}, 0, 1},
		{65518, []byte{0}, 65520, 0},
		{65519, []byte{1}, 1, 2},
		{65518, []byte{255}, 254, 255},
	} {
		if got := check.Sum(c.seed, c.b); got != c.y*65536+c.x {
			t.Errorf("Sum(%d, %v): x = %d, y = %d; want %d, %d", c.seed, c.b, got%65536, got/65536, c.x, c.y)
		}
	}
}

func TestSumOfAllSeeds(t *testing.T) {
	for seed := range 1 << 16 {
		for _, b := range [][]byte{nil, {0}, {255}, {3, 0, 200}} {
			sums(t, uint16(seed), b)
		}
	}
}

func TestSumOfAllShortBytes(t *testing.T) {
	for _, seed := range someSeeds() {
		for c := range 256 {
			sums(t, seed, []byte{byte(c)})
		}
	}
	for c := range 1 << 16 {
		sums(t, 0, []byte{byte(c >> 8), byte(c)})
	}
}

func TestSumOfSomeBytes(t *testing.T) {
	for _, seed := range someSeeds() {
		for _, b := range someBytes() {
			sums(t, seed, b)
		}
	}
}

// Both parts go round many times here, and what is ahead of the modulo would be greater than four bytes if it were put off.
func TestSumOfVeryManyBytes(t *testing.T) {
	for _, n := range []int{65520, 65521, 65522, 1 << 16, 1<<20 + 1} {
		sums(t, 65535, bytes.Repeat([]byte{255}, n))
		sums(t, 1, mixed(n, 3))
		sums(t, 65520, make([]byte, n))
	}
}

func TestPartsOfASumAreBelowThePrime(t *testing.T) {
	reached := map[uint32]int{}
	for seed := range 1 << 16 {
		s := check.Sum(uint16(seed), []byte{0})
		if s%65536 >= prime || s/65536 >= prime {
			t.Errorf("seed %d: x = %d, y = %d", seed, s%65536, s/65536)
		}
		reached[s%65536]++
	}
	if len(reached) != prime {
		t.Errorf("%d values of x; want %d", len(reached), prime)
	}
}

// The order of the bytes counts in y alone.
func TestSumTellsTheOrder(t *testing.T) {
	one, two := check.Sum(5, []byte{1, 2, 3}), check.Sum(5, []byte{3, 2, 1})
	if one == two || one%65536 != two%65536 {
		t.Errorf("%d and %d", one, two)
	}
}

// P4.2: changing one byte changes the checksum.

func TestOneByteChanged(t *testing.T) {
	for _, seed := range someSeeds() {
		for _, n := range []int{1, 2, 3, 17} {
			for i := range n {
				seen := map[uint32]int{}
				b := mixed(n, uint32(seed))
				for c := range 256 {
					b[i] = byte(c)
					seen[check.Sum(seed, b)]++
				}
				if len(seen) != 256 {
					t.Errorf("seed %d, byte %d of %d: %d checksums of 256", seed, i, n, len(seen))
				}
			}
		}
	}
}

func TestOneByteOfManyChanged(t *testing.T) {
	for _, n := range []int{1 << 14, 65521, 65522, 1 << 17} {
		b := mixed(n, 11)
		was := check.Sum(77, b)
		for _, i := range []int{0, 1, n / 2, n - 2, n - 1} {
			kept := b[i]
			for _, c := range []byte{0, 1, 127, 128, 254, 255, kept + 1, kept - 1, ^kept} {
				b[i] = c
				if got := check.Sum(77, b); (got == was) != (c == kept) {
					t.Errorf("byte %d of %d, %d instead of %d: %d and %d", i, n, c, kept, got, was)
				}
			}
			b[i] = kept
		}
	}
}

// P4.2: adding zero bytes changes the checksum.

func TestZeroBytesAdded(t *testing.T) {
	for _, seed := range someSeeds() {
		for _, b := range [][]byte{nil, {0}, {0, 0, 0}, {255}, []byte("ab"), mixed(40, 5), bytes.Repeat([]byte{255}, 300)} {
			was := check.Sum(seed, b)
			for _, n := range []int{1, 2, 3, 15, 16, 17, 255, 256, 257, 1 << 14, 32760, 65519, 65520} {
				if sums(t, seed, append(bytes.Clone(b), make([]byte, n)...)) == was {
					t.Errorf("seed %d, %v and %d zero bytes behind: %d", seed, b, n, was)
				}
				if sums(t, seed, append(make([]byte, n), b...)) == was {
					t.Errorf("seed %d, %d zero bytes and %v: %d", seed, n, b, was)
				}
			}
		}
	}
}

func TestZeroBytesHaveChecksumsOfTheirOwn(t *testing.T) {
	seen := map[uint32]int{}
	zeros := make([]byte, 1<<12)
	for n := range zeros {
		seen[check.Sum(0, zeros[:n])]++
	}
	if len(seen) != len(zeros) {
		t.Errorf("%d checksums of %d", len(seen), len(zeros))
	}
}

// By D1 both parts have come round when there are as many zero bytes as the prime says: only fewer than these are told apart.
func TestZeroBytesComeRound(t *testing.T) {
	for _, b := range [][]byte{nil, []byte("ab"), mixed(40, 5)} {
		was := check.Sum(3, b)
		for _, n := range []int{prime, 2 * prime} {
			if sums(t, 3, append(bytes.Clone(b), make([]byte, n)...)) != was || sums(t, 3, append(make([]byte, n), b...)) != was {
				t.Errorf("%d zero bytes", n)
			}
		}
	}
}

// P4.1 (D2): Newer.

// edges is numbers around all that is near an edge: of what a pair may have, of what a float holds exactly, and of int64.
func edges() []int64 {
	return []int64{
		math.MinInt64, math.MinInt64 + 1, -most - 1, -most, -2, -1,
		0, 1, 2, 1<<24 - 1, 1 << 24, 1<<24 + 1, 1<<32 - 1, 1 << 32, 1<<32 + 1, 1<<47 + 1, most - 2, most - 1, most,
		most + 1, most + 2, 1 << 53, 1<<53 + 1, math.MaxInt64 - 1, math.MaxInt64,
	}
}

func newer(t *testing.T, a, b, c, d int64) bool {
	t.Helper()
	got := check.Newer(a, b, c, d)
	if got != wantNewer(a, b, c, d) {
		t.Errorf("Newer(%d, %d, %d, %d) = %v", a, b, c, d, got)
	}
	return got
}

func TestNewerAtAllEdges(t *testing.T) {
	l := edges()
	for _, a := range l {
		for _, b := range l {
			for _, c := range l {
				for _, d := range l {
					newer(t, a, b, c, d)
				}
			}
		}
	}
}

func TestNewerOfSmallNumbers(t *testing.T) {
	for i := range 8 * 8 * 8 * 8 {
		newer(t, int64(i/512)-1, int64(i/64%8)-1, int64(i/8%8)-1, int64(i%8)-1)
	}
}

func TestPairsOfWhichOneIsNewer(t *testing.T) {
	for _, c := range []struct {
		a, b, c, d int64
		want       bool
	}{
		{0, 0, 0, 0, false},
		{1, 0, 0, most, true},
		{0, most, 1, 0, false},
		{5, 7, 5, 6, true},
		{5, 6, 5, 7, false},
		{5, 6, 5, 6, false},
		{most, most, most, most - 1, true},
		{most, most - 1, most, most, false},
		{most, 0, most - 1, most, true},
		{most, most, 0, 0, true},
		{most, most, most, most, false},
		{most + 1, 0, 0, 0, false},
		{1, most + 1, 0, 0, false},
		{1, 1, 0, most + 1, false},
		{1, 1, -1, 0, false},
		{1, 1, 0, -1, false},
		{1, -1, 0, 0, false},
		{-1, 1, -2, 0, false},
		{0, 0, -1, -1, false},
		{math.MaxInt64, 0, math.MinInt64, 0, false},
	} {
		if got := check.Newer(c.a, c.b, c.c, c.d); got != c.want {
			t.Errorf("%v: %v", c, got)
		}
	}
}

// P4.3: of two pairs, one is newer or they are equal; and Newer is transitive.

func rightPairs() [][2]int64 {
	var l [][2]int64
	for _, a := range []int64{0, 1, 2, 1<<24 + 1, 1 << 32, most - 1, most} {
		for _, b := range []int64{0, 1, 2, 1<<24 + 1, 1 << 32, most - 1, most} {
			l = append(l, [2]int64{a, b})
		}
	}
	return l
}

func TestOfTwoPairsOneIsNewerOrTheyAreEqual(t *testing.T) {
	for _, p := range rightPairs() {
		for _, q := range rightPairs() {
			there, back := newer(t, p[0], p[1], q[0], q[1]), newer(t, q[0], q[1], p[0], p[1])
			if there && back || there == back && p != q || p == q && there {
				t.Errorf("%v and %v: %v, %v", p, q, there, back)
			}
		}
	}
}

func TestNewerIsTransitive(t *testing.T) {
	l := rightPairs()
	chains := 0
	for _, p := range l {
		for _, q := range l {
			for _, r := range l {
				if check.Newer(p[0], p[1], q[0], q[1]) && check.Newer(q[0], q[1], r[0], r[1]) {
					chains++
					if !check.Newer(p[0], p[1], r[0], r[1]) {
						t.Errorf("%v, %v, %v", p, q, r)
					}
				}
			}
		}
	}
	if n := len(l); chains != n*(n-1)*(n-2)/6 {
		t.Errorf("%d chains of %d pairs", chains, n)
	}
}

func TestPairsAreSortedByNewer(t *testing.T) {
	l := rightPairs()
	slices.SortFunc(l, func(p, q [2]int64) int {
		if check.Newer(p[0], p[1], q[0], q[1]) {
			return 1
		} else if check.Newer(q[0], q[1], p[0], p[1]) {
			return -1
		}
		return 0
	})
	if !slices.Equal(l, rightPairs()) {
		t.Errorf("%v", l)
	}
}
