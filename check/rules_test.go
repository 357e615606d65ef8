package check_test

import (
	"bytes"
	"slices"
	"testing"

	"canton/check"
)

// P1: every function ends, without a panic, whatever it is given.
func TestAnyArguments(t *testing.T) {
	for _, seed := range someSeeds() {
		sums(t, seed, nil)
	}
	sums(t, 65535, bytes.Repeat([]byte{255}, 1<<22))
	for _, n := range edges() {
		for _, m := range edges() {
			newer(t, n, m, m, n)
			newer(t, n, n, m, m)
		}
	}
}

// P3: the same arguments have the same answer, whatever was asked between.
func TestSameAnswersInAnyOrder(t *testing.T) {
	var first []uint32
	for _, b := range someBytes() {
		first = append(first, check.Sum(9, b))
	}
	for i, b := range slices.Backward(someBytes()) {
		check.Newer(1, 2, 3, int64(i))
		check.Sum(uint16(i), b)
		if again := check.Sum(9, b); again != first[i] {
			t.Errorf("bytes %d: first %d, then %d", i, first[i], again)
		}
	}
}

// P3: what is no element of b has no part in the checksum, and b is not changed up to its spare capacity.
func TestSumLooksAtItsBytesAlone(t *testing.T) {
	whole := mixed(64, 1)
	for from := range 8 {
		for to := from; to < 64; to++ {
			if got, want := check.Sum(2, whole[from:to]), check.Sum(2, bytes.Clone(whole[from:to])); got != want {
				t.Errorf("bytes %d to %d: %d; want %d", from, to, got, want)
			}
		}
	}
	if !bytes.Equal(whole, mixed(64, 1)) {
		t.Errorf("the argument became %v", whole)
	}
}

// P3: no argument is kept: a later call on the same memory answers what it holds by then.
func TestSumKeepsNoArgument(t *testing.T) {
	b := mixed(32, 4)
	was := check.Sum(0, b)
	clear(b)
	if got := sums(t, 0, b); got == was {
		t.Errorf("checksum %d", got)
	}
}
