package path_test

import (
	"math"
	"slices"
	"strings"
	"testing"

	"canton/path"
)

// anyTexts is texts of all sorts, right ones, wrong ones and very long ones.
func anyTexts() []string {
	const long = 1 << 20
	l := slices.Concat(somePaths()[:12], wrongPaths(), []string{"a", "", "abc", "-", part12, part13, "0000"})
	for _, s := range []string{"a", "/", "/a", "\x00", "\xff", "é", "/" + part12} {
		l = append(l, strings.Repeat(s, long))
	}
	return append(l, "/"+strings.Repeat("a", long), deep6+strings.Repeat("/", long), strings.Repeat("/", long)+"a")
}

func anyNumbers() []int {
	return []int{math.MinInt, math.MinInt + 1, -10000, -9999, -1, 0, 1, 9, 10, 99, 100, 999, 1000, 9999, 10000, 10001, 99999, 1 << 31, 1 << 32, math.MaxInt}
}

// P1 and P2: every function ends, without a panic, whatever it is given; where there is no result, it is zero.
func TestAnyArguments(t *testing.T) {
	texts := anyTexts()
	for _, p := range texts {
		agree(t, p)
		for _, q := range texts {
			if got, ok := path.Join(p, q); ok != (got != "") || ok && (!pathForm.MatchString(p) || !partForm.MatchString(q) || !pathForm.MatchString(got)) {
				t.Errorf("Join of %d and %d bytes: %d bytes, %v", len(p), len(q), len(got), ok)
			}
			if path.In(p, q) && (!pathForm.MatchString(p) || !pathForm.MatchString(q)) {
				t.Errorf("In of %d and %d bytes that are no paths", len(p), len(q))
			}
		}
		for _, n := range anyNumbers() {
			if got, ok := path.Numbered(p, n); ok != (got != "") || ok && (n < 0 || n > 9999 || !partForm.MatchString(got)) {
				t.Errorf("Numbered of %d bytes and %d: %d bytes, %v", len(p), n, len(got), ok)
			}
		}
	}
}

// P3: the same arguments have the same answer, whatever was asked between.
func TestSameAnswersInAnyOrder(t *testing.T) {
	type answers struct {
		parts, up, last, joined, numbered string
		ok                                [4]bool
		in                                bool
	}
	ask := func(p string) answers {
		var a answers
		parts, ok := path.Split(p)
		a.parts, a.ok[0] = strings.Join(parts, " "), ok
		a.up, a.ok[1] = path.Parent(p)
		a.last = path.Last(p)
		a.joined, a.ok[2] = path.Join(p, "x")
		a.numbered, a.ok[3] = path.Numbered(strings.TrimPrefix(p, "/"), 12)
		a.in = path.In(p, "/a")
		return a
	}
	l := slices.Concat(somePaths(), wrongPaths())
	var first []answers
	for _, p := range l {
		first = append(first, ask(p))
	}
	for i, p := range slices.Backward(l) {
		if again := ask(p); again != first[i] {
			t.Errorf("%q: first %v, then %v", p, first[i], again)
		}
	}
}

// P3: what Split returns is nobody else's, up to its spare capacity.
func TestSplitIsNewlyAllocated(t *testing.T) {
	for _, p := range somePaths() {
		want, _ := wantParts(p)
		one, _ := path.Split(p)
		two, _ := path.Split(p)
		spoil(one)
		if !slices.Equal(two, want) {
			t.Errorf("Split(%q) is shared: %q", p, two)
		}
		for _, s := range two[len(two):cap(two)] {
			if s == "spoilt" {
				t.Errorf("Split(%q) shares its spare capacity", p)
			}
		}
		if again, ok := path.Split(p); !ok || !slices.Equal(again, want) {
			t.Errorf("Split(%q) after its result was changed: %q, %v", p, again, ok)
		}
	}
}

func spoil(l []string) {
	l = l[:cap(l)]
	for i := range l {
		l[i] = "spoilt"
	}
}
