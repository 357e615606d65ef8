package path_test

import (
	"math"
	"regexp"
	"slices"
	"strings"
	"testing"

	"canton/path"
)

// The form of paths and parts as the document says it, independent of how the package takes texts apart.
var (
	pathForm = regexp.MustCompile(`\A(/|(/[a-z0-9-]{1,12}){1,6})\z`)
	partForm = regexp.MustCompile(`\A[a-z0-9-]{1,12}\z`)
)

const (
	part12 = "0123456789ab"
	part13 = "0123456789abc"
	deep6  = "/a/b/c/d/e/f"
	deep7  = "/a/b/c/d/e/f/g"
)

// wantParts is the parts of p, as the document says it.
func wantParts(p string) ([]string, bool) {
	if !pathForm.MatchString(p) {
		return nil, false
	}
	if p == "/" {
		return nil, true
	}
	return strings.Split(p[1:], "/"), true
}

// agree holds all that can be asked of one text against the document's form.
func agree(t *testing.T, p string) {
	t.Helper()
	want, is := wantParts(p)
	if got, ok := path.Split(p); ok != is || !slices.Equal(got, want) {
		t.Errorf("Split(%q) = %q, %v; want %q, %v", p, got, ok, want, is)
	}
	if got := path.Right(p); got != is {
		t.Errorf("Right(%q) = %v", p, got)
	}
	up, last := "", ""
	if len(want) > 0 {
		up, last = "/"+strings.Join(want[:len(want)-1], "/"), want[len(want)-1]
	}
	if got, ok := path.Parent(p); got != up || ok != (up != "") {
		t.Errorf("Parent(%q) = %q, %v; want %q", p, got, ok, up)
	}
	if got := path.Last(p); got != last {
		t.Errorf("Last(%q) = %q; want %q", p, got, last)
	}
	if got := path.In(p, p); got != is {
		t.Errorf("In(%q, itself) = %v", p, got)
	}
	if got := path.In(p, "/"); got != is {
		t.Errorf("In(%q, the root) = %v", p, got)
	}
	if got := path.In("/", p); got != (p == "/") {
		t.Errorf("In(the root, %q) = %v", p, got)
	}
}

// shortTexts is all texts of up to most letters of an alphabet.
func shortTexts(alphabet []string, most int) []string {
	all := []string{""}
	begin := 0
	for range most {
		end := len(all)
		for _, s := range all[begin:end] {
			for _, a := range alphabet {
				all = append(all, s+a)
			}
		}
		begin = end
	}
	return all
}

// somePaths is the root, paths that are alike at their beginnings, and those at the edges.
func somePaths() []string {
	names := []string{"a", "ab", "b", "-", "0", part12}
	l := []string{"/", deep6, "/a/b/c/d/e", "/a/b/c/d/e/" + part12, strings.Repeat("/"+part12, 5), strings.Repeat("/"+part12, 6)}
	for _, a := range names {
		l = append(l, "/"+a)
		for _, b := range names {
			l = append(l, "/"+a+"/"+b)
			l = append(l, "/"+a+"/"+b+"/a")
		}
	}
	return l
}

// wrongPaths is texts that are no paths.
func wrongPaths() []string {
	return []string{
		"", "a", "a/b", "a/", "//", "///", "//a", "/a/", "/a//b", "/a/b/", "/a/b//", " ", " /", "/ ", "/a ", " /a",
		"/A", "/aB/c", "/a.b", "/.", "/..", "/a/../b", "/a_b", "/a b", "/a\x00", "/\x00", "/a\n", "\n/a", "/a\\b",
		"/é", "/\xff", "/a/\x80", "/" + part13, "/a/" + part13, "/" + part13 + "/a", part12, "/`", "/{", "/:", "/,",
		deep7, deep6 + "/", deep6 + "//", "/a/b/c/d/e/", "/a/b/c/d/e/F", "/a/b/c/d/e/" + part13, deep6 + deep6,
		strings.Repeat("/", 20), strings.Repeat("a", 20), "/" + strings.Repeat("a", 300), strings.Repeat("/a", 300),
	}
}

// P1.1 (A1): Split and Right.

func TestSplitNamedEdges(t *testing.T) {
	for _, c := range []struct {
		p    string
		want []string
	}{
		{"/", nil},
		{"/a", []string{"a"}},
		{"/-", []string{"-"}},
		{"/a/b-1/c", []string{"a", "b-1", "c"}},
		{"/" + part12, []string{part12}},
		{"/az/09/-", []string{"az", "09", "-"}},
		{deep6, []string{"a", "b", "c", "d", "e", "f"}},
		{strings.Repeat("/"+part12, 6), []string{part12, part12, part12, part12, part12, part12}},
	} {
		got, ok := path.Split(c.p)
		if !ok || !slices.Equal(got, c.want) || !path.Right(c.p) {
			t.Errorf("Split(%q) = %q, %v; Right %v", c.p, got, ok, path.Right(c.p))
		}
	}
}

func TestWrongPathsAreRefused(t *testing.T) {
	for _, p := range wrongPaths() {
		if l, ok := path.Split(p); ok || len(l) != 0 || path.Right(p) {
			t.Errorf("Split(%q) = %q, %v; Right %v", p, l, ok, path.Right(p))
		}
	}
}

func TestAllShortTexts(t *testing.T) {
	for _, p := range shortTexts([]string{"/", "a", "-", "7", "A", "\xc3"}, 6) {
		agree(t, p)
	}
	for _, p := range shortTexts([]string{"/", "a"}, 15) {
		agree(t, p)
	}
}

func TestAllBytesInAllPlaces(t *testing.T) {
	for c := range 256 {
		b := string([]byte{byte(c)})
		for _, p := range []string{b, "/" + b, "/" + b + "x", "/x" + b, "/x" + b + "x", b + "/x", "/x/" + b, "/" + b + "/x", "/x" + b + "/x", "/abcdefghijk" + b, "/abcdefghijkl" + b, "/abcdefghijkl/" + b, deep6 + b} {
			agree(t, p)
		}
	}
}

func TestLengthsAndDepths(t *testing.T) {
	for depth := 1; depth <= 9; depth++ {
		for at := range depth {
			for long := range 16 {
				parts := slices.Repeat([]string{"ab"}, depth)
				parts[at] = strings.Repeat("z", long)
				agree(t, "/"+strings.Join(parts, "/"))
			}
		}
	}
}

// P1.1 (A2): Parent, Last and Join.

func TestParentAndLast(t *testing.T) {
	for _, c := range []struct{ p, up, last string }{
		{"/a/b", "/a", "b"},
		{"/a", "/", "a"},
		{"/" + part12, "/", part12},
		{"/a/a", "/a", "a"},
		{deep6, "/a/b/c/d/e", "f"},
		{"/", "", ""},
	} {
		up, ok := path.Parent(c.p)
		if up != c.up || ok != (c.up != "") || path.Last(c.p) != c.last {
			t.Errorf("%q: Parent %q, %v; Last %q", c.p, up, ok, path.Last(c.p))
		}
	}
	for _, p := range wrongPaths() {
		if up, ok := path.Parent(p); up != "" || ok || path.Last(p) != "" {
			t.Errorf("%q: Parent %q, %v; Last %q", p, up, ok, path.Last(p))
		}
	}
}

func TestJoin(t *testing.T) {
	for _, c := range []struct{ p, part, want string }{
		{"/", "a", "/a"},
		{"/", "-", "/-"},
		{"/a", "b", "/a/b"},
		{"/a", part12, "/a/" + part12},
		{"/a/b/c/d/e", "f", deep6},
		{"/a/b/c/d/e", part12, "/a/b/c/d/e/" + part12},
		{deep6, "g", ""},
		{"/", "", ""},
		{"/a", "", ""},
		{"/a", part13, ""},
		{"/", part13, ""},
		{"/a", "/b", ""},
		{"/a", "b/", ""},
		{"/a", "b/c", ""},
		{"/a", "/", ""},
		{"/a", "B", ""},
		{"/a", ".", ""},
		{"/a", "b ", ""},
		{"/a", "b\n", ""},
		{"/a", "\xff", ""},
	} {
		got, ok := path.Join(c.p, c.part)
		if got != c.want || ok != (c.want != "") {
			t.Errorf("Join(%q, %q) = %q, %v; want %q", c.p, c.part, got, ok, c.want)
		}
	}
	for _, p := range wrongPaths() {
		if got, ok := path.Join(p, "a"); got != "" || ok {
			t.Errorf("Join(%q, a) = %q, %v", p, got, ok)
		}
	}
}

func TestJoinOfAllShortParts(t *testing.T) {
	for _, part := range shortTexts([]string{"/", "a", "-", "A", "0"}, 5) {
		got, ok := path.Join("/p", part)
		is := partForm.MatchString(part)
		if ok != is || is && got != "/p/"+part || !is && got != "" {
			t.Errorf("Join(/p, %q) = %q, %v", part, got, ok)
		}
	}
}

// P1.1 (A3): In.

func TestIn(t *testing.T) {
	for _, c := range []struct {
		p, q string
		want bool
	}{
		{"/a/b", "/a", true},
		{"/a/b", "/a/b", true},
		{"/a/b/c", "/a", true},
		{"/a", "/", true},
		{"/", "/", true},
		{deep6, "/a/b/c/d/e", true},
		{deep6, deep6, true},
		{"/", "/a", false},
		{"/a", "/a/b", false},
		{"/ab", "/a", false},
		{"/a", "/ab", false},
		{"/ab/c", "/a", false},
		{"/b/a", "/a", false},
		{"/a/c", "/a/b", false},
		{"/a/bc", "/a/b", false},
	} {
		if got := path.In(c.p, c.q); got != c.want {
			t.Errorf("In(%q, %q) = %v", c.p, c.q, got)
		}
	}
}

func TestInOfWrongPaths(t *testing.T) {
	for _, wrong := range wrongPaths() {
		for _, p := range []string{"/", "/a", deep6, wrong} {
			if path.In(wrong, p) || path.In(p, wrong) {
				t.Errorf("In of %q and %q: %v, %v", wrong, p, path.In(wrong, p), path.In(p, wrong))
			}
		}
	}
}

func TestInOfAllPairs(t *testing.T) {
	for _, p := range somePaths() {
		for _, q := range somePaths() {
			want := q == "/" || p == q || strings.HasPrefix(p, q+"/")
			if got := path.In(p, q); got != want {
				t.Errorf("In(%q, %q) = %v", p, q, got)
			}
		}
	}
}

// P1.1 (A4): Numbered.

func TestNumbered(t *testing.T) {
	for _, c := range []struct {
		part string
		n    int
		want string
	}{
		{"q", 0, "q0000"},
		{"q", 1, "q0001"},
		{"q", 42, "q0042"},
		{"q", 999, "q0999"},
		{"q", 1000, "q1000"},
		{"q", 9999, "q9999"},
		{"q-", 7, "q-0007"},
		{"", 5, "0005"},
		{"01234567", 1, "012345670001"},
		{"q", 10000, ""},
		{"q", -1, ""},
		{"q", math.MaxInt, ""},
		{"q", math.MinInt, ""},
		{"012345678", 1, ""},
		{part12, 0, ""},
		{part13, 0, ""},
		{"Q", 1, ""},
		{"a/b", 1, ""},
		{"/a", 1, ""},
		{"a ", 1, ""},
		{"\xff", 1, ""},
	} {
		got, ok := path.Numbered(c.part, c.n)
		if got != c.want || ok != (c.want != "") {
			t.Errorf("Numbered(%q, %d) = %q, %v; want %q", c.part, c.n, got, ok, c.want)
		}
	}
}

func TestNumberedOfAllNumbers(t *testing.T) {
	before := ""
	for n := range 10000 {
		digits := string([]byte{'0' + byte(n/1000), '0' + byte(n/100%10), '0' + byte(n/10%10), '0' + byte(n%10)})
		got, ok := path.Numbered("a-z", n)
		if !ok || got != "a-z"+digits {
			t.Errorf("Numbered(a-z, %d) = %q, %v", n, got, ok)
		}
		if got <= before {
			t.Errorf("%q does not sort behind %q", got, before)
		}
		before = got
	}
}

// P1.2 (there and back).

func TestPathIsItsParentWithItsLastPart(t *testing.T) {
	for _, p := range somePaths() {
		up, ok := path.Parent(p)
		if ok != (p != "/") {
			t.Errorf("Parent(%q) = %q, %v", p, up, ok)
		}
		if !ok {
			continue
		}
		if got, ok := path.Join(up, path.Last(p)); !ok || got != p {
			t.Errorf("Join(%q, %q) = %q, %v; want %q", up, path.Last(p), got, ok, p)
		}
	}
}

func TestJoinedPathHasWhatItWasJoinedFrom(t *testing.T) {
	for _, p := range somePaths() {
		for _, part := range []string{"a", "ab", "-", "0", part12, "q0000"} {
			q, ok := path.Join(p, part)
			full := strings.Count(p, "/") == 6
			if ok == full {
				t.Errorf("Join(%q, %q) = %q, %v", p, part, q, ok)
			}
			if !ok {
				continue
			}
			if up, ok := path.Parent(q); !ok || up != p || path.Last(q) != part {
				t.Errorf("%q: Parent %q, %v; Last %q", q, up, ok, path.Last(q))
			}
		}
	}
}

func TestPathIsItsPartsJoined(t *testing.T) {
	for _, p := range somePaths() {
		parts, ok := path.Split(p)
		if !ok {
			t.Fatalf("Split(%q) = false", p)
		}
		q := "/"
		for _, part := range parts {
			q, ok = path.Join(q, part)
			if !ok {
				t.Fatalf("Join to %q failed", p)
			}
		}
		if q != p {
			t.Errorf("parts of %q joined: %q", p, q)
		}
	}
}

// P1.3: In is a partial order, with the root above all.

func TestInIsAPartialOrder(t *testing.T) {
	l := somePaths()
	above := make([][]string, len(l)) // for each path, all that it is in
	for i, p := range l {
		if !path.In(p, p) || !path.In(p, "/") {
			t.Errorf("In(%q, itself) = %v, In(%q, /) = %v", p, path.In(p, p), p, path.In(p, "/"))
		}
		for _, q := range l {
			if path.In(p, q) {
				above[i] = append(above[i], q)
			}
			if p != q && path.In(p, q) && path.In(q, p) {
				t.Errorf("%q and %q are in each other", p, q)
			}
		}
	}
	for i, p := range l {
		for _, q := range above[i] {
			for _, r := range above[slices.Index(l, q)] {
				if !path.In(p, r) {
					t.Errorf("%q is in %q, that in %q, but the first not in the last", p, q, r)
				}
			}
		}
	}
}

func TestPathIsInItsParents(t *testing.T) {
	for _, p := range somePaths() {
		for q, ok := p, true; ok; q, ok = path.Parent(q) {
			if !path.In(p, q) || p != q && path.In(q, p) {
				t.Errorf("In of %q and %q: %v, %v", p, q, path.In(p, q), path.In(q, p))
			}
		}
	}
}
