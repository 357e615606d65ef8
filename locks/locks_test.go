package locks_test

import (
	"maps"
	"regexp"
	"slices"
	"strconv"
	"strings"
	"testing"

	"canton/api"
	"canton/locks"
)

// The bounds as the document says them.
const (
	mostNum = 1 << 48
	part12  = "0123456789ab"
	deep6   = "/a/b/c/d/e/f"
)

var pathForm = regexp.MustCompile(`\A(/|(/[a-z0-9-]{1,12}){1,6})\z`)

func isNum(n int64) bool {
	return n >= 0 && n <= mostNum
}

// isOlder is whether a transaction of an age is older than another one.
func isOlder(txn int64, age int64, other int64, otherAge int64) bool {
	return age < otherAge || age == otherAge && txn < other
}

// wantRight is whether a list of holds is valid, as the document says it.
func wantRight(l []api.Hold) bool {
	for i, h := range l {
		if !pathForm.MatchString(h.Dir) || !isNum(h.Txn) || !isNum(h.Age) {
			return false
		}
		for _, k := range l[:i] {
			if k.Dir >= h.Dir || k.Txn == h.Txn && k.Age != h.Age {
				return false
			}
		}
	}
	return true
}

// request is what a Take gets beside the holds.
type request struct {
	txn, age int64
	dirs     []string
}

func ask(txn int64, age int64, dirs ...string) request {
	return request{txn, age, dirs}
}

// answer is what a Take answers.
type answer struct {
	holds   []api.Hold
	wounded []int64
	granted bool
}

func (q request) take(l []api.Hold) answer {
	var a answer
	a.holds, a.wounded, a.granted = locks.Take(l, q.txn, q.age, q.dirs)
	return a
}

// want is a plain reading of J2, with the holds in a map by their Dirs.
func (q request) want(l []api.Hold) answer {
	if !wantRight(l) || !q.may(l) {
		return answer{}
	}
	held := map[string]api.Hold{}
	for _, h := range l {
		held[h.Dir] = h
	}
	refused := false
	younger := map[int64]int{}
	for _, dir := range q.dirs {
		h, there := held[dir]
		if !there || h.Txn == q.txn {
			continue
		}
		refused = true
		if isOlder(q.txn, q.age, h.Txn, h.Age) {
			younger[h.Txn]++
		}
	}
	if refused {
		return answer{holds: slices.Clone(l), wounded: slices.Sorted(maps.Keys(younger))}
	}
	for _, dir := range q.dirs {
		held[dir] = api.Hold{Dir: dir, Txn: q.txn, Age: q.age}
	}
	a := answer{granted: true}
	for _, dir := range slices.Sorted(maps.Keys(held)) {
		a.holds = append(a.holds, held[dir])
	}
	return a
}

// may is whether a request on valid holds is one that is decided by who holds what.
func (q request) may(l []api.Hold) bool {
	if !isNum(q.txn) || !isNum(q.age) {
		return false
	}
	for _, dir := range q.dirs {
		if !pathForm.MatchString(dir) {
			return false
		}
	}
	for _, h := range l {
		if h.Txn == q.txn && h.Age != q.age {
			return false
		}
	}
	return true
}

func wantFree(l []api.Hold, txn int64) []api.Hold {
	var left []api.Hold
	for _, h := range l {
		if h.Txn != txn {
			left = append(left, h)
		}
	}
	return left
}

func wantHeld(l []api.Hold, dir string) (int64, bool) {
	for _, h := range l {
		if h.Dir == dir {
			return h.Txn, true
		}
	}
	return 0, false
}

func wantDirs(l []api.Piece) []string {
	m := map[string]int{}
	for _, x := range l {
		m[x.Part.Dir]++
	}
	return slices.Sorted(maps.Keys(m))
}

func alike(a answer, b answer) bool {
	return slices.Equal(a.holds, b.holds) && slices.Equal(a.wounded, b.wounded) && a.granted == b.granted
}

// agree makes a request, holds it against the plain reading, and returns what came of it.
func agree(t *testing.T, l []api.Hold, q request) answer {
	t.Helper()
	want, was, dirs := q.want(l), slices.Clone(l), slices.Clone(q.dirs)
	got := q.take(l)
	if !alike(got, want) {
		t.Fatalf("%+v on %+v: %+v; want %+v", q, l, got, want)
	}
	if !slices.Equal(l, was) || !slices.Equal(q.dirs, dirs) {
		t.Fatalf("%+v on %+v: the arguments became %+v and %+v", q, was, l, q.dirs)
	}
	return got
}

// after is what requests make of l; none of them may be refused.
func after(t *testing.T, l []api.Hold, some ...request) []api.Hold {
	t.Helper()
	for _, q := range some {
		a := agree(t, l, q)
		if !a.granted {
			t.Fatalf("%+v on %+v: %+v", q, l, a)
		}
		l = a.holds
	}
	return l
}

// many is n holds, each of a transaction of its own.
func many(n int) []api.Hold {
	var l []api.Hold
	for i := range n {
		l = append(l, api.Hold{Dir: "/m" + strconv.Itoa(1000+i), Txn: int64(n - i), Age: int64(i % 3)})
	}
	return l
}

// someHolds is lists of holds of all sorts, each of which is valid.
func someHolds() [][]api.Hold {
	return [][]api.Hold{
		nil,
		{},
		{{Dir: "/a", Txn: 5, Age: 9}},
		{{Dir: "/"}},
		{{Dir: "/", Txn: mostNum, Age: mostNum}, {Dir: "/" + part12, Txn: mostNum - 1}, {Dir: deep6, Txn: 0, Age: mostNum}},
		{{Dir: "/", Txn: 3, Age: 2}, {Dir: "/a", Txn: 5, Age: 9}, {Dir: "/a-", Txn: 3, Age: 2}, {Dir: "/a/b", Txn: 1, Age: 9}, {Dir: "/b", Txn: 5, Age: 9}, {Dir: "/c", Txn: mostNum, Age: 0}},
		{{Dir: "/a", Txn: 2, Age: 1}, {Dir: "/b", Txn: 1, Age: 1}, {Dir: "/c", Txn: 3, Age: 1}},
		{{Dir: "/a", Txn: 9, Age: 5}, {Dir: "/a/b", Txn: 8, Age: 5}, {Dir: "/a/b/c", Txn: 9, Age: 5}, {Dir: "/b", Txn: 7, Age: mostNum}},
		many(40),
	}
}

// noHolds is lists of holds that are not valid.
func noHolds() [][]api.Hold {
	l := [][]api.Hold{
		{{Dir: "/b"}, {Dir: "/a"}},
		{{Dir: "/a"}, {Dir: "/a"}},
		{{Dir: "/a", Txn: 1}, {Dir: "/a", Txn: 2}},
		{{Dir: "/a"}, {Dir: "/"}},
		{{Dir: "/a/b"}, {Dir: "/a-"}},
		{{Dir: "/a", Txn: 1}, {Dir: "/c", Txn: 2}, {Dir: "/b", Txn: 3}},
		{{Dir: "/a", Txn: 1, Age: 1}, {Dir: "/b", Txn: 1, Age: 2}},
		{{Dir: "/a", Txn: 1, Age: 1}, {Dir: "/b", Txn: 2, Age: 2}, {Dir: "/c", Txn: 1, Age: 0}},
		{{Dir: "/a", Age: 1}, {Dir: "/b"}},
	}
	for _, h := range wrongHolds() {
		l = append(l, []api.Hold{h}, []api.Hold{{Dir: "/", Txn: 4, Age: 4}, h}, []api.Hold{h, {Dir: "/z", Txn: 4, Age: 4}})
	}
	return l
}

// wrongHolds is holds that are not valid.
func wrongHolds() []api.Hold {
	var l []api.Hold
	for _, n := range wrongNums() {
		l = append(l, api.Hold{Dir: "/m", Txn: n}, api.Hold{Dir: "/m", Age: n}, api.Hold{Dir: "/m", Txn: n, Age: n})
	}
	for _, dir := range noPaths() {
		l = append(l, api.Hold{Dir: dir, Txn: 9, Age: 9})
	}
	return l
}

func wrongNums() []int64 {
	return []int64{-1 << 63, -1, mostNum + 1, 1<<63 - 1}
}

func noPaths() []string {
	return []string{"", "a", "//", "/a/", "/A", "/a b", "/é", "/?", "/" + part12 + "c", deep6 + "/g"}
}

// P10.1 (J1): Dirs.

func TestDirs(t *testing.T) {
	of := func(dirs ...string) []api.Piece {
		var l []api.Piece
		for i, dir := range dirs {
			l = append(l, api.Piece{Op: i, Part: api.Part{Kind: api.Put, Dir: dir, Path: "/p" + strconv.Itoa(i)}})
		}
		return l
	}
	for _, c := range []struct {
		l    []api.Piece
		want []string
	}{
		{nil, nil},
		{[]api.Piece{}, nil},
		{of("/a"), []string{"/a"}},
		{of("/z", "/", "/z"), []string{"/", "/z"}},
		{of("/a/b", "/a", "/a-", "/a0", "/a/b"), []string{"/a", "/a-", "/a/b", "/a0"}},
		{of("/b", "/a", "/b", "/a", "/b", "/c", "/a"), []string{"/a", "/b", "/c"}},
		// Any text is a Dir.
		{of("/b", "", "?", "/b/", "", "\xff", "/B"), []string{"", "/B", "/b", "/b/", "?", "\xff"}},
		{[]api.Piece{{Op: -1}, {Part: api.Part{Kind: -1, Dir: "/a", Path: "b"}}, {Op: 3}}, []string{"", "/a"}},
	} {
		if got := locks.Dirs(c.l); !slices.Equal(got, c.want) || !slices.Equal(wantDirs(c.l), c.want) {
			t.Errorf("%+v: %q; want %q", c.l, got, c.want)
		}
	}
}

func TestDirsOfMany(t *testing.T) {
	for n := range 300 {
		var l []api.Piece
		for i := range n {
			l = append(l, api.Piece{Part: api.Part{Dir: "/d" + strconv.Itoa(i*i*7%(n/2+1))}})
		}
		if got := locks.Dirs(l); !slices.Equal(got, wantDirs(l)) {
			t.Errorf("%d: %q", n, got)
		}
	}
}

// P10.1 (J1): Right.

func TestRightNamedEdges(t *testing.T) {
	for i, l := range append(someHolds(),
		[]api.Hold{{Dir: "/" + part12, Txn: mostNum}, {Dir: deep6, Age: mostNum}},
		[]api.Hold{{Dir: "/a", Txn: 1, Age: 7}, {Dir: "/b", Txn: 2, Age: 7}, {Dir: "/c", Txn: 1, Age: 7}},
		[]api.Hold{{Dir: "/a"}, {Dir: "/a-"}, {Dir: "/a/b"}, {Dir: "/a0"}, {Dir: "/aa"}},
		many(1000),
	) {
		if !locks.Right(l) || !wantRight(l) {
			t.Errorf("%d: %+v is refused", i, l)
		}
	}
	for i, l := range noHolds() {
		if locks.Right(l) || wantRight(l) {
			t.Errorf("%d: %+v is taken", i, l)
		}
	}
}

// What is not valid is refused wherever it stands, and whatever stands beside it.
func TestRightAsksAll(t *testing.T) {
	const all = 40
	for i := range all {
		for _, wrong := range wrongHolds() {
			l := many(all)
			l[i] = wrong
			if locks.Right(l) {
				t.Errorf("%+v at %d is taken", wrong, i)
			}
		}
		for j := range i {
			l := many(all)
			l[i].Txn, l[i].Age = l[j].Txn, l[j].Age
			if !locks.Right(l) {
				t.Errorf("%d and %d of one transaction are refused", j, i)
			}
			l[i].Age++
			if locks.Right(l) {
				t.Errorf("%d and %d of one transaction with two ages are taken", j, i)
			}
			l = many(all)
			l[i].Dir, l[j].Dir = l[j].Dir, l[i].Dir
			if locks.Right(l) {
				t.Errorf("%d and %d out of order are taken", j, i)
			}
			l[j].Dir = l[i].Dir
			if locks.Right(l) {
				t.Errorf("%d and %d of one Dir are taken", j, i)
			}
		}
	}
}

func TestRightOfAllShortLists(t *testing.T) {
	var kinds []api.Hold
	for _, dir := range []string{"/", "/a", "/b", "b"} {
		for _, txn := range []int64{0, 1, 2} {
			for _, age := range []int64{-1, 0, 1} {
				kinds = append(kinds, api.Hold{Dir: dir, Txn: txn, Age: age})
			}
		}
	}
	right, all := 0, 0
	for _, one := range kinds {
		for _, two := range kinds {
			for _, three := range kinds {
				l := []api.Hold{one, two, three}
				for n := range 4 {
					if locks.Right(l[:n]) != wantRight(l[:n]) {
						t.Fatalf("%+v: %v", l[:n], locks.Right(l[:n]))
					}
				}
				all++
				if wantRight(l) {
					right++
				}
			}
		}
	}
	if right == 0 || right == all {
		t.Errorf("%d of %d are valid", right, all)
	}
}

// P10.1 (J1): Held.

func TestHeld(t *testing.T) {
	l := []api.Hold{{Dir: "/a", Txn: 5, Age: 9}, {Dir: "/b", Txn: 0, Age: 1}, {Dir: "/c", Txn: 5, Age: 9}}
	// Of several holds of a Dir the first one counts, and any list is taken.
	odd := []api.Hold{{Dir: "/b", Txn: 7}, {Dir: "/a", Txn: -3}, {Dir: "/b", Txn: 8}, {Dir: "?", Txn: 1<<63 - 1}, {Txn: 4}, {Dir: "/a", Txn: 2}}
	for i, c := range []struct {
		l   []api.Hold
		dir string
		txn int64
		is  bool
	}{
		{l, "/a", 5, true}, {l, "/b", 0, true}, {l, "/c", 5, true},
		{l, "/", 0, false}, {l, "/a/b", 0, false}, {l, "/d", 0, false}, {l, "", 0, false}, {l, "?", 0, false},
		{nil, "/a", 0, false}, {nil, "", 0, false}, {[]api.Hold{}, "/", 0, false},
		{odd, "/b", 7, true}, {odd, "/a", -3, true}, {odd, "?", 1<<63 - 1, true}, {odd, "", 4, true}, {odd, "/c", 0, false},
		{odd[1:], "/b", 8, true}, {odd[2:], "/a", 2, true},
	} {
		txn, is := locks.Held(c.l, c.dir)
		if wantTxn, wantIs := wantHeld(c.l, c.dir); txn != c.txn || is != c.is || wantTxn != c.txn || wantIs != c.is {
			t.Errorf("%d: %d, %v; want %d, %v", i, txn, is, c.txn, c.is)
		}
	}
	for _, l := range append(someHolds(), noHolds()...) {
		for _, dir := range someDirs() {
			txn, is := locks.Held(l, dir)
			if wantTxn, wantIs := wantHeld(l, dir); txn != wantTxn || is != wantIs {
				t.Errorf("%q in %+v: %d, %v", dir, l, txn, is)
			}
		}
	}
}

func someDirs() []string {
	return append(noPaths(), "/", "/a", "/a-", "/a/b", "/a/b/c", "/b", "/c", "/m", "/m1000", "/m1039", "/z", deep6, "/"+part12)
}

// P10.1 (J2): Take.

func TestTake(t *testing.T) {
	l := after(t, nil, ask(5, 9, "/b", "/a"))
	if !slices.Equal(l, []api.Hold{{Dir: "/a", Txn: 5, Age: 9}, {Dir: "/b", Txn: 5, Age: 9}}) {
		t.Errorf("%+v", l)
	}
	l = after(t, l, ask(3, 2, "/a/b", "/", "/a/b", "/a-"))
	want := []api.Hold{{Dir: "/", Txn: 3, Age: 2}, {Dir: "/a", Txn: 5, Age: 9}, {Dir: "/a-", Txn: 3, Age: 2}, {Dir: "/a/b", Txn: 3, Age: 2}, {Dir: "/b", Txn: 5, Age: 9}}
	if !slices.Equal(l, want) {
		t.Errorf("%+v; want %+v", l, want)
	}
	// What is held by itself already is granted again, with more or without.
	for _, q := range []request{ask(5, 9), ask(5, 9, "/a"), ask(5, 9, "/b", "/a", "/b"), ask(3, 2, "/", "/a-", "/a/b"), ask(0, 0), ask(mostNum, mostNum)} {
		if got := after(t, l, q); !slices.Equal(got, want) {
			t.Errorf("%+v: %+v", q, got)
		}
	}
	l = after(t, l, ask(5, 9, "/c", "/b", "/a"))
	if !slices.Equal(l, append(want, api.Hold{Dir: "/c", Txn: 5, Age: 9})) {
		t.Errorf("%+v", l)
	}
	// The numbers 0 and 2^48 are numbers as others are.
	l = after(t, nil, ask(0, 0, "/b"), ask(mostNum, mostNum, "/a"), ask(0, 0, "/c"), ask(mostNum, mostNum, "/"))
	if !slices.Equal(l, []api.Hold{{Dir: "/", Txn: mostNum, Age: mostNum}, {Dir: "/a", Txn: mostNum, Age: mostNum}, {Dir: "/b"}, {Dir: "/c"}}) {
		t.Errorf("%+v", l)
	}
}

func TestTakeWounds(t *testing.T) {
	l := after(t, nil, ask(5, 9, "/a", "/d"), ask(4, 12, "/b"), ask(9, 2, "/c"), ask(6, 9, "/e"), ask(2, 30, "/f", "/g"))
	for i, c := range []struct {
		q       request
		wounded []int64
		granted bool
	}{
		// The example of the chapter.
		{ask(3, 2, "/a"), []int64{5}, false},
		{ask(3, 2, "/c"), []int64{9}, false},
		{ask(3, 3, "/c"), nil, false},
		{ask(10, 2, "/c"), nil, false},
		{ask(10, 1, "/c"), []int64{9}, false},
		// At equal ages the number decides.
		{ask(4, 12, "/a"), nil, false},
		{ask(1, 9, "/a"), []int64{5}, false},
		{ask(7, 9, "/a"), nil, false},
		{ask(7, 8, "/a"), []int64{5}, false},
		{ask(1, 10, "/a"), nil, false},
		{ask(5, 9, "/e"), []int64{6}, false},
		{ask(6, 9, "/d"), nil, false},
		// Several, in the order of their numbers, each once.
		{ask(1, 0, "/g", "/a", "/b", "/f", "/d", "/e"), []int64{2, 4, 5, 6}, false},
		{ask(1, 0, "/g", "/g", "/g"), []int64{2}, false},
		{ask(1, 9, "/a", "/b", "/c", "/d", "/e", "/f"), []int64{2, 4, 5, 6}, false},
		{ask(5, 9, "/a", "/b", "/c", "/d", "/e", "/f"), []int64{2, 4, 6}, false},
		{ask(8, 20, "/f", "/a", "/h"), []int64{2}, false},
		// What is free, or its own, does not help.
		{ask(5, 9, "/a", "/d", "/x", "/c"), nil, false},
		{ask(5, 9, "/x", "/b"), []int64{4}, false},
		{ask(5, 9, "/a", "/d", "/x"), nil, true},
		{ask(8, 20, "/", "/a/b", "/aa"), nil, true},
	} {
		a := agree(t, l, c.q)
		if a.granted != c.granted || !slices.Equal(a.wounded, c.wounded) || !c.granted && !slices.Equal(a.holds, l) {
			t.Errorf("%d: %+v: %+v", i, c.q, a)
		}
	}
}

// Of any two transactions, the order of the ages and, at equal ones, that of the numbers decides.
func TestTakeByAge(t *testing.T) {
	nums := []int64{0, 1, 2, 1 << 20, mostNum - 1, mostNum}
	for _, txn := range nums {
		for _, age := range nums {
			for _, other := range nums {
				for _, otherAge := range nums {
					if txn == other {
						continue
					}
					var want []int64
					if isOlder(txn, age, other, otherAge) {
						want = []int64{other}
					}
					a := agree(t, []api.Hold{{Dir: "/a", Txn: other, Age: otherAge}}, ask(txn, age, "/a"))
					if a.granted || !slices.Equal(a.wounded, want) {
						t.Errorf("%d with the age %d, against %d with the age %d: %+v", txn, age, other, otherAge, a)
					}
				}
			}
		}
	}
}

func TestTakeRefused(t *testing.T) {
	var wrong []request
	for _, n := range wrongNums() {
		wrong = append(wrong, ask(n, 1, "/x"), ask(1, n, "/x"), ask(n, n), ask(n, 1, "/a"), ask(5, n, "/a"))
	}
	for _, dir := range noPaths() {
		wrong = append(wrong, ask(1, 1, dir), ask(5, 9, dir), ask(1, 1, "/x", dir), ask(1, 1, dir, "/x"), ask(1, 1, "/a", "/x", dir, "/b"))
	}
	wrong = append(wrong, ask(5, 8), ask(5, 10), ask(5, 0, "/x"), ask(5, mostNum, "/b"), ask(5, 8, "/a"), ask(3, 9, "/z"), ask(3, 1))
	l := []api.Hold{{Dir: "/a", Txn: 5, Age: 9}, {Dir: "/b", Txn: 5, Age: 9}, {Dir: "/c", Txn: 3, Age: 2}}
	for _, q := range wrong {
		if a := agree(t, l, q); a.holds != nil || a.wounded != nil || a.granted {
			t.Errorf("%+v: %+v", q, a)
		}
	}
	for _, l := range noHolds() {
		for _, q := range someRequests() {
			if a := agree(t, l, q); a.holds != nil || a.wounded != nil || a.granted {
				t.Errorf("%+v on %+v: %+v", q, l, a)
			}
		}
	}
	// An age is asked for a transaction that holds something, wherever that stands.
	for i := range 40 {
		l := many(40)
		txn, age := l[i].Txn, l[i].Age
		if agree(t, l, ask(txn, age+1, "/x")).granted || !agree(t, l, ask(txn, age, "/x")).granted {
			t.Errorf("%d: %+v", i, l[i])
		}
	}
}

// someRequests is requests of all sorts, right ones and wrong ones.
func someRequests() []request {
	l := []request{{}, ask(5, 9, ""), ask(1, 1, many(1)[0].Dir)}
	for _, txn := range []int64{-1, 0, 1, 3, 5, 9, mostNum, mostNum + 1} {
		for _, age := range []int64{-1, 0, 2, 5, 9, mostNum} {
			for _, dirs := range []string{"", "/", "/a", "/b /a /b", "/a/b /a- /x", "/z", "/c / /a /m1003 /b /m1001", "/x /a/", deep6 + " /a/b/c"} {
				l = append(l, ask(txn, age, strings.Fields(dirs)...))
			}
		}
	}
	return l
}

func TestAllRequests(t *testing.T) {
	granted, refused, wounding, wrong := 0, 0, 0, 0
	for _, l := range someHolds() {
		for _, q := range someRequests() {
			a := agree(t, l, q)
			switch {
			case !q.may(l):
				wrong++
			case a.granted:
				granted++
			case len(a.wounded) > 0:
				wounding++
			default:
				refused++
			}
			if !locks.Right(a.holds) {
				t.Errorf("%+v on %+v: %+v", q, l, a)
			}
			for _, p := range []request{ask(5, 9, "/a", "/x"), ask(8, 3, "/", "/a/b")} {
				agree(t, a.holds, p)
			}
		}
	}
	if granted < 100 || refused < 100 || wounding < 100 || wrong < 100 {
		t.Errorf("%d were granted, %d refused, %d wounding, %d wrong", granted, refused, wounding, wrong)
	}
}

// All holds of three transactions on three directories, with all requests of four transactions on four.
func TestAllSmall(t *testing.T) {
	dirs := []string{"/", "/a", "/a/b", "/b"}
	for code := range 64 * 27 {
		ages := []int64{0, int64(code / 64 % 3), int64(code / 192 % 3), int64(code / 576)}
		var l []api.Hold
		for i, c := 0, code; i < 3; i, c = i+1, c/4 {
			if txn := int64(c % 4); txn > 0 {
				l = append(l, api.Hold{Dir: dirs[i], Txn: txn, Age: ages[txn]})
			}
		}
		for txn := range int64(4) {
			for set := range 16 {
				q := ask(txn+1, 1)
				if txn < 3 {
					q.age = ages[txn+1]
				}
				for i, dir := range dirs {
					if set>>i&1 == 1 {
						q.dirs = append(q.dirs, dir)
					}
				}
				agree(t, l, q)
				q.age++
				agree(t, l, q)
			}
		}
	}
}

// P10.1 (J3): Free.

func TestFree(t *testing.T) {
	l := []api.Hold{{Dir: "/a", Txn: 5, Age: 9}, {Dir: "/b", Txn: 0, Age: 1}, {Dir: "/c", Txn: 5, Age: 9}, {Dir: "/d", Txn: 7, Age: 9}}
	// Any list is taken, and the others keep their places.
	odd := []api.Hold{{Dir: "?", Txn: -1}, {Dir: "/b", Txn: 5, Age: 1}, {Dir: "/a", Txn: 5, Age: 2}, {Dir: "/a", Txn: -1, Age: -1}, {Dir: "/b", Txn: 6}, {Dir: "/b", Txn: 6}}
	for i, c := range []struct {
		l    []api.Hold
		txn  int64
		want []api.Hold
	}{
		{l, 5, []api.Hold{l[1], l[3]}}, {l, 0, []api.Hold{l[0], l[2], l[3]}}, {l, 7, l[:3]},
		{l, 9, l}, {l, -1, l}, {l, mostNum, l}, {l, -1 << 63, l}, {l, 1<<63 - 1, l},
		{l[:1], 5, nil}, {nil, 0, nil}, {nil, 5, nil}, {[]api.Hold{}, 5, nil},
		{odd, -1, []api.Hold{odd[1], odd[2], odd[4], odd[5]}}, {odd, 5, []api.Hold{odd[0], odd[3], odd[4], odd[5]}}, {odd, 6, odd[:4]}, {odd, 0, odd},
	} {
		if got := locks.Free(c.l, c.txn); !slices.Equal(got, c.want) || !slices.Equal(wantFree(c.l, c.txn), c.want) {
			t.Errorf("%d: %+v; want %+v", i, got, c.want)
		}
	}
	for _, l := range append(someHolds(), noHolds()...) {
		for _, txn := range []int64{-1 << 63, -1, 0, 1, 2, 3, 5, 9, 40, mostNum, mostNum + 1, 1<<63 - 1} {
			if got := locks.Free(l, txn); !slices.Equal(got, wantFree(l, txn)) {
				t.Errorf("%d of %+v: %+v", txn, l, got)
			}
		}
	}
}
