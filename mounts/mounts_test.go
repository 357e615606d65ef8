package mounts_test

import (
	"maps"
	"regexp"
	"slices"
	"strconv"
	"strings"
	"testing"

	"canton/api"
	"canton/mounts"
)

// The bounds and the errors as the document says them.
const (
	mostMounts = 32
	mostGroup  = 3
	mostNum    = 1 << 48
	errArg     = api.Errno(1)
	errTooMany = api.Errno(2)
	errThere   = api.Errno(61)
	errBusy    = api.Errno(131)
	errLate    = api.Errno(133)
	part12     = "0123456789ab"
	deep6      = "/a/b/c/d/e/f"
)

var pathForm = regexp.MustCompile(`\A(/|(/[a-z0-9-]{1,12}){1,6})\z`)

// isIn is whether a path is q, or lies below it.
func isIn(p string, q string) bool {
	return p == q || q == "/" || strings.HasPrefix(p, q+"/")
}

func isMoving(m api.Mount) bool { return m.To != m.Group }

// wantRight is whether a list of mounts is valid, as the document says it.
func wantRight(l []api.Mount) bool {
	if len(l) < 1 || len(l) > mostMounts {
		return false
	}
	for i, m := range l {
		if !pathForm.MatchString(m.Prefix) || m.Group < 0 || m.Group > mostGroup || m.To < 0 || m.To > mostGroup || m.Epoch < 0 || m.Epoch > mostNum {
			return false
		}
		for _, n := range l[:i] {
			if n.Prefix >= m.Prefix {
				return false
			}
		}
	}
	return l[0].Prefix == "/"
}

func wantOf(l []api.Mount, dir string) int {
	found, longest := -1, 0
	if !wantRight(l) || !pathForm.MatchString(dir) {
		return found
	}
	for i, m := range l {
		if isIn(dir, m.Prefix) && len(m.Prefix) > longest {
			found, longest = i, len(m.Prefix)
		}
	}
	return found
}

// deed is a call of one of the functions that change mounts; a Begin has no epoch.
type deed struct {
	call   string
	prefix string
	epoch  int64
	to     int
}

func begin(prefix string, to int) deed { return deed{call: "begin", prefix: prefix, to: to} }

func flip(prefix string, epoch int64, to int) deed { return deed{"flip", prefix, epoch, to} }

// answer is what came of one; a Flip has no mount.
type answer struct {
	l   []api.Mount
	m   api.Mount
	err api.Errno
}

func (a answer) is(b answer) bool { return slices.Equal(a.l, b.l) && a.m == b.m && a.err == b.err }

func (d deed) do(l []api.Mount) answer {
	var a answer
	if d.call == "begin" {
		a.l, a.m, a.err = mounts.Begin(l, d.prefix, d.to)
	} else {
		a.l, a.err = mounts.Flip(l, d.prefix, d.epoch, d.to)
	}
	return a
}

// want is a plain reading of N2 and N3, with the mounts in a map by their Prefixes, and whether it answers the argument itself.
func (d deed) want(l []api.Mount) (answer, bool) {
	if !wantRight(l) || !pathForm.MatchString(d.prefix) || d.to < 0 || d.to > mostGroup {
		return answer{err: errArg}, false
	}
	m := map[string]api.Mount{}
	for _, n := range l {
		m[n.Prefix] = n
	}
	next, a := d.wantBegin, answer{l: l}
	if d.call == "flip" {
		next = d.wantFlip
	}
	now, err := next(m, l[wantOf(l, d.prefix)])
	a.err = err
	if err != 0 {
		return a, true
	}
	if d.call == "begin" {
		a.m = now
	}
	if m[d.prefix] == now {
		return a, true
	}
	m[d.prefix] = now
	a.l = nil
	for _, prefix := range slices.Sorted(maps.Keys(m)) {
		a.l = append(a.l, m[prefix])
	}
	return a, false
}

// wantBegin is the mount of that Prefix afterwards, or an error; of is the mount of the prefix.
func (d deed) wantBegin(m map[string]api.Mount, of api.Mount) (api.Mount, api.Errno) {
	was, there := m[d.prefix]
	if there && was.Group != d.to && was.To == d.to {
		return was, 0
	}
	for _, n := range m {
		if isMoving(n) && (isIn(n.Prefix, d.prefix) || isIn(d.prefix, n.Prefix)) {
			return api.Mount{}, errBusy
		}
	}
	if of.Group == d.to {
		return api.Mount{}, errThere
	}
	if !there && len(m) == mostMounts || of.Epoch == mostNum {
		return api.Mount{}, errTooMany
	}
	return api.Mount{Prefix: d.prefix, Group: of.Group, Epoch: of.Epoch, To: d.to}, 0
}

func (d deed) wantFlip(m map[string]api.Mount, of api.Mount) (api.Mount, api.Errno) {
	was, there := m[d.prefix]
	if there && was.Group != d.to && was.To == d.to && was.Epoch == d.epoch && d.epoch < mostNum {
		return api.Mount{Prefix: d.prefix, Group: d.to, Epoch: d.epoch + 1, To: d.to}, 0
	}
	if there && was.Group == d.to && was.To == d.to && was.Epoch == d.epoch+1 {
		return was, 0
	}
	return api.Mount{}, errLate
}

// agree does a deed, holds it against the plain reading, and returns what came of it.
func agree(t *testing.T, l []api.Mount, d deed) answer {
	t.Helper()
	want, same := d.want(l)
	was := slices.Clone(l)
	got := d.do(l)
	if !got.is(want) {
		t.Fatalf("%+v of %+v: %+v; want %+v", d, l, got, want)
	}
	if same != isSame(got.l, l) {
		t.Fatalf("%+v of %+v: the argument is answered: %v", d, l, !same)
	}
	if !slices.Equal(l, was) {
		t.Fatalf("%+v of %+v: the argument became %+v", d, was, l)
	}
	return got
}

// isSame is whether two lists are one and the same.
func isSame(l []api.Mount, k []api.Mount) bool {
	return len(l) == len(k) && len(l) > 0 && &l[0] == &k[0]
}

// refused is agree for a deed that is refused with an error.
func refused(t *testing.T, l []api.Mount, d deed, err api.Errno) {
	t.Helper()
	if a := agree(t, l, d); a.err != err || a.m != (api.Mount{}) || (err == errArg) != (len(a.l) == 0) {
		t.Errorf("%+v of %+v: %+v; want the error %d", d, l, a, err)
	}
}

// after is what deeds make of l; none of them may be refused.
func after(t *testing.T, l []api.Mount, deeds ...deed) []api.Mount {
	t.Helper()
	for _, d := range deeds {
		a := agree(t, l, d)
		if a.err != 0 {
			t.Fatalf("%+v of %+v: the error %d", d, l, a.err)
		}
		l = a.l
	}
	return l
}

// rests is a mount that is not moving; moves is one that is.

func rests(prefix string, group int, epoch int64) api.Mount {
	return api.Mount{Prefix: prefix, Group: group, Epoch: epoch, To: group}
}

func moves(prefix string, group int, epoch int64, to int) api.Mount {
	return api.Mount{Prefix: prefix, Group: group, Epoch: epoch, To: to}
}

// many is n mounts: the root, and others beside each other, none of which is moving.
func many(n int) []api.Mount {
	l := []api.Mount{rests("/", 1, 3)}
	for i := range n - 1 {
		l = append(l, rests("/m"+strconv.Itoa(1000+i), i%4, int64(i%5)))
	}
	return l
}

// someMounts is lists of mounts of all sorts, each of which is valid.
func someMounts() [][]api.Mount {
	return [][]api.Mount{
		// The examples of the chapter.
		{rests("/", 0, 0)},
		{rests("/", 0, 0), moves("/a", 0, 0, 1)},
		{rests("/", 3, mostNum)},
		{rests("/", 3, mostNum-1)},
		{moves("/", 0, 1, 3)},
		{moves("/", 2, mostNum, 0)},
		{rests("/", 1, 2), rests("/a", 2, 5), moves("/a/b", 2, 5, 3), rests("/a/b/c", 0, 7), moves("/b", 1, 2, 0)},
		{rests("/", 1, 2), rests("/a", 2, 5), rests("/a/b", 3, 5), rests("/a/b/c", 0, 7), rests("/a/b/c/d", 1, mostNum), rests(deep6, 1, 1)},
		{rests("/", 2, 2), moves("/a", 2, 2, 1), rests("/a-", 3, 3), moves("/a-/b", 3, 3, 0), rests("/a/b", 1, 1), rests("/a0", 2, 8), moves("/ab", 2, 2, 3)},
		// So none ever begins, but it is valid: a mount that moves lies in another that does.
		{moves("/", 0, 4, 1), moves("/a", 1, 4, 2), moves("/a/b", 3, 0, 1), rests("/b", 2, mostNum)},
		many(31),
		many(32),
		append(many(31), moves("/x", 0, 9, 1)),
		append(many(30), moves("/x", 0, mostNum-1, 1)),
	}
}

// noMounts is lists of mounts that are not valid.
func noMounts() [][]api.Mount {
	l := [][]api.Mount{
		nil,
		{},
		many(33),
		many(1000),
		many(32)[1:],
		{rests("/a", 0, 0)},
		{rests("/a", 0, 0), rests("/", 0, 0)},
		{rests("/a", 0, 0), rests("/b", 0, 0)},
		{rests("/", 0, 0), rests("/", 0, 0)},
		{rests("/", 0, 0), rests("/a", 0, 0), rests("/a", 0, 0)},
		{rests("/", 0, 0), rests("/a", 0, 0), moves("/a", 0, 1, 1)},
		{rests("/", 0, 0), rests("/b", 0, 0), rests("/a", 0, 0)},
		{rests("/", 0, 0), rests("/a/b", 0, 0), rests("/a-", 0, 0)},
		{rests("/", 0, 0), rests("/a", 0, 0), rests("/c", 0, 0), rests("/b", 0, 0)},
	}
	for _, m := range wrongMounts("/") {
		l = append(l, []api.Mount{m}, []api.Mount{m, rests("/z", 1, 1)})
	}
	for _, m := range wrongMounts("/m") {
		l = append(l, []api.Mount{rests("/", 0, 1), m}, []api.Mount{rests("/", 0, 1), m, rests("/z", 1, 1)}, []api.Mount{rests("/", 0, 1), rests("/a", 1, 1), m})
	}
	return l
}

// wrongMounts is mounts that are not valid, most of them of a prefix.
func wrongMounts(prefix string) []api.Mount {
	l := []api.Mount{{}}
	for _, n := range wrongGroups() {
		l = append(l, moves(prefix, n, 1, 0), moves(prefix, 0, 1, n), rests(prefix, n, 1))
	}
	for _, n := range wrongEpochs() {
		l = append(l, rests(prefix, 0, n), moves(prefix, 0, n, 1))
	}
	for _, p := range noPaths() {
		l = append(l, rests(p, 1, 1), moves(p, 0, 0, 1))
	}
	return l
}

func wrongGroups() []int {
	return []int{-1 << 63, -1, 4, 5, 1 << 32, 1<<63 - 1}
}

func wrongEpochs() []int64 {
	return []int64{-1 << 63, -1, mostNum + 1, 1<<63 - 1}
}

func noPaths() []string {
	return []string{"", "a", "//", "/a/", "/A", "/a b", "/é", "?", "/?", "/" + part12 + "c", deep6 + "/g"}
}

// somePaths is paths in, beside and above the Prefixes of someMounts.
func somePaths() []string {
	return []string{"/", "/a", "/a-", "/a-/b", "/a-/b/c", "/a/b", "/a/b/c", "/a/b/c/d", "/a/b/c/d/e", deep6, "/a/bc", "/a/b-", "/a/x", "/a0", "/ab", "/ab/c", "/aa", "/b", "/b/a", "/c", "/m1000", "/m1001", "/m1002/x", "/m1015", "/m1029", "/m1030", "/m1031", "/x", "/x/" + part12, "/z", "/" + part12}
}

// someDeeds is deeds of all sorts, right ones and wrong ones.
func someDeeds() []deed {
	var l []deed
	for _, p := range append(somePaths(), noPaths()...) {
		for _, to := range []int{0, 1, 2, 3, -1, 4} {
			l = append(l, begin(p, to))
			for _, n := range append(wrongEpochs(), 0, 1, 2, 3, 4, 5, 7, mostNum-1, mostNum) {
				l = append(l, flip(p, n, to))
			}
		}
	}
	return l
}

// P14.1 (N1): Right.

func TestRightNamedEdges(t *testing.T) {
	for i, l := range append(someMounts(),
		[]api.Mount{rests("/", 0, 0), rests("/"+part12, 3, mostNum), moves("/a", 3, mostNum, 0), moves(deep6, 0, 0, 3)},
		[]api.Mount{rests("/", 0, 0), rests("/a", 0, 0), rests("/a-", 0, 0), rests("/a/b", 0, 0), rests("/a0", 0, 0), rests("/aa", 0, 0)},
		many(1), many(2),
	) {
		if !mounts.Right(l) || !wantRight(l) {
			t.Errorf("%d: %+v is refused", i, l)
		}
	}
	for i, l := range noMounts() {
		if mounts.Right(l) || wantRight(l) {
			t.Errorf("%d: %+v is taken", i, l)
		}
	}
}

// What is not valid is refused wherever it stands, and whatever stands beside it.
func TestRightAsksAll(t *testing.T) {
	for i := range mostMounts {
		for _, wrong := range wrongMounts(many(mostMounts)[i].Prefix) {
			l := many(mostMounts)
			l[i] = wrong
			if mounts.Right(l) {
				t.Errorf("%+v at %d is taken", wrong, i)
			}
		}
		for j := range i {
			l := many(mostMounts)
			l[i].Prefix, l[j].Prefix = l[j].Prefix, l[i].Prefix
			if mounts.Right(l) {
				t.Errorf("%d and %d out of order are taken", j, i)
			}
			l[j].Prefix = l[i].Prefix
			if mounts.Right(l) {
				t.Errorf("%d and %d of one Prefix are taken", j, i)
			}
		}
	}
}

func TestRightOfAllShortLists(t *testing.T) {
	var kinds []api.Mount
	for _, prefix := range []string{"/", "/a", "/b", "b"} {
		for _, epoch := range []int64{-1, 0} {
			for _, group := range []int{0, 3, 4} {
				for _, to := range []int{-1, 3} {
					kinds = append(kinds, moves(prefix, group, epoch, to))
				}
			}
		}
	}
	right, all := 0, 0
	for _, one := range kinds {
		for _, two := range kinds {
			for _, three := range kinds {
				l := []api.Mount{one, two, three}
				for n := range 4 {
					if mounts.Right(l[:n]) != wantRight(l[:n]) {
						t.Fatalf("%+v: %v", l[:n], mounts.Right(l[:n]))
					}
				}
				all++
				if wantRight(l) {
					right++
				}
			}
		}
	}
	if right == 0 || right == all {
		t.Errorf("%d of %d are valid", right, all)
	}
}

// P14.1 (N1): Of.

func TestOf(t *testing.T) {
	alone := []api.Mount{rests("/", 0, 0)}
	nested := []api.Mount{rests("/", 2, 2), moves("/a", 2, 2, 1), rests("/a-", 3, 3), rests("/a/b", 1, 1), rests("/a0", 2, 8)}
	full := many(32)
	for i, c := range []struct {
		l   []api.Mount
		dir string
		at  int
	}{
		{alone, "/", 0}, {alone, "/a", 0}, {alone, deep6, 0},
		{nested, "/", 0}, {nested, "/a", 1}, {nested, "/a/b", 3}, {nested, "/a/b/c", 3}, {nested, "/a/bc", 1}, {nested, "/a/c", 1}, {nested, "/a/b-", 1},
		{nested, "/a-", 2}, {nested, "/a-/b", 2}, {nested, "/a0/b", 4}, {nested, "/a00", 0}, {nested, "/z", 0}, {nested, "/" + part12, 0},
		{full, "/m1030/a", 31}, {full, "/m1031", 0}, {full, "/m1000", 1}, {full, "/", 0},
		{nil, "/", -1}, {nil, "", -1}, {[]api.Mount{}, "/", -1}, {many(33), "/", -1}, {many(32)[1:], "/m1001", -1},
		{nested, "?", -1}, {nested, "", -1}, {nested, "/a/", -1}, {nested, "//", -1}, {nested, "a", -1}, {nested, "/a/B", -1}, {nested, deep6 + "/g", -1}, {nested, "/a/" + part12 + "c", -1},
	} {
		if got := mounts.Of(c.l, c.dir); got != c.at || wantOf(c.l, c.dir) != c.at {
			t.Errorf("%d: %q is of the mount %d; want %d", i, c.dir, got, c.at)
		}
	}
}

func TestOfAll(t *testing.T) {
	for _, l := range append(someMounts(), noMounts()...) {
		for _, dir := range append(somePaths(), noPaths()...) {
			if got := mounts.Of(l, dir); got != wantOf(l, dir) {
				t.Errorf("%q is of the mount %d of %+v", dir, got, l)
			}
		}
	}
	for _, l := range noMounts() {
		for _, dir := range []string{"/", "/m", "/a", "/z", ""} {
			if at := mounts.Of(l, dir); at != -1 {
				t.Errorf("%q in %+v: the mount %d", dir, l, at)
			}
		}
	}
}

// P14.1 (N2): Begin.

func TestBegin(t *testing.T) {
	// The example of the chapter.
	a := agree(t, []api.Mount{rests("/", 0, 0)}, begin("/a", 1))
	if want := []api.Mount{rests("/", 0, 0), moves("/a", 0, 0, 1)}; a.err != 0 || !slices.Equal(a.l, want) || a.m != want[1] {
		t.Errorf("%+v; want %+v", a, want)
	}
	// A mount that is added has its place, and the Group and the Epoch of the one around it.
	l := after(t, []api.Mount{rests("/", 1, 5), rests("/b", 2, 8)}, begin("/b/c", 3), begin("/c", 0), begin("/a", 2))
	if want := []api.Mount{rests("/", 1, 5), moves("/a", 1, 5, 2), rests("/b", 2, 8), moves("/b/c", 2, 8, 3), moves("/c", 1, 5, 0)}; !slices.Equal(l, want) {
		t.Errorf("%+v; want %+v", l, want)
	}
	// One of the same Prefix is replaced.
	for _, p := range []string{"/", "/a", "/b"} {
		l := []api.Mount{rests("/", 0, 4), rests("/a", 1, 5), rests("/b", 2, 6)}
		i := mounts.Of(l, p)
		a := agree(t, l, begin(p, 3))
		want := slices.Clone(l)
		want[i].To = 3
		if a.err != 0 || !slices.Equal(a.l, want) || a.m != want[i] {
			t.Errorf("%q: %+v; want %+v", p, a, want)
		}
	}
}

// A move that has begun is answered as it is, whatever else is moving, and whatever its Epoch is.
func TestBeginOnceMore(t *testing.T) {
	for _, l := range [][]api.Mount{
		{rests("/", 0, 0), moves("/a", 0, 0, 1)},
		{moves("/", 0, 0, 3), moves("/a", 0, 7, 1), moves("/a/b", 2, 7, 1)},
		{rests("/", 1, 1), moves("/a", 2, mostNum, 1)},
		append(many(31), moves("/x", 0, 9, 1)),
	} {
		for _, m := range l {
			if !isMoving(m) {
				continue
			}
			if a := agree(t, l, begin(m.Prefix, m.To)); a.err != 0 || !isSame(a.l, l) || a.m != m {
				t.Errorf("%+v of %+v: %+v", m, l, a)
			}
		}
	}
}

func TestBeginBusy(t *testing.T) {
	l := []api.Mount{rests("/", 0, 0), rests("/a", 1, 0), moves("/a/b", 1, 0, 2), rests("/a/b/c", 3, 0), moves("/d", 0, mostNum, 1)}
	for _, p := range []string{"/", "/a", "/a/b", "/a/b/c", "/a/b/c/d", "/a/b/x", "/d", "/d/a"} {
		for to := range 4 {
			if p == "/a/b" && to == 2 || p == "/d" && to == 1 {
				continue
			}
			refused(t, l, begin(p, to), errBusy)
		}
	}
	for _, p := range []string{"/a/c", "/a/bc", "/a/b-", "/ab", "/c", "/dd"} {
		if a := agree(t, l, begin(p, 2)); a.err != 0 || a.m.Prefix != p {
			t.Errorf("%q: %+v", p, a)
		}
	}
	all := []api.Mount{moves("/", 0, 0, 1), rests("/a", 2, 0)}
	for _, p := range []string{"/", "/a", "/a/b", "/b"} {
		refused(t, all, begin(p, 3), errBusy)
		refused(t, all, begin(p, 2), errBusy)
	}
}

func TestBeginThere(t *testing.T) {
	l := []api.Mount{rests("/", 0, 0), rests("/a", 1, 0), rests("/a/b", 2, mostNum), moves("/b", 0, 0, 1)}
	for _, d := range []deed{begin("/a", 1), begin("/a/c", 1), begin("/a/b", 2), begin("/a/b/c", 2), begin("/ab", 0), begin("/c", 0)} {
		refused(t, l, d, errThere)
	}
	refused(t, many(32), begin("/z", 1), errThere)
	refused(t, []api.Mount{rests("/", 3, mostNum)}, begin("/", 3), errThere)
}

func TestBeginTooMany(t *testing.T) {
	// The bound is asked for a mount that is added alone, and that is the last one for which there is room.
	l := after(t, many(31), begin("/z", 2))
	if len(l) != mostMounts || l[31] != moves("/z", 1, 3, 2) {
		t.Errorf("%+v", l)
	}
	for _, p := range []string{"/y", "/0", "/m1000/a", "/m1031"} {
		refused(t, l, begin(p, 3), errTooMany)
	}
	refused(t, l, begin("/z/a", 3), errBusy)
	full := many(32)
	for i, m := range full {
		if a := agree(t, full, begin(m.Prefix, (m.Group+1)%4)); a.err != 0 || len(a.l) != mostMounts || a.l[i] != a.m {
			t.Errorf("%q: %+v", m.Prefix, a)
		}
	}
	// So is the Epoch, which has to rise once more.
	top := []api.Mount{rests("/", 0, mostNum), rests("/a", 1, mostNum-1), rests("/a/b", 2, mostNum)}
	for _, p := range []string{"/", "/b", "/a/b", "/a/b/c"} {
		refused(t, top, begin(p, 3), errTooMany)
	}
	l = after(t, top, begin("/a/c", 3), flip("/a/c", mostNum-1, 3))
	refused(t, l, begin("/a/c", 0), errTooMany)
	after(t, l, begin("/a/d", 0))
}

func TestBeginWrong(t *testing.T) {
	l := []api.Mount{rests("/", 0, 0), moves("/a", 0, 0, 1)}
	for _, to := range wrongGroups() {
		for _, p := range []string{"/", "/a", "/b"} {
			refused(t, l, begin(p, to), errArg)
			refused(t, l, flip(p, 0, to), errArg)
		}
	}
	for _, p := range noPaths() {
		for to := range 4 {
			refused(t, l, begin(p, to), errArg)
			refused(t, l, flip(p, 0, to), errArg)
		}
	}
	for _, l := range noMounts() {
		for _, p := range []string{"/", "/a", "/m", "/z", ""} {
			refused(t, l, begin(p, 2), errArg)
			refused(t, l, flip(p, 1, 0), errArg)
			refused(t, l, flip(p, 0, 0), errArg)
		}
	}
}

// P14.1 (N3): Flip.

func TestFlip(t *testing.T) {
	l := []api.Mount{rests("/", 0, 4), moves("/a", 1, 5, 2), moves("/a/b", 1, 0, 0), moves("/b", 3, mostNum-1, 1)}
	now := after(t, l, flip("/a", 5, 2), flip("/a/b", 0, 0), flip("/b", mostNum-1, 1))
	if want := []api.Mount{rests("/", 0, 4), rests("/a", 2, 6), rests("/a/b", 0, 1), rests("/b", 1, mostNum)}; !slices.Equal(now, want) {
		t.Errorf("%+v; want %+v", now, want)
	}
	// Once more, nothing changes.
	for _, d := range []deed{flip("/a", 5, 2), flip("/a/b", 0, 0), flip("/b", mostNum-1, 1), flip("/", 3, 0)} {
		if a := agree(t, now, d); a.err != 0 || !isSame(a.l, now) {
			t.Errorf("%+v: %+v", d, a)
		}
	}
	for _, d := range []deed{
		flip("/a", 6, 2), flip("/a", 4, 2), flip("/a", 5, 1), flip("/a", 5, 3), flip("/a", 6, 1), flip("/a/b", 1, 0), flip("/a/b", -1, 0), flip("/b", mostNum, 1),
		flip("/", 4, 0), flip("/", 2, 0), flip("/", 3, 1), flip("/a/b/c", 0, 0), flip("/c", 3, 0), flip("/ab", 5, 2),
	} {
		refused(t, now, d, errLate)
	}
}

func TestFlipLate(t *testing.T) {
	l := []api.Mount{rests("/", 0, 4), moves("/a", 1, 5, 2), rests("/b", 2, 0), moves("/c", 0, mostNum, 1), moves("/d", 0, 0, 1)}
	for _, d := range []deed{
		flip("/a", 4, 2), flip("/a", 6, 2), flip("/a", 5, 1), flip("/a", 4, 1), flip("/a", 5, 0), flip("/a", 5, 3), flip("/a/b", 5, 2), flip("/ab", 5, 2), flip("/e", 4, 0), flip("/e", 3, 0),
		// A move of an Epoch behind which there is no other does not end.
		flip("/c", mostNum, 1), flip("/c", mostNum-1, 1), flip("/c", mostNum+1, 1),
		flip("/d", -1, 1), flip("/d", -1, 0), flip("/d", 1<<63-1, 1), flip("/d", -1<<63, 1),
	} {
		refused(t, l, d, errLate)
	}
	// What never began, but is as if it had, is answered so: an epoch may be any number.
	for _, d := range []deed{flip("/", 3, 0), flip("/b", -1, 2)} {
		if a := agree(t, l, d); a.err != 0 || !isSame(a.l, l) {
			t.Errorf("%+v: %+v", d, a)
		}
	}
	refused(t, l, flip("/b", 0, 2), errLate)
	refused(t, l, flip("/b", -1, 1), errLate)
	refused(t, l, flip("/b", 1<<63-1, 2), errLate)
	refused(t, l, flip("/b", -1<<63, 2), errLate)
}

// P14.1 (N2, N3): all of them.

func TestAllDeeds(t *testing.T) {
	came := map[string]map[api.Errno]int{"begin": {}, "flip": {}}
	for _, l := range someMounts() {
		for _, d := range someDeeds() {
			a := agree(t, l, d)
			came[d.call][a.err]++
			if a.err != errArg && !mounts.Right(a.l) {
				t.Errorf("%+v of %+v: %+v is not valid", d, l, a.l)
			}
		}
	}
	for call, errs := range map[string][]api.Errno{"begin": {0, errArg, errBusy, errThere, errTooMany}, "flip": {0, errArg, errLate}} {
		for _, err := range errs {
			if came[call][err] < 20 {
				t.Errorf("%s: the error %d came %d times", call, err, came[call][err])
			}
		}
		if len(came[call]) != len(errs) {
			t.Errorf("%s: %v", call, came[call])
		}
	}
}

// All mounts at three Prefixes, each of which lies in the one ahead of it, or beside it.
func TestAllOfThree(t *testing.T) {
	var deeds []deed
	for _, p := range []string{"/", "/a", "/a/b", "/b", "/a/b/c", "/c"} {
		for to := range 3 {
			deeds = append(deeds, begin(p, to), flip(p, 0, to), flip(p, 1, to), flip(p, -1, to))
		}
	}
	var states []api.Mount
	for group := range 2 {
		for to := range 3 {
			states = append(states, moves("", group, 0, to), moves("", group, 1, to))
		}
	}
	for _, prefixes := range [][]string{{"/", "/a", "/a/b"}, {"/", "/a", "/b"}} {
		for _, one := range states {
			for _, two := range states {
				for _, three := range states {
					l := []api.Mount{one, two, three}
					for i := range l {
						l[i].Prefix = prefixes[i]
					}
					for _, d := range deeds {
						agree(t, l, d)
					}
				}
			}
		}
	}
}
