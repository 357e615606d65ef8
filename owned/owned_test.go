package owned_test

import (
	"maps"
	"regexp"
	"slices"
	"strconv"
	"strings"
	"testing"

	"canton/api"
	"canton/owned"
	"canton/part"
)

// The bounds and the States as the document says them.
const (
	mostRanges = 32
	mostNum    = 1 << 48
	mine       = 1
	frozen     = 2
	gone       = 3
	part12     = "0123456789ab"
	deep6      = "/a/b/c/d/e/f"
)

var pathForm = regexp.MustCompile(`\A(/|(/[a-z0-9-]{1,12}){1,6})\z`)

// isIn is whether a path is q, or lies below it.
func isIn(p string, q string) bool {
	return p == q || q == "/" || strings.HasPrefix(p, q+"/")
}

// above is the parent of a path; above the root is the root.
func above(p string) string {
	return p[:max(strings.LastIndex(p, "/"), 1)]
}

// wantRight is whether a list of ranges is valid, as the document says it.
func wantRight(l []api.Range) bool {
	if len(l) > mostRanges {
		return false
	}
	for i, r := range l {
		if !pathForm.MatchString(r.Prefix) || r.Epoch < 0 || r.Epoch > mostNum || !slices.Contains([]int{mine, frozen, gone}, r.State) {
			return false
		}
		for _, q := range l[:i] {
			if q.Prefix >= r.Prefix {
				return false
			}
		}
	}
	return true
}

func wantOf(l []api.Range, dir string) int {
	found, longest := -1, 0
	if !wantRight(l) || !pathForm.MatchString(dir) {
		return found
	}
	for i, r := range l {
		if isIn(dir, r.Prefix) && len(r.Prefix) > longest {
			found, longest = i, len(r.Prefix)
		}
	}
	return found
}

func wantState(l []api.Range, dir string) int {
	if at := wantOf(l, dir); at >= 0 {
		return l[at].State
	}
	return gone
}

// deed is a call of one of the functions that change ranges; a freeze has no epoch.
type deed struct {
	call   string
	prefix string
	epoch  int64
}

func freeze(prefix string) deed { return deed{call: "freeze", prefix: prefix} }

func install(prefix string, epoch int64) deed { return deed{"install", prefix, epoch} }

func drop(prefix string, epoch int64) deed { return deed{"drop", prefix, epoch} }

func (d deed) do(l []api.Range) ([]api.Range, bool) {
	switch d.call {
	case "freeze":
		return owned.Freeze(l, d.prefix)
	case "install":
		return owned.Install(l, d.prefix, d.epoch)
	}
	return owned.Drop(l, d.prefix, d.epoch)
}

// want is a plain reading of K2 and K3, with the ranges in a map by their Prefixes.
func (d deed) want(l []api.Range) ([]api.Range, bool) {
	if !wantRight(l) || !pathForm.MatchString(d.prefix) {
		return nil, false
	}
	m := map[string]api.Range{}
	for _, r := range l {
		m[r.Prefix] = r
	}
	was, there := m[d.prefix]
	next := api.Range{Prefix: d.prefix, Epoch: d.epoch}
	switch d.call {
	case "freeze":
		at := wantOf(l, d.prefix)
		if at < 0 || l[at].State != mine {
			return nil, false
		}
		next.Epoch, next.State = l[at].Epoch, frozen
	case "install":
		if d.epoch < 0 || d.epoch > mostNum || there && was.Epoch >= d.epoch {
			return nil, false
		}
		next.State = mine
	case "drop":
		if !there || was.State != frozen || was.Epoch != d.epoch {
			return nil, false
		}
		next.State = gone
	}
	m[d.prefix] = next
	if len(m) > mostRanges {
		return nil, false
	}
	var now []api.Range
	for _, prefix := range slices.Sorted(maps.Keys(m)) {
		now = append(now, m[prefix])
	}
	return now, true
}

// wantCut is a plain reading of K4.
func wantCut(s api.Store, l []api.Range, prefix string) (api.Store, api.Store) {
	var cut, rest api.Store
	if !part.Right(s) || !wantRight(l) {
		return cut, rest
	}
	for _, n := range s.Nodes {
		to := side(&cut, &rest, l, above(n.Path), prefix)
		to.Nodes = append(to.Nodes, n)
	}
	for _, turn := range s.Turns {
		to := side(&cut, &rest, l, turn.Dir, prefix)
		to.Turns = append(to.Turns, turn)
	}
	return cut, rest
}

// side is the one of two stores to which what is kept at a directory comes.
func side(cut *api.Store, rest *api.Store, l []api.Range, dir string, prefix string) *api.Store {
	if at := wantOf(l, dir); at >= 0 && l[at].Prefix == prefix {
		return cut
	}
	return rest
}

func same(s api.Store, q api.Store) bool {
	return slices.Equal(s.Nodes, q.Nodes) && slices.Equal(s.Turns, q.Turns)
}

func isZero(s api.Store) bool {
	return len(s.Nodes) == 0 && len(s.Turns) == 0
}

// agree does a deed, holds it against the plain reading, and returns what came of it.
func agree(t *testing.T, l []api.Range, d deed) ([]api.Range, bool) {
	t.Helper()
	want, wantOK := d.want(l)
	was := slices.Clone(l)
	got, ok := d.do(l)
	if ok != wantOK || !slices.Equal(got, want) {
		t.Fatalf("%+v of %+v: %+v, %v; want %+v, %v", d, l, got, ok, want, wantOK)
	}
	if !slices.Equal(l, was) {
		t.Fatalf("%+v of %+v: the argument became %+v", d, was, l)
	}
	return got, ok
}

// agreeCut cuts a store, holds that against the plain reading, and returns what came of it.
func agreeCut(t *testing.T, s api.Store, l []api.Range, prefix string) (api.Store, api.Store) {
	t.Helper()
	want, wantRest := wantCut(s, l, prefix)
	cut, rest := owned.Cut(s, l, prefix)
	if !same(cut, want) || !same(rest, wantRest) {
		t.Fatalf("%q of %+v, with %+v: %+v and %+v; want %+v and %+v", prefix, s, l, cut, rest, want, wantRest)
	}
	return cut, rest
}

// after is what deeds make of l; none of them may be refused.
func after(t *testing.T, l []api.Range, deeds ...deed) []api.Range {
	t.Helper()
	for _, d := range deeds {
		now, ok := agree(t, l, d)
		if !ok {
			t.Fatalf("%+v of %+v is refused", d, l)
		}
		l = now
	}
	return l
}

func ofMine(prefix string, epoch int64) api.Range {
	return api.Range{Prefix: prefix, Epoch: epoch, State: mine}
}

func ofFrozen(prefix string, epoch int64) api.Range {
	return api.Range{Prefix: prefix, Epoch: epoch, State: frozen}
}

func ofGone(prefix string, epoch int64) api.Range {
	return api.Range{Prefix: prefix, Epoch: epoch, State: gone}
}

// many is n ranges beside each other, of all States.
func many(n int) []api.Range {
	var l []api.Range
	for i := range n {
		l = append(l, api.Range{Prefix: "/m" + strconv.Itoa(1000+i), Epoch: int64(i % 4), State: 1 + i%3})
	}
	return l
}

// underRoot is l with the root ahead of it, which is Mine.
func underRoot(l []api.Range) []api.Range {
	return append([]api.Range{ofMine("/", 3)}, l...)
}

// someRanges is lists of ranges of all sorts, each of which is valid.
func someRanges() [][]api.Range {
	return [][]api.Range{
		nil,
		{},
		{ofMine("/", 1)},
		{ofFrozen("/", 0)},
		{ofGone("/", mostNum)},
		{ofMine("/a", 0)},
		// The example of the chapter.
		{ofMine("/", 1), ofFrozen("/a", 1)},
		{ofMine("/", 5), ofGone("/a", 4), ofMine("/a/b", 7), ofFrozen("/a/b/c", 7), ofMine("/a/b/c/d", 9), ofGone("/a/b/c/d/e", 9), ofMine(deep6, 11)},
		{ofMine("/", 2), ofFrozen("/a", 2), ofMine("/a-", 3), ofFrozen("/a-/b", 3), ofGone("/a/b", 1), ofMine("/a0", 8), ofFrozen("/ab", 2)},
		{ofMine("/a", mostNum), ofFrozen("/b", mostNum), ofMine("/b/"+part12, mostNum-1), ofGone("/c", 0), ofMine("/c/a", 0)},
		{ofFrozen("/", 3), ofMine("/a", 2), ofMine("/b", 4)},
		{ofGone("/", 3), ofMine("/a/b", 2), ofMine("/b", 3)},
		many(31),
		many(32),
		underRoot(many(30)),
		underRoot(many(31)),
	}
}

// noRanges is lists of ranges that are not valid.
func noRanges() [][]api.Range {
	l := [][]api.Range{
		many(33),
		underRoot(many(32)),
		many(1000),
		{ofMine("/b", 1), ofMine("/a", 1)},
		{ofMine("/a", 1), ofMine("/a", 1)},
		{ofMine("/a", 1), ofFrozen("/a", 2)},
		{ofMine("/a", 1), ofMine("/", 1)},
		{ofMine("/a/b", 1), ofMine("/a-", 1)},
		{ofMine("/", 1), ofMine("/a", 1), ofMine("/c", 1), ofMine("/b", 1)},
		{ofMine("/", 1), ofMine("/", 1), ofMine("/a", 1)},
	}
	for _, r := range wrongRanges() {
		l = append(l, []api.Range{r}, []api.Range{ofMine("/", 1), r}, []api.Range{r, ofMine("/z", 1)})
	}
	return l
}

// wrongRanges is ranges that are not valid.
func wrongRanges() []api.Range {
	l := []api.Range{{}, {Prefix: "/m"}, {Prefix: "/m", State: 4}, {Prefix: "/m", State: -1}, {Prefix: "/m", State: -1 << 63}, {Prefix: "/m", State: 1<<63 - 1}, {Prefix: "/m", State: mine + 1<<32}}
	for _, n := range wrongEpochs() {
		l = append(l, ofMine("/m", n), ofFrozen("/m", n), ofGone("/m", n))
	}
	for _, p := range noPaths() {
		l = append(l, ofMine(p, 1), ofGone(p, 0))
	}
	return l
}

func wrongEpochs() []int64 {
	return []int64{-1 << 63, -1, mostNum + 1, 1<<63 - 1}
}

func noPaths() []string {
	return []string{"", "a", "//", "/a/", "/A", "/a b", "/é", "?", "/?", "/" + part12 + "c", deep6 + "/g"}
}

// somePaths is paths in, beside and above the Prefixes of someRanges.
func somePaths() []string {
	return []string{"/", "/a", "/a-", "/a-/b", "/a-/b/c", "/a/b", "/a/b/c", "/a/b/c/d", "/a/b/c/d/e", deep6, "/a/bc", "/a/b-", "/a/x", "/a0", "/ab", "/ab/c", "/aa", "/b", "/b/" + part12, "/b/a", "/c", "/c/a/z", "/d", "/m", "/m1000", "/m1001", "/m1002/x", "/m1015", "/m1029", "/m1030", "/m1031", "/m1032", "/" + part12}
}

// someDeeds is deeds of all sorts, right ones and wrong ones.
func someDeeds() []deed {
	var l []deed
	for _, p := range append(somePaths(), noPaths()...) {
		l = append(l, freeze(p))
		for _, n := range append(wrongEpochs(), 0, 1, 2, 3, 4, 5, 7, 9, mostNum-1, mostNum) {
			l = append(l, install(p, n), drop(p, n))
		}
	}
	return l
}

// P11.1 (K1): Right.

func TestRightNamedEdges(t *testing.T) {
	for i, l := range append(someRanges(),
		[]api.Range{ofMine("/"+part12, 0), ofFrozen("/a", mostNum), ofGone(deep6, mostNum)},
		[]api.Range{ofMine("/a", 1), ofMine("/a-", 1), ofMine("/a/b", 1), ofMine("/a0", 1), ofMine("/aa", 1)},
		many(1),
	) {
		if !owned.Right(l) || !wantRight(l) {
			t.Errorf("%d: %+v is refused", i, l)
		}
	}
	for i, l := range noRanges() {
		if owned.Right(l) || wantRight(l) {
			t.Errorf("%d: %+v is taken", i, l)
		}
	}
}

// What is not valid is refused wherever it stands, and whatever stands beside it.
func TestRightAsksAll(t *testing.T) {
	for i := range mostRanges {
		for _, wrong := range wrongRanges() {
			l := many(mostRanges)
			l[i] = wrong
			if owned.Right(l) {
				t.Errorf("%+v at %d is taken", wrong, i)
			}
		}
		for j := range i {
			l := many(mostRanges)
			l[i].Prefix, l[j].Prefix = l[j].Prefix, l[i].Prefix
			if owned.Right(l) {
				t.Errorf("%d and %d out of order are taken", j, i)
			}
			l[j].Prefix = l[i].Prefix
			if owned.Right(l) {
				t.Errorf("%d and %d of one Prefix are taken", j, i)
			}
		}
	}
}

func TestRightOfAllShortLists(t *testing.T) {
	var kinds []api.Range
	for _, prefix := range []string{"/", "/a", "/b", "b"} {
		for _, epoch := range []int64{-1, 0, 1} {
			for _, state := range []int{0, mine, gone} {
				kinds = append(kinds, api.Range{Prefix: prefix, Epoch: epoch, State: state})
			}
		}
	}
	right, all := 0, 0
	for _, one := range kinds {
		for _, two := range kinds {
			for _, three := range kinds {
				l := []api.Range{one, two, three}
				for n := range 4 {
					if owned.Right(l[:n]) != wantRight(l[:n]) {
						t.Fatalf("%+v: %v", l[:n], owned.Right(l[:n]))
					}
				}
				all++
				if wantRight(l) {
					right++
				}
			}
		}
	}
	if right == 0 || right == all {
		t.Errorf("%d of %d are valid", right, all)
	}
}

// P11.1 (K1): Of and State.

func TestOf(t *testing.T) {
	example := []api.Range{ofMine("/", 1), ofFrozen("/a", 1)}
	nested := []api.Range{ofMine("/", 2), ofFrozen("/a", 2), ofMine("/a-", 3), ofGone("/a/b", 1), ofMine("/a0", 8)}
	rootless := []api.Range{ofMine("/a", 1), ofFrozen("/a/b/c", 1), ofMine("/b", 1)}
	full := underRoot(many(31))
	for i, c := range []struct {
		l     []api.Range
		dir   string
		at    int
		state int
	}{
		{example, "/a/b", 1, frozen}, {example, "/a", 1, frozen}, {example, deep6, 1, frozen},
		{example, "/", 0, mine}, {example, "/b", 0, mine}, {example, "/ab", 0, mine}, {example, "/a-", 0, mine}, {example, "/b/a", 0, mine},
		{nested, "/a/b", 3, gone}, {nested, "/a/b/c", 3, gone}, {nested, "/a/bc", 1, frozen}, {nested, "/a/c", 1, frozen},
		{nested, "/a-", 2, mine}, {nested, "/a-/b", 2, mine}, {nested, "/a0/b", 4, mine}, {nested, "/a00", 0, mine}, {nested, "/z", 0, mine},
		{rootless, "/", -1, gone}, {rootless, "/c", -1, gone}, {rootless, "/ab", -1, gone}, {rootless, "/a/b", 0, mine}, {rootless, deep6, 1, frozen}, {rootless, "/b/b", 2, mine},
		{full, "/m1030/a", 31, 1}, {full, "/m1031", 0, mine}, {full, "/m1000", 1, 1}, {full, "/m1001", 2, 2},
		{nil, "/", -1, gone}, {nil, "/a", -1, gone}, {nil, "", -1, gone}, {[]api.Range{}, "/", -1, gone},
		{example, "?", -1, gone}, {example, "", -1, gone}, {example, "/a/", -1, gone}, {example, "//", -1, gone}, {example, "a", -1, gone}, {example, "/a/B", -1, gone}, {example, deep6 + "/g", -1, gone}, {example, "/a/" + part12 + "c", -1, gone},
	} {
		if got := owned.Of(c.l, c.dir); got != c.at || wantOf(c.l, c.dir) != c.at {
			t.Errorf("%d: %q is of the range %d; want %d", i, c.dir, got, c.at)
		}
		if got := owned.State(c.l, c.dir); got != c.state || wantState(c.l, c.dir) != c.state {
			t.Errorf("%d: the state of %q is %d; want %d", i, c.dir, got, c.state)
		}
	}
}

func TestOfAll(t *testing.T) {
	for _, l := range append(someRanges(), noRanges()...) {
		for _, dir := range append(somePaths(), noPaths()...) {
			if got := owned.Of(l, dir); got != wantOf(l, dir) {
				t.Errorf("%q is of the range %d of %+v", dir, got, l)
			}
			if got := owned.State(l, dir); got != wantState(l, dir) {
				t.Errorf("the state of %q is %d in %+v", dir, got, l)
			}
		}
	}
}

func TestOfWhatIsNotValid(t *testing.T) {
	for _, l := range noRanges() {
		for _, dir := range []string{"/", "/m", "/a", "/z", "/a/b", ""} {
			if at, state := owned.Of(l, dir), owned.State(l, dir); at != -1 || state != gone {
				t.Errorf("%q in %+v: the range %d, the state %d", dir, l, at, state)
			}
		}
	}
}

// P11.1 (K2): Freeze.

func TestFreeze(t *testing.T) {
	l := after(t, nil, install("/", 4), freeze("/b"), freeze("/a/b"))
	if want := []api.Range{ofMine("/", 4), ofFrozen("/a/b", 4), ofFrozen("/b", 4)}; !slices.Equal(l, want) {
		t.Errorf("%+v; want %+v", l, want)
	}
	// A shorter prefix takes nothing from a longer one, and one that is there is replaced.
	l = after(t, l, install("/a", 9), freeze("/a/c"), freeze("/a"), freeze("/"))
	want := []api.Range{ofFrozen("/", 4), ofFrozen("/a", 9), ofFrozen("/a/b", 4), ofFrozen("/a/c", 9), ofFrozen("/b", 4)}
	if !slices.Equal(l, want) {
		t.Errorf("%+v; want %+v", l, want)
	}
	for _, p := range append(somePaths(), noPaths()...) {
		if now, ok := agree(t, l, freeze(p)); ok || now != nil {
			t.Errorf("%q: %+v", p, now)
		}
	}
}

func TestFreezeRefused(t *testing.T) {
	for i, c := range []struct {
		l      []api.Range
		prefix string
	}{
		{nil, "/"}, {nil, "/a"}, {[]api.Range{}, "/"},
		{[]api.Range{ofMine("/a", 1)}, "/"}, {[]api.Range{ofMine("/a", 1)}, "/ab"}, {[]api.Range{ofMine("/a/b", 1)}, "/a"},
		{[]api.Range{ofFrozen("/", 1)}, "/"}, {[]api.Range{ofFrozen("/", 1)}, "/a"}, {[]api.Range{ofGone("/", 1)}, "/"}, {[]api.Range{ofGone("/", 1)}, "/a"},
		{[]api.Range{ofMine("/", 1), ofFrozen("/a", 1)}, "/a"}, {[]api.Range{ofMine("/", 1), ofFrozen("/a", 1)}, "/a/b"}, {[]api.Range{ofMine("/", 1), ofGone("/a", 1)}, "/a/b"},
		{underRoot(many(31)), "/z"}, {underRoot(many(31)), "/m1000/a"}, {underRoot(many(31)), "/0"},
	} {
		if now, ok := agree(t, c.l, freeze(c.prefix)); ok || now != nil {
			t.Errorf("%d: %+v", i, now)
		}
	}
	for _, p := range noPaths() {
		if now, ok := agree(t, []api.Range{ofMine("/", 1), ofMine("/a", 1)}, freeze(p)); ok || now != nil {
			t.Errorf("%q: %+v", p, now)
		}
	}
}

// The bound is asked for a range that is added alone, and that is the last one for which there is room.
func TestFreezeAtTheBound(t *testing.T) {
	l := after(t, underRoot(many(30)), freeze("/z"))
	if len(l) != mostRanges || l[31] != ofFrozen("/z", 3) {
		t.Errorf("%+v", l)
	}
	l = after(t, l, freeze("/m1003"), freeze("/"))
	if len(l) != mostRanges || l[0] != ofFrozen("/", 3) || l[4] != ofFrozen("/m1003", 3) {
		t.Errorf("%+v", l)
	}
}

// P11.1 (K3): Install.

func TestInstall(t *testing.T) {
	l := after(t, nil, install("/b", 0), install("/", 7), install("/a/b", mostNum), install("/a", 1))
	if want := []api.Range{ofMine("/", 7), ofMine("/a", 1), ofMine("/a/b", mostNum), ofMine("/b", 0)}; !slices.Equal(l, want) {
		t.Errorf("%+v; want %+v", l, want)
	}
	// Whatever the State was, only the Epoch counts.
	for _, state := range []int{mine, frozen, gone} {
		l := []api.Range{ofMine("/", 9), {Prefix: "/a", Epoch: 5, State: state}, ofFrozen("/b", 9)}
		for _, epoch := range []int64{6, 7, mostNum} {
			if now := after(t, l, install("/a", epoch)); !slices.Equal(now, []api.Range{l[0], ofMine("/a", epoch), l[2]}) {
				t.Errorf("%d in the state %d: %+v", epoch, state, now)
			}
		}
		for _, epoch := range []int64{0, 4, 5} {
			if now, ok := agree(t, l, install("/a", epoch)); ok || now != nil {
				t.Errorf("%d in the state %d: %+v", epoch, state, now)
			}
		}
		// The Epoch of a longer or a shorter Prefix does not.
		after(t, l, install("/a/b", 0), install("/0", 1))
	}
}

func TestInstallRefused(t *testing.T) {
	l := []api.Range{ofMine("/", 1), ofFrozen("/a", mostNum), ofGone("/b", 0)}
	wrong := []deed{install("/", 0), install("/", 1), install("/a", mostNum), install("/a", mostNum-1), install("/b", 0)}
	for _, n := range wrongEpochs() {
		wrong = append(wrong, install("/", n), install("/a", n), install("/b", n), install("/c", n))
	}
	for _, p := range noPaths() {
		wrong = append(wrong, install(p, 2), install(p, 0))
	}
	for _, d := range wrong {
		if now, ok := agree(t, l, d); ok || now != nil {
			t.Errorf("%+v: %+v", d, now)
		}
	}
}

// The bound is asked for a range that is added alone, and that is the last one for which there is room.
func TestInstallAtTheBound(t *testing.T) {
	l := after(t, many(31), install("/", 1))
	if len(l) != mostRanges || l[0] != ofMine("/", 1) {
		t.Errorf("%+v", l)
	}
	for _, p := range []string{"/z", "/m1000/a", "/m1031", "/0"} {
		if now, ok := agree(t, l, install(p, 9)); ok || now != nil {
			t.Errorf("%q: %+v", p, now)
		}
	}
	for _, r := range l {
		if now := after(t, l, install(r.Prefix, 9)); len(now) != mostRanges || !slices.Contains(now, ofMine(r.Prefix, 9)) {
			t.Errorf("%q: %+v", r.Prefix, now)
		}
	}
}

// P11.1 (K3): Drop.

func TestDrop(t *testing.T) {
	l := []api.Range{ofMine("/", 1), ofFrozen("/a", 1), ofFrozen("/a/b", 0), ofGone("/b", 1), ofFrozen("/c", mostNum)}
	now := after(t, l, drop("/a/b", 0), drop("/c", mostNum), drop("/a", 1))
	if want := []api.Range{ofMine("/", 1), ofGone("/a", 1), ofGone("/a/b", 0), ofGone("/b", 1), ofGone("/c", mostNum)}; !slices.Equal(now, want) {
		t.Errorf("%+v; want %+v", now, want)
	}
	wrong := []deed{drop("/", 1), drop("/b", 1), drop("/a", 0), drop("/a", 2), drop("/a/b", 1), drop("/a/c", 1), drop("/a/b/c", 0), drop("/c", mostNum-1), drop("/d", 1), drop("/a-", 1)}
	for _, n := range wrongEpochs() {
		wrong = append(wrong, drop("/a", n), drop("/a/b", n), drop("/c", n))
	}
	for _, p := range noPaths() {
		wrong = append(wrong, drop(p, 1), drop(p, 0))
	}
	for _, d := range wrong {
		if now, ok := agree(t, l, d); ok || now != nil {
			t.Errorf("%+v: %+v", d, now)
		}
	}
	// What is gone is not dropped again.
	for _, d := range []deed{drop("/a", 1), drop("/a/b", 0)} {
		if again, ok := agree(t, now, d); ok || again != nil {
			t.Errorf("%+v: %+v", d, again)
		}
	}
	// A list without room is room enough.
	full := underRoot(many(31))
	for i, r := range full {
		if now, ok := agree(t, full, drop(r.Prefix, r.Epoch)); ok != (r.State == frozen) || ok && now[i] != ofGone(r.Prefix, r.Epoch) {
			t.Errorf("%+v: %+v", r, now)
		}
	}
}

// P11.1 (K2, K3): all of them.

func TestAllDeeds(t *testing.T) {
	done, refused := map[string]int{}, map[string]int{}
	for _, l := range someRanges() {
		for _, d := range someDeeds() {
			now, ok := agree(t, l, d)
			if !ok {
				refused[d.call]++
				continue
			}
			done[d.call]++
			if !owned.Right(now) || owned.Of(now, d.prefix) < 0 {
				t.Errorf("%+v of %+v: %+v", d, l, now)
			}
		}
	}
	for _, l := range noRanges() {
		for _, d := range someDeeds() {
			if now, ok := agree(t, l, d); ok || now != nil {
				t.Errorf("%+v of %+v: %+v", d, l, now)
			}
		}
	}
	for _, call := range []string{"freeze", "install", "drop"} {
		if done[call] < 10 || refused[call] < 100 {
			t.Errorf("%s: %d were done, %d refused", call, done[call], refused[call])
		}
	}
}

// allSmall is all lists of ranges of four Prefixes, with two Epochs and all States.
func allSmall() [][]api.Range {
	all := [][]api.Range{nil}
	for _, prefix := range []string{"/", "/a", "/a/b", "/b"} {
		for _, l := range all {
			for _, epoch := range []int64{1, 2} {
				for state := mine; state <= gone; state++ {
					all = append(all, append(slices.Clone(l), api.Range{Prefix: prefix, Epoch: epoch, State: state}))
				}
			}
		}
	}
	return all
}

func TestAllSmall(t *testing.T) {
	dirs := []string{"/", "/a", "/a/b", "/a/c", "/a/b/c", "/b", "/b/a", "/c"}
	all := allSmall()
	for _, l := range all {
		for _, dir := range dirs {
			if at := owned.Of(l, dir); at != wantOf(l, dir) || owned.State(l, dir) != wantState(l, dir) {
				t.Fatalf("%q in %+v: the range %d, the state %d", dir, l, at, owned.State(l, dir))
			}
			agree(t, l, freeze(dir))
			for epoch := range int64(4) {
				agree(t, l, install(dir, epoch))
				agree(t, l, drop(dir, epoch))
			}
		}
	}
	if len(all) != 7*7*7*7 {
		t.Errorf("%d lists", len(all))
	}
}

// P11.1 (K4): Cut.

// at is a node with data that tells it from others.
func at(p string) api.Node {
	return api.Node{Path: p, Data: "of " + p, Version: int64(len(p))}
}

func storeOf(paths string, dirs string) api.Store {
	var s api.Store
	for _, p := range strings.Fields(paths) {
		s.Nodes = append(s.Nodes, at(p))
	}
	for _, dir := range strings.Fields(dirs) {
		s.Turns = append(s.Turns, api.Turn{Dir: dir, Next: int64(len(dir))})
	}
	return s
}

// someStores is stores of all sorts, each of which is valid.
func someStores() []api.Store {
	var wide api.Store
	for i := range 100 {
		wide.Nodes = append(wide.Nodes, api.Node{Path: "/m" + strconv.Itoa(1000+i%40) + "/" + strconv.Itoa(1000+i), Owner: int64(i)})
		wide.Turns = append(wide.Turns, api.Turn{Dir: "/m" + strconv.Itoa(1000+i), Next: int64(i + 1)})
	}
	slices.SortFunc(wide.Nodes, func(n api.Node, m api.Node) int { return strings.Compare(n.Path, m.Path) })
	return []api.Store{
		{},
		{Nodes: []api.Node{}, Turns: []api.Turn{}},
		storeOf("/", ""),
		storeOf("", "/"),
		storeOf("", "/ /a /a/b /b"),
		storeOf("/ /a /a/b /c", "/ /a"),
		storeOf("/ /a /a- /a-/b /a-/b/c /a/b /a/b/c /a/b/c/d /a/b/c/d/e "+deep6+" /a/bc /a0 /a0/x /ab /ab/c /b /b/a /c /c/a /c/a/z", "/ /a /a- /a-/b /a/b /a/b/c /a/b/c/d /a/b/c/d/e "+deep6+" /a0 /ab /b /c/a"),
		storeOf("/a/b /a/b/x /b/"+part12+"/y /m1000/a /m1001/a /m1001/b /m1030/z /z", "/a/x /b/"+part12+" /m1001 /m1031 /z"),
		{Nodes: []api.Node{{Path: "/", Data: strings.Repeat("\xff", 256), Version: mostNum}, {Path: "/a", Owner: 1 << 40}, {Path: "/a/b", Owner: 3}}, Turns: []api.Turn{{Dir: "/", Next: 10000}, {Dir: "/a", Next: 1}}},
		wide,
	}
}

// noStores is stores that are not valid.
func noStores() []api.Store {
	return []api.Store{
		storeOf("/b /a", ""),
		storeOf("/a /a", ""),
		storeOf("/ /a /", ""),
		storeOf("a", ""),
		storeOf("/ /a/", ""),
		storeOf("/ /a", "/b /a"),
		storeOf("/ /a", "/a /a"),
		storeOf("/ /a", "?"),
		{Nodes: []api.Node{{}}},
		{Turns: []api.Turn{{}}},
		{Nodes: []api.Node{{Path: "/a", Turn: 1}}},
		{Nodes: []api.Node{{Path: "/a", Version: -1}}},
		{Nodes: []api.Node{{Path: "/a", Owner: 1<<40 + 1}}},
		{Nodes: []api.Node{{Path: "/a", Data: strings.Repeat("x", 257)}}},
		{Nodes: []api.Node{at("/a")}, Turns: []api.Turn{{Dir: "/a", Next: 10001}}},
		{Nodes: []api.Node{at("/a")}, Turns: []api.Turn{{Dir: "/a"}}},
	}
}

func TestCut(t *testing.T) {
	s := storeOf("/ /a /a/b /a/b/c /a/b/c/d /a/bc /ab /ab/x /b", "/ /a /a/b /a/b/c /ab /b")
	l := []api.Range{ofMine("/", 1), ofFrozen("/a", 1), ofGone("/a/b", 0)}
	for i, c := range []struct {
		l         []api.Range
		prefix    string
		cut, rest api.Store
	}{
		// A node is kept at its parent, a turn at its own directory.
		{l, "/a", storeOf("/a/b /a/bc", "/a"), storeOf("/ /a /a/b/c /a/b/c/d /ab /ab/x /b", "/ /a/b /a/b/c /ab /b")},
		{l, "/a/b", storeOf("/a/b/c /a/b/c/d", "/a/b /a/b/c"), storeOf("/ /a /a/b /a/bc /ab /ab/x /b", "/ /a /ab /b")},
		// The root is kept at the root.
		{l, "/", storeOf("/ /a /ab /ab/x /b", "/ /ab /b"), storeOf("/a/b /a/b/c /a/b/c/d /a/bc", "/a /a/b /a/b/c")},
		{l[:1], "/", s, api.Store{}},
		{l[:2], "/a", storeOf("/a/b /a/b/c /a/b/c/d /a/bc", "/a /a/b /a/b/c"), storeOf("/ /a /ab /ab/x /b", "/ /ab /b")},
		{l[1:], "/", api.Store{}, s},
		{l[2:], "/a/b", storeOf("/a/b/c /a/b/c/d", "/a/b /a/b/c"), storeOf("/ /a /a/b /a/bc /ab /ab/x /b", "/ /a /ab /b")},
		// No directory has a range with another Prefix, whether it is a path or not.
		{l, "/a/b/c", api.Store{}, s}, {l, "/b", api.Store{}, s}, {l, "/ab", api.Store{}, s}, {l, "", api.Store{}, s}, {l, "?", api.Store{}, s}, {l, "/a/", api.Store{}, s},
		{nil, "/", api.Store{}, s}, {nil, "", api.Store{}, s}, {[]api.Range{}, "/a", api.Store{}, s},
	} {
		if cut, rest := agreeCut(t, s, c.l, c.prefix); !same(cut, c.cut) || !same(rest, c.rest) {
			t.Errorf("%d: %+v and %+v", i, cut, rest)
		}
	}
}

func TestCutOfAll(t *testing.T) {
	filled, halved := 0, 0
	for _, s := range someStores() {
		for _, l := range someRanges() {
			for _, prefix := range append(somePaths(), noPaths()...) {
				cut, rest := agreeCut(t, s, l, prefix)
				if !isZero(cut) {
					filled++
				}
				if !isZero(cut) && !isZero(rest) {
					halved++
				}
			}
		}
	}
	if filled < 100 || halved < 100 {
		t.Errorf("%d were filled, %d halved", filled, halved)
	}
}

func TestCutOfAllSmall(t *testing.T) {
	s := storeOf("/ /a /a/b /a/b/c /a/c /b /b/a /c", "/ /a /a/b /b /c")
	for _, l := range allSmall() {
		for _, prefix := range []string{"/", "/a", "/a/b", "/b", "/c", ""} {
			agreeCut(t, s, l, prefix)
		}
	}
}

func TestCutRefused(t *testing.T) {
	for _, prefix := range []string{"/", "/a", "/m", "/b", "", "?"} {
		for _, s := range noStores() {
			for _, l := range append(someRanges(), noRanges()...) {
				if cut, rest := agreeCut(t, s, l, prefix); !isZero(cut) || !isZero(rest) {
					t.Errorf("%q of %+v: %+v and %+v", prefix, s, cut, rest)
				}
			}
		}
		for _, s := range someStores() {
			for _, l := range noRanges() {
				if cut, rest := agreeCut(t, s, l, prefix); !isZero(cut) || !isZero(rest) {
					t.Errorf("%q with %+v: %+v and %+v", prefix, l, cut, rest)
				}
			}
		}
	}
}
