package nodes_test

import (
	"maps"
	"math/rand/v2"
	"regexp"
	"slices"
	"strconv"
	"strings"
	"testing"

	"canton/api"
	"canton/nodes"
)

// The bounds as the document says them.
const (
	mostNodes   = 512
	mostData    = 256
	mostVersion = 1 << 48
	mostTurn    = 10000
	mostOwner   = 1 << 40
	part12      = "0123456789ab"
	deep5       = "/a/b/c/d/e"
)

var pathForm = regexp.MustCompile(`\A(/|(/[a-z0-9-]{1,12}){1,6})\z`)

// wantRight is whether a list is a tree, as the document says it.
func wantRight(l []api.Node) bool {
	if len(l) < 1 || len(l) > mostNodes || l[0].Path != "/" || l[0].Owner != 0 {
		return false
	}
	for i, n := range l {
		if i > 0 && l[i-1].Path >= n.Path || len(n.Data) > mostData || n.Version < 0 || n.Version > mostVersion || n.Turn < 0 || n.Turn > mostTurn || n.Owner < 0 || n.Owner > mostOwner || n.Owner != 0 && n.Turn != 0 {
			return false
		}
		if i > 0 && (!pathForm.MatchString(n.Path) || !slices.ContainsFunc(l, func(m api.Node) bool { return m.Path == upOf(n.Path) && m.Owner == 0 })) {
			return false
		}
	}
	return true
}

// wantMay is whether an operation is valid, as the document says it.
func wantMay(o api.Op) bool {
	if !pathForm.MatchString(o.Path) {
		return false
	}
	noData, noVersion, noOwner, noTurns := o.Data == "", o.Version == 0, o.Owner == 0, !o.Turns
	anyData, anyVersion := len(o.Data) <= mostData, o.Version >= -1 && o.Version <= mostVersion
	switch o.Kind {
	case 1:
		return o.Path != "/" && anyData && o.Owner >= 0 && o.Owner <= mostOwner && noVersion
	case 2:
		return o.Path != "/" && anyVersion && noData && noOwner && noTurns
	case 3:
		return anyData && anyVersion && noOwner && noTurns
	case 4:
		return anyVersion && noData && noOwner && noTurns
	case 5, 6:
		return noData && noVersion && noOwner && noTurns
	case 7:
		return o.Owner >= 1 && o.Owner <= mostOwner && noData && noVersion && noTurns
	}
	return false
}

// upOf is the parent of a path that is not the root, and lastOf its last part.
func upOf(p string) string {
	return p[:max(1, strings.LastIndex(p, "/"))]
}

func lastOf(p string) string {
	return p[strings.LastIndex(p, "/")+1:]
}

// within is the last parts of all that lies in p and that the owner owns (any, if that is below 0).
func within(m map[string]api.Node, p string, owner int64) []string {
	var names []string
	for q, n := range m {
		if q != "/" && upOf(q) == p && (owner < 0 || n.Owner == owner) {
			names = append(names, lastOf(q))
		}
	}
	slices.Sort(names)
	return names
}

// wantApply is a plain reading of F2 on a map of the nodes.
func wantApply(l []api.Node, o api.Op) ([]api.Node, api.Result) {
	if !wantRight(l) || !wantMay(o) {
		return nil, api.Result{Err: api.ErrArg}
	}
	m := map[string]api.Node{}
	for _, n := range l {
		m[n.Path] = n
	}
	r := plainly(m, o)
	if r.Err != api.OK {
		return l, api.Result{Err: r.Err}
	}
	var k []api.Node
	for _, p := range slices.Sorted(maps.Keys(m)) {
		k = append(k, m[p])
	}
	return k, r
}

func plainly(m map[string]api.Node, o api.Op) api.Result {
	if o.Kind == api.Create {
		return plainCreate(m, o)
	}
	n, there := m[o.Path]
	if !there {
		return api.Result{Err: api.ErrNone}
	}
	if o.Kind <= api.Check && o.Version != -1 && o.Version != n.Version {
		return api.Result{Err: api.ErrVersion}
	}
	switch o.Kind {
	case api.Delete:
		if len(within(m, o.Path, -1)) > 0 {
			return api.Result{Err: api.ErrFilled}
		}
		delete(m, o.Path)
		return api.Result{}
	case api.Set:
		if n.Version == mostVersion {
			return api.Result{Err: api.ErrTooMany}
		}
		n.Data, n.Version = o.Data, n.Version+1
		m[o.Path] = n
		return api.Result{Version: n.Version}
	case api.Check:
		return api.Result{Version: n.Version}
	case api.Get:
		return api.Result{Data: n.Data, Version: n.Version}
	case api.List:
		return api.Result{Names: within(m, o.Path, -1)}
	}
	names := within(m, o.Path, o.Owner)
	for _, name := range names {
		delete(m, strings.TrimSuffix(o.Path, "/")+"/"+name)
	}
	return api.Result{Names: names}
}

func plainCreate(m map[string]api.Node, o api.Op) api.Result {
	up, there := m[upOf(o.Path)]
	if !there {
		return api.Result{Err: api.ErrNone}
	}
	if up.Owner != 0 {
		return api.Result{Err: api.ErrOwned}
	}
	p := o.Path
	if o.Turns {
		p += strings.Repeat("0", max(0, 4-len(strconv.FormatInt(up.Turn, 10)))) + strconv.FormatInt(up.Turn, 10)
		if up.Turn > 9999 || !pathForm.MatchString(p) {
			return api.Result{Err: api.ErrTurn}
		}
	}
	if _, there := m[p]; there {
		return api.Result{Err: api.ErrThere}
	}
	if len(m) == mostNodes {
		return api.Result{Err: api.ErrTooMany}
	}
	if o.Turns {
		up.Turn++
		m[up.Path] = up
	}
	m[p] = api.Node{Path: p, Data: o.Data, Owner: o.Owner}
	return api.Result{Path: p}
}

func alike(r api.Result, s api.Result) bool {
	return r.Err == s.Err && r.Path == s.Path && r.Data == s.Data && r.Version == s.Version && slices.Equal(r.Names, s.Names)
}

// agree executes an operation, holds it against the plain reading, and returns what came of it.
func agree(t *testing.T, l []api.Node, o api.Op) ([]api.Node, api.Result) {
	t.Helper()
	was := slices.Clone(l)
	want, wantResult := wantApply(was, o)
	got, r := nodes.Apply(l, o)
	if !slices.Equal(got, want) || !alike(r, wantResult) {
		t.Fatalf("%+v on %+v: %+v, %+v; want %+v, %+v", o, l, got, r, want, wantResult)
	}
	if !slices.Equal(l, was) {
		t.Fatalf("%+v: the argument %+v became %+v", o, was, l)
	}
	return got, r
}

// at is a node without anything but its path.
func at(p string) api.Node {
	return api.Node{Path: p}
}

// grown is the tree that operations make of the root alone; none of them may be refused.
func grown(t *testing.T, ops ...api.Op) []api.Node {
	t.Helper()
	l := nodes.New()
	for _, o := range ops {
		var r api.Result
		if l, r = agree(t, l, o); r.Err != api.OK {
			t.Fatalf("%+v: error %d", o, r.Err)
		}
	}
	return l
}

// full is a tree of n nodes: the root, and all others in it.
func full(n int) []api.Node {
	l := nodes.New()
	for i := range n - 1 {
		l = append(l, at("/n"+strconv.Itoa(1000+i)))
	}
	return l
}

// someOps is valid operations of all kinds on a path, and some that are not valid there.
func someOps(p string) []api.Op {
	l := []api.Op{{Kind: api.Get, Path: p}, {Kind: api.List, Path: p}}
	for _, v := range []int64{-2, -1, 0, 1, mostVersion - 1, mostVersion, mostVersion + 1} {
		l = append(l, api.Op{Kind: api.Delete, Path: p, Version: v}, api.Op{Kind: api.Set, Path: p, Data: "new", Version: v}, api.Op{Kind: api.Check, Path: p, Version: v})
	}
	for _, owner := range []int64{0, 1, 2, mostOwner} {
		l = append(l, api.Op{Kind: api.Sweep, Path: p, Owner: owner})
		for _, turns := range []bool{false, true} {
			l = append(l, api.Op{Kind: api.Create, Path: p, Data: "made", Owner: owner, Turns: turns})
		}
	}
	return l
}

// somePaths is paths whose order is not that of their parts, those at the edges, and some that are none.
func somePaths() []string {
	return []string{"/", "/a", "/a-", "/a-/x", "/a/a", "/a/b", "/a/b/c", "/a/b0000", "/a0", "/b", "/b/a", "/q", "/q0000", "/q0001", "/o", "/o/x", "/" + part12, "/12345678", "/123456789", deep5, deep5 + "/f", deep5 + "/f/g", "/a/b/c/d", "", "a", "/a/", "/A", "/" + part12 + "c"}
}

// someTrees is trees in which each of the errors can be met.
func someTrees() [][]api.Node {
	return [][]api.Node{
		{at("/")},
		{{Path: "/", Data: "r", Version: 3, Turn: 1}, at("/a"), at("/a-"), {Path: "/a-/x", Owner: 1}, {Path: "/a/b", Version: 1, Owner: 1}, {Path: "/a0", Owner: 2}, {Path: "/b", Turn: 7}, {Path: "/b/a", Data: "x"}},
		{{Path: "/", Turn: 9999}, {Path: "/o", Owner: mostOwner, Version: mostVersion}, {Path: "/q", Version: mostVersion}, at("/q0000")},
		{{Path: "/", Turn: mostTurn, Version: mostVersion}, {Path: "/a", Version: mostVersion - 1}, {Path: "/q", Owner: 1}, {Path: "/q0000", Owner: 2}, {Path: "/q0001", Owner: 1}},
		{at("/"), at("/a"), at("/a/b"), at("/a/b/c"), at("/a/b/c/d"), {Path: deep5, Turn: 12}, {Path: deep5 + "/f", Owner: 1}},
		{at("/"), {Path: "/a", Turn: 9998}, {Path: "/a/b0000"}, {Path: "/a/b9999", Owner: 1}, at("/q0000")},
	}
}

// P6.1 (F1): New, Find, Right and May.

func TestNew(t *testing.T) {
	for range 2 {
		l := nodes.New()
		if !slices.Equal(l, []api.Node{at("/")}) || !nodes.Right(l) {
			t.Errorf("New() = %+v", l)
		}
		l[0].Data = "spoilt"
	}
}

func TestFind(t *testing.T) {
	l := []api.Node{{Path: "/b", Data: "1"}, {Path: "/a", Data: "2", Version: 3, Turn: 4, Owner: 5}, {Path: "/b", Data: "3"}, {Path: "", Data: "4"}, {Path: "no path", Data: "5"}}
	for _, c := range []struct {
		path string
		want int
	}{{"/b", 0}, {"/a", 1}, {"", 3}, {"no path", 4}, {"/", -1}, {"/a/", -1}, {"a", -1}, {"/B", -1}, {"/ab", -1}} {
		n, ok := nodes.Find(l, c.path)
		if ok != (c.want >= 0) || ok && n != l[c.want] || !ok && n != (api.Node{}) {
			t.Errorf("Find(%q) = %+v, %v", c.path, n, ok)
		}
	}
	for _, l := range [][]api.Node{nil, {}, {at("/a")}} {
		if n, ok := nodes.Find(l, "/"); ok || n != (api.Node{}) {
			t.Errorf("Find(%+v) = %+v, %v", l, n, ok)
		}
	}
}

func TestFindInATree(t *testing.T) {
	for _, l := range append(someTrees(), full(mostNodes)) {
		for i, n := range l {
			if got, ok := nodes.Find(l, n.Path); !ok || got != l[i] {
				t.Errorf("Find(%q) = %+v, %v", n.Path, got, ok)
			}
		}
	}
}

func TestRightNamedEdges(t *testing.T) {
	for i, l := range [][]api.Node{
		{at("/")},
		{{Path: "/", Data: strings.Repeat("x", mostData), Version: mostVersion, Turn: mostTurn}},
		{at("/"), {Path: "/a", Data: strings.Repeat("\xff", mostData), Version: mostVersion, Owner: mostOwner}},
		{at("/"), {Path: "/a", Turn: mostTurn}},
		{at("/"), at("/a"), at("/a-"), at("/a-/b"), at("/a/b"), at("/a0")},
		{at("/"), at("/a"), at("/a/b"), at("/a/b/c"), at("/a/b/c/d"), at(deep5), at(deep5 + "/f")},
		{at("/"), at("/" + part12)},
		full(mostNodes),
	} {
		if !nodes.Right(l) || !wantRight(l) {
			t.Errorf("%d: refused", i)
		}
	}
	for i, l := range [][]api.Node{
		nil,
		{},
		{at("")},
		{at("/a")},
		{at("/a"), at("/")},
		{at("/"), at("/")},
		{at("/"), at("/a"), at("/a")},
		{at("/"), at("/b"), at("/a")},
		{at("/"), at("/a"), at("/a/b"), at("/a-")},
		{at("/"), at("/a0"), at("/a0/x"), at("/a")},
		{at("/"), at("/a/b")},
		{at("/"), at("/a"), at("/ab/c")},
		{at("/"), at("/a"), at("/a/b/c")},
		{at("/"), at("/b"), at("/b/c"), at("/b/c/d"), at("/b/d/e")},
		{{Path: "/", Owner: 1}},
		{{Path: "/", Owner: -1}},
		{at("/"), {Path: "/a", Owner: 1}, at("/a/b")},
		{at("/"), at("/a"), {Path: "/a/b", Owner: 1}, {Path: "/a/b/c", Owner: 1}},
		{at("/"), {Path: "/a", Owner: -1}},
		{at("/"), {Path: "/a", Owner: mostOwner + 1}},
		{at("/"), {Path: "/a", Owner: 1, Turn: 1}},
		{{Path: "/", Data: strings.Repeat("x", mostData+1)}},
		{at("/"), {Path: "/a", Data: strings.Repeat("x", mostData+1)}},
		{{Path: "/", Version: -1}},
		{{Path: "/", Version: mostVersion + 1}},
		{at("/"), {Path: "/a", Version: -1}},
		{at("/"), {Path: "/a", Version: mostVersion + 1}},
		{{Path: "/", Turn: -1}},
		{{Path: "/", Turn: mostTurn + 1}},
		{at("/"), {Path: "/a", Turn: -1}},
		{at("/"), {Path: "/a", Turn: mostTurn + 1}},
		{at("/"), at("/A")},
		{at("/"), at("/a"), at("/a/")},
		{at("/"), at("//")},
		{at("/"), at("a")},
		{at("/"), at("/" + part12 + "c")},
		{at("/"), at("/a"), at("/a/b"), at("/a/b/c"), at("/a/b/c/d"), at(deep5), at(deep5 + "/f"), at(deep5 + "/f/g")},
		full(mostNodes + 1),
	} {
		if nodes.Right(l) || wantRight(l) {
			t.Errorf("%d: %+v is taken for a tree", i, l)
		}
	}
}

// TestRightOfAllShortLists takes lists of up to four nodes out of some that are alike.
func TestRightOfAllShortLists(t *testing.T) {
	some := []api.Node{at("/"), at("/a"), at("/a-"), at("/a/b"), at("/b"), at("/a/b/c"), {Path: "/a", Owner: 1}, {Path: "/", Turn: 1}, {Path: "/", Owner: 1}, {Path: "/b", Owner: 1, Turn: 1}, at("/a/")}
	lists := [][]api.Node{nil}
	for begin := 0; len(lists[begin]) < 4; begin++ {
		for _, n := range some {
			lists = append(lists, append(slices.Clone(lists[begin]), n))
		}
	}
	trees := 0
	for _, l := range lists {
		want := wantRight(l)
		if nodes.Right(l) != want {
			t.Errorf("Right(%+v) = %v", l, !want)
		}
		if want {
			trees++
		}
	}
	if trees < 20 || len(lists) < 10000 {
		t.Errorf("%d trees of %d lists", trees, len(lists))
	}
}

// TestRightOfChangedTrees changes one field of one node of a tree, or leaves a node out, or swaps two.
func TestRightOfChangedTrees(t *testing.T) {
	numbers := []int64{-1 << 63, -1, 0, 1, 9999, mostTurn, mostTurn + 1, mostOwner, mostOwner + 1, mostVersion, mostVersion + 1, 1<<63 - 1}
	for _, whole := range someTrees() {
		for i := range whole {
			var changed [][]api.Node
			change := func(do func(n *api.Node)) {
				l := slices.Clone(whole)
				do(&l[i])
				changed = append(changed, l)
			}
			for _, v := range numbers {
				change(func(n *api.Node) { n.Version = v })
				change(func(n *api.Node) { n.Turn = v })
				change(func(n *api.Node) { n.Owner = v })
				change(func(n *api.Node) { n.Owner, n.Turn = v, 0 })
			}
			for _, size := range []int{0, 255, 256, 257, 1000} {
				change(func(n *api.Node) { n.Data = strings.Repeat("d", size) })
			}
			for _, p := range somePaths() {
				change(func(n *api.Node) { n.Path = p })
			}
			changed = append(changed, slices.Delete(slices.Clone(whole), i, i+1))
			if i > 0 {
				l := slices.Clone(whole)
				l[i], l[i-1] = l[i-1], l[i]
				changed = append(changed, l)
			}
			for _, l := range changed {
				if want := wantRight(l); nodes.Right(l) != want {
					t.Errorf("Right(%+v) = %v", l, !want)
				}
			}
		}
	}
}

func TestMay(t *testing.T) {
	may := 0
	for kind := -1; kind <= 9; kind++ {
		for _, p := range []string{"/", "/a", deep5 + "/f", deep5 + "/f/g", "", "a", "/a/"} {
			for _, size := range []int{0, 1, mostData, mostData + 1} {
				for _, version := range []int64{-1 << 63, -2, -1, 0, 1, mostVersion, mostVersion + 1, 1<<63 - 1} {
					for _, owner := range []int64{-1 << 63, -1, 0, 1, mostOwner, mostOwner + 1, 1<<63 - 1} {
						for _, turns := range []bool{false, true} {
							o := api.Op{Kind: kind, Path: p, Data: strings.Repeat("x", size), Version: version, Owner: owner, Turns: turns}
							want := wantMay(o)
							if nodes.May(o) != want {
								t.Errorf("May(%+v) = %v", o, !want)
							}
							if want {
								may++
							}
						}
					}
				}
			}
		}
	}
	// Of paths but the root there are two. Create: 3 data, 3 owners, 2 turns; Delete: 4 versions; Set: 3 data, 4 versions; Check: 4; Get, List: 1 each; Sweep: 2 owners.
	if want := 2*18 + 2*4 + 3*12 + 3*4 + 3 + 3 + 3*2; may != want {
		t.Errorf("%d valid operations; want %d", may, want)
	}
	if nodes.May(api.Op{}) || nodes.May(api.Op{Path: "/a"}) || nodes.May(api.Op{Kind: 1 << 62, Path: "/a"}) || nodes.May(api.Op{Kind: -1 << 63, Path: "/a"}) {
		t.Error("an operation of no kind is taken for a valid one")
	}
}

// P6.1 (F2): Apply, one kind after the other.

// step is an operation, its result, and the tree behind it.
type step struct {
	o    api.Op
	r    api.Result
	tree []api.Node
}

// follow executes operations, each on what came of the one before.
func follow(t *testing.T, l []api.Node, steps []step) {
	t.Helper()
	for i, s := range steps {
		got, r := agree(t, l, s.o)
		if !slices.Equal(got, s.tree) || !alike(r, s.r) {
			t.Fatalf("%d: %+v, %+v; want %+v, %+v", i, got, r, s.tree, s.r)
		}
		l = got
	}
}

func TestCreate(t *testing.T) {
	a := api.Node{Path: "/a", Data: "x"}
	dash := api.Node{Path: "/a-", Data: "y", Owner: 7}
	b := api.Node{Path: "/a/b"}
	follow(t, nodes.New(), []step{
		{api.Op{Kind: api.Create, Path: "/a", Data: "x"}, api.Result{Path: "/a"}, []api.Node{at("/"), a}},
		{api.Op{Kind: api.Create, Path: "/a/b"}, api.Result{Path: "/a/b"}, []api.Node{at("/"), a, b}},
		{api.Op{Kind: api.Create, Path: "/a-", Data: "y", Owner: 7}, api.Result{Path: "/a-"}, []api.Node{at("/"), a, dash, b}},
		{api.Op{Kind: api.Create, Path: "/a"}, api.Result{Err: api.ErrThere}, []api.Node{at("/"), a, dash, b}},
		{api.Op{Kind: api.Create, Path: "/a-/x"}, api.Result{Err: api.ErrOwned}, []api.Node{at("/"), a, dash, b}},
		{api.Op{Kind: api.Create, Path: "/c/x"}, api.Result{Err: api.ErrNone}, []api.Node{at("/"), a, dash, b}},
		{api.Op{Kind: api.Create, Path: "/"}, api.Result{Err: api.ErrArg}, nil},
	})
}

func TestCreateByTurns(t *testing.T) {
	root := func(turn int64) api.Node { return api.Node{Path: "/", Turn: turn} }
	follow(t, nodes.New(), []step{
		{api.Op{Kind: api.Create, Path: "/q", Turns: true}, api.Result{Path: "/q0000"}, []api.Node{root(1), at("/q0000")}},
		{api.Op{Kind: api.Create, Path: "/q", Turns: true, Data: "x", Owner: 3}, api.Result{Path: "/q0001"}, []api.Node{root(2), at("/q0000"), {Path: "/q0001", Data: "x", Owner: 3}}},
		{api.Op{Kind: api.Create, Path: "/q0001/a", Turns: true}, api.Result{Err: api.ErrOwned}, []api.Node{root(2), at("/q0000"), {Path: "/q0001", Data: "x", Owner: 3}}},
		{api.Op{Kind: api.Delete, Path: "/q0001", Version: -1}, api.Result{}, []api.Node{root(2), at("/q0000")}},
		{api.Op{Kind: api.Create, Path: "/b", Turns: true}, api.Result{Path: "/b0002"}, []api.Node{root(3), at("/b0002"), at("/q0000")}},
		{api.Op{Kind: api.Create, Path: "/q0000/q", Turns: true}, api.Result{Path: "/q0000/q0000"}, []api.Node{root(3), at("/b0002"), {Path: "/q0000", Turn: 1}, at("/q0000/q0000")}},
		{api.Op{Kind: api.Create, Path: "/n/q", Turns: true}, api.Result{Err: api.ErrNone}, []api.Node{root(3), at("/b0002"), {Path: "/q0000", Turn: 1}, at("/q0000/q0000")}},
	})
}

// The numbered path is the one that counts: whether it is there, and where it comes to.
func TestCreateByTurnsAtItsNumberedPath(t *testing.T) {
	l := []api.Node{at("/"), at("/q"), at("/q-")}
	want := []api.Node{{Path: "/", Turn: 1}, at("/q"), at("/q-"), at("/q0000")}
	follow(t, l, []step{{api.Op{Kind: api.Create, Path: "/q", Turns: true}, api.Result{Path: "/q0000"}, want}})
	taken := []api.Node{{Path: "/", Turn: 41}, at("/q0041")}
	follow(t, taken, []step{
		{api.Op{Kind: api.Create, Path: "/q", Turns: true}, api.Result{Err: api.ErrThere}, taken},
		{api.Op{Kind: api.Create, Path: "/p", Turns: true}, api.Result{Path: "/p0041"}, []api.Node{{Path: "/", Turn: 42}, at("/p0041"), at("/q0041")}},
	})
}

func TestCreateByTurnsAtTheEdges(t *testing.T) {
	last := []api.Node{{Path: "/", Turn: 9999}}
	over := []api.Node{{Path: "/", Turn: 10000}, at("/q9999")}
	follow(t, last, []step{
		{api.Op{Kind: api.Create, Path: "/123456789", Turns: true}, api.Result{Err: api.ErrTurn}, last},
		{api.Op{Kind: api.Create, Path: "/q", Turns: true}, api.Result{Path: "/q9999"}, over},
		{api.Op{Kind: api.Create, Path: "/q", Turns: true}, api.Result{Err: api.ErrTurn}, over},
		{api.Op{Kind: api.Create, Path: "/q"}, api.Result{Path: "/q"}, []api.Node{{Path: "/", Turn: 10000}, at("/q"), at("/q9999")}},
	})
	follow(t, nodes.New(), []step{{api.Op{Kind: api.Create, Path: "/12345678", Turns: true}, api.Result{Path: "/123456780000"}, []api.Node{{Path: "/", Turn: 1}, at("/123456780000")}}})
	deep := []api.Node{at("/"), at("/a"), at("/a/b"), at("/a/b/c"), at("/a/b/c/d"), at(deep5)}
	for _, turns := range []bool{false, true} {
		if _, r := agree(t, deep, api.Op{Kind: api.Create, Path: deep5 + "/f", Turns: turns}); r.Err != api.OK {
			t.Errorf("the sixth part: error %d", r.Err)
		}
	}
}

func TestDelete(t *testing.T) {
	l := []api.Node{at("/"), at("/a"), {Path: "/a/b", Version: 2}, {Path: "/a/c", Owner: 9, Version: 1}, at("/a0")}
	follow(t, l, []step{
		{api.Op{Kind: api.Delete, Path: "/a", Version: -1}, api.Result{Err: api.ErrFilled}, l},
		{api.Op{Kind: api.Delete, Path: "/a/b", Version: 1}, api.Result{Err: api.ErrVersion}, l},
		{api.Op{Kind: api.Delete, Path: "/a/d", Version: -1}, api.Result{Err: api.ErrNone}, l},
		{api.Op{Kind: api.Delete, Path: "/a/b", Version: 2}, api.Result{}, []api.Node{l[0], l[1], l[3], l[4]}},
		{api.Op{Kind: api.Delete, Path: "/a", Version: 0}, api.Result{Err: api.ErrFilled}, []api.Node{l[0], l[1], l[3], l[4]}},
		{api.Op{Kind: api.Delete, Path: "/a/c", Version: -1}, api.Result{}, []api.Node{l[0], l[1], l[4]}},
		{api.Op{Kind: api.Delete, Path: "/a", Version: 0}, api.Result{}, []api.Node{l[0], l[4]}},
		{api.Op{Kind: api.Delete, Path: "/a0", Version: -1}, api.Result{}, []api.Node{l[0]}},
		{api.Op{Kind: api.Delete, Path: "/", Version: -1}, api.Result{Err: api.ErrArg}, nil},
	})
	// A name that begins as the node's does lies beside it, not in it.
	beside := []api.Node{at("/"), at("/a"), at("/a-"), at("/a-/b"), at("/ab")}
	follow(t, beside, []step{{api.Op{Kind: api.Delete, Path: "/a"}, api.Result{}, slices.Delete(slices.Clone(beside), 1, 2)}})
}

func TestSetCheckAndGet(t *testing.T) {
	made := func(data string, version int64) []api.Node {
		return []api.Node{{Path: "/", Turn: 4}, {Path: "/a", Data: data, Version: version, Turn: 5}}
	}
	l := made("x", 0)
	follow(t, l, []step{
		{api.Op{Kind: api.Set, Path: "/b", Version: -1}, api.Result{Err: api.ErrNone}, l},
		{api.Op{Kind: api.Check, Path: "/b", Version: -1}, api.Result{Err: api.ErrNone}, l},
		{api.Op{Kind: api.Get, Path: "/b"}, api.Result{Err: api.ErrNone}, l},
		{api.Op{Kind: api.Set, Path: "/a", Data: "y"}, api.Result{Version: 1}, made("y", 1)},
		{api.Op{Kind: api.Set, Path: "/a", Data: "z"}, api.Result{Err: api.ErrVersion}, made("y", 1)},
		{api.Op{Kind: api.Check, Path: "/a"}, api.Result{Err: api.ErrVersion}, made("y", 1)},
		{api.Op{Kind: api.Check, Path: "/a", Version: 1}, api.Result{Version: 1}, made("y", 1)},
		{api.Op{Kind: api.Get, Path: "/a"}, api.Result{Data: "y", Version: 1}, made("y", 1)},
		{api.Op{Kind: api.Set, Path: "/a", Version: -1}, api.Result{Version: 2}, made("", 2)},
		{api.Op{Kind: api.Set, Path: "/a", Data: strings.Repeat("d", mostData), Version: 2}, api.Result{Version: 3}, made(strings.Repeat("d", mostData), 3)},
		{api.Op{Kind: api.Check, Path: "/a", Version: -1}, api.Result{Version: 3}, made(strings.Repeat("d", mostData), 3)},
		{api.Op{Kind: api.Get, Path: "/a"}, api.Result{Data: strings.Repeat("d", mostData), Version: 3}, made(strings.Repeat("d", mostData), 3)},
	})
}

func TestSetAtTheGreatestVersion(t *testing.T) {
	made := func(version int64) []api.Node { return []api.Node{{Path: "/", Version: version}} }
	follow(t, made(mostVersion-1), []step{
		{api.Op{Kind: api.Set, Path: "/", Version: mostVersion - 1}, api.Result{Version: mostVersion}, made(mostVersion)},
		{api.Op{Kind: api.Set, Path: "/", Version: mostVersion}, api.Result{Err: api.ErrTooMany}, made(mostVersion)},
		{api.Op{Kind: api.Set, Path: "/", Version: -1}, api.Result{Err: api.ErrTooMany}, made(mostVersion)},
		{api.Op{Kind: api.Set, Path: "/", Version: 5}, api.Result{Err: api.ErrVersion}, made(mostVersion)},
		{api.Op{Kind: api.Check, Path: "/", Version: mostVersion}, api.Result{Version: mostVersion}, made(mostVersion)},
	})
}

func TestListAndSweep(t *testing.T) {
	l := []api.Node{at("/"), at("/a"), {Path: "/a-", Owner: 1}, at("/a/0"), {Path: "/a/0/x", Owner: 1}, {Path: "/a/b", Owner: 1}, {Path: "/a/c", Owner: 2}, {Path: "/a/d", Owner: 1}, at("/b")}
	behind := slices.DeleteFunc(slices.Clone(l), func(n api.Node) bool { return n.Path == "/a/b" || n.Path == "/a/d" })
	follow(t, l, []step{
		{api.Op{Kind: api.List, Path: "/"}, api.Result{Names: []string{"a", "a-", "b"}}, l},
		{api.Op{Kind: api.List, Path: "/a"}, api.Result{Names: []string{"0", "b", "c", "d"}}, l},
		{api.Op{Kind: api.List, Path: "/a/0"}, api.Result{Names: []string{"x"}}, l},
		{api.Op{Kind: api.List, Path: "/b"}, api.Result{}, l},
		{api.Op{Kind: api.List, Path: "/a/b"}, api.Result{}, l},
		{api.Op{Kind: api.List, Path: "/c"}, api.Result{Err: api.ErrNone}, l},
		{api.Op{Kind: api.Sweep, Path: "/c", Owner: 1}, api.Result{Err: api.ErrNone}, l},
		{api.Op{Kind: api.Sweep, Path: "/a", Owner: 3}, api.Result{}, l},
		{api.Op{Kind: api.Sweep, Path: "/b", Owner: 1}, api.Result{}, l},
		{api.Op{Kind: api.Sweep, Path: "/a-", Owner: 1}, api.Result{}, l},
		{api.Op{Kind: api.Sweep, Path: "/a", Owner: 1}, api.Result{Names: []string{"b", "d"}}, behind},
		{api.Op{Kind: api.Sweep, Path: "/a", Owner: 1}, api.Result{}, behind},
		{api.Op{Kind: api.List, Path: "/a"}, api.Result{Names: []string{"0", "c"}}, behind},
		{api.Op{Kind: api.Sweep, Path: "/", Owner: 1}, api.Result{Names: []string{"a-"}}, slices.Delete(slices.Clone(behind), 2, 3)},
	})
}

func TestFullTree(t *testing.T) {
	l := full(mostNodes)
	follow(t, l, []step{
		{api.Op{Kind: api.Create, Path: "/z"}, api.Result{Err: api.ErrTooMany}, l},
		{api.Op{Kind: api.Create, Path: "/z", Turns: true}, api.Result{Err: api.ErrTooMany}, l},
		{api.Op{Kind: api.Create, Path: "/n1000"}, api.Result{Err: api.ErrThere}, l},
		{api.Op{Kind: api.Create, Path: "/123456789", Turns: true}, api.Result{Err: api.ErrTurn}, l},
		{api.Op{Kind: api.Create, Path: "/z/z"}, api.Result{Err: api.ErrNone}, l},
	})
	one, r := agree(t, l, api.Op{Kind: api.Delete, Path: "/n1100"})
	if len(one) != mostNodes-1 || r.Err != api.OK {
		t.Errorf("%d nodes, error %d", len(one), r.Err)
	}
	again, r := agree(t, one, api.Op{Kind: api.Create, Path: "/n1100"})
	if !slices.Equal(again, l) || r.Err != api.OK {
		t.Errorf("%d nodes, error %d", len(again), r.Err)
	}
	if _, r := agree(t, l, api.Op{Kind: api.List, Path: "/"}); len(r.Names) != mostNodes-1 {
		t.Errorf("%d names", len(r.Names))
	}
	for _, o := range []api.Op{{Kind: api.Get, Path: "/"}, {Kind: api.Create, Path: "/z"}} {
		if k, r := agree(t, full(mostNodes+1), o); k != nil || r.Err != api.ErrArg {
			t.Errorf("%d nodes, error %d", len(k), r.Err)
		}
	}
}

// P2: if several errors apply, the first one of the document's is returned.
func TestFirstError(t *testing.T) {
	stuck := []api.Node{{Path: "/", Turn: mostTurn}, {Path: "/a", Version: 1}, {Path: "/a/b", Owner: 1}, {Path: "/q", Version: mostVersion}}
	crowded := full(mostNodes)
	crowded[0].Turn = 1
	crowded[1] = api.Node{Path: crowded[1].Path, Owner: 1}
	for i, c := range []struct {
		l    []api.Node
		o    api.Op
		want api.Errno
	}{
		{nil, api.Op{}, api.ErrArg},
		{nil, api.Op{Kind: api.Get, Path: "/n"}, api.ErrArg},
		{stuck, api.Op{Kind: api.Get, Path: "/n", Owner: 1}, api.ErrArg},
		{stuck, api.Op{Kind: api.Create, Path: "/n/123456789", Turns: true}, api.ErrNone},
		{stuck, api.Op{Kind: api.Create, Path: "/a/b/123456789", Turns: true}, api.ErrOwned},
		{stuck, api.Op{Kind: api.Create, Path: "/a", Turns: true}, api.ErrTurn},
		{stuck, api.Op{Kind: api.Delete, Path: "/a", Version: 2}, api.ErrVersion},
		{stuck, api.Op{Kind: api.Delete, Path: "/a", Version: 1}, api.ErrFilled},
		{stuck, api.Op{Kind: api.Delete, Path: "/n", Version: 2}, api.ErrNone},
		{stuck, api.Op{Kind: api.Set, Path: "/q", Version: 2}, api.ErrVersion},
		{stuck, api.Op{Kind: api.Set, Path: "/q", Version: mostVersion}, api.ErrTooMany},
		{crowded, api.Op{Kind: api.Create, Path: "/n1000/x"}, api.ErrOwned},
		{crowded, api.Op{Kind: api.Create, Path: "/n", Turns: true}, api.ErrTooMany},
		{crowded, api.Op{Kind: api.Create, Path: "/n1001"}, api.ErrThere},
	} {
		if _, r := agree(t, c.l, c.o); r.Err != c.want {
			t.Errorf("%d: error %d; want %d", i, r.Err, c.want)
		}
	}
}

func TestAllOpsOnSomeTrees(t *testing.T) {
	met := map[[2]int]int{}
	for _, l := range someTrees() {
		for _, p := range somePaths() {
			for _, o := range someOps(p) {
				_, r := agree(t, l, o)
				met[[2]int{o.Kind, int(r.Err)}]++
			}
		}
	}
	for _, kind := range []int{1, 2, 3, 4, 5, 6, 7} {
		for _, err := range []api.Errno{api.OK, api.ErrArg, api.ErrNone} {
			if met[[2]int{kind, int(err)}] == 0 {
				t.Errorf("kind %d never answered %d", kind, err)
			}
		}
	}
}

// P6.2 to P6.4, and P6.1 once more, by many operations one after the other.

// anyOp is an operation on a few paths, so that it often finds something.
func anyOp(r *rand.Rand) api.Op {
	p := ""
	for range 1 + r.IntN(3) {
		p += "/" + []string{"a", "a-", "b", "q", "q0000", "q0001"}[r.IntN(6)]
	}
	if r.IntN(12) == 0 {
		p = "/"
	}
	version := int64(r.IntN(4)) - 1
	data := strconv.Itoa(r.IntN(100))
	switch kind := 1 + r.IntN(9); kind {
	case api.Delete, api.Check:
		return api.Op{Kind: kind, Path: p, Version: version}
	case api.Set:
		return api.Op{Kind: kind, Path: p, Version: version, Data: data}
	case api.Get, api.List:
		return api.Op{Kind: kind, Path: p}
	case api.Sweep:
		return api.Op{Kind: kind, Path: p, Owner: 1 + int64(r.IntN(2))}
	}
	return api.Op{Kind: api.Create, Path: p, Data: data, Owner: int64(max(0, r.IntN(5)-2)), Turns: r.IntN(2) == 0}
}

func TestManyOps(t *testing.T) {
	met := map[api.Errno]int{}
	for seed := range uint64(20) {
		r := rand.New(rand.NewPCG(seed, 6))
		l := nodes.New()
		turn := map[string]int64{} // of each node that is there: the number from which on its next ones are
		for range 1500 {
			o := anyOp(r)
			k, result := agree(t, l, o)
			met[result.Err]++
			if result.Err == api.ErrArg {
				continue
			}
			if !nodes.Right(k) {
				t.Fatalf("%+v: no tree: %+v", o, k)
			}
			othersStay(t, l, k, o, result)
			readsStay(t, l, k, o, result)
			turnsRise(t, turn, k, o, result)
			l = k
		}
	}
	for _, err := range []api.Errno{api.OK, api.ErrArg, api.ErrThere, api.ErrNone, api.ErrVersion, api.ErrFilled, api.ErrOwned} {
		if met[err] == 0 {
			t.Errorf("error %d was never met", err)
		}
	}
}

// othersStay holds P6.2: only what is at the path, at its parent or below it changes, and the node that was created.
func othersStay(t *testing.T, was []api.Node, is []api.Node, o api.Op, r api.Result) {
	t.Helper()
	away := func(n api.Node) bool {
		return n.Path == o.Path || o.Path == "/" || n.Path == upOf(o.Path) || strings.HasPrefix(n.Path, o.Path+"/") || o.Kind == api.Create && n.Path == r.Path
	}
	if !slices.Equal(slices.DeleteFunc(slices.Clone(was), away), slices.DeleteFunc(slices.Clone(is), away)) {
		t.Fatalf("%+v: %+v became %+v", o, was, is)
	}
}

// readsStay holds P6.3: an error, and what only reads, changes nothing.
func readsStay(t *testing.T, was []api.Node, is []api.Node, o api.Op, r api.Result) {
	t.Helper()
	reads := o.Kind == api.Check || o.Kind == api.Get || o.Kind == api.List
	if (reads || r.Err != api.OK) && !slices.Equal(was, is) {
		t.Fatalf("%+v, error %d: %+v became %+v", o, r.Err, was, is)
	}
}

// turnsRise holds P6.4: while a node exists, the numbers of what is created in it by turns increase.
func turnsRise(t *testing.T, turn map[string]int64, is []api.Node, o api.Op, r api.Result) {
	t.Helper()
	if o.Kind == api.Create && o.Turns && r.Err == api.OK {
		n, err := strconv.ParseInt(r.Path[len(o.Path):], 10, 64)
		if err != nil || n < turn[upOf(o.Path)] || len(r.Path) != len(o.Path)+4 {
			t.Fatalf("%+v: %q", o, r.Path)
		}
		turn[upOf(o.Path)] = n + 1
	}
	for p := range turn {
		if _, there := nodes.Find(is, p); !there {
			delete(turn, p)
		}
	}
}

// TestTurnsToTheEnd has one node give out all its numbers, while what is created is deleted again.
func TestTurnsToTheEnd(t *testing.T) {
	l := grown(t, api.Op{Kind: api.Create, Path: "/a"})
	for n := range 10000 {
		want := "/a/q" + strconv.Itoa(10000 + n)[1:]
		var r api.Result
		if l, r = nodes.Apply(l, api.Op{Kind: api.Create, Path: "/a/q", Turns: true}); r.Err != api.OK || r.Path != want {
			t.Fatalf("%d: %+v", n, r)
		}
		if l, r = nodes.Apply(l, api.Op{Kind: api.Delete, Path: want}); r.Err != api.OK {
			t.Fatalf("%d: %+v", n, r)
		}
	}
	k, r := agree(t, l, api.Op{Kind: api.Create, Path: "/a/q", Turns: true})
	if r.Err != api.ErrTurn || !slices.Equal(k, []api.Node{at("/"), {Path: "/a", Turn: mostTurn}}) {
		t.Errorf("%+v, %+v", k, r)
	}
}
