package part_test

import (
	"maps"
	"math/rand/v2"
	"regexp"
	"slices"
	"strconv"
	"strings"
	"testing"

	"canton/api"
	"canton/nodes"
	"canton/part"
)

// The bounds as the document says them.
const (
	mostNodes   = 512
	mostData    = 256
	mostVersion = 1 << 48
	mostTurn    = 10000
	mostOwner   = 1 << 40
	part12      = "0123456789ab"
	deep5       = "/a/b/c/d/e"
)

var (
	pathForm = regexp.MustCompile(`\A(/|(/[a-z0-9-]{1,12}){1,6})\z`)
	allKinds = []int{api.Guard, api.Put, api.Remove, api.Empty, api.Alter, api.Look, api.Read, api.Has, api.Names, api.Clear}
)

// upOf is the parent of a path, or the root if that is the path.
func upOf(p string) string {
	if end := strings.LastIndex(p, "/"); end > 0 {
		return p[:end]
	}
	return "/"
}

func lastOf(p string) string {
	return p[strings.LastIndex(p, "/")+1:]
}

// dirOf is the Dir that a part of that kind at p has.
func dirOf(kind int, p string) string {
	if kind == api.Empty || kind == api.Names || kind == api.Clear || p == "/" {
		return p
	}
	return upOf(p)
}

// made is a part of that kind at p, without anything else.
func made(kind int, p string) api.Part {
	return api.Part{Kind: kind, Path: p, Dir: dirOf(kind, p)}
}

// at is a node without anything but its path.
func at(p string) api.Node {
	return api.Node{Path: p}
}

// store is one of these nodes, and of turns told as a directory and a number.
func store(l []api.Node, turns ...api.Turn) api.Store {
	return api.Store{Nodes: l, Turns: turns}
}

// wantRight is whether a store is valid, as the document says it.
func wantRight(s api.Store) bool {
	for i, n := range s.Nodes {
		if !pathForm.MatchString(n.Path) || i > 0 && s.Nodes[i-1].Path >= n.Path || len(n.Data) > mostData || n.Turn != 0 {
			return false
		}
		if n.Version < 0 || n.Version > mostVersion || n.Owner < 0 || n.Owner > mostOwner || n.Path == "/" && n.Owner != 0 {
			return false
		}
	}
	for i, t := range s.Turns {
		if !pathForm.MatchString(t.Dir) || i > 0 && s.Turns[i-1].Dir >= t.Dir || t.Next < 1 || t.Next > mostTurn {
			return false
		}
	}
	return true
}

// wantMay is whether a part is valid, as the document says it.
func wantMay(p api.Part) bool {
	if !pathForm.MatchString(p.Path) || !slices.Contains(allKinds, p.Kind) || p.Dir != dirOf(p.Kind, p.Path) {
		return false
	}
	return len(p.Data) <= mostData && p.Version >= -1 && p.Version <= mostVersion && p.Owner >= 0 && p.Owner <= mostOwner && !(p.Kind == api.Put && p.Path == "/")
}

// wantOf is the parts of an operation that is valid, as the document says them.
func wantOf(o api.Op) []api.Part {
	d := upOf(o.Path)
	e := upOf(d)
	switch o.Kind {
	case api.Create:
		return []api.Part{{Kind: 1, Path: d, Dir: e}, {Kind: 2, Path: o.Path, Data: o.Data, Owner: o.Owner, Turns: o.Turns, Dir: d}}
	case api.Delete:
		return []api.Part{{Kind: 3, Path: o.Path, Version: o.Version, Dir: d}, {Kind: 4, Path: o.Path, Dir: o.Path}}
	case api.Set:
		return []api.Part{{Kind: 5, Path: o.Path, Data: o.Data, Version: o.Version, Dir: d}}
	case api.Check:
		return []api.Part{{Kind: 6, Path: o.Path, Version: o.Version, Dir: d}}
	case api.Get:
		return []api.Part{{Kind: 7, Path: o.Path, Dir: d}}
	case api.List:
		return []api.Part{{Kind: 8, Path: o.Path, Dir: d}, {Kind: 9, Path: o.Path, Dir: o.Path}}
	}
	return []api.Part{{Kind: 8, Path: o.Path, Dir: d}, {Kind: 10, Path: o.Path, Owner: o.Owner, Dir: o.Path}}
}

// plain is a store as maps.
type plain struct {
	nodes map[string]api.Node
	turns map[string]int64
}

func plainOf(s api.Store) plain {
	m := plain{map[string]api.Node{}, map[string]int64{}}
	for _, n := range s.Nodes {
		m.nodes[n.Path] = n
	}
	for _, t := range s.Turns {
		m.turns[t.Dir] = t.Next
	}
	return m
}

func (m plain) store() api.Store {
	var s api.Store
	for _, p := range slices.Sorted(maps.Keys(m.nodes)) {
		s.Nodes = append(s.Nodes, m.nodes[p])
	}
	for _, dir := range slices.Sorted(maps.Keys(m.turns)) {
		if m.turns[dir] != 0 {
			s.Turns = append(s.Turns, api.Turn{Dir: dir, Next: m.turns[dir]})
		}
	}
	return s
}

// in is the last parts of all that lies in p and that the owner owns (any, if that is below 0).
func (m plain) in(p string, owner int64) []string {
	var names []string
	for q, n := range m.nodes {
		if q != "/" && upOf(q) == p && (owner < 0 || n.Owner == owner) {
			names = append(names, lastOf(q))
		}
	}
	slices.Sort(names)
	return names
}

// wantDo is a plain reading of G2.
func wantDo(s api.Store, p api.Part) (api.Store, api.Result) {
	if !wantRight(s) || !wantMay(p) {
		return api.Store{}, api.Result{Err: api.ErrArg}
	}
	m := plainOf(s)
	r := m.do(p)
	if r.Err != api.OK {
		return s, api.Result{Err: r.Err}
	}
	return m.store(), r
}

func (m plain) do(p api.Part) api.Result {
	switch p.Kind {
	case api.Put:
		return m.put(p)
	case api.Empty:
		if len(m.in(p.Path, -1)) > 0 {
			return api.Result{Err: api.ErrFilled}
		}
		m.turns[p.Path] = 0
		return api.Result{}
	case api.Names:
		return api.Result{Names: m.in(p.Path, -1)}
	case api.Clear:
		names := m.in(p.Path, p.Owner)
		for _, name := range names {
			delete(m.nodes, strings.TrimSuffix(p.Path, "/")+"/"+name)
		}
		return api.Result{Names: names}
	}
	n, there := m.nodes[p.Path]
	if !there {
		return api.Result{Err: api.ErrNone}
	}
	return m.doAt(n, p)
}

// doAt is do of those parts for which the node must be there.
func (m plain) doAt(n api.Node, p api.Part) api.Result {
	versioned := p.Kind == api.Remove || p.Kind == api.Alter || p.Kind == api.Look
	switch {
	case versioned && p.Version >= 0 && p.Version != n.Version:
		return api.Result{Err: api.ErrVersion}
	case p.Kind == api.Guard && n.Owner != 0:
		return api.Result{Err: api.ErrOwned}
	case p.Kind == api.Alter && n.Version == mostVersion:
		return api.Result{Err: api.ErrTooMany}
	case p.Kind == api.Remove:
		delete(m.nodes, p.Path)
	case p.Kind == api.Alter:
		n.Data, n.Version = p.Data, n.Version+1
		m.nodes[p.Path] = n
		return api.Result{Version: n.Version}
	case p.Kind == api.Look:
		return api.Result{Version: n.Version}
	case p.Kind == api.Read:
		return api.Result{Data: n.Data, Version: n.Version}
	}
	return api.Result{}
}

func (m plain) put(p api.Part) api.Result {
	up, to := upOf(p.Path), p.Path
	if p.Turns {
		digits := strconv.FormatInt(m.turns[up], 10)
		to += strings.Repeat("0", max(0, 4-len(digits))) + digits
		if m.turns[up] > 9999 || !pathForm.MatchString(to) {
			return api.Result{Err: api.ErrTurn}
		}
	}
	if _, there := m.nodes[to]; there {
		return api.Result{Err: api.ErrThere}
	}
	if p.Turns {
		m.turns[up]++
	}
	m.nodes[to] = api.Node{Path: to, Data: p.Data, Owner: p.Owner}
	return api.Result{Path: to}
}

// wantTree is a plain reading of what Tree says.
func wantTree(l []api.Store) ([]api.Node, bool) {
	m := map[string]api.Node{}
	for _, s := range l {
		if !wantRight(s) {
			return nil, false
		}
		for _, n := range s.Nodes {
			if _, there := m[n.Path]; there {
				return nil, false
			}
			m[n.Path] = n
		}
	}
	for _, s := range l {
		for _, t := range s.Turns {
			n, there := m[t.Dir]
			if !there || n.Turn != 0 {
				return nil, false
			}
			n.Turn = t.Next
			m[t.Dir] = n
		}
	}
	var all []api.Node
	for _, p := range slices.Sorted(maps.Keys(m)) {
		all = append(all, m[p])
	}
	if !nodes.Right(all) {
		return nil, false
	}
	return all, true
}

func alike(r api.Result, s api.Result) bool {
	return r.Err == s.Err && r.Path == s.Path && r.Data == s.Data && r.Version == s.Version && slices.Equal(r.Names, s.Names)
}

func same(s api.Store, u api.Store) bool {
	return slices.Equal(s.Nodes, u.Nodes) && slices.Equal(s.Turns, u.Turns)
}

func clone(s api.Store) api.Store {
	return api.Store{Nodes: slices.Clone(s.Nodes), Turns: slices.Clone(s.Turns)}
}

// agree executes a part, holds it against the plain reading, and returns what came of it.
func agree(t *testing.T, s api.Store, p api.Part) (api.Store, api.Result) {
	t.Helper()
	was := clone(s)
	want, wantResult := wantDo(was, p)
	got, r := part.Do(s, p)
	if !same(got, want) || !alike(r, wantResult) {
		t.Fatalf("%+v on %+v: %+v, %+v; want %+v, %+v", p, s, got, r, want, wantResult)
	}
	if !same(s, was) {
		t.Fatalf("%+v: the argument %+v became %+v", p, was, s)
	}
	return got, r
}

// step is a part, its result, and the store behind it.
type step struct {
	p api.Part
	r api.Result
	s api.Store
}

// follow executes parts, each on what came of the one before. Their Dirs are filled in.
func follow(t *testing.T, s api.Store, steps []step) {
	t.Helper()
	for i, c := range steps {
		c.p.Dir = dirOf(c.p.Kind, c.p.Path)
		next, r := agree(t, s, c.p)
		if !alike(r, c.r) || !same(next, c.s) {
			t.Fatalf("%d: %+v on %+v: %+v, %+v; want %+v, %+v", i, c.p, s, next, r, c.s, c.r)
		}
		s = next
	}
}

// somePaths is paths whose order is not that of their parts, those at the edges, and some that are none.
func somePaths() []string {
	return []string{"/", "/a", "/a-", "/a-/x", "/a/a", "/a/b", "/a/b/c", "/a/b0000", "/a0", "/b", "/b/a", "/q", "/q0000", "/q0001", "/o", "/o/x", "/" + part12, "/12345678", "/123456789", deep5, deep5 + "/f", deep5 + "/f/g", "", "a", "/a/", "/A", "/" + part12 + "c"}
}

// someTrees is trees in which each of the errors can be met.
func someTrees() [][]api.Node {
	return [][]api.Node{
		{at("/")},
		{{Path: "/", Data: "r", Version: 3, Turn: 1}, at("/a"), at("/a-"), {Path: "/a-/x", Owner: 1}, {Path: "/a/b", Version: 1, Owner: 1}, {Path: "/a0", Owner: 2}, {Path: "/b", Turn: 7}, {Path: "/b/a", Data: "x"}},
		{{Path: "/", Turn: 9999}, {Path: "/o", Owner: mostOwner, Version: mostVersion}, {Path: "/q", Version: mostVersion}, at("/q0000")},
		{{Path: "/", Turn: mostTurn, Version: mostVersion}, {Path: "/a", Version: mostVersion - 1, Turn: 3}, {Path: "/q", Owner: 1}, {Path: "/q0000", Owner: 2}, {Path: "/q0001", Owner: 1}},
		{at("/"), at("/a"), at("/a/b"), at("/a/b/c"), at("/a/b/c/d"), {Path: deep5, Turn: 12}, {Path: deep5 + "/f", Owner: 1}},
		{at("/"), {Path: "/a", Turn: 9998}, {Path: "/a/b0000"}, {Path: "/a/b9999", Owner: 1}, at("/q0000")},
	}
}

// someStores is those of some trees, and others that are valid, though no part of a tree.
func someStores() []api.Store {
	l := []api.Store{
		{},
		store(nil, api.Turn{Dir: "/", Next: 1}, api.Turn{Dir: "/a", Next: mostTurn}, api.Turn{Dir: deep5 + "/f", Next: 1}),
		store([]api.Node{{Path: "/a/b", Owner: 1}, {Path: "/a/b/c", Data: "x", Version: 2}}, api.Turn{Dir: "/a/b", Next: 5}, api.Turn{Dir: "/q", Next: 9999}),
		store([]api.Node{{Path: "/a", Owner: 2}, {Path: "/a/a", Owner: 1}, at("/a/b0000"), at("/q/q/q")}, api.Turn{Dir: "/a", Next: 2}),
	}
	for _, tree := range someTrees() {
		l = append(l, part.Keep(tree))
	}
	return l
}

// someParts is valid parts of all kinds at a path, and some that are not valid there.
func someParts(p string) []api.Part {
	l := []api.Part{made(0, p), made(11, p)}
	for _, kind := range allKinds {
		for _, version := range []int64{-2, -1, 0, 1, 2, mostVersion - 1, mostVersion, mostVersion + 1} {
			o := made(kind, p)
			o.Version, o.Data = version, "new"
			l = append(l, o)
		}
		for _, owner := range []int64{-1, 0, 1, 2, mostOwner, mostOwner + 1} {
			for _, turns := range []bool{false, true} {
				o := made(kind, p)
				o.Owner, o.Turns = owner, turns
				l = append(l, o)
			}
		}
		l = append(l, api.Part{Kind: kind, Path: p, Dir: "/a"}, api.Part{Kind: kind, Path: p, Dir: "/"}, api.Part{Kind: kind, Path: p})
	}
	return l
}

// someOps is valid operations of all kinds on a path, and some that are not valid there.
func someOps(p string) []api.Op {
	l := []api.Op{{Kind: api.Get, Path: p}, {Kind: api.List, Path: p}, {Path: p}, {Kind: 8, Path: p}}
	for _, v := range []int64{-2, -1, 0, 1, mostVersion - 1, mostVersion, mostVersion + 1} {
		l = append(l, api.Op{Kind: api.Delete, Path: p, Version: v}, api.Op{Kind: api.Set, Path: p, Data: "new", Version: v}, api.Op{Kind: api.Check, Path: p, Version: v})
	}
	for _, owner := range []int64{-1, 0, 1, 2, mostOwner, mostOwner + 1} {
		l = append(l, api.Op{Kind: api.Sweep, Path: p, Owner: owner})
		for _, turns := range []bool{false, true} {
			l = append(l, api.Op{Kind: api.Create, Path: p, Data: "made", Owner: owner, Turns: turns})
		}
	}
	return l
}

// full is a tree of n nodes: the root, and all others in it.
func full(n int) []api.Node {
	l := nodes.New()
	for i := range n - 1 {
		l = append(l, at("/n"+strconv.Itoa(1000+i)))
	}
	return l
}

// P7.1 (G1): Right, May and Of.

func TestRightNamedEdges(t *testing.T) {
	for i, s := range append(someStores(),
		store([]api.Node{{Path: "/", Data: strings.Repeat("x", mostData), Version: mostVersion}}),
		store([]api.Node{{Path: "/a", Data: strings.Repeat("\xff", mostData), Version: mostVersion, Owner: mostOwner}}),
		store([]api.Node{at("/a/b/c")}),
		store([]api.Node{at("/a"), at("/a-"), at("/a-/b"), at("/a/b"), at("/a0")}),
		store([]api.Node{at(deep5 + "/f")}, api.Turn{Dir: deep5 + "/f", Next: mostTurn}),
		store([]api.Node{at("/" + part12)}, api.Turn{Dir: "/" + part12, Next: 1}),
		store([]api.Node{{Path: "/a", Owner: 1}, at("/a/b")}),
		store([]api.Node{{Path: "/a", Owner: 1}}, api.Turn{Dir: "/a", Next: 1}),
		store(nil, api.Turn{Dir: "/a", Next: 1}, api.Turn{Dir: "/a-", Next: 1}, api.Turn{Dir: "/a/b", Next: 1}),
		store(full(mostNodes+1)),
	) {
		if !part.Right(s) || !wantRight(s) {
			t.Errorf("%d: refused", i)
		}
	}
	for i, s := range []api.Store{
		store([]api.Node{at("")}),
		store([]api.Node{at("a")}),
		store([]api.Node{at("/a/")}),
		store([]api.Node{at("/A")}),
		store([]api.Node{at("/" + part12 + "c")}),
		store([]api.Node{at(deep5 + "/f/g")}),
		store([]api.Node{at("/a"), at("/a")}),
		store([]api.Node{at("/b"), at("/a")}),
		store([]api.Node{at("/a/b"), at("/a-")}),
		store([]api.Node{at("/a"), at("/")}),
		store([]api.Node{{Path: "/a", Data: strings.Repeat("x", mostData+1)}}),
		store([]api.Node{{Path: "/a", Version: -1}}),
		store([]api.Node{{Path: "/a", Version: mostVersion + 1}}),
		store([]api.Node{{Path: "/a", Owner: -1}}),
		store([]api.Node{{Path: "/a", Owner: mostOwner + 1}}),
		store([]api.Node{{Path: "/a", Turn: 1}}),
		store([]api.Node{{Path: "/a", Turn: -1}}),
		store([]api.Node{at("/"), {Path: "/a", Turn: 1}}),
		store(nil, api.Turn{Next: 1}),
		store(nil, api.Turn{Dir: "a", Next: 1}),
		store(nil, api.Turn{Dir: "/a/", Next: 1}),
		store(nil, api.Turn{Dir: deep5 + "/f/g", Next: 1}),
		store(nil, api.Turn{Dir: "/a"}),
		store(nil, api.Turn{Dir: "/a", Next: -1}),
		store(nil, api.Turn{Dir: "/a", Next: mostTurn + 1}),
		store(nil, api.Turn{Dir: "/a", Next: 1}, api.Turn{Dir: "/a", Next: 1}),
		store(nil, api.Turn{Dir: "/b", Next: 1}, api.Turn{Dir: "/a", Next: 2}),
		store(nil, api.Turn{Dir: "/a/b", Next: 1}, api.Turn{Dir: "/a-", Next: 1}),
		store(nil, api.Turn{Dir: "/a", Next: 1}, api.Turn{Dir: "/", Next: 1}),
	} {
		if part.Right(s) || wantRight(s) {
			t.Errorf("%d: %+v is taken for a store", i, s)
		}
	}
}

// A tree's root is nobody's: so it is in a store.
func TestRightOfTheRoot(t *testing.T) {
	for _, owner := range []int64{0, 1, mostOwner} {
		if got := part.Right(store([]api.Node{{Path: "/", Owner: owner}})); got != (owner == 0) {
			t.Errorf("a root of the owner %d: %v", owner, got)
		}
	}
}

// TestRightOfChangedStores changes one field of one element of a store, leaves one out, or swaps two.
func TestRightOfChangedStores(t *testing.T) {
	numbers := []int64{-1 << 63, -1, 0, 1, 9999, mostTurn, mostTurn + 1, mostOwner, mostOwner + 1, mostVersion, mostVersion + 1, 1<<63 - 1}
	right := 0
	for _, whole := range someStores() {
		var changed []api.Store
		change := func(do func(s api.Store)) {
			s := clone(whole)
			do(s)
			changed = append(changed, s)
		}
		for i, n := range whole.Nodes {
			for _, v := range numbers {
				change(func(s api.Store) { s.Nodes[i].Version = v })
				change(func(s api.Store) { s.Nodes[i].Turn = v })
				if n.Path != "/" {
					change(func(s api.Store) { s.Nodes[i].Owner = v })
				}
			}
			for _, size := range []int{0, 255, 256, 257, 1000} {
				change(func(s api.Store) { s.Nodes[i].Data = strings.Repeat("d", size) })
			}
			for _, p := range somePaths() {
				change(func(s api.Store) { s.Nodes[i].Path = p })
			}
			change(func(s api.Store) { s.Nodes[0], s.Nodes[i] = s.Nodes[i], s.Nodes[0] })
			changed = append(changed, store(slices.Delete(slices.Clone(whole.Nodes), i, i+1), whole.Turns...))
		}
		for i := range whole.Turns {
			for _, v := range numbers {
				change(func(s api.Store) { s.Turns[i].Next = v })
			}
			for _, p := range somePaths() {
				change(func(s api.Store) { s.Turns[i].Dir = p })
			}
			change(func(s api.Store) { s.Turns[0], s.Turns[i] = s.Turns[i], s.Turns[0] })
		}
		for _, s := range changed {
			want := wantRight(s)
			if part.Right(s) != want {
				t.Errorf("Right(%+v) = %v", s, !want)
			}
			if want {
				right++
			}
		}
	}
	if right < 100 {
		t.Errorf("%d valid stores", right)
	}
}

func TestMay(t *testing.T) {
	may := 0
	for kind := -1; kind <= 12; kind++ {
		for _, p := range []string{"/", "/a", deep5 + "/f", deep5 + "/f/g", "", "a", "/a/"} {
			for _, dir := range []string{"/", "/a", deep5, deep5 + "/f", "", "a", "/a/", p} {
				for _, size := range []int{0, mostData, mostData + 1} {
					for _, version := range []int64{-1 << 63, -2, -1, 0, mostVersion, mostVersion + 1, 1<<63 - 1} {
						for _, owner := range []int64{-1 << 63, -1, 0, mostOwner, mostOwner + 1, 1<<63 - 1} {
							o := api.Part{Kind: kind, Dir: dir, Path: p, Data: strings.Repeat("x", size), Version: version, Owner: owner, Turns: len(dir)%2 == 0}
							want := wantMay(o)
							if part.May(o) != want {
								t.Errorf("May(%+v) = %v", o, !want)
							}
							if want {
								may++
							}
						}
					}
				}
			}
		}
	}
	// Of each of the 10 kinds at each of 3 paths: 2 data, 3 versions, 2 owners. There is no Put at the root; the Dir of all other parts at the root stands twice in the list, and so does that of an Empty, a Names and a Clear elsewhere.
	if want := 12 * (9*2 + 7*2 + 3*2*2); may != want {
		t.Errorf("%d valid parts; want %d", may, want)
	}
	for _, p := range []api.Part{{}, {Path: "/a", Dir: "/"}, {Kind: 1 << 62, Path: "/a", Dir: "/"}, {Kind: -1 << 63, Path: "/a", Dir: "/"}} {
		if part.May(p) {
			t.Errorf("a part of no kind is taken for a valid one: %+v", p)
		}
	}
}

// TestMayOfDirs takes each kind with the Dir that it has, and with that of the other kinds.
func TestMayOfDirs(t *testing.T) {
	for _, kind := range allKinds {
		own := kind == api.Empty || kind == api.Names || kind == api.Clear
		if got := part.May(api.Part{Kind: kind, Path: "/a/b", Dir: "/a/b"}); got != own {
			t.Errorf("kind %d with its own path as its Dir: %v", kind, got)
		}
		if got := part.May(api.Part{Kind: kind, Path: "/a/b", Dir: "/a"}); got == own {
			t.Errorf("kind %d with the parent as its Dir: %v", kind, got)
		}
		if got := part.May(api.Part{Kind: kind, Path: "/", Dir: "/"}); got != (kind != api.Put) {
			t.Errorf("kind %d at the root: %v", kind, got)
		}
		if part.May(api.Part{Kind: kind, Path: "/a/b", Dir: "/"}) || part.May(api.Part{Kind: kind, Path: "/a/b"}) {
			t.Errorf("kind %d with a Dir that is neither", kind)
		}
	}
}

func TestOf(t *testing.T) {
	for _, c := range []struct {
		o    api.Op
		want []api.Part
	}{
		{api.Op{Kind: api.Create, Path: "/a/b"}, []api.Part{{Kind: api.Guard, Path: "/a", Dir: "/"}, {Kind: api.Put, Path: "/a/b", Dir: "/a"}}},
		{api.Op{Kind: api.Create, Path: "/a/b/c", Data: "x", Owner: 7, Turns: true}, []api.Part{{Kind: api.Guard, Path: "/a/b", Dir: "/a"}, {Kind: api.Put, Path: "/a/b/c", Data: "x", Owner: 7, Turns: true, Dir: "/a/b"}}},
		{api.Op{Kind: api.Create, Path: "/a"}, []api.Part{{Kind: api.Guard, Path: "/", Dir: "/"}, {Kind: api.Put, Path: "/a", Dir: "/"}}},
		{api.Op{Kind: api.Delete, Path: "/a/b", Version: 4}, []api.Part{{Kind: api.Remove, Path: "/a/b", Version: 4, Dir: "/a"}, {Kind: api.Empty, Path: "/a/b", Dir: "/a/b"}}},
		{api.Op{Kind: api.Delete, Path: "/a", Version: -1}, []api.Part{{Kind: api.Remove, Path: "/a", Version: -1, Dir: "/"}, {Kind: api.Empty, Path: "/a", Dir: "/a"}}},
		{api.Op{Kind: api.Set, Path: "/a/b", Data: "x", Version: 4}, []api.Part{{Kind: api.Alter, Path: "/a/b", Data: "x", Version: 4, Dir: "/a"}}},
		{api.Op{Kind: api.Set, Path: "/", Version: -1}, []api.Part{{Kind: api.Alter, Path: "/", Version: -1, Dir: "/"}}},
		{api.Op{Kind: api.Check, Path: "/a/b", Version: 4}, []api.Part{{Kind: api.Look, Path: "/a/b", Version: 4, Dir: "/a"}}},
		{api.Op{Kind: api.Check, Path: "/", Version: -1}, []api.Part{{Kind: api.Look, Path: "/", Version: -1, Dir: "/"}}},
		{api.Op{Kind: api.Get, Path: "/a/b"}, []api.Part{{Kind: api.Read, Path: "/a/b", Dir: "/a"}}},
		{api.Op{Kind: api.Get, Path: "/"}, []api.Part{{Kind: api.Read, Path: "/", Dir: "/"}}},
		{api.Op{Kind: api.List, Path: "/a/b"}, []api.Part{{Kind: api.Has, Path: "/a/b", Dir: "/a"}, {Kind: api.Names, Path: "/a/b", Dir: "/a/b"}}},
		{api.Op{Kind: api.List, Path: "/"}, []api.Part{{Kind: api.Has, Path: "/", Dir: "/"}, {Kind: api.Names, Path: "/", Dir: "/"}}},
		{api.Op{Kind: api.Sweep, Path: "/a/b", Owner: 7}, []api.Part{{Kind: api.Has, Path: "/a/b", Dir: "/a"}, {Kind: api.Clear, Path: "/a/b", Owner: 7, Dir: "/a/b"}}},
		{api.Op{Kind: api.Sweep, Path: "/", Owner: mostOwner}, []api.Part{{Kind: api.Has, Path: "/", Dir: "/"}, {Kind: api.Clear, Path: "/", Owner: mostOwner, Dir: "/"}}},
		{api.Op{}, nil},
		{api.Op{Kind: api.Create, Path: "/"}, nil},
		{api.Op{Kind: api.Delete, Path: "/"}, nil},
		{api.Op{Kind: api.Sweep, Path: "/a"}, nil},
		{api.Op{Kind: api.Get, Path: "/a", Version: 1}, nil},
		{api.Op{Kind: api.List, Path: "/a/"}, nil},
		{api.Op{Kind: 8, Path: "/a"}, nil},
	} {
		if got := part.Of(c.o); !slices.Equal(got, c.want) {
			t.Errorf("Of(%+v) = %+v; want %+v", c.o, got, c.want)
		}
	}
}

func TestOfManyOps(t *testing.T) {
	met := map[int]int{}
	for _, p := range somePaths() {
		for _, o := range someOps(p) {
			got := part.Of(o)
			if !nodes.May(o) {
				if len(got) != 0 {
					t.Errorf("Of(%+v) = %+v", o, got)
				}
				continue
			}
			if !slices.Equal(got, wantOf(o)) {
				t.Errorf("Of(%+v) = %+v; want %+v", o, got, wantOf(o))
			}
			for _, q := range got {
				if !part.May(q) {
					t.Errorf("Of(%+v): no valid part: %+v", o, q)
				}
				met[q.Kind]++
			}
		}
	}
	for _, kind := range allKinds {
		if met[kind] == 0 {
			t.Errorf("there was no part of the kind %d", kind)
		}
	}
}

// P7.1 (G2): Do, one kind after the other.

func TestGuardAndHas(t *testing.T) {
	s := store([]api.Node{at("/"), at("/a"), {Path: "/a/b", Owner: 3}, {Path: "/c", Version: 9, Data: "x"}}, api.Turn{Dir: "/", Next: 2})
	follow(t, s, []step{
		{api.Part{Kind: api.Guard, Path: "/"}, api.Result{}, s},
		{api.Part{Kind: api.Guard, Path: "/a"}, api.Result{}, s},
		{api.Part{Kind: api.Guard, Path: "/c"}, api.Result{}, s},
		{api.Part{Kind: api.Guard, Path: "/a/b"}, api.Result{Err: api.ErrOwned}, s},
		{api.Part{Kind: api.Guard, Path: "/b"}, api.Result{Err: api.ErrNone}, s},
		{api.Part{Kind: api.Guard, Path: "/a/b/c"}, api.Result{Err: api.ErrNone}, s},
		{api.Part{Kind: api.Has, Path: "/"}, api.Result{}, s},
		{api.Part{Kind: api.Has, Path: "/a/b"}, api.Result{}, s},
		{api.Part{Kind: api.Has, Path: "/c"}, api.Result{}, s},
		{api.Part{Kind: api.Has, Path: "/b"}, api.Result{Err: api.ErrNone}, s},
	})
	for _, kind := range []int{api.Guard, api.Has} {
		follow(t, api.Store{}, []step{{api.Part{Kind: kind, Path: "/"}, api.Result{Err: api.ErrNone}, api.Store{}}})
	}
}

func TestPut(t *testing.T) {
	x := api.Node{Path: "/a/x", Data: strings.Repeat("d", mostData), Owner: mostOwner}
	s := store([]api.Node{at("/a"), at("/a/b")}, api.Turn{Dir: "/a", Next: 4})
	follow(t, s, []step{
		{api.Part{Kind: api.Put, Path: "/a/b"}, api.Result{Err: api.ErrThere}, s},
		{api.Part{Kind: api.Put, Path: "/a"}, api.Result{Err: api.ErrThere}, s},
		{api.Part{Kind: api.Put, Path: "/a/x", Data: x.Data, Owner: mostOwner, Version: 5}, api.Result{Path: "/a/x"}, store([]api.Node{at("/a"), at("/a/b"), x}, s.Turns...)},
		// Whether the parent is there, and whose it is, is not asked here.
		{api.Part{Kind: api.Put, Path: "/a/x/y"}, api.Result{Path: "/a/x/y"}, store([]api.Node{at("/a"), at("/a/b"), x, at("/a/x/y")}, s.Turns...)},
		{api.Part{Kind: api.Put, Path: "/0/y"}, api.Result{Path: "/0/y"}, store([]api.Node{at("/0/y"), at("/a"), at("/a/b"), x, at("/a/x/y")}, s.Turns...)},
		{api.Part{Kind: api.Put, Path: "/a-"}, api.Result{Path: "/a-"}, store([]api.Node{at("/0/y"), at("/a"), at("/a-"), at("/a/b"), x, at("/a/x/y")}, s.Turns...)},
	})
}

func TestPutByTurns(t *testing.T) {
	turns := func(b int64, root int64) []api.Turn {
		l := []api.Turn{{Dir: "/", Next: root}, {Dir: "/a", Next: 41}, {Dir: "/b", Next: b}, {Dir: "/c", Next: 1}}
		return slices.DeleteFunc(l, func(t api.Turn) bool { return t.Next == 0 })
	}
	first := []api.Node{at("/b/q0000")}
	second := []api.Node{at("/b/q0000"), {Path: "/b/q0001", Data: "x", Owner: 3}}
	third := append([]api.Node{at("/b/p0002")}, second...)
	follow(t, store(nil, turns(0, 0)...), []step{
		{api.Part{Kind: api.Put, Path: "/b/q", Turns: true}, api.Result{Path: "/b/q0000"}, store(first, turns(1, 0)...)},
		{api.Part{Kind: api.Put, Path: "/b/q", Turns: true, Data: "x", Owner: 3}, api.Result{Path: "/b/q0001"}, store(second, turns(2, 0)...)},
		{api.Part{Kind: api.Put, Path: "/b/p", Turns: true}, api.Result{Path: "/b/p0002"}, store(third, turns(3, 0)...)},
		{api.Part{Kind: api.Put, Path: "/b/q0001"}, api.Result{Err: api.ErrThere}, store(third, turns(3, 0)...)},
		{api.Part{Kind: api.Put, Path: "/a", Turns: true}, api.Result{Path: "/a0000"}, store(append([]api.Node{at("/a0000")}, third...), turns(3, 1)...)},
		{api.Part{Kind: api.Remove, Path: "/a0000"}, api.Result{}, store(third, turns(3, 1)...)},
		{api.Part{Kind: api.Put, Path: "/a", Turns: true}, api.Result{Path: "/a0001"}, store(append([]api.Node{at("/a0001")}, third...), turns(3, 2)...)},
	})
}

// The numbered path is the one that counts: whether it is there, and where it comes to.
func TestPutByTurnsAtItsNumberedPath(t *testing.T) {
	taken := store([]api.Node{at("/q"), at("/q0041")}, api.Turn{Dir: "/", Next: 41})
	follow(t, taken, []step{
		{api.Part{Kind: api.Put, Path: "/q", Turns: true}, api.Result{Err: api.ErrThere}, taken},
		{api.Part{Kind: api.Put, Path: "/p", Turns: true}, api.Result{Path: "/p0041"}, store([]api.Node{at("/p0041"), at("/q"), at("/q0041")}, api.Turn{Dir: "/", Next: 42})},
		{api.Part{Kind: api.Put, Path: "/q", Turns: true}, api.Result{Path: "/q0042"}, store([]api.Node{at("/p0041"), at("/q"), at("/q0041"), at("/q0042")}, api.Turn{Dir: "/", Next: 43})},
	})
}

func TestPutByTurnsAtTheEdges(t *testing.T) {
	last := store(nil, api.Turn{Dir: "/a", Next: 9999})
	over := store([]api.Node{at("/a/q9999")}, api.Turn{Dir: "/a", Next: 10000})
	follow(t, last, []step{
		{api.Part{Kind: api.Put, Path: "/a/123456789", Turns: true}, api.Result{Err: api.ErrTurn}, last},
		{api.Part{Kind: api.Put, Path: "/a/q", Turns: true}, api.Result{Path: "/a/q9999"}, over},
		{api.Part{Kind: api.Put, Path: "/a/q", Turns: true}, api.Result{Err: api.ErrTurn}, over},
		{api.Part{Kind: api.Put, Path: "/a/q"}, api.Result{Path: "/a/q"}, store([]api.Node{at("/a/q"), at("/a/q9999")}, over.Turns...)},
	})
	follow(t, api.Store{}, []step{{api.Part{Kind: api.Put, Path: "/12345678", Turns: true}, api.Result{Path: "/123456780000"}, store([]api.Node{at("/123456780000")}, api.Turn{Dir: "/", Next: 1})}})
	follow(t, api.Store{}, []step{{api.Part{Kind: api.Put, Path: deep5 + "/f", Turns: true}, api.Result{Path: deep5 + "/f0000"}, store([]api.Node{at(deep5 + "/f0000")}, api.Turn{Dir: deep5, Next: 1})}})
}

func TestRemoveAndEmpty(t *testing.T) {
	l := []api.Node{at("/"), at("/a"), {Path: "/a/b", Version: 2}, {Path: "/a/c", Owner: 9, Version: 1}, at("/ab")}
	turns := []api.Turn{{Dir: "/", Next: 1}, {Dir: "/a", Next: 5}, {Dir: "/a/b", Next: 6}}
	s := store(l, turns...)
	follow(t, s, []step{
		{api.Part{Kind: api.Remove, Path: "/a/b", Version: 1}, api.Result{Err: api.ErrVersion}, s},
		{api.Part{Kind: api.Remove, Path: "/a/d", Version: -1}, api.Result{Err: api.ErrNone}, s},
		{api.Part{Kind: api.Empty, Path: "/a"}, api.Result{Err: api.ErrFilled}, s},
		{api.Part{Kind: api.Empty, Path: "/"}, api.Result{Err: api.ErrFilled}, s},
		// What lies in a node stays when it goes, and so do its turn and that of its parent.
		{api.Part{Kind: api.Remove, Path: "/a", Version: 0}, api.Result{}, store([]api.Node{l[0], l[2], l[3], l[4]}, turns...)},
		{api.Part{Kind: api.Remove, Path: "/a/b", Version: 2}, api.Result{}, store([]api.Node{l[0], l[3], l[4]}, turns...)},
		{api.Part{Kind: api.Empty, Path: "/a/b"}, api.Result{}, store([]api.Node{l[0], l[3], l[4]}, turns[0], turns[1])},
		{api.Part{Kind: api.Empty, Path: "/a"}, api.Result{Err: api.ErrFilled}, store([]api.Node{l[0], l[3], l[4]}, turns[0], turns[1])},
		{api.Part{Kind: api.Remove, Path: "/a/c", Version: -1}, api.Result{}, store([]api.Node{l[0], l[4]}, turns[0], turns[1])},
		{api.Part{Kind: api.Empty, Path: "/a"}, api.Result{}, store([]api.Node{l[0], l[4]}, turns[0])},
		{api.Part{Kind: api.Empty, Path: "/a"}, api.Result{}, store([]api.Node{l[0], l[4]}, turns[0])},
		{api.Part{Kind: api.Empty, Path: "/z"}, api.Result{}, store([]api.Node{l[0], l[4]}, turns[0])},
		{api.Part{Kind: api.Remove, Path: "/ab"}, api.Result{}, store([]api.Node{l[0]}, turns[0])},
		// The root lies in nothing, itself included.
		{api.Part{Kind: api.Empty, Path: "/"}, api.Result{}, store([]api.Node{l[0]})},
		{api.Part{Kind: api.Remove, Path: "/"}, api.Result{}, api.Store{}},
		{api.Part{Kind: api.Remove, Path: "/"}, api.Result{Err: api.ErrNone}, api.Store{}},
	})
	below := store([]api.Node{at("/a/b/c"), at("/ab")}, api.Turn{Dir: "/a", Next: 1})
	follow(t, below, []step{{api.Part{Kind: api.Empty, Path: "/a"}, api.Result{}, store(below.Nodes)}})
}

func TestAlterLookAndRead(t *testing.T) {
	s := func(data string, version int64) api.Store {
		return store([]api.Node{{Path: "/a", Data: data, Version: version, Owner: 2}, {Path: "/b", Version: 8}}, api.Turn{Dir: "/a", Next: 5})
	}
	follow(t, s("x", 0), []step{
		{api.Part{Kind: api.Alter, Path: "/c", Version: -1}, api.Result{Err: api.ErrNone}, s("x", 0)},
		{api.Part{Kind: api.Look, Path: "/c", Version: -1}, api.Result{Err: api.ErrNone}, s("x", 0)},
		{api.Part{Kind: api.Read, Path: "/c"}, api.Result{Err: api.ErrNone}, s("x", 0)},
		{api.Part{Kind: api.Alter, Path: "/a", Data: "y", Owner: 7}, api.Result{Version: 1}, s("y", 1)},
		{api.Part{Kind: api.Alter, Path: "/a", Data: "z"}, api.Result{Err: api.ErrVersion}, s("y", 1)},
		{api.Part{Kind: api.Look, Path: "/a"}, api.Result{Err: api.ErrVersion}, s("y", 1)},
		{api.Part{Kind: api.Look, Path: "/a", Version: 1}, api.Result{Version: 1}, s("y", 1)},
		{api.Part{Kind: api.Read, Path: "/a"}, api.Result{Data: "y", Version: 1}, s("y", 1)},
		{api.Part{Kind: api.Alter, Path: "/a", Version: -1}, api.Result{Version: 2}, s("", 2)},
		{api.Part{Kind: api.Alter, Path: "/a", Data: strings.Repeat("d", mostData), Version: 2}, api.Result{Version: 3}, s(strings.Repeat("d", mostData), 3)},
		{api.Part{Kind: api.Look, Path: "/a", Version: -1}, api.Result{Version: 3}, s(strings.Repeat("d", mostData), 3)},
		// A Read asks for no version, whatever stands in its part.
		{api.Part{Kind: api.Read, Path: "/a", Version: 99}, api.Result{Data: strings.Repeat("d", mostData), Version: 3}, s(strings.Repeat("d", mostData), 3)},
		{api.Part{Kind: api.Look, Path: "/b", Version: 8}, api.Result{Version: 8}, s(strings.Repeat("d", mostData), 3)},
	})
}

func TestAlterAtTheGreatestVersion(t *testing.T) {
	s := func(version int64) api.Store { return store([]api.Node{{Path: "/", Version: version}}) }
	follow(t, s(mostVersion-1), []step{
		{api.Part{Kind: api.Alter, Path: "/", Version: mostVersion - 1}, api.Result{Version: mostVersion}, s(mostVersion)},
		{api.Part{Kind: api.Alter, Path: "/", Version: mostVersion}, api.Result{Err: api.ErrTooMany}, s(mostVersion)},
		{api.Part{Kind: api.Alter, Path: "/", Version: -1}, api.Result{Err: api.ErrTooMany}, s(mostVersion)},
		{api.Part{Kind: api.Alter, Path: "/", Version: 5}, api.Result{Err: api.ErrVersion}, s(mostVersion)},
		{api.Part{Kind: api.Look, Path: "/", Version: mostVersion}, api.Result{Version: mostVersion}, s(mostVersion)},
	})
}

func TestNamesAndClear(t *testing.T) {
	l := []api.Node{at("/"), at("/a"), {Path: "/a-", Owner: 1}, at("/a/0"), {Path: "/a/0/x", Owner: 1}, {Path: "/a/b", Owner: 1}, {Path: "/a/c", Owner: 2}, {Path: "/a/d", Owner: 1}, at("/b")}
	turns := []api.Turn{{Dir: "/a", Next: 3}, {Dir: "/a/b", Next: 4}}
	s, behind := store(l, turns...), store(slices.DeleteFunc(slices.Clone(l), func(n api.Node) bool { return n.Path == "/a/b" || n.Path == "/a/d" }), turns...)
	follow(t, s, []step{
		{api.Part{Kind: api.Names, Path: "/"}, api.Result{Names: []string{"a", "a-", "b"}}, s},
		{api.Part{Kind: api.Names, Path: "/a"}, api.Result{Names: []string{"0", "b", "c", "d"}}, s},
		{api.Part{Kind: api.Names, Path: "/a/0"}, api.Result{Names: []string{"x"}}, s},
		{api.Part{Kind: api.Names, Path: "/b"}, api.Result{}, s},
		// Whether the node itself is there is not asked here.
		{api.Part{Kind: api.Names, Path: "/c"}, api.Result{}, s},
		{api.Part{Kind: api.Clear, Path: "/c", Owner: 1}, api.Result{}, s},
		{api.Part{Kind: api.Clear, Path: "/a", Owner: 3}, api.Result{}, s},
		{api.Part{Kind: api.Clear, Path: "/a-", Owner: 1}, api.Result{}, s},
		{api.Part{Kind: api.Clear, Path: "/a", Owner: 1}, api.Result{Names: []string{"b", "d"}}, behind},
		{api.Part{Kind: api.Clear, Path: "/a", Owner: 1}, api.Result{}, behind},
		{api.Part{Kind: api.Names, Path: "/a"}, api.Result{Names: []string{"0", "c"}}, behind},
		// Nobody is an owner like others, and the root lies in nothing.
		{api.Part{Kind: api.Clear, Path: "/"}, api.Result{Names: []string{"a", "b"}}, store([]api.Node{l[0], l[2], l[3], l[4], l[6]}, turns...)},
		{api.Part{Kind: api.Names, Path: "/"}, api.Result{Names: []string{"a-"}}, store([]api.Node{l[0], l[2], l[3], l[4], l[6]}, turns...)},
		{api.Part{Kind: api.Names, Path: "/a"}, api.Result{Names: []string{"0", "c"}}, store([]api.Node{l[0], l[2], l[3], l[4], l[6]}, turns...)},
	})
}

// A store has no bound of its own: how many nodes there may be is asked of the tree alone.
func TestMoreNodesThanATreeHas(t *testing.T) {
	s := part.Keep(full(mostNodes))
	if l, ok := part.Tree([]api.Store{s}); !ok || len(l) != mostNodes {
		t.Errorf("%d nodes, %v", len(l), ok)
	}
	more, r := agree(t, s, made(api.Put, "/z"))
	if r.Err != api.OK || len(more.Nodes) != mostNodes+1 {
		t.Errorf("%d nodes, error %d", len(more.Nodes), r.Err)
	}
	if l, ok := part.Tree([]api.Store{more}); ok || l != nil {
		t.Errorf("%d nodes, %v", len(l), ok)
	}
	if _, r := agree(t, more, made(api.Names, "/")); len(r.Names) != mostNodes {
		t.Errorf("%d names", len(r.Names))
	}
}

// P2: if several errors apply, the first one of the document's is returned.
func TestFirstError(t *testing.T) {
	stuck := store([]api.Node{{Path: "/123456789", Version: mostVersion}, {Path: "/a", Version: 1}}, api.Turn{Dir: "/", Next: mostTurn})
	wrong := store([]api.Node{{Path: "/a", Turn: 1}})
	for i, c := range []struct {
		s    api.Store
		p    api.Part
		want api.Errno
	}{
		{wrong, made(api.Has, "/a"), api.ErrArg},
		{wrong, made(api.Has, "/b"), api.ErrArg},
		{wrong, api.Part{}, api.ErrArg},
		{stuck, api.Part{Kind: api.Has, Path: "/b", Dir: "/b"}, api.ErrArg},
		{stuck, api.Part{Kind: api.Put, Path: "/123456789", Dir: "/", Turns: true}, api.ErrTurn},
		{stuck, api.Part{Kind: api.Put, Path: "/a", Dir: "/", Turns: true}, api.ErrTurn},
		{stuck, api.Part{Kind: api.Remove, Path: "/b", Dir: "/", Version: 2}, api.ErrNone},
		{stuck, api.Part{Kind: api.Look, Path: "/b", Dir: "/", Version: 2}, api.ErrNone},
		{stuck, api.Part{Kind: api.Alter, Path: "/b", Dir: "/", Version: 2}, api.ErrNone},
		{stuck, api.Part{Kind: api.Alter, Path: "/123456789", Dir: "/", Version: 2}, api.ErrVersion},
		{stuck, api.Part{Kind: api.Alter, Path: "/123456789", Dir: "/", Version: mostVersion}, api.ErrTooMany},
	} {
		if _, r := agree(t, c.s, c.p); r.Err != c.want {
			t.Errorf("%d: error %d; want %d", i, r.Err, c.want)
		}
	}
}

func TestAllPartsOnSomeStores(t *testing.T) {
	met := map[[2]int]int{}
	for _, s := range someStores() {
		for _, p := range somePaths() {
			for _, o := range someParts(p) {
				_, r := agree(t, s, o)
				met[[2]int{o.Kind, int(r.Err)}]++
			}
		}
	}
	errs := map[int][]api.Errno{
		api.Guard: {api.ErrNone, api.ErrOwned}, api.Put: {api.ErrTurn, api.ErrThere}, api.Remove: {api.ErrNone, api.ErrVersion},
		api.Empty: {api.ErrFilled}, api.Alter: {api.ErrNone, api.ErrVersion, api.ErrTooMany}, api.Look: {api.ErrNone, api.ErrVersion},
		api.Read: {api.ErrNone}, api.Has: {api.ErrNone}, api.Names: {}, api.Clear: {},
	}
	for _, kind := range allKinds {
		for _, err := range append(errs[kind], api.OK, api.ErrArg) {
			if met[[2]int{kind, int(err)}] == 0 {
				t.Errorf("kind %d never answered %d", kind, err)
			}
			delete(met, [2]int{kind, int(err)})
		}
	}
	for k := range met {
		if k[0] >= api.Guard && k[0] <= api.Clear {
			t.Errorf("kind %d answered %d", k[0], k[1])
		}
	}
}

// anyPath is one of a few paths, so that it often finds something.
func anyPath(r *rand.Rand) string {
	if r.IntN(12) == 0 {
		return "/"
	}
	p := ""
	for range 1 + r.IntN(3) {
		p += "/" + []string{"a", "a-", "b", "q", "q0000", "q0001"}[r.IntN(6)]
	}
	return p
}

func TestManyParts(t *testing.T) {
	met := map[api.Errno]int{}
	for seed := range uint64(10) {
		r := rand.New(rand.NewPCG(seed, 7))
		var s api.Store
		for range 800 {
			p := made(1+r.IntN(10), anyPath(r))
			if r.IntN(5) == 0 {
				p = made(api.Put, anyPath(r))
			}
			p.Data, p.Version, p.Owner, p.Turns = strconv.Itoa(r.IntN(100)), int64(r.IntN(4))-1, int64(max(0, r.IntN(5)-2)), r.IntN(2) == 0
			next, result := agree(t, s, p)
			met[result.Err]++
			if result.Err == api.ErrArg {
				continue
			}
			if !part.Right(next) {
				t.Fatalf("%+v: no valid store: %+v", p, next)
			}
			s = next
		}
	}
	for _, err := range []api.Errno{api.OK, api.ErrArg, api.ErrThere, api.ErrNone, api.ErrVersion, api.ErrFilled, api.ErrOwned} {
		if met[err] < 20 {
			t.Errorf("error %d was met %d times", err, met[err])
		}
	}
}

// P7.1 (G3): Keep and Tree.

func TestKeep(t *testing.T) {
	for i, c := range []struct {
		l    []api.Node
		want api.Store
	}{
		{nil, api.Store{}},
		{[]api.Node{at("/")}, store([]api.Node{at("/")})},
		{[]api.Node{{Path: "/", Turn: 2}, {Path: "/a", Data: "x", Version: 3, Owner: 4}, {Path: "/b", Turn: mostTurn}, at("/c")}, store([]api.Node{at("/"), {Path: "/a", Data: "x", Version: 3, Owner: 4}, at("/b"), at("/c")}, api.Turn{Dir: "/", Next: 2}, api.Turn{Dir: "/b", Next: mostTurn})},
		// What is no tree is kept as it stands.
		{[]api.Node{{Path: "/b", Turn: -1}, {Path: "", Turn: 1 << 62}, {Path: "/b", Owner: -1}}, store([]api.Node{at("/b"), at(""), {Path: "/b", Owner: -1}}, api.Turn{Dir: "/b", Next: -1}, api.Turn{Dir: "", Next: 1 << 62})},
	} {
		if got := part.Keep(c.l); !same(got, c.want) {
			t.Errorf("%d: %+v; want %+v", i, got, c.want)
		}
	}
	for _, l := range someTrees() {
		if s := part.Keep(l); !part.Right(s) {
			t.Errorf("Keep(%+v) is no valid store: %+v", l, s)
		}
	}
}

func TestTree(t *testing.T) {
	two, three := api.Turn{Dir: "/", Next: 2}, api.Turn{Dir: "/a", Next: 3}
	whole := []api.Node{{Path: "/", Turn: 2}, {Path: "/a", Turn: 3}, {Path: "/a/b", Owner: 7, Data: "x", Version: 9}}
	rootOnly, a, b := []api.Node{at("/")}, []api.Node{at("/a")}, []api.Node{{Path: "/a/b", Owner: 7, Data: "x", Version: 9}}
	for i, l := range [][]api.Store{
		{store(slices.Concat(rootOnly, a, b), two, three)},
		{store(b), store(a), store(rootOnly, two, three)},
		{store(a, two), store(slices.Concat(rootOnly, b), three)},
		{store(nil, three), store(rootOnly), store(slices.Concat(a, b)), {}, store(nil, two)},
	} {
		if got, ok := part.Tree(l); !ok || !slices.Equal(got, whole) {
			t.Errorf("%d: %+v, %v", i, got, ok)
		}
	}
	for i, l := range [][]api.Store{
		nil,
		{},
		{{}},
		{store(a)},
		{store(rootOnly), store(b)},
		{store(rootOnly), store(rootOnly)},
		{store(slices.Concat(rootOnly, a)), store(slices.Concat(a, b))},
		{store(rootOnly, two), store(a, two)},
		{store(rootOnly, two), store(nil, api.Turn{Dir: "/", Next: 5})},
		{store(rootOnly, three)},
		{store(rootOnly, api.Turn{Dir: "/n", Next: 1})},
		{store(slices.Concat(rootOnly, a, b), api.Turn{Dir: "/a/b", Next: 1})},
		{store([]api.Node{at("/"), {Path: "/a", Owner: 1}}), store([]api.Node{at("/a/b")})},
		{store([]api.Node{at("/a"), at("/")})},
		{store([]api.Node{{Path: "/", Turn: 2}})},
		{store(rootOnly), store([]api.Node{{Path: "/a", Version: -1}})},
		{store(rootOnly), store(nil, api.Turn{Dir: "/"})},
		{store(rootOnly), store([]api.Node{at("a")})},
		{store(rootOnly), store([]api.Node{{Path: "/a", Data: strings.Repeat("x", mostData+1)}})},
	} {
		if got, ok := part.Tree(l); ok || got != nil {
			t.Errorf("%d: %+v, %v", i, got, ok)
		}
	}
}

// TestTreeOfSomeStores takes all pairs and triples of stores that are pieces of trees, and some that are not.
func TestTreeOfSomeStores(t *testing.T) {
	some := []api.Store{
		{}, store([]api.Node{at("/")}), store([]api.Node{at("/a")}), store([]api.Node{at("/"), at("/b")}, api.Turn{Dir: "/", Next: 1}), store([]api.Node{{Path: "/a", Owner: 1}}),
		store([]api.Node{at("/a/b")}, api.Turn{Dir: "/a", Next: 2}), store(nil, api.Turn{Dir: "/", Next: 3}), store(nil, api.Turn{Dir: "/a", Next: 4}, api.Turn{Dir: "/b", Next: 5}), store([]api.Node{at("/b/c"), at("/b/c/d")}), store([]api.Node{at("/b"), at("/a")}),
	}
	trees := 0
	for _, s := range some {
		for _, u := range some {
			for _, v := range some {
				l := []api.Store{s, u, v}
				want, wantOK := wantTree(l)
				got, ok := part.Tree(l)
				if ok != wantOK || !slices.Equal(got, want) {
					t.Errorf("Tree(%+v) = %+v, %v; want %+v, %v", l, got, ok, want, wantOK)
				}
				if wantOK {
					trees++
				}
			}
		}
	}
	if trees < 50 {
		t.Errorf("%d trees", trees)
	}
}
