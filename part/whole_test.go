package part_test

import (
	"math/rand/v2"
	"slices"
	"strconv"
	"strings"
	"testing"

	"canton/api"
	"canton/nodes"
	"canton/part"
)

// keeper says which of two stores keeps a directory.
type keeper func(dir string) int

func alone(string) int { return 0 }

// split is the two stores that keep a tree: a node is where the directory at its parent is, and the turn of a directory where that is.
func split(l []api.Node, k keeper) []api.Store {
	two := make([]api.Store, 2)
	for _, n := range l {
		if n.Turn != 0 {
			s := &two[k(n.Path)]
			s.Turns = append(s.Turns, api.Turn{Dir: n.Path, Next: n.Turn})
		}
		n.Turn = 0
		s := &two[k(upOf(n.Path))]
		s.Nodes = append(s.Nodes, n)
	}
	return two
}

// together is the result of an operation, out of those of its parts.
func together(l []api.Result) api.Result {
	var all api.Result
	for _, r := range l {
		all.Path += r.Path
		all.Data += r.Data
		all.Version += r.Version
		all.Names = append(all.Names, r.Names...)
	}
	return all
}

// run executes the parts of an operation up to the first error, each on the store that keeps its Dir.
func run(two []api.Store, k keeper, o api.Op) ([]api.Store, api.Result) {
	now := slices.Clone(two)
	var results []api.Result
	for _, p := range part.Of(o) {
		next, r := part.Do(now[k(p.Dir)], p)
		if r.Err != api.OK {
			return now, r
		}
		now[k(p.Dir)] = next
		results = append(results, r)
	}
	return now, together(results)
}

// wholeAgrees holds the parts of an operation, executed on the two stores of a tree, against nodes.Apply of it, and returns what came of both.
func wholeAgrees(t *testing.T, l []api.Node, two []api.Store, k keeper, o api.Op) ([]api.Node, []api.Store, api.Result) {
	t.Helper()
	want, wantResult := nodes.Apply(l, o)
	got, r := run(two, k, o)
	if !alike(r, wantResult) {
		t.Fatalf("%+v on %+v: %+v; want %+v", o, two, r, wantResult)
	}
	if r.Err == api.ErrFilled {
		// The Remove ahead of the Empty that is refused was executed: whoever executes them takes it back.
		want = slices.DeleteFunc(slices.Clone(l), func(n api.Node) bool { return n.Path == o.Path })
		if gone, _ := nodes.Find(l, o.Path); gone.Turn != 0 {
			s := &got[k(o.Path)]
			s.Turns = slices.DeleteFunc(slices.Clone(s.Turns), func(t api.Turn) bool { return t.Dir == o.Path })
		}
	}
	for i, s := range split(want, k) {
		if !same(got[i], s) {
			t.Fatalf("%+v on %+v: the store %d is %+v; want %+v", o, two, i, got[i], s)
		}
	}
	if r.Err != api.OK {
		return l, two, r
	}
	if whole, ok := part.Tree(got); !ok || !slices.Equal(whole, want) {
		t.Fatalf("%+v on %+v: the tree is %+v, %v; want %+v", o, two, whole, ok, want)
	}
	return want, got, r
}

// anyOp is an operation on a few paths, so that it often finds something.
func anyOp(r *rand.Rand) api.Op {
	p := anyPath(r)
	version := int64(r.IntN(4)) - 1
	data := strconv.Itoa(r.IntN(100))
	switch kind := 1 + r.IntN(9); kind {
	case api.Delete, api.Check:
		return api.Op{Kind: kind, Path: p, Version: version}
	case api.Set:
		return api.Op{Kind: kind, Path: p, Version: version, Data: data}
	case api.Get, api.List:
		return api.Op{Kind: kind, Path: p}
	case api.Sweep:
		return api.Op{Kind: kind, Path: p, Owner: 1 + int64(r.IntN(2))}
	}
	return api.Op{Kind: api.Create, Path: p, Data: data, Owner: int64(max(0, r.IntN(5)-2)), Turns: r.IntN(2) == 0}
}

// manyOps executes operations one after the other on a tree, and their parts on its two stores, and counts the errors.
func manyOps(t *testing.T, r *rand.Rand, k keeper, n int, met map[api.Errno]int) {
	t.Helper()
	l := nodes.New()
	two := split(l, k)
	for range n {
		o := anyOp(r)
		if !nodes.May(o) {
			continue
		}
		var result api.Result
		l, two, result = wholeAgrees(t, l, two, k, o)
		met[result.Err]++
	}
}

func allMet(t *testing.T, met map[api.Errno]int) {
	t.Helper()
	for _, err := range []api.Errno{api.OK, api.ErrThere, api.ErrNone, api.ErrVersion, api.ErrFilled, api.ErrOwned} {
		if met[err] < 10 {
			t.Errorf("error %d was met %d times", err, met[err])
		}
	}
}

// P7.2: the parts of an operation, one after the other, are the operation.

func TestWhole(t *testing.T) {
	met := map[api.Errno]int{}
	for _, l := range someTrees() {
		for _, p := range somePaths() {
			for _, o := range someOps(p) {
				if nodes.May(o) {
					_, _, r := wholeAgrees(t, l, split(l, alone), alone, o)
					met[r.Err]++
				}
			}
		}
	}
	allMet(t, met)
	if met[api.ErrTurn] == 0 || met[api.ErrTooMany] == 0 {
		t.Errorf("%d times without a number more, %d times with the greatest version", met[api.ErrTurn], met[api.ErrTooMany])
	}
}

func TestWholeOfManyOps(t *testing.T) {
	met := map[api.Errno]int{}
	for seed := range uint64(10) {
		manyOps(t, rand.New(rand.NewPCG(seed, 72)), alone, 600, met)
	}
	allMet(t, met)
}

// One node more may come while there are fewer than permitted.
func TestWholeUpToTheBound(t *testing.T) {
	l := full(mostNodes - 1)
	for _, turns := range []bool{false, true} {
		if k, _, r := wholeAgrees(t, l, split(l, alone), alone, api.Op{Kind: api.Create, Path: "/z", Turns: turns}); r.Err != api.OK || len(k) != mostNodes {
			t.Errorf("%d nodes, error %d", len(k), r.Err)
		}
	}
}

// A node that is deleted and made anew begins its numbers anew.
func TestTurnsGoWithTheirNode(t *testing.T) {
	for _, k := range []keeper{alone, func(dir string) int { return len(dir) % 2 }} {
		l := nodes.New()
		two := split(l, k)
		for i, o := range []api.Op{
			{Kind: api.Create, Path: "/a"}, {Kind: api.Create, Path: "/a/q", Turns: true}, {Kind: api.Create, Path: "/a/q", Turns: true, Owner: 1},
			{Kind: api.Delete, Path: "/a/q0000"}, {Kind: api.Sweep, Path: "/a", Owner: 1}, {Kind: api.Create, Path: "/a/q", Turns: true}, {Kind: api.Delete, Path: "/a/q0002"},
			{Kind: api.Delete, Path: "/a"}, {Kind: api.Create, Path: "/a"}, {Kind: api.Create, Path: "/a/q", Turns: true},
		} {
			var r api.Result
			if l, two, r = wholeAgrees(t, l, two, k, o); r.Err != api.OK {
				t.Fatalf("%d: error %d", i, r.Err)
			}
		}
		if n, ok := nodes.Find(l, "/a/q0000"); !ok {
			t.Errorf("%+v, %+v", n, l)
		}
	}
}

// P7.3: the same in two stores.

// byMask keeps those of the directories in the second store whose bit is set, and all others by how long they are.
func byMask(dirs []string, mask int) keeper {
	return func(dir string) int {
		if i := slices.Index(dirs, dir); i >= 0 {
			return mask >> i & 1
		}
		return len(dir) & 1
	}
}

func TestApartInAllSplits(t *testing.T) {
	l := []api.Node{{Path: "/", Turn: 1}, {Path: "/a", Turn: 9999}, {Path: "/a/b", Version: 1}, {Path: "/a/b/c", Owner: 1}, {Path: "/q", Version: mostVersion, Turn: mostTurn}, {Path: "/q/x", Owner: 2}}
	dirs := []string{"/", "/a", "/a/b", "/q", "/a/b/c"}
	met := map[api.Errno]int{}
	for mask := range 1 << len(dirs) {
		k := byMask(dirs, mask)
		for _, p := range []string{"/", "/a", "/a/b", "/a/b/c", "/a/b/d", "/a/b/c/d", "/a/q", "/q", "/q/x", "/q/y", "/z", "/z/z"} {
			for _, o := range someOps(p) {
				if nodes.May(o) {
					_, _, r := wholeAgrees(t, l, split(l, k), k, o)
					met[r.Err]++
				}
			}
		}
	}
	allMet(t, met)
}

func TestApartOnSomeTrees(t *testing.T) {
	for i, l := range someTrees() {
		var dirs []string
		for _, n := range l {
			dirs = append(dirs, n.Path)
		}
		r := rand.New(rand.NewPCG(uint64(i), 73))
		for range 8 {
			k := byMask(dirs, r.IntN(1<<len(dirs)))
			for _, p := range somePaths() {
				for _, o := range someOps(p) {
					if nodes.May(o) {
						wholeAgrees(t, l, split(l, k), k, o)
					}
				}
			}
		}
	}
}

func TestApartOfManyOps(t *testing.T) {
	met := map[api.Errno]int{}
	for seed := range uint64(10) {
		r := rand.New(rand.NewPCG(seed, 74))
		inTwo := map[string]int{}
		k := func(dir string) int {
			if _, ok := inTwo[dir]; !ok {
				inTwo[dir] = r.IntN(2)
			}
			return inTwo[dir]
		}
		manyOps(t, r, k, 600, met)
	}
	allMet(t, met)
}

// Whatever one keeper executes concerns nothing that the other keeps.
func TestApartTouchesOneDirectory(t *testing.T) {
	for _, l := range someTrees() {
		whole := part.Keep(l)
		for _, p := range somePaths() {
			for _, o := range someParts(p) {
				if !part.May(o) {
					continue
				}
				inDir := func(n api.Node) bool { return upOf(n.Path) == o.Dir }
				turnOfDir := func(t api.Turn) bool { return t.Dir == o.Dir }
				next, r := part.Do(whole, o)
				if !slices.Equal(slices.DeleteFunc(slices.Clone(whole.Nodes), inDir), slices.DeleteFunc(slices.Clone(next.Nodes), inDir)) || !slices.Equal(slices.DeleteFunc(slices.Clone(whole.Turns), turnOfDir), slices.DeleteFunc(slices.Clone(next.Turns), turnOfDir)) {
					t.Fatalf("%+v: %+v became %+v", o, whole, next)
				}
				own := store(slices.DeleteFunc(slices.Clone(whole.Nodes), func(n api.Node) bool { return !inDir(n) }), slices.DeleteFunc(slices.Clone(whole.Turns), func(t api.Turn) bool { return !turnOfDir(t) })...)
				if _, s := part.Do(own, o); !alike(r, s) {
					t.Fatalf("%+v: %+v; on its directory alone %+v", o, r, s)
				}
			}
		}
	}
}

// P7.4: Tree of Keep of a tree is that tree.

func TestThereAndBack(t *testing.T) {
	l := append(someTrees(), full(mostNodes), []api.Node{{Path: "/", Data: strings.Repeat("x", mostData), Version: mostVersion, Turn: mostTurn}, {Path: "/a", Owner: mostOwner}})
	turning := full(mostNodes)
	for i := range turning {
		turning[i].Turn = int64(i) % (mostTurn + 1)
	}
	for _, l := range append(l, turning) {
		if got, ok := part.Tree([]api.Store{part.Keep(l)}); !ok || !slices.Equal(got, l) {
			t.Errorf("%+v became %+v, %v", l, got, ok)
		}
		for _, k := range []keeper{func(dir string) int { return len(dir) & 1 }, func(dir string) int { return strings.Count(dir, "/") & 1 }} {
			two := split(l, k)
			if got, ok := part.Tree(two); !ok || !slices.Equal(got, l) {
				t.Errorf("%+v became %+v, %v", two, got, ok)
			}
		}
	}
}
