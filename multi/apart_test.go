package multi_test

import (
	"math/rand/v2"
	"slices"
	"testing"

	"canton/api"
	"canton/multi"
	"canton/nodes"
	"canton/part"
)

// keeper says which of two stores keeps a directory.
type keeper func(dir string) int

// upOf is the parent of a path, or the root if that is the path.
func upOf(p string) string {
	for i := len(p) - 1; i > 0; i-- {
		if p[i] == '/' {
			return p[:i]
		}
	}
	return "/"
}

// split is the two stores that keep a tree: a node is where the directory at its parent is, and the turn of a directory where that is.
func split(l []api.Node, k keeper) [2]api.Store {
	var two [2]api.Store
	for _, n := range l {
		if n.Turn != 0 {
			s := &two[k(n.Path)]
			s.Turns = append(s.Turns, api.Turn{Dir: n.Path, Next: n.Turn})
		}
		n.Turn = 0
		s := &two[k(upOf(n.Path))]
		s.Nodes = append(s.Nodes, n)
	}
	return two
}

// together is the results of operations, out of those of their pieces.
func together(n int, l []api.Piece, results []api.Result) []api.Result {
	all := make([]api.Result, n)
	for i, p := range l {
		r := &all[p.Op]
		r.Path += results[i].Path
		r.Data += results[i].Data
		r.Version += results[i].Version
		r.Names = append(r.Names, results[i].Names...)
	}
	return all
}

// each is what came of all pieces where they were executed: the stores, the results in the order of all pieces, and the first error with the index of its piece among all.
type each struct {
	stores  [2]api.Store
	results []api.Result
	err     api.Errno
	at      int
}

// run has each store execute its own pieces, in order, or none of them.
func run(two [2]api.Store, k keeper, l []api.Piece) each {
	e := each{results: make([]api.Result, len(l)), at: len(l)}
	for i, s := range two {
		var own []api.Piece
		var places []int
		for j, p := range l {
			if k(p.Part.Dir) == i {
				own, places = append(own, p), append(places, j)
			}
		}
		next, results, err, at := multi.All(s, own)
		if err != api.OK && places[at] < e.at {
			e.err, e.at = err, places[at]
		}
		for j, r := range results {
			e.results[places[j]] = r
		}
		e.stores[i] = next
	}
	return e
}

// apartAgrees holds the pieces of operations, executed by the two stores of a tree, against Apply of the whole, and returns what came of that.
func apartAgrees(t *testing.T, tree []api.Node, k keeper, l []api.Op) ([]api.Node, api.Done) {
	t.Helper()
	two, pieces := split(tree, k), multi.Of(l)
	want, d := multi.Apply(tree, l)
	e := run(two, k, pieces)
	if e.err != d.Err {
		t.Fatalf("%+v on %+v: error %d at the piece %d; want %+v", l, two, e.err, e.at, d)
	}
	if d.Err != api.OK {
		if pieces[e.at].Op != d.At {
			t.Fatalf("%+v on %+v: error %d at the piece %d; want %+v", l, two, e.err, e.at, d)
		}
		return want, d
	}
	if results := together(len(l), pieces, e.results); !allAlike(results, d.Results) {
		t.Fatalf("%+v on %+v: the results %+v; want %+v", l, two, results, d.Results)
	}
	for i, s := range split(want, k) {
		if !same(e.stores[i], s) {
			t.Fatalf("%+v on %+v: the store %d is %+v; want %+v", l, two, i, e.stores[i], s)
		}
	}
	if whole, ok := part.Tree(e.stores[:]); !ok || !slices.Equal(whole, want) {
		t.Fatalf("%+v on %+v: the tree %+v, %v; want %+v", l, two, whole, ok, want)
	}
	return want, d
}

// byMask keeps those of the directories in the second store whose bit is set, and all others in the first.
func byMask(dirs []string, mask int) keeper {
	return func(dir string) int {
		if i := slices.Index(dirs, dir); i >= 0 {
			return mask >> i & 1
		}
		return 0
	}
}

// P8.3: the pieces of two stores, each of which executes its own or none, are the whole.

func TestApartInAllSplits(t *testing.T) {
	dirs := []string{"/", "/a", "/a/b"}
	ops := someOps()
	for mask := range 1 << len(dirs) {
		k := byMask(dirs, mask)
		for _, tree := range someTrees() {
			for _, o := range ops {
				for _, p := range ops {
					apartAgrees(t, tree, k, []api.Op{o, p})
				}
			}
		}
	}
}

func TestApartOfManyOps(t *testing.T) {
	met := map[api.Errno]int{}
	for seed := range uint64(12) {
		r := rand.New(rand.NewPCG(seed, 84))
		inTwo := map[string]int{}
		k := func(dir string) int {
			if _, ok := inTwo[dir]; !ok {
				inTwo[dir] = r.IntN(2)
			}
			return inTwo[dir]
		}
		tree := nodes.New()
		for range 400 {
			var d api.Done
			tree, d = apartAgrees(t, tree, k, anyOps(r))
			met[d.Err]++
		}
	}
	for _, err := range []api.Errno{api.OK, api.ErrThere, api.ErrNone, api.ErrVersion, api.ErrFilled, api.ErrOwned} {
		if met[err] < 10 {
			t.Errorf("error %d was met %d times", err, met[err])
		}
	}
}

// Each of the stores has an error of its own: that of the whole is the one whose piece comes first.
func TestApartWithTwoErrors(t *testing.T) {
	tree := []api.Node{at("/"), at("/a"), {Path: "/a/b", Owner: 1}}
	k := byMask([]string{"/a"}, 1)
	upper, lower := api.Op{Kind: api.Get, Path: "/x"}, api.Op{Kind: api.Check, Path: "/a/b", Version: 1}
	for i, l := range [][]api.Op{{upper, lower}, {lower, upper}, {{Kind: api.List, Path: "/a"}, lower, upper}, {{Kind: api.Create, Path: "/x"}, upper, lower, lower}} {
		d := api.Done{Err: []api.Errno{api.ErrNone, api.ErrVersion, api.ErrVersion, api.ErrVersion}[i], At: []int{0, 0, 1, 2}[i]}
		if got, e := apartAgrees(t, tree, k, l); !sameDone(e, d) || !slices.Equal(got, tree) {
			t.Errorf("%+v: %+v; want %+v", l, e, d)
		}
	}
}

// The second piece of an operation is refused at another store than the first one.
func TestApartAtTheSecondPiece(t *testing.T) {
	tree := []api.Node{at("/"), at("/a"), at("/a/b")}
	k := byMask([]string{"/a"}, 1)
	for _, c := range []struct {
		o   api.Op
		err api.Errno
	}{{api.Op{Kind: api.Delete, Path: "/a", Version: 1}, api.ErrFilled}, {api.Op{Kind: api.Create, Path: "/a/b"}, api.ErrThere}} {
		l := []api.Op{{Kind: api.Set, Path: "/a", Data: "x", Version: -1}, {Kind: api.Check, Path: "/a", Version: 1}, c.o, {Kind: api.Get, Path: "/"}}
		if _, d := apartAgrees(t, tree, k, l); !sameDone(d, api.Done{Err: c.err, At: 2}) {
			t.Errorf("%+v: %+v", l, d)
		}
	}
}
