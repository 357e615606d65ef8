package multi_test

import (
	"math/rand/v2"
	"slices"
	"strconv"
	"strings"
	"testing"

	"canton/api"
	"canton/multi"
	"canton/nodes"
	"canton/part"
)

// The bounds as the document says them.
const (
	mostNodes   = 512
	mostOps     = 8
	mostData    = 256
	mostVersion = 1 << 48
	mostTurn    = 10000
	mostOwner   = 1 << 40
	deep6       = "/a/b/c/d/e/f"
)

// at is a node without anything but its path.
func at(p string) api.Node {
	return api.Node{Path: p}
}

// full is a tree of n nodes: the root, and all others in it.
func full(n int) []api.Node {
	l := nodes.New()
	for i := range n - 1 {
		l = append(l, at("/n"+strconv.Itoa(1000+i)))
	}
	return l
}

// someTrees is trees in which each of the errors can be met.
func someTrees() [][]api.Node {
	return [][]api.Node{
		{at("/")},
		{{Path: "/", Data: "r", Version: 3, Turn: 1}, at("/a"), at("/a-"), {Path: "/a-/x", Owner: 1}, {Path: "/a/b", Version: 1, Owner: 1}, {Path: "/a0", Owner: 2}, {Path: "/b", Turn: 7}, {Path: "/b/a", Data: "x"}},
		{{Path: "/", Turn: 9999}, {Path: "/o", Owner: mostOwner, Version: mostVersion}, {Path: "/q", Version: mostVersion}, at("/q0000")},
		{{Path: "/", Turn: mostTurn, Version: mostVersion}, {Path: "/a", Version: mostVersion - 1, Turn: 3}, {Path: "/a/b", Owner: 2}, {Path: "/q", Owner: 1}},
		{at("/"), at("/a"), at("/a/b"), at("/a/b/c"), at("/a/b/c/d"), {Path: "/a/b/c/d/e", Turn: 12}, {Path: deep6, Owner: 1}},
	}
}

// noTrees is lists of nodes that are not trees.
func noTrees() [][]api.Node {
	return [][]api.Node{
		nil,
		{},
		{at("/a")},
		{{Path: "/", Owner: 1}},
		{at("/"), at("/")},
		{at("/"), at("/b"), at("/a")},
		{at("/"), at("/a/b")},
		{at("/"), {Path: "/a", Owner: 1}, at("/a/b")},
		{{Path: "/", Data: strings.Repeat("x", mostData+1)}},
		full(mostNodes + 1),
	}
}

// someOps is operations that are valid, one of each kind at least.
func someOps() []api.Op {
	return []api.Op{
		{Kind: api.Create, Path: "/a", Data: "new"},
		{Kind: api.Create, Path: "/a/b", Owner: 2},
		{Kind: api.Create, Path: "/q", Turns: true},
		{Kind: api.Create, Path: "/a/b", Turns: true},
		{Kind: api.Create, Path: "/a/b/c", Owner: 1},
		{Kind: api.Delete, Path: "/a", Version: -1},
		{Kind: api.Delete, Path: "/a/b"},
		{Kind: api.Set, Path: "/a", Data: "set", Version: -1},
		{Kind: api.Set, Path: "/", Data: "set", Version: 3},
		{Kind: api.Check, Path: "/a", Version: 1},
		{Kind: api.Check, Path: "/a/b", Version: -1},
		{Kind: api.Get, Path: "/a"},
		{Kind: api.List, Path: "/"},
		{Kind: api.List, Path: "/a"},
		{Kind: api.Sweep, Path: "/a", Owner: 2},
	}
}

// wrongOps is operations that are not valid.
func wrongOps() []api.Op {
	return []api.Op{
		{},
		{Kind: 8, Path: "/a"},
		{Kind: -1, Path: "/a"},
		{Kind: api.Get},
		{Kind: api.Get, Path: "a"},
		{Kind: api.Get, Path: "/a/"},
		{Kind: api.Get, Path: deep6 + "/g"},
		{Kind: api.Get, Path: "/a", Data: "x"},
		{Kind: api.Create, Path: "/"},
		{Kind: api.Create, Path: "/a", Data: strings.Repeat("x", mostData+1)},
		{Kind: api.Create, Path: "/a", Owner: mostOwner + 1},
		{Kind: api.Create, Path: "/a", Version: 1},
		{Kind: api.Delete, Path: "/"},
		{Kind: api.Delete, Path: "/a", Version: -2},
		{Kind: api.Set, Path: "/a", Version: mostVersion + 1},
		{Kind: api.Check, Path: "/a", Turns: true},
		{Kind: api.Sweep, Path: "/a"},
	}
}

// times is n times the same.
func times[E any](n int, e E) []E {
	return slices.Repeat([]E{e}, n)
}

// anyOp is an operation on a few paths, so that it often finds something.
func anyOp(r *rand.Rand) api.Op {
	few := []string{"/", "/a", "/a/b", "/a/b/c", "/q", "/a/q", "/q/a", "/q0000"}
	p := few[r.IntN(len(few))]
	version := int64(r.IntN(4)) - 1
	for {
		o := api.Op{Kind: 1 + r.IntN(8), Path: p}
		switch o.Kind {
		case api.Delete, api.Check:
			o.Version = version
		case api.Set:
			o.Version, o.Data = version, strconv.Itoa(r.IntN(100))
		case api.Sweep:
			o.Owner = 1 + int64(r.IntN(2))
		case 8, api.Create:
			o.Kind = api.Create
			o.Data, o.Owner, o.Turns = strconv.Itoa(r.IntN(100)), int64(max(0, r.IntN(6)-3)), r.IntN(2) == 0
		}
		if nodes.May(o) {
			return o
		}
		p = "/a"
	}
}

// anyOps is 1 to 8 of these.
func anyOps(r *rand.Rand) []api.Op {
	var l []api.Op
	for range 1 + r.IntN(mostOps) {
		l = append(l, anyOp(r))
	}
	return l
}

// wantMay is whether a list of operations is valid, as the document says it.
func wantMay(l []api.Op) bool {
	valid := 0
	for _, o := range l {
		if nodes.May(o) {
			valid++
		}
	}
	return len(l) >= 1 && len(l) <= 8 && valid == len(l)
}

// wantApply is a plain reading of H1: the first operation, and then all others on what came of it.
func wantApply(t []api.Node, l []api.Op) ([]api.Node, api.Done) {
	if !nodes.Right(t) || !wantMay(l) {
		return nil, api.Done{Err: api.ErrArg}
	}
	next, r := nodes.Apply(t, l[0])
	if r.Err != api.OK {
		return t, api.Done{Err: r.Err}
	}
	if len(l) == 1 {
		return next, api.Done{Results: []api.Result{r}}
	}
	last, d := wantApply(next, l[1:])
	if d.Err != api.OK {
		return t, api.Done{Err: d.Err, At: d.At + 1}
	}
	d.Results = append([]api.Result{r}, d.Results...)
	return last, d
}

// wantAll is a plain reading of H2: the first piece, and then all others on what came of it.
func wantAll(s api.Store, l []api.Piece) (api.Store, []api.Result, api.Errno, int) {
	if len(l) == 0 {
		return s, nil, api.OK, 0
	}
	next, r := part.Do(s, l[0].Part)
	if r.Err != api.OK {
		return s, nil, r.Err, 0
	}
	last, results, err, i := wantAll(next, l[1:])
	if err != api.OK {
		return s, nil, err, i + 1
	}
	return last, append([]api.Result{r}, results...), api.OK, 0
}

func alike(r api.Result, s api.Result) bool {
	return r.Err == s.Err && r.Path == s.Path && r.Data == s.Data && r.Version == s.Version && slices.Equal(r.Names, s.Names)
}

func allAlike(l []api.Result, k []api.Result) bool {
	return slices.EqualFunc(l, k, alike)
}

func sameDone(d api.Done, e api.Done) bool {
	return d.Err == e.Err && d.At == e.At && allAlike(d.Results, e.Results)
}

func same(s api.Store, u api.Store) bool {
	return slices.Equal(s.Nodes, u.Nodes) && slices.Equal(s.Turns, u.Turns)
}

func clone(s api.Store) api.Store {
	return api.Store{Nodes: slices.Clone(s.Nodes), Turns: slices.Clone(s.Turns)}
}

// agree executes operations, holds them against the plain reading, and returns what came of them.
func agree(t *testing.T, tree []api.Node, l []api.Op) ([]api.Node, api.Done) {
	t.Helper()
	want, wantDone := wantApply(slices.Clone(tree), l)
	got, d := multi.Apply(tree, l)
	if !slices.Equal(got, want) || !sameDone(d, wantDone) {
		t.Fatalf("%+v on %+v: %+v, %+v; want %+v, %+v", l, tree, got, d, want, wantDone)
	}
	if d.Err != api.OK && d.Results != nil {
		t.Fatalf("%+v: error %d with results %+v", l, d.Err, d.Results)
	}
	return got, d
}

// P8.1 (H1): May and Apply.

func TestMayNamedEdges(t *testing.T) {
	ok := api.Op{Kind: api.Get, Path: "/a"}
	for n := range 20 {
		if got := multi.May(times(n, ok)); got != (n >= 1 && n <= 8) {
			t.Errorf("%d operations: %v", n, got)
		}
	}
	for _, o := range someOps() {
		if !multi.May([]api.Op{o}) || !multi.May(times(mostOps, o)) {
			t.Errorf("%+v is refused", o)
		}
	}
	if multi.May(nil) || multi.May([]api.Op{}) || multi.May(make([]api.Op, mostOps)) {
		t.Error("no operations, or zero ones, are taken")
	}
}

// One operation that is not valid makes the list so, wherever it stands.
func TestMayAsksAll(t *testing.T) {
	for _, wrong := range wrongOps() {
		for n := 1; n <= mostOps; n++ {
			for i := range n {
				l := times(n, api.Op{Kind: api.Get, Path: "/a"})
				l[i] = wrong
				if multi.May(l) {
					t.Errorf("%+v at %d of %d is taken", wrong, i, n)
				}
			}
		}
	}
}

func TestMayOfAllPairs(t *testing.T) {
	all := append(someOps(), wrongOps()...)
	for _, o := range all {
		for _, p := range all {
			if l := []api.Op{o, p}; multi.May(l) != wantMay(l) {
				t.Errorf("%+v: %v", l, multi.May(l))
			}
		}
	}
}

func TestApplyNamedEdges(t *testing.T) {
	a, b := api.Op{Kind: api.Create, Path: "/a"}, api.Op{Kind: api.Create, Path: "/a/b", Data: "x"}
	for i, c := range []struct {
		t    []api.Node
		l    []api.Op
		want []api.Node
		d    api.Done
	}{
		{nodes.New(), []api.Op{a, b, a}, nodes.New(), api.Done{Err: api.ErrThere, At: 2}},
		{nodes.New(), []api.Op{b, a}, nodes.New(), api.Done{Err: api.ErrNone}},
		{nodes.New(), []api.Op{a, b}, []api.Node{at("/"), at("/a"), {Path: "/a/b", Data: "x"}}, api.Done{Results: []api.Result{{Path: "/a"}, {Path: "/a/b"}}}},
		{nodes.New(), []api.Op{a, b, {Kind: api.Delete, Path: "/a", Version: -1}}, nodes.New(), api.Done{Err: api.ErrFilled, At: 2}},
		{nodes.New(), []api.Op{a, b, {Kind: api.Delete, Path: "/a/b"}, {Kind: api.Delete, Path: "/a"}}, nodes.New(), api.Done{Results: []api.Result{{Path: "/a"}, {Path: "/a/b"}, {}, {}}}},
		{nodes.New(), []api.Op{{Kind: api.Create, Path: "/o", Owner: 5}, {Kind: api.Create, Path: "/o/x"}}, nodes.New(), api.Done{Err: api.ErrOwned, At: 1}},
		{nodes.New(), []api.Op{a, {Kind: api.Set, Path: "/a", Data: "1"}, {Kind: api.Set, Path: "/a", Data: "2"}}, nodes.New(), api.Done{Err: api.ErrVersion, At: 2}},
		{nodes.New(), []api.Op{a, {Kind: api.Set, Path: "/a", Data: "1"}, {Kind: api.Set, Path: "/a", Data: "2", Version: 1}, {Kind: api.Get, Path: "/a"}, {Kind: api.List, Path: "/"}}, []api.Node{at("/"), {Path: "/a", Data: "2", Version: 2}}, api.Done{Results: []api.Result{{Path: "/a"}, {Version: 1}, {Version: 2}, {Data: "2", Version: 2}, {Names: []string{"a"}}}}},
		{[]api.Node{{Path: "/", Turn: 9998}}, times(2, api.Op{Kind: api.Create, Path: "/q", Turns: true}), []api.Node{{Path: "/", Turn: mostTurn}, at("/q9998"), at("/q9999")}, api.Done{Results: []api.Result{{Path: "/q9998"}, {Path: "/q9999"}}}},
		{[]api.Node{{Path: "/", Turn: 9998}}, times(3, api.Op{Kind: api.Create, Path: "/q", Turns: true}), []api.Node{{Path: "/", Turn: 9998}}, api.Done{Err: api.ErrTurn, At: 2}},
		{[]api.Node{{Path: "/", Version: mostVersion - 1}}, times(8, api.Op{Kind: api.Set, Path: "/", Version: -1}), []api.Node{{Path: "/", Version: mostVersion - 1}}, api.Done{Err: api.ErrTooMany, At: 1}},
		{full(mostNodes - 7), times(8, api.Op{Kind: api.Create, Path: "/q", Turns: true}), full(mostNodes - 7), api.Done{Err: api.ErrTooMany, At: 7}},
		{nodes.New(), times(8, api.Op{Kind: api.Check, Path: "/"}), nodes.New(), api.Done{Results: make([]api.Result, 8)}},
	} {
		got, d := agree(t, c.t, c.l)
		if !slices.Equal(got, c.want) || !sameDone(d, c.d) {
			t.Errorf("%d: %+v, %+v; want %+v, %+v", i, got, d, c.want, c.d)
		}
	}
}

func TestApplyWrongArguments(t *testing.T) {
	ok := api.Op{Kind: api.Create, Path: "/a"}
	there := api.Op{Kind: api.Create, Path: "/b"}
	lists := [][]api.Op{nil, {}, times(mostOps+1, api.Op{Kind: api.Get, Path: "/"}), make([]api.Op, mostOps+1)}
	for _, wrong := range wrongOps() {
		// An operation that would be refused ahead of the wrong one makes no difference, nor does one behind it.
		lists = append(lists, []api.Op{wrong}, []api.Op{ok, wrong}, []api.Op{wrong, ok}, []api.Op{there, wrong}, []api.Op{there, there, wrong})
	}
	for _, l := range lists {
		for _, tree := range append(someTrees(), noTrees()...) {
			if got, d := multi.Apply(tree, l); got != nil || !sameDone(d, api.Done{Err: api.ErrArg}) || d.Results != nil {
				t.Errorf("%+v on %+v: %+v, %+v", l, tree, got, d)
			}
		}
	}
	for i, tree := range noTrees() {
		for _, o := range someOps() {
			if got, d := multi.Apply(tree, []api.Op{o}); got != nil || !sameDone(d, api.Done{Err: api.ErrArg}) {
				t.Errorf("%d, %+v: %+v, %+v", i, o, got, d)
			}
		}
	}
}

// P8.1 (H2): Of and All.

func TestOfNamedEdges(t *testing.T) {
	got := multi.Of([]api.Op{{Kind: api.Create, Path: "/a/b", Data: "x", Owner: 3, Turns: true}, {Kind: api.Get, Path: "/"}, {Kind: api.Delete, Path: "/a", Version: 4}})
	want := []api.Piece{
		{Op: 0, Part: api.Part{Kind: api.Guard, Path: "/a", Dir: "/"}},
		{Op: 0, Part: api.Part{Kind: api.Put, Path: "/a/b", Dir: "/a", Data: "x", Owner: 3, Turns: true}},
		{Op: 1, Part: api.Part{Kind: api.Read, Path: "/", Dir: "/"}},
		{Op: 2, Part: api.Part{Kind: api.Remove, Path: "/a", Dir: "/", Version: 4}},
		{Op: 2, Part: api.Part{Kind: api.Empty, Path: "/a", Dir: "/a"}},
	}
	if !slices.Equal(got, want) {
		t.Errorf("%+v; want %+v", got, want)
	}
	lists := [][]api.Op{nil, {}, times(mostOps+1, api.Op{Kind: api.Get, Path: "/"})}
	for _, wrong := range wrongOps() {
		lists = append(lists, []api.Op{wrong}, []api.Op{{Kind: api.Get, Path: "/"}, wrong}, []api.Op{wrong, {Kind: api.Get, Path: "/"}})
	}
	for _, l := range lists {
		if got := multi.Of(l); len(got) != 0 {
			t.Errorf("Of(%+v) = %+v", l, got)
		}
	}
}

// The pieces of each operation are its parts, and those of all of them stand in order.
func TestOfManyOps(t *testing.T) {
	lists := [][]api.Op{}
	for _, o := range someOps() {
		lists = append(lists, []api.Op{o}, times(mostOps, o))
	}
	r := rand.New(rand.NewPCG(81, 0))
	for range 500 {
		lists = append(lists, anyOps(r))
	}
	for _, l := range lists {
		left := multi.Of(l)
		for i, o := range l {
			for _, p := range part.Of(o) {
				if len(left) == 0 || left[0] != (api.Piece{Op: i, Part: p}) {
					t.Fatalf("%+v: %+v is left; want the part %+v of %d", l, left, p, i)
				}
				left = left[1:]
			}
		}
		if len(left) != 0 {
			t.Fatalf("%+v: %+v is left", l, left)
		}
	}
}

// agreeAll executes pieces, holds them against the plain reading, and returns what came of them.
func agreeAll(t *testing.T, s api.Store, l []api.Piece) (api.Store, []api.Result, api.Errno, int) {
	t.Helper()
	want, wantResults, wantErr, wantPlace := wantAll(clone(s), l)
	got, results, err, place := multi.All(s, l)
	if !same(got, want) || !allAlike(results, wantResults) || err != wantErr || place != wantPlace {
		t.Fatalf("%+v on %+v: %+v, %+v, %d, %d; want %+v, %+v, %d, %d", l, s, got, results, err, place, want, wantResults, wantErr, wantPlace)
	}
	if err != api.OK && results != nil {
		t.Fatalf("%+v: error %d with results %+v", l, err, results)
	}
	return got, results, err, place
}

func TestAllNamedEdges(t *testing.T) {
	look := api.Piece{Part: api.Part{Kind: api.Look, Path: "/a", Dir: "/", Version: -1}}
	put := api.Piece{Op: 5, Part: api.Part{Kind: api.Put, Path: "/a", Dir: "/", Data: "x"}}
	alter := api.Piece{Op: -7, Part: api.Part{Kind: api.Alter, Path: "/a", Dir: "/", Data: "y"}}
	names := api.Piece{Op: 1 << 40, Part: api.Part{Kind: api.Names, Path: "/", Dir: "/"}}
	turn := api.Piece{Part: api.Part{Kind: api.Put, Path: "/b/q", Dir: "/b", Turns: true}}
	root := api.Store{Nodes: nodes.New()}
	for i, c := range []struct {
		s       api.Store
		l       []api.Piece
		want    api.Store
		results []api.Result
		err     api.Errno
		place   int
	}{
		{root, nil, root, nil, api.OK, 0},
		{root, []api.Piece{}, root, nil, api.OK, 0},
		{root, []api.Piece{look}, root, nil, api.ErrNone, 0},
		{root, []api.Piece{put, alter, names, put}, root, nil, api.ErrThere, 3},
		{root, []api.Piece{put, alter, alter, look}, root, nil, api.ErrVersion, 2},
		{root, []api.Piece{put, alter, names}, api.Store{Nodes: []api.Node{at("/"), {Path: "/a", Data: "y", Version: 1}}}, []api.Result{{Path: "/a"}, {Version: 1}, {Names: []string{"a"}}}, api.OK, 0},
		{api.Store{}, []api.Piece{turn, turn}, api.Store{Nodes: []api.Node{at("/b/q0000"), at("/b/q0001")}, Turns: []api.Turn{{Dir: "/b", Next: 2}}}, []api.Result{{Path: "/b/q0000"}, {Path: "/b/q0001"}}, api.OK, 0},
		// There is no bound on pieces: it is operations that are eight at most.
		{root, times(40, names), root, times(40, api.Result{}), api.OK, 0},
		{api.Store{}, append(times(30, names), look), api.Store{}, nil, api.ErrNone, 30},
		// A piece that is not valid is refused as any other is, at its place.
		{root, []api.Piece{put, {}, put}, root, nil, api.ErrArg, 1},
		{root, []api.Piece{put, put, {}}, root, nil, api.ErrThere, 1},
		{root, []api.Piece{{Part: api.Part{Kind: api.Look, Path: "/a", Dir: "/a"}}}, root, nil, api.ErrArg, 0},
		// So is a store that is not valid, by the first piece.
		{api.Store{Nodes: []api.Node{at("x")}}, []api.Piece{names, look}, api.Store{Nodes: []api.Node{at("x")}}, nil, api.ErrArg, 0},
		{api.Store{Turns: []api.Turn{{Dir: "/", Next: 0}}}, []api.Piece{names}, api.Store{Turns: []api.Turn{{Dir: "/", Next: 0}}}, nil, api.ErrArg, 0},
		{api.Store{Nodes: []api.Node{at("x")}}, nil, api.Store{Nodes: []api.Node{at("x")}}, nil, api.OK, 0},
	} {
		got, results, err, place := agreeAll(t, c.s, c.l)
		if !same(got, c.want) || !allAlike(results, c.results) || err != c.err || place != c.place {
			t.Errorf("%d: %+v, %+v, %d, %d", i, got, results, err, place)
		}
	}
}

// somePieces is pieces of all sorts: those of some operations, and some that are not valid.
func somePieces() []api.Piece {
	l := []api.Piece{{}, {Op: 3, Part: api.Part{Kind: api.Put, Path: "/", Dir: "/"}}, {Part: api.Part{Kind: api.Empty, Path: "/a", Dir: "/"}}, {Part: api.Part{Kind: 11, Path: "/a", Dir: "/"}}}
	for _, o := range someOps() {
		l = append(l, multi.Of([]api.Op{o})...)
	}
	return l
}

// someStores is those of some trees, one that is part of a tree, and some that are not valid.
func someStores() []api.Store {
	l := []api.Store{{}, {Nodes: []api.Node{{Path: "/a/b", Owner: 2}, at("/b/x")}, Turns: []api.Turn{{Dir: "/a", Next: 1}}}, {Nodes: []api.Node{{Path: "/a", Turn: 1}}}, {Turns: []api.Turn{{Dir: "/a"}}}}
	for _, tree := range someTrees() {
		l = append(l, part.Keep(tree))
	}
	return l
}

func TestAllPairsOfPieces(t *testing.T) {
	l := somePieces()
	for _, s := range someStores() {
		for _, p := range l {
			for _, q := range l {
				agreeAll(t, s, []api.Piece{p, q})
			}
		}
	}
}

// P8.2: all or none.

func TestAllPairsOfOps(t *testing.T) {
	l := append(someOps(), wrongOps()...)
	for _, tree := range someTrees() {
		for _, o := range l {
			for _, p := range l {
				agree(t, tree, []api.Op{o, p})
			}
		}
	}
}

func TestManyOps(t *testing.T) {
	met := map[api.Errno]int{}
	for seed := range uint64(10) {
		r := rand.New(rand.NewPCG(seed, 82))
		tree := nodes.New()
		for range 400 {
			l := anyOps(r)
			next, d := agree(t, tree, l)
			met[d.Err]++
			if d.Err != api.OK {
				if !slices.Equal(next, tree) {
					t.Fatalf("%+v: error %d, and %+v became %+v", l, d.Err, tree, next)
				}
				continue
			}
			if !nodes.Right(next) || len(d.Results) != len(l) {
				t.Fatalf("%+v: %+v with %d results", l, next, len(d.Results))
			}
			tree = next
		}
	}
	for _, err := range []api.Errno{api.OK, api.ErrThere, api.ErrNone, api.ErrVersion, api.ErrFilled, api.ErrOwned} {
		if met[err] < 10 {
			t.Errorf("error %d was met %d times", err, met[err])
		}
	}
}

// An operation that is refused has the same error, at its place, whatever is behind it.
func TestNothingBehindAnErrorMatters(t *testing.T) {
	r := rand.New(rand.NewPCG(83, 0))
	for range 300 {
		tree := someTrees()[r.IntN(5)]
		l := anyOps(r)
		_, d := multi.Apply(tree, l)
		if d.Err == api.OK {
			continue
		}
		for range 4 {
			k := append(slices.Clone(l[:d.At+1]), anyOps(r)...)
			k = k[:min(len(k), mostOps)]
			if _, e := multi.Apply(tree, k); !sameDone(d, e) {
				t.Fatalf("%+v: %+v; %+v: %+v", l, d, k, e)
			}
		}
	}
}
