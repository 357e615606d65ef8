package multi_test

import (
	"slices"
	"strings"
	"testing"

	"canton/api"
	"canton/multi"
)

// wildTrees is lists of nodes of all sorts, most of which are no trees.
func wildTrees() [][]api.Node {
	const long = 1 << 20
	l := append(someTrees(), noTrees()...)
	for _, n := range []api.Node{{}, {Path: strings.Repeat("/a", long)}, {Path: strings.Repeat("/", long)}, {Path: "/a", Data: strings.Repeat("x", long)}, {Path: "/\x00", Version: -1 << 63, Turn: -1 << 63, Owner: -1 << 63}, {Path: "/\xff", Version: 1<<63 - 1, Turn: 1<<63 - 1, Owner: 1<<63 - 1}} {
		l = append(l, []api.Node{n}, []api.Node{at("/"), n}, times(1<<12, n))
	}
	return l
}

// wildOps is operations of all sorts, most of which are not valid.
func wildOps() []api.Op {
	const long = 1 << 20
	l := append(someOps(), wrongOps()...)
	for _, kind := range []int{-1 << 63, -1, 0, 1, 2, 3, 4, 5, 6, 7, 8, 1<<63 - 1} {
		for _, p := range []string{"", "/", "/a", "/\x00", strings.Repeat("/a", long), "/" + strings.Repeat("a", long)} {
			l = append(l, api.Op{Kind: kind, Path: p}, api.Op{Kind: kind, Path: p, Version: -1 << 63, Owner: 1<<63 - 1, Turns: true})
		}
		l = append(l, api.Op{Kind: kind, Path: "/a", Data: strings.Repeat("\xff", long)})
	}
	return l
}

// P1 and P2: every function ends, without a panic, whatever it is given; where there is no result, it is zero.

func TestAnyOps(t *testing.T) {
	trees := wildTrees()
	for _, o := range wildOps() {
		for _, l := range [][]api.Op{{o}, {{Kind: api.Get, Path: "/"}, o}, times(mostOps, o), times(1<<12, o)} {
			if multi.May(l) != wantMay(l) {
				t.Errorf("kind %d, a path of %d bytes, %d times: %v", o.Kind, len(o.Path), len(l), multi.May(l))
			}
			if got := multi.Of(l); (len(got) > 0) != wantMay(l) {
				t.Errorf("kind %d, a path of %d bytes, %d times: %d pieces", o.Kind, len(o.Path), len(l), len(got))
			}
			for i, tree := range trees {
				want, wantDone := wantApply(tree, l)
				if got, d := multi.Apply(tree, l); !slices.Equal(got, want) || !sameDone(d, wantDone) {
					t.Errorf("tree %d, kind %d, a path of %d bytes, %d times: %d nodes, error %d", i, o.Kind, len(o.Path), len(l), len(got), d.Err)
				}
			}
		}
	}
}

func TestAnyPieces(t *testing.T) {
	const long = 1 << 20
	pieces := append(somePieces(), times(1, api.Piece{Op: -1 << 63, Part: api.Part{Kind: 1<<63 - 1, Path: strings.Repeat("/a", long), Dir: "/\x00"}})...)
	for _, kind := range []int{-1, 0, 1, 2, 4, 10, 11} {
		pieces = append(pieces, api.Piece{Op: 1<<63 - 1, Part: api.Part{Kind: kind, Path: "/a", Dir: "/", Data: strings.Repeat("x", long), Version: -1 << 63, Owner: -1 << 63}})
	}
	for _, tree := range wildTrees() {
		for _, p := range pieces {
			for _, s := range []api.Store{{Nodes: tree}, {Nodes: tree, Turns: []api.Turn{{Dir: "\xff", Next: -1 << 63}}}} {
				for _, l := range [][]api.Piece{{p}, {p, p}} {
					want, wantResults, wantErr, wantPlace := wantAll(s, l)
					got, results, err, place := multi.All(s, l)
					if !same(got, want) || !allAlike(results, wantResults) || err != wantErr || place != wantPlace {
						t.Errorf("%d nodes, kind %d: %d nodes, error %d at %d", len(tree), p.Part.Kind, len(got.Nodes), err, place)
					}
				}
			}
		}
	}
}

// With an error, the tree, or the store, is the argument itself.
func TestRefusedIsUnchanged(t *testing.T) {
	tree := someTrees()[1]
	l := []api.Op{{Kind: api.Set, Path: "/a", Data: "x"}, {Kind: api.Get, Path: "/x"}}
	if got, d := multi.Apply(tree, l); d.Err != api.ErrNone || d.At != 1 || &got[0] != &tree[0] {
		t.Errorf("%+v, %+v", got, d)
	}
	s := api.Store{Nodes: []api.Node{at("/"), at("/a")}, Turns: []api.Turn{{Dir: "/", Next: 1}}}
	if got, results, err, place := multi.All(s, multi.Of(l)); err != api.ErrNone || place != 1 || results != nil || &got.Nodes[0] != &s.Nodes[0] || &got.Turns[0] != &s.Turns[0] {
		t.Errorf("%+v, %+v, %d, %d", got, results, err, place)
	}
}

// P3: the same arguments have the same answer, whatever was asked between.
func TestSameAnswersInAnyOrder(t *testing.T) {
	type answer struct {
		tree    []api.Node
		d       api.Done
		store   api.Store
		results []api.Result
		err     api.Errno
		place   int
	}
	ask := func(tree []api.Node, s api.Store, o api.Op, p api.Op) answer {
		l := []api.Op{o, p}
		var a answer
		a.tree, a.d = multi.Apply(tree, l)
		a.store, a.results, a.err, a.place = multi.All(s, multi.Of(l))
		return a
	}
	ops := someOps()
	for i, tree := range someTrees() {
		s := someStores()[4+i]
		var first []answer
		for _, o := range ops {
			for _, p := range ops {
				first = append(first, ask(tree, s, o, p))
			}
		}
		for j, o := range slices.Backward(ops) {
			for k, p := range slices.Backward(ops) {
				a, b := first[j*len(ops)+k], ask(tree, s, o, p)
				if !slices.Equal(a.tree, b.tree) || !sameDone(a.d, b.d) || !same(a.store, b.store) || !allAlike(a.results, b.results) || a.err != b.err || a.place != b.place {
					t.Errorf("%+v, %+v: first %+v, then %+v", o, p, a, b)
				}
			}
		}
	}
}

var (
	spoiltNode  = api.Node{Path: "spoilt", Data: "spoilt", Version: -7, Turn: -7, Owner: -7}
	spoiltTurn  = api.Turn{Dir: "spoilt", Next: -7}
	spoiltOp    = api.Op{Kind: -7, Path: "spoilt"}
	spoiltPiece = api.Piece{Op: -7, Part: api.Part{Kind: -7, Path: "spoilt"}}
)

// roomy is l with spare capacity, in which other elements stand.
func roomy[E any](l []E, spoilt E) []E {
	return append(slices.Clone(l), spoilt, spoilt, spoilt, spoilt)[:len(l)]
}

// stays reports whether a roomy list is still as it was made of l, up to its spare capacity.
func stays[E comparable](given []E, l []E, spoilt E) bool {
	return slices.Equal(given[:len(l)+4], append(slices.Clone(l), spoilt, spoilt, spoilt, spoilt))
}

func spoil[E any](l []E, spoilt E) {
	l = l[:cap(l)]
	for i := range l {
		l[i] = spoilt
	}
}

func spoilResults(l []api.Result) {
	for _, r := range l {
		spoil(r.Names, "spoilt")
	}
	spoil(l, api.Result{Path: "spoilt", Version: -7})
}

func spoilStore(s api.Store) {
	spoil(s.Nodes, spoiltNode)
	spoil(s.Turns, spoiltTurn)
}

// P3: arguments are not changed, up to their spare capacity.
func TestArgumentsStay(t *testing.T) {
	ops := append(someOps(), api.Op{})
	for i, tree := range someTrees() {
		s := someStores()[4+i]
		for _, o := range ops {
			for _, p := range ops {
				l := []api.Op{o, p}
				pieces := multi.Of(l)
				givenTree, givenOps, givenPieces := roomy(tree, spoiltNode), roomy(l, spoiltOp), roomy(pieces, spoiltPiece)
				given := api.Store{Nodes: roomy(s.Nodes, spoiltNode), Turns: roomy(s.Turns, spoiltTurn)}
				multi.May(givenOps)
				multi.Of(givenOps)
				multi.Apply(givenTree, givenOps)
				multi.All(given, givenPieces)
				if !stays(givenTree, tree, spoiltNode) || !stays(givenOps, l, spoiltOp) || !stays(givenPieces, pieces, spoiltPiece) || !stays(given.Nodes, s.Nodes, spoiltNode) || !stays(given.Turns, s.Turns, spoiltTurn) {
					t.Fatalf("%+v: %+v became %+v, and %+v became %+v", l, tree, givenTree, s, given)
				}
			}
		}
	}
}

// P3: what is returned is nobody else's, up to its spare capacity. (With an error, the tree, or the store, is the argument itself.)

func TestTreesAreNewlyAllocated(t *testing.T) {
	ops := someOps()
	for _, tree := range someTrees() {
		for _, o := range ops {
			for _, p := range ops {
				given, l := roomy(tree, spoiltNode), []api.Op{o, p}
				one, d := multi.Apply(given, l)
				if d.Err != api.OK {
					continue
				}
				two, e := multi.Apply(given, l)
				want, wantDone := wantApply(tree, l)
				spoil(one, spoiltNode)
				spoilResults(d.Results)
				if !stays(given, tree, spoiltNode) || !slices.Equal(two, want) || !sameDone(e, wantDone) {
					t.Fatalf("%+v: a result is shared: %+v, %+v, %+v", l, given, two, e)
				}
				spoil(given, spoiltNode)
				if !slices.Equal(two, want) || slices.Contains(two[:cap(two)], spoiltNode) || !sameDone(e, wantDone) {
					t.Fatalf("%+v: a result is kept: %+v, %+v", l, two, e)
				}
			}
		}
	}
}

func TestStoresAreNewlyAllocated(t *testing.T) {
	lists := [][]api.Piece{nil, {}}
	for _, o := range someOps() {
		for _, p := range someOps() {
			lists = append(lists, multi.Of([]api.Op{o, p}))
		}
	}
	for _, s := range someStores() {
		for _, l := range lists {
			given := api.Store{Nodes: roomy(s.Nodes, spoiltNode), Turns: roomy(s.Turns, spoiltTurn)}
			one, results, err, _ := multi.All(given, l)
			if err != api.OK {
				continue
			}
			two, others, _, _ := multi.All(given, l)
			want, wantResults, _, _ := wantAll(clone(s), l)
			spoilStore(one)
			spoilResults(results)
			if !stays(given.Nodes, s.Nodes, spoiltNode) || !stays(given.Turns, s.Turns, spoiltTurn) || !same(two, want) || !allAlike(others, wantResults) {
				t.Fatalf("%+v: a result is shared: %+v, %+v, %+v", l, given, two, others)
			}
			spoilStore(given)
			if !same(two, want) || slices.Contains(two.Nodes[:cap(two.Nodes)], spoiltNode) || slices.Contains(two.Turns[:cap(two.Turns)], spoiltTurn) {
				t.Fatalf("%+v: a result is kept: %+v", l, two)
			}
		}
	}
}

func TestPiecesAreNewlyAllocated(t *testing.T) {
	for _, o := range someOps() {
		l := times(3, o)
		one, two := multi.Of(l), multi.Of(l)
		want := slices.Clone(two)
		spoil(one, spoiltPiece)
		if !slices.Equal(two, want) || slices.Contains(two[:cap(two)], spoiltPiece) {
			t.Errorf("Of(%+v) is shared: %+v", l, two)
		}
	}
}

// The lists of one answer share nothing with each other.
func TestNamesAreApart(t *testing.T) {
	tree := someTrees()[1]
	l := times(4, api.Op{Kind: api.List, Path: "/"})
	want := []string{"a", "a-", "a0", "b"}
	_, d := multi.Apply(tree, l)
	_, results, _, _ := multi.All(someStores()[5], multi.Of(l))
	for _, names := range [][][]string{{d.Results[0].Names, d.Results[1].Names, d.Results[3].Names}, {results[1].Names, results[3].Names, results[7].Names}} {
		spoil(names[1], "spoilt")
		if !slices.Equal(names[0], want) || !slices.Equal(names[2], want) {
			t.Errorf("%q", names)
		}
	}
}

// P3: a result stays as it was, whatever is made of it afterwards.
func TestResultsStay(t *testing.T) {
	ops := []api.Op{{Kind: api.Create, Path: "/c", Turns: true}, {Kind: api.List, Path: "/"}, {Kind: api.Set, Path: "/b", Data: "y", Version: -1}}
	tree, d := multi.Apply(someTrees()[1], ops)
	s, results, _, _ := multi.All(someStores()[5], multi.Of(ops))
	wasTree, wasStore := slices.Clone(tree), clone(s)
	wasNames := slices.Clone(d.Results[1].Names)
	more := []api.Op{{Kind: api.Create, Path: "/a/x"}, {Kind: api.Delete, Path: "/a0", Version: -1}, {Kind: api.Set, Path: "/", Version: -1}, {Kind: api.Sweep, Path: "/a", Owner: 1}, {Kind: api.Create, Path: "/0", Turns: true}}
	if _, e := multi.Apply(tree, more); e.Err != api.OK {
		t.Errorf("error %d at %d", e.Err, e.At)
	}
	if _, _, err, place := multi.All(s, multi.Of(more)); err != api.OK {
		t.Errorf("error %d at %d", err, place)
	}
	if !slices.Equal(tree, wasTree) || !same(s, wasStore) || !slices.Equal(d.Results[1].Names, wasNames) || !slices.Equal(results[3].Names, wasNames) {
		t.Errorf("%+v became %+v, %+v became %+v, %q", wasTree, tree, wasStore, s, wasNames)
	}
}
