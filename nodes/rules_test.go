package nodes_test

import (
	"slices"
	"strings"
	"testing"

	"canton/api"
	"canton/nodes"
)

// wildLists is lists of all sorts, most of which are no trees.
func wildLists() [][]api.Node {
	const long = 1 << 20
	wild := []api.Node{
		{},
		{Path: strings.Repeat("/a", long)},
		{Path: "/" + strings.Repeat("a", long)},
		{Path: strings.Repeat("/", long)},
		{Path: "/a", Data: strings.Repeat("x", long)},
		{Path: "/\x00", Version: -1 << 63, Turn: -1 << 63, Owner: -1 << 63},
		{Path: "/\xff", Version: 1<<63 - 1, Turn: 1<<63 - 1, Owner: 1<<63 - 1},
		{Path: "/", Turn: 1<<63 - 1},
	}
	l := append(someTrees(), nil, []api.Node{}, wild, make([]api.Node, 1<<16), full(mostNodes), full(1<<14), slices.Repeat(nodes.New(), mostNodes))
	for _, n := range wild {
		l = append(l, []api.Node{n}, []api.Node{at("/"), n}, []api.Node{at("/"), at("/a"), n})
	}
	return l
}

// wildOps is operations of all sorts, right ones and wrong ones.
func wildOps() []api.Op {
	const long = 1 << 20
	var l []api.Op
	for _, kind := range []int{-1 << 63, -1, 0, 1, 2, 3, 4, 5, 6, 7, 8, 1<<63 - 1} {
		for _, p := range []string{"", "/", "/a", "/a/b", "/n1000", "a", "/\x00", strings.Repeat("/a", long), "/" + strings.Repeat("a", long)} {
			l = append(l, api.Op{Kind: kind, Path: p}, api.Op{Kind: kind, Path: p, Version: -1}, api.Op{Kind: kind, Path: p, Owner: 1, Turns: true})
		}
		for _, n := range []int64{-1 << 63, 1<<63 - 1} {
			l = append(l, api.Op{Kind: kind, Path: "/a", Version: n}, api.Op{Kind: kind, Path: "/a", Owner: n, Data: strings.Repeat("x", long)})
		}
	}
	return l
}

// P1 and P2: every function ends, without a panic, whatever it is given; where there is no result, it is zero.
func TestAnyArguments(t *testing.T) {
	for _, l := range wildLists() {
		right := nodes.Right(l)
		if right != wantRight(l) {
			t.Errorf("Right of %d nodes: %v", len(l), right)
		}
		for _, o := range wildOps() {
			if n, ok := nodes.Find(l, o.Path); !ok && n != (api.Node{}) || ok && n.Path != o.Path {
				t.Errorf("Find of %d bytes: %v", len(o.Path), ok)
			}
			may := nodes.May(o)
			if may != wantMay(o) {
				t.Errorf("kind %d, a path of %d bytes: %v", o.Kind, len(o.Path), may)
			}
			k, r := nodes.Apply(l, o)
			if !(right && may) && (k != nil || !alike(r, api.Result{Err: api.ErrArg})) {
				t.Errorf("%d nodes, kind %d: %d nodes, error %d", len(l), o.Kind, len(k), r.Err)
			}
			if r.Err != api.OK && (r.Path != "" || r.Data != "" || r.Version != 0 || len(r.Names) != 0 || right && may && !slices.Equal(k, l)) {
				t.Errorf("kind %d, error %d: %+v", o.Kind, r.Err, r)
			}
		}
	}
}

// P3: the same arguments have the same answer, whatever was asked between.
func TestSameAnswersInAnyOrder(t *testing.T) {
	type answer struct {
		l []api.Node
		r api.Result
	}
	var ops []api.Op
	for _, p := range somePaths() {
		ops = append(ops, someOps(p)...)
	}
	for _, l := range someTrees() {
		var first []answer
		for _, o := range ops {
			k, r := nodes.Apply(l, o)
			first = append(first, answer{k, r})
		}
		for i, o := range slices.Backward(ops) {
			if k, r := nodes.Apply(l, o); !slices.Equal(k, first[i].l) || !alike(r, first[i].r) {
				t.Errorf("%+v: first %+v, then %+v, %+v", o, first[i], k, r)
			}
		}
	}
}

var spoilt = api.Node{Path: "spoilt", Data: "spoilt", Version: -7, Turn: -7, Owner: -7}

// roomy is l with spare capacity, in which other nodes stand.
func roomy(l []api.Node) []api.Node {
	whole := append(slices.Clone(l), spoilt, spoilt, spoilt, spoilt)
	return whole[:len(l)]
}

// P3: arguments are not changed, up to their spare capacity.
func TestArgumentsStay(t *testing.T) {
	for _, l := range someTrees() {
		for _, p := range somePaths() {
			for _, o := range someOps(p) {
				given := roomy(l)
				nodes.Apply(given, o)
				nodes.Right(given)
				nodes.Find(given, p)
				if whole := given[:len(l)+4]; !slices.Equal(whole[:len(l)], l) || !slices.Equal(whole[len(l):], []api.Node{spoilt, spoilt, spoilt, spoilt}) {
					t.Fatalf("%+v: %+v became %+v", o, l, whole)
				}
			}
		}
	}
}

// P3: what is returned is nobody else's, up to its spare capacity. (With an error, the nodes are the argument itself.)
func TestResultsAreNewlyAllocated(t *testing.T) {
	for _, l := range someTrees() {
		for _, p := range somePaths() {
			for _, o := range someOps(p) {
				given := roomy(l)
				one, r := nodes.Apply(given, o)
				if r.Err != api.OK {
					continue
				}
				two, s := nodes.Apply(given, o)
				want, wantResult := wantApply(l, o)
				spoilNodes(one)
				spoilNames(r.Names)
				if !slices.Equal(given, l) || !slices.Equal(two, want) || !alike(s, wantResult) {
					t.Fatalf("%+v: a result is shared: %+v, %+v, %+v", o, given, two, s)
				}
				spoilNodes(given)
				if !slices.Equal(two, want) || slices.Contains(two[len(two):cap(two)], spoilt) || slices.Contains(s.Names[len(s.Names):cap(s.Names)], "spoilt") {
					t.Fatalf("%+v: a result is kept: %+v, %+v", o, two[:cap(two)], s)
				}
			}
		}
	}
}

// P3: a result stays as it was, whatever is made of it afterwards.
func TestResultsStay(t *testing.T) {
	first := grown(t, api.Op{Kind: api.Create, Path: "/a", Data: "x"}, api.Op{Kind: api.Create, Path: "/b", Owner: 1})
	was := slices.Clone(first)
	_, listed := nodes.Apply(first, api.Op{Kind: api.List, Path: "/"})
	for _, o := range []api.Op{{Kind: api.Set, Path: "/a", Data: "y"}, {Kind: api.Create, Path: "/a/q", Turns: true}, {Kind: api.Create, Path: "/0"}, {Kind: api.Sweep, Path: "/", Owner: 1}, {Kind: api.Delete, Path: "/a"}} {
		if _, r := nodes.Apply(first, o); r.Err != api.OK {
			t.Errorf("%+v: error %d", o, r.Err)
		}
	}
	if !slices.Equal(first, was) || !slices.Equal(listed.Names, []string{"a", "b"}) {
		t.Errorf("%+v became %+v; the names %q", was, first, listed.Names)
	}
}

func spoilNodes(l []api.Node) {
	l = l[:cap(l)]
	for i := range l {
		l[i] = spoilt
	}
}

func spoilNames(l []string) {
	l = l[:cap(l)]
	for i := range l {
		l[i] = "spoilt"
	}
}
