package part_test

import (
	"slices"
	"strings"
	"testing"

	"canton/api"
	"canton/part"
)

// wildStores is stores of all sorts, most of which are not valid.
func wildStores() []api.Store {
	const long = 1 << 20
	wild := []api.Node{
		{},
		{Path: strings.Repeat("/a", long)},
		{Path: "/" + strings.Repeat("a", long)},
		{Path: strings.Repeat("/", long)},
		{Path: "/a", Data: strings.Repeat("x", long)},
		{Path: "/\x00", Version: -1 << 63, Turn: -1 << 63, Owner: -1 << 63},
		{Path: "/\xff", Version: 1<<63 - 1, Turn: 1<<63 - 1, Owner: 1<<63 - 1},
		{Path: "/", Turn: 1<<63 - 1},
	}
	l := append(someStores(), store(wild), store(make([]api.Node, 1<<12), make([]api.Turn, 1<<12)...), part.Keep(full(1<<12)))
	for _, n := range wild {
		l = append(l, store([]api.Node{n}), store([]api.Node{at("/"), n}), store([]api.Node{at("/")}, api.Turn{Dir: n.Path, Next: 1}), store(nil, api.Turn{Dir: "/", Next: n.Turn}))
	}
	return l
}

// wildParts is parts of all sorts, right ones and wrong ones.
func wildParts() []api.Part {
	const long = 1 << 20
	var l []api.Part
	for _, kind := range []int{-1 << 63, -1, 0, 1, 2, 3, 4, 5, 6, 7, 8, 9, 10, 11, 1<<63 - 1} {
		for _, p := range []string{"", "/", "/a", "/a/b", "/n1000", "a", "/\x00", strings.Repeat("/a", long), "/" + strings.Repeat("a", long)} {
			l = append(l, made(kind, p), api.Part{Kind: kind, Path: p, Dir: p, Version: -1}, api.Part{Kind: kind, Path: p, Dir: "/", Owner: 1, Turns: true})
		}
		for _, n := range []int64{-1 << 63, 1<<63 - 1} {
			l = append(l, api.Part{Kind: kind, Path: "/a", Dir: "/", Version: n}, api.Part{Kind: kind, Path: "/a", Dir: "/", Owner: n, Data: strings.Repeat("x", long)})
		}
	}
	return l
}

// P1 and P2: every function ends, without a panic, whatever it is given; where there is no result, it is zero.

func TestAnyArguments(t *testing.T) {
	parts := wildParts()
	var may []bool
	for _, p := range parts {
		is := part.May(p)
		if is != wantMay(p) {
			t.Errorf("kind %d, a path of %d bytes, a directory of %d: %v", p.Kind, len(p.Path), len(p.Dir), is)
		}
		may = append(may, is)
	}
	for i, s := range wildStores() {
		right := part.Right(s)
		if right != wantRight(s) {
			t.Errorf("store %d: %v", i, right)
		}
		for j, p := range parts {
			next, r := part.Do(s, p)
			if !(right && may[j]) && (next.Nodes != nil || next.Turns != nil || !alike(r, api.Result{Err: api.ErrArg})) {
				t.Errorf("store %d, kind %d: %d nodes, error %d", i, p.Kind, len(next.Nodes), r.Err)
			}
			if r.Err != api.OK && (!alike(r, api.Result{Err: r.Err}) || right && may[j] && !same(next, s)) {
				t.Errorf("store %d, kind %d, error %d: %+v", i, p.Kind, r.Err, r)
			}
		}
	}
}

func TestAnyArgumentsOfTheOthers(t *testing.T) {
	const long = 1 << 20
	for _, o := range []api.Op{{}, {Kind: -1 << 63, Path: "/a"}, {Kind: 1<<63 - 1, Path: "/a"}, {Kind: api.Create, Path: strings.Repeat("/a", long)}, {Kind: api.List, Path: "/" + strings.Repeat("a", long)}, {Kind: api.Set, Path: "/a", Data: strings.Repeat("x", long)}, {Kind: api.Delete, Path: "/a", Version: -1 << 63}, {Kind: api.Sweep, Path: "/a", Owner: 1<<63 - 1}} {
		if got := part.Of(o); len(got) != 0 {
			t.Errorf("kind %d, a path of %d bytes: %d parts", o.Kind, len(o.Path), len(got))
		}
	}
	stores := wildStores()
	for i, s := range stores {
		if kept := part.Keep(s.Nodes); len(kept.Nodes) != len(s.Nodes) || slices.ContainsFunc(kept.Nodes, func(n api.Node) bool { return n.Turn != 0 }) {
			t.Errorf("store %d: %d nodes of %d", i, len(kept.Nodes), len(s.Nodes))
		}
		for _, l := range [][]api.Store{{s}, {s, s}, {store([]api.Node{at("/")}), s}, {s, {}}} {
			want, wantOK := wantTree(l)
			if got, ok := part.Tree(l); ok != wantOK || !slices.Equal(got, want) || !ok && got != nil {
				t.Errorf("store %d of %d: %d nodes, %v", i, len(l), len(got), ok)
			}
		}
	}
	if got, ok := part.Tree(stores); ok || got != nil {
		t.Errorf("%d nodes, %v", len(got), ok)
	}
}

// P3: the same arguments have the same answer, whatever was asked between.
func TestSameAnswersInAnyOrder(t *testing.T) {
	type answer struct {
		s api.Store
		r api.Result
	}
	var parts []api.Part
	for _, p := range somePaths()[:12] {
		parts = append(parts, someParts(p)...)
	}
	for _, s := range someStores() {
		var first []answer
		for _, p := range parts {
			next, r := part.Do(s, p)
			first = append(first, answer{next, r})
		}
		for i, p := range slices.Backward(parts) {
			if next, r := part.Do(s, p); !same(next, first[i].s) || !alike(r, first[i].r) {
				t.Errorf("%+v: first %+v, then %+v, %+v", p, first[i], next, r)
			}
		}
	}
}

var (
	spoiltNode = api.Node{Path: "spoilt", Data: "spoilt", Version: -7, Turn: -7, Owner: -7}
	spoiltTurn = api.Turn{Dir: "spoilt", Next: -7}
)

// roomy is l with spare capacity, in which other elements stand.
func roomy[E any](l []E, spoilt E) []E {
	return append(slices.Clone(l), spoilt, spoilt, spoilt, spoilt)[:len(l)]
}

func roomyStore(s api.Store) api.Store {
	return api.Store{Nodes: roomy(s.Nodes, spoiltNode), Turns: roomy(s.Turns, spoiltTurn)}
}

// stays reports whether a roomy list is still as it was made of l, up to its spare capacity.
func stays[E comparable](given []E, l []E, spoilt E) bool {
	return slices.Equal(given[:len(l)+4], append(slices.Clone(l), spoilt, spoilt, spoilt, spoilt))
}

func staysStore(given api.Store, s api.Store) bool {
	return stays(given.Nodes, s.Nodes, spoiltNode) && stays(given.Turns, s.Turns, spoiltTurn)
}

func spoil[E any](l []E, spoilt E) {
	l = l[:cap(l)]
	for i := range l {
		l[i] = spoilt
	}
}

func spoilStore(s api.Store) {
	spoil(s.Nodes, spoiltNode)
	spoil(s.Turns, spoiltTurn)
}

// P3: arguments are not changed, up to their spare capacity.
func TestArgumentsStay(t *testing.T) {
	for _, s := range someStores() {
		for _, p := range somePaths() {
			for _, o := range someParts(p) {
				given := roomyStore(s)
				part.Do(given, o)
				part.Right(given)
				if !staysStore(given, s) {
					t.Fatalf("%+v: %+v became %+v", o, s, given)
				}
			}
		}
	}
}

func TestArgumentsOfKeepAndTreeStay(t *testing.T) {
	for _, l := range someTrees() {
		given := roomy(l, spoiltNode)
		part.Keep(given)
		if !stays(given, l, spoiltNode) {
			t.Errorf("%+v became %+v", l, given)
		}
		var stores, was []api.Store
		for _, s := range slices.Backward(split(l, func(dir string) int { return len(dir) & 1 })) {
			was = append(was, s)
			stores = append(stores, roomyStore(s))
		}
		stores = append(stores, api.Store{Nodes: []api.Node{spoiltNode}})
		part.Tree(stores[:len(was)])
		for i, s := range was {
			if !staysStore(stores[i], s) {
				t.Errorf("%+v became %+v", s, stores[i])
			}
		}
		if !same(stores[len(was)], api.Store{Nodes: []api.Node{spoiltNode}}) {
			t.Errorf("the spare capacity of the stores became %+v", stores[len(was)])
		}
	}
}

// P3: what is returned is nobody else's, up to its spare capacity. (With an error, the store is the argument itself.)
func TestResultsAreNewlyAllocated(t *testing.T) {
	for _, s := range someStores() {
		for _, p := range somePaths() {
			for _, o := range someParts(p) {
				given := roomyStore(s)
				one, r := part.Do(given, o)
				if r.Err != api.OK {
					continue
				}
				two, u := part.Do(given, o)
				want, wantResult := wantDo(s, o)
				spoilStore(one)
				spoil(r.Names, "spoilt")
				if !staysStore(given, s) || !same(two, want) || !alike(u, wantResult) {
					t.Fatalf("%+v: a result is shared: %+v, %+v, %+v", o, given, two, u)
				}
				spoilStore(given)
				if !same(two, want) || slices.Contains(two.Nodes[:cap(two.Nodes)], spoiltNode) || slices.Contains(two.Turns[:cap(two.Turns)], spoiltTurn) || slices.Contains(u.Names[:cap(u.Names)], "spoilt") {
					t.Fatalf("%+v: a result is kept: %+v, %+v", o, two, u)
				}
			}
		}
	}
}

func TestOtherResultsAreNewlyAllocated(t *testing.T) {
	for _, l := range someTrees() {
		given := roomy(l, spoiltNode)
		one, two := part.Keep(given), part.Keep(given)
		want := clone(two)
		spoilStore(one)
		spoil(given, spoiltNode)
		if !same(two, want) || slices.Contains(two.Nodes[:cap(two.Nodes)], spoiltNode) || slices.Contains(two.Turns[:cap(two.Turns)], spoiltTurn) {
			t.Errorf("Keep(%+v) is shared: %+v", l, two)
		}
		stores := []api.Store{roomyStore(want)}
		first, _ := part.Tree(stores)
		second, _ := part.Tree(stores)
		spoil(first, spoiltNode)
		spoilStore(stores[0])
		if !slices.Equal(second, l) || slices.Contains(second[:cap(second)], spoiltNode) {
			t.Errorf("Tree of %+v is shared: %+v", l, second)
		}
	}
	for _, p := range somePaths() {
		for _, o := range someOps(p) {
			one, two := part.Of(o), part.Of(o)
			want := slices.Clone(two)
			spoil(one, api.Part{Path: "spoilt"})
			if !slices.Equal(two, want) || slices.Contains(two[:cap(two)], api.Part{Path: "spoilt"}) {
				t.Errorf("Of(%+v) is shared: %+v", o, two)
			}
		}
	}
}

// P3: a result stays as it was, whatever is made of it afterwards.
func TestResultsStay(t *testing.T) {
	first, _ := part.Do(store([]api.Node{at("/"), {Path: "/a", Data: "x"}}, api.Turn{Dir: "/a", Next: 2}), api.Part{Kind: api.Put, Path: "/b", Dir: "/", Owner: 1})
	was := clone(first)
	_, listed := part.Do(first, made(api.Names, "/"))
	for _, p := range []api.Part{{Kind: api.Alter, Path: "/a", Data: "y", Dir: "/"}, {Kind: api.Put, Path: "/a/q", Turns: true, Dir: "/a"}, {Kind: api.Put, Path: "/0", Turns: true, Dir: "/"}, {Kind: api.Clear, Path: "/", Owner: 1, Dir: "/"}, {Kind: api.Remove, Path: "/a", Dir: "/"}, {Kind: api.Empty, Path: "/a", Dir: "/a"}} {
		if _, r := part.Do(first, p); r.Err != api.OK {
			t.Errorf("%+v: error %d", p, r.Err)
		}
	}
	if !same(first, was) || !slices.Equal(listed.Names, []string{"a", "b"}) {
		t.Errorf("%+v became %+v; the names %q", was, first, listed.Names)
	}
}
