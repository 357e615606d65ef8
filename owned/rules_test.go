package owned_test

import (
	"slices"
	"strings"
	"testing"

	"canton/api"
	"canton/owned"
	"canton/part"
)

// wildRanges is lists of ranges of all sorts, most of which are not valid.
func wildRanges() [][]api.Range {
	const long = 1 << 20
	l := append(someRanges(), noRanges()...)
	for _, p := range []string{strings.Repeat("/a", long), "/" + strings.Repeat("a", long), strings.Repeat("/", long), "/\x00", "/\xff", "\xff"} {
		for _, n := range []int64{-1 << 63, 1, 1<<63 - 1} {
			l = append(l, []api.Range{{Prefix: p, Epoch: n, State: int(n)}}, []api.Range{ofMine("/", 1), {Prefix: p, Epoch: n, State: mine}})
		}
	}
	return append(l, make([]api.Range, 1<<12), many(1<<12), slices.Concat(many(20), many(12)))
}

// wildDeeds is deeds of all sorts, most of which are refused.
func wildDeeds() []deed {
	const long = 1 << 20
	l := someDeeds()[:100]
	for _, p := range []string{"", "/", "/a", "/\x00", "\xff", strings.Repeat("/a", long), "/" + strings.Repeat("a", long), strings.Repeat("/", long)} {
		l = append(l, freeze(p))
		for _, n := range []int64{-1 << 63, -1, 1, 1<<63 - 1} {
			l = append(l, install(p, n), drop(p, n))
		}
	}
	return l
}

// P1 and P2: every function ends, without a panic, whatever it is given; where there is no result, it is zero.

func TestAnyArguments(t *testing.T) {
	deeds := wildDeeds()
	for i, l := range wildRanges() {
		right := wantRight(l)
		if owned.Right(l) != right {
			t.Errorf("%d: %v", i, owned.Right(l))
		}
		for j, d := range deeds {
			got, ok := d.do(l)
			if want, wantOK := d.want(l); ok != wantOK || !slices.Equal(got, want) {
				t.Errorf("%d, %s %d: %d ranges, %v", i, d.call, j, len(got), ok)
			}
			if !ok && got != nil || ok && !right {
				t.Errorf("%d, %s %d: %d ranges, %v", i, d.call, j, len(got), ok)
			}
			if at, state := owned.Of(l, d.prefix), owned.State(l, d.prefix); at != wantOf(l, d.prefix) || state != wantState(l, d.prefix) {
				t.Errorf("%d, %s %d: the range %d, the state %d", i, d.call, j, at, state)
			}
		}
	}
}

// wildStores is stores of all sorts, most of which are not valid.
func wildStores() []api.Store {
	const long = 1 << 20
	l := append(someStores(), noStores()...)
	for _, p := range []string{"", strings.Repeat("/a", long), "/" + strings.Repeat("a", long), strings.Repeat("/", long), "/\x00", "/\xff"} {
		l = append(l, api.Store{Nodes: []api.Node{at("/"), {Path: p}}}, api.Store{Nodes: []api.Node{at("/")}, Turns: []api.Turn{{Dir: p, Next: 1}}})
	}
	for _, n := range []int64{-1 << 63, 1<<63 - 1} {
		l = append(l, api.Store{Nodes: []api.Node{{Path: "/a", Version: n, Turn: n, Owner: n}}}, api.Store{Turns: []api.Turn{{Dir: "/", Next: n}}})
	}
	return append(l, api.Store{Nodes: make([]api.Node, 1<<12), Turns: make([]api.Turn, 1<<12)}, api.Store{Nodes: []api.Node{{Path: "/a", Data: strings.Repeat("x", long)}}})
}

func TestAnyArgumentsOfCut(t *testing.T) {
	const long = 1 << 20
	prefixes := []string{"", "/", "/a", "/a/b", "/m1001", "/\x00", "\xff", strings.Repeat("/a", long), "/" + strings.Repeat("a", long)}
	for i, s := range wildStores() {
		right := part.Right(s)
		for j, l := range wildRanges() {
			valid := right && wantRight(l)
			for k, prefix := range prefixes {
				cut, rest := owned.Cut(s, l, prefix)
				if !valid && (cut.Nodes != nil || cut.Turns != nil || rest.Nodes != nil || rest.Turns != nil) {
					t.Errorf("%d, %d, %d: the stores are not zero", i, j, k)
				}
				if valid && (len(cut.Nodes)+len(rest.Nodes) != len(s.Nodes) || len(cut.Turns)+len(rest.Turns) != len(s.Turns)) {
					t.Errorf("%d, %d, %d: %d and %d nodes, %d and %d turns", i, j, k, len(cut.Nodes), len(rest.Nodes), len(cut.Turns), len(rest.Turns))
				}
			}
		}
	}
}

// P3: the same arguments have the same answer, whatever was asked between.
func TestSameAnswersInAnyOrder(t *testing.T) {
	type answer struct {
		l         []api.Range
		ok        bool
		at, state int
		cut, rest api.Store
	}
	s := storeOf("/ /a /a/b /a/b/c /a/c /b /b/a /c /m1001/a", "/ /a /a/b /b /c /m1001")
	ask := func(l []api.Range, d deed) answer {
		var a answer
		a.l, a.ok = d.do(l)
		a.at, a.state = owned.Of(l, d.prefix), owned.State(l, d.prefix)
		a.cut, a.rest = owned.Cut(s, l, d.prefix)
		return a
	}
	deeds := someDeeds()
	for _, l := range someRanges() {
		var first []answer
		for _, d := range deeds {
			first = append(first, ask(l, d))
		}
		for i, d := range slices.Backward(deeds) {
			a, b := ask(l, d), first[i]
			if !slices.Equal(a.l, b.l) || a.ok != b.ok || a.at != b.at || a.state != b.state || !same(a.cut, b.cut) || !same(a.rest, b.rest) {
				t.Errorf("%+v of %+v: first %+v, then %+v", d, l, b, a)
			}
		}
	}
}

var (
	spoiltRange = api.Range{Prefix: "spoilt", Epoch: -7, State: -7}
	spoiltNode  = api.Node{Path: "spoilt", Data: "spoilt", Version: -7, Turn: -7, Owner: -7}
	spoiltTurn  = api.Turn{Dir: "spoilt", Next: -7}
)

// roomy is l with spare capacity, in which other elements stand.
func roomy[E any](l []E, spoilt E) []E {
	return append(slices.Clone(l), spoilt, spoilt, spoilt, spoilt)[:len(l)]
}

func roomyStore(s api.Store) api.Store {
	return api.Store{Nodes: roomy(s.Nodes, spoiltNode), Turns: roomy(s.Turns, spoiltTurn)}
}

// stays reports whether a roomy list is still as it was made of l, up to its spare capacity.
func stays[E comparable](given []E, l []E, spoilt E) bool {
	return slices.Equal(given[:len(l)+4], append(slices.Clone(l), spoilt, spoilt, spoilt, spoilt))
}

func staysStore(given api.Store, s api.Store) bool {
	return stays(given.Nodes, s.Nodes, spoiltNode) && stays(given.Turns, s.Turns, spoiltTurn)
}

func spoil[E any](l []E, spoilt E) {
	l = l[:cap(l)]
	for i := range l {
		l[i] = spoilt
	}
}

func spoilStore(s api.Store) {
	spoil(s.Nodes, spoiltNode)
	spoil(s.Turns, spoiltTurn)
}

func isSpoilt(s api.Store) bool {
	return slices.Contains(s.Nodes[:cap(s.Nodes)], spoiltNode) || slices.Contains(s.Turns[:cap(s.Turns)], spoiltTurn)
}

// P3: arguments are not changed, up to their spare capacity.
func TestArgumentsStay(t *testing.T) {
	for _, l := range append(someRanges(), noRanges()...) {
		given := roomy(l, spoiltRange)
		for _, d := range someDeeds() {
			d.do(given)
			owned.Of(given, d.prefix)
			owned.State(given, d.prefix)
			if !stays(given, l, spoiltRange) {
				t.Fatalf("%+v: %+v became %+v", d, l, given)
			}
		}
		owned.Right(given)
		for _, s := range append(someStores(), noStores()...) {
			kept := roomyStore(s)
			for _, prefix := range []string{"/", "/a", "/a/b", "/m1001", "?"} {
				owned.Cut(kept, given, prefix)
			}
			if !stays(given, l, spoiltRange) || !staysStore(kept, s) {
				t.Fatalf("%+v of %+v became %+v of %+v", l, s, given, kept)
			}
		}
	}
}

// P3: what is returned is nobody else's, up to its spare capacity.

func TestRangesAreNewlyAllocated(t *testing.T) {
	for _, l := range someRanges() {
		for _, d := range someDeeds() {
			want, ok := d.want(l)
			if !ok {
				continue
			}
			given := roomy(l, spoiltRange)
			one, _ := d.do(given)
			two, _ := d.do(given)
			spoil(one, spoiltRange)
			if !stays(given, l, spoiltRange) || !slices.Equal(two, want) {
				t.Fatalf("%+v: a result is shared: %+v, %+v", d, given, two)
			}
			spoil(given, spoiltRange)
			if !slices.Equal(two, want) || slices.Contains(two[:cap(two)], spoiltRange) {
				t.Fatalf("%+v: a result is kept: %+v", d, two)
			}
		}
	}
}

func TestStoresAreNewlyAllocated(t *testing.T) {
	for _, s := range someStores() {
		for _, l := range someRanges() {
			for _, prefix := range []string{"/", "/a", "/a/b", "/m1001", "?"} {
				given := roomyStore(s)
				want, wantRest := wantCut(s, l, prefix)
				one, oneRest := owned.Cut(given, l, prefix)
				two, twoRest := owned.Cut(given, l, prefix)
				spoilStore(one)
				if !same(oneRest, wantRest) || isSpoilt(oneRest) {
					t.Fatalf("%q of %+v: the two stores share a list: %+v", prefix, s, oneRest)
				}
				spoilStore(oneRest)
				if !staysStore(given, s) || !same(two, want) || !same(twoRest, wantRest) {
					t.Fatalf("%q of %+v: a result is shared: %+v, %+v, %+v", prefix, s, given, two, twoRest)
				}
				spoilStore(given)
				if !same(two, want) || !same(twoRest, wantRest) || isSpoilt(two) || isSpoilt(twoRest) {
					t.Fatalf("%q of %+v: a result is kept: %+v, %+v", prefix, s, two, twoRest)
				}
			}
		}
	}
}

// P3: a result stays as it was, whatever is made of it afterwards.
func TestResultsStay(t *testing.T) {
	l := after(t, nil, install("/", 1), freeze("/a"), install("/b", 4))
	was := slices.Clone(l)
	s, rest := owned.Cut(storeOf("/ /a /a/b /b /b/a", "/ /a /b"), l, "/")
	kept, keptRest := roomyStore(s), roomyStore(rest)
	for _, d := range someDeeds() {
		if now, ok := d.do(l); ok {
			after(t, now, install("/y/z", 8), freeze("/y/z"), drop("/y/z", 8), install("/x", 3))
			owned.Cut(s, now, d.prefix)
			owned.Cut(rest, now, d.prefix)
		}
		if !slices.Equal(l, was) {
			t.Fatalf("%+v: %+v became %+v", d, was, l)
		}
	}
	if !staysStore(kept, s) || !staysStore(keptRest, rest) {
		t.Errorf("%+v and %+v became %+v and %+v", kept, keptRest, s, rest)
	}
}
