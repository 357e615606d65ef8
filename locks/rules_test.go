package locks_test

import (
	"slices"
	"strings"
	"testing"

	"canton/api"
	"canton/locks"
)

// wildHolds is lists of holds of all sorts, most of which are not valid.
func wildHolds() [][]api.Hold {
	const long = 1 << 20
	l := append(someHolds(), noHolds()...)
	for _, dir := range []string{strings.Repeat("/a", long), "/" + strings.Repeat("a", long), strings.Repeat("/", long), "/\x00", "/\xff", "\xff"} {
		for _, n := range []int64{-1 << 63, 1, 1<<63 - 1} {
			l = append(l, []api.Hold{{Dir: dir, Txn: n, Age: n}}, []api.Hold{{Dir: "/", Txn: n, Age: 1}, {Dir: dir, Txn: 1, Age: n}})
		}
	}
	return append(l, many(1000), make([]api.Hold, 1<<12), slices.Concat(many(600), many(600)))
}

// wildRequests is requests of all sorts, most of which are refused.
func wildRequests() []request {
	const long = 1 << 20
	l := someRequests()[:40]
	for _, n := range []int64{-1 << 63, -1, 0, 5, 1<<63 - 1} {
		for _, dir := range []string{"/a", "/\x00", "\xff", strings.Repeat("/a", long), "/" + strings.Repeat("a", long)} {
			l = append(l, ask(n, 9, dir), ask(5, n, dir, "/b"), ask(n, n, "/", dir))
		}
	}
	many := ask(7, 1)
	for i := range 1 << 12 {
		many.dirs = append(many.dirs, []string{"/z", "/a", "/m1007", "/", "/b"}[i%5])
	}
	return append(l, many, ask(7, 1, make([]string, 1<<12)...))
}

// P1 and P2: every function ends, without a panic, whatever it is given; where there is no result, it is zero.
func TestAnyArguments(t *testing.T) {
	requests := wildRequests()
	for i, l := range wildHolds() {
		right := wantRight(l)
		if locks.Right(l) != right {
			t.Errorf("%d: %v", i, locks.Right(l))
		}
		for j, q := range requests {
			got := q.take(l)
			if !right && (got.holds != nil || got.wounded != nil || got.granted) {
				t.Errorf("%d, %d: %v on what is not valid", i, j, got.granted)
			}
			if right && !alike(got, q.want(l)) {
				t.Errorf("%d, %d: %v", i, j, got.granted)
			}
			if got.granted && got.wounded != nil {
				t.Errorf("%d, %d: granted, and wounded: %d", i, j, got.wounded)
			}
			if free := locks.Free(l, q.txn); !slices.Equal(free, wantFree(l, q.txn)) {
				t.Errorf("%d, %d: %d holds remain", i, j, len(free))
			}
			for _, dir := range q.dirs[:min(len(q.dirs), 3)] {
				txn, is := locks.Held(l, dir)
				if wantTxn, wantIs := wantHeld(l, dir); txn != wantTxn || is != wantIs {
					t.Errorf("%d, %d: held by %d, %v", i, j, txn, is)
				}
			}
		}
	}
}

// A request that is refused since others hold what it asks for gets the list itself back.
func TestRefusedIsUnchanged(t *testing.T) {
	l := []api.Hold{{Dir: "/a", Txn: 5, Age: 9}, {Dir: "/b", Txn: 6, Age: 1}}
	for _, q := range []request{ask(3, 2, "/a"), ask(3, 2, "/b"), ask(3, 2, "/c", "/b", "/a"), ask(5, 9, "/b"), ask(6, 1, "/b", "/a")} {
		if a := q.take(l); a.granted || len(a.holds) != 2 || &a.holds[0] != &l[0] {
			t.Errorf("%+v: %+v", q, a)
		}
	}
}

// P3: the same arguments have the same answer, whatever was asked between.
func TestSameAnswersInAnyOrder(t *testing.T) {
	requests := someRequests()
	for _, l := range someHolds() {
		var first []answer
		for _, q := range requests {
			first = append(first, q.take(l))
		}
		for i, q := range slices.Backward(requests) {
			if a := q.take(l); !alike(a, first[i]) {
				t.Errorf("%+v: first %+v, then %+v", q, first[i], a)
			}
		}
	}
}

// P3: what is told of a map is in order, each time.
func TestSameOrderEachTime(t *testing.T) {
	l := many(200)
	q := ask(500, 0)
	for _, h := range l {
		q.dirs = append(q.dirs, h.Dir)
	}
	first := agree(t, l, q)
	if len(first.wounded) < 100 || !slices.IsSorted(first.wounded) {
		t.Fatalf("%+v", first.wounded)
	}
	for range 50 {
		if a := q.take(l); !slices.Equal(a.wounded, first.wounded) {
			t.Fatalf("first %d, then %d", first.wounded, a.wounded)
		}
	}
}

const spoiltText = "spoilt"

var (
	spoiltHold  = api.Hold{Dir: spoiltText, Txn: -7, Age: -7}
	spoiltPiece = api.Piece{Op: -7, Part: api.Part{Kind: -7, Dir: spoiltText}}
)

// roomy is l with spare capacity, in which other elements stand.
func roomy[E any](l []E, spoilt E) []E {
	return append(slices.Clone(l), spoilt, spoilt, spoilt, spoilt)[:len(l)]
}

// stays reports whether a roomy list is still as it was made of l, up to its spare capacity.
func stays[E comparable](given []E, l []E, spoilt E) bool {
	spare := given[len(given) : len(given)+4]
	return slices.Equal(given, l) && !slices.ContainsFunc(spare, func(e E) bool { return e != spoilt })
}

func spoil[E any](l []E, spoilt E) {
	l = l[:cap(l)]
	for i := range l {
		l[i] = spoilt
	}
}

// P3: arguments are not changed, up to their spare capacity.
func TestArgumentsStay(t *testing.T) {
	for _, l := range append(someHolds(), noHolds()...) {
		for _, q := range someRequests() {
			given, dirs := roomy(l, spoiltHold), roomy(q.dirs, spoiltText)
			locks.Right(given)
			locks.Take(given, q.txn, q.age, dirs)
			locks.Free(given, q.txn)
			locks.Held(given, "/a")
			if !stays(given, l, spoiltHold) || !stays(dirs, q.dirs, spoiltText) {
				t.Fatalf("%+v on %+v: the arguments became %+v and %+v", q, l, given, dirs)
			}
		}
	}
	for _, l := range somePieces() {
		given := roomy(l, spoiltPiece)
		locks.Dirs(given)
		if !stays(given, l, spoiltPiece) {
			t.Fatalf("%+v became %+v", l, given)
		}
	}
}

func somePieces() [][]api.Piece {
	var l []api.Piece
	for i, dir := range []string{"/b", "/", "/b", "/a/b", "", "/a", "/", "/c"} {
		l = append(l, api.Piece{Op: i, Part: api.Part{Kind: api.Has, Dir: dir}})
	}
	return [][]api.Piece{nil, l[:1], l[:2], l[:3], l[1:], l}
}

// P3: what is returned is nobody else's, up to its spare capacity. (Of a request that is refused, the holds are the argument itself.)
func TestResultsAreNewlyAllocated(t *testing.T) {
	for _, l := range someHolds() {
		for _, q := range someRequests() {
			given, dirs := roomy(l, spoiltHold), roomy(q.dirs, spoiltText)
			want, wantLeft := q.want(l), wantFree(l, q.txn)
			one, oneLeft := q.take(given), locks.Free(given, q.txn)
			two, twoLeft := request{q.txn, q.age, dirs}.take(given), locks.Free(given, q.txn)
			if one.granted {
				spoil(one.holds, spoiltHold)
			}
			spoil(one.wounded, -7)
			spoil(oneLeft, spoiltHold)
			if !stays(given, l, spoiltHold) || !alike(two, want) || !slices.Equal(twoLeft, wantLeft) {
				t.Fatalf("%+v on %+v: a result is shared: %+v, %+v, %+v", q, l, given, two, twoLeft)
			}
			spoil(given, spoiltHold)
			spoil(dirs, spoiltText)
			if !two.granted {
				two.holds, want.holds = nil, nil
			}
			if !alike(two, want) || !slices.Equal(twoLeft, wantLeft) {
				t.Fatalf("%+v on %+v: a result is kept: %+v, %+v", q, l, two, twoLeft)
			}
			if slices.Contains(two.holds[:cap(two.holds)], spoiltHold) || slices.Contains(twoLeft[:cap(twoLeft)], spoiltHold) {
				t.Fatalf("%+v on %+v: spare capacity is shared: %+v, %+v", q, l, two, twoLeft)
			}
		}
	}
	for _, l := range somePieces() {
		given := roomy(l, spoiltPiece)
		one, two := locks.Dirs(given), locks.Dirs(given)
		spoil(one, spoiltText)
		spoil(given, spoiltPiece)
		if !slices.Equal(two, wantDirs(l)) || slices.Contains(two[:cap(two)], spoiltText) {
			t.Fatalf("%+v: %q", l, two)
		}
	}
}

// P3: a result stays as it was, whatever is made of it afterwards.
func TestResultsStay(t *testing.T) {
	l := after(t, nil, ask(5, 9, "/b", "/a"), ask(3, 2, "/c", "/"), ask(9, 9, "/d"))
	was := slices.Clone(l)
	for _, q := range someRequests() {
		if a := q.take(l); a.granted {
			after(t, a.holds, ask(4, 4, "/v", "/w"), ask(3, 2, "/y"))
			after(t, locks.Free(a.holds, 5), ask(4, 4, "/a0"))
		}
		after(t, locks.Free(l, 3), ask(4, 4, "/c"))
		if !slices.Equal(l, was) {
			t.Fatalf("%+v: %+v became %+v", q, was, l)
		}
	}
}
