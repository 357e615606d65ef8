package watch_test

import (
	"slices"
	"strings"
	"testing"

	"canton/api"
	"canton/watch"
)

// wildWatched is Watcheds of all sorts, most of which are not valid.
func wildWatched() []api.Watched {
	const long = 1 << 20
	l := append(someWatched(), noWatched()...)
	for _, p := range []string{strings.Repeat("/a", long), "/" + strings.Repeat("a", long), strings.Repeat("/", long), "/\x00", "/\xff"} {
		for _, num := range []int64{-1 << 63, 1, 1<<63 - 1} {
			s := api.Session{Num: num, Count: num, Events: []api.Event{{Num: num, Kind: 1, Path: p, Watch: num}}}
			l = append(l, api.Watched{Watches: []api.Watch{{Session: num, Num: num, Path: p}}}, api.Watched{Sessions: []api.Session{s}}, api.Watched{Sessions: []api.Session{{Num: 1}, s}})
		}
	}
	return append(l,
		api.Watched{Watches: many(1, 1<<12)},
		api.Watched{Watches: make([]api.Watch, 1<<12), Sessions: make([]api.Session, 1<<12)},
		api.Watched{Sessions: []api.Session{{Num: 1, Count: 1 << 12, Events: make([]api.Event, 1<<12)}}},
		api.Watched{Sessions: []api.Session{waiting(1, 1<<12, 1<<12)}},
		api.Watched{Sessions: []api.Session{waiting(1, -1<<63, 3)}},
		api.Watched{Sessions: []api.Session{waiting(1, 1<<63-1, 8)}},
	)
}

// wildDeeds is deeds of all sorts, most of which are refused.
func wildDeeds() []deed {
	const long = 1 << 20
	l := someDeeds()
	for _, n := range []int64{-1 << 63, -1, 1<<63 - 1} {
		for _, p := range []string{"/a", "/\x00", strings.Repeat("/a", long), "/" + strings.Repeat("a", long)} {
			l = append(l, add(api.Watch{Session: n, Num: 1, Path: p, Deep: true}), add(api.Watch{Session: 1, Num: n, Path: p}), add(api.Watch{Session: 1, Num: 1, Path: p}), end(n, n), end(1, n), take(n, n), take(1, n), tell(n, p), tell(1, p))
		}
	}
	return l
}

// P1 and P2: every function ends, without a panic, whatever it is given; where there is no result, it is zero.
func TestAnyArguments(t *testing.T) {
	deeds := wildDeeds()
	for i, w := range wildWatched() {
		if watch.Right(w) != wantRight(w) {
			t.Errorf("%d: %v", i, watch.Right(w))
		}
		for j, d := range deeds {
			got := d.do(w)
			if want := d.want(w); !alike(got, want) {
				t.Errorf("%d, %s %d: error %d; want %d", i, d.call, j, got.err, want.err)
			}
			if got.err == api.ErrArg && (got.w.Watches != nil || got.w.Sessions != nil) || got.err != api.OK && got.events != nil {
				t.Errorf("%d, %s %d: error %d with results", i, d.call, j, got.err)
			}
		}
	}
}

// P2: of several errors, the first one that the chapter names is returned.
func TestFirstError(t *testing.T) {
	full := api.Watched{Watches: many(1, mostWatches)}
	bad := api.Watched{Watches: []api.Watch{{Session: 1, Num: 1, Path: "/a"}, {Session: 1, Num: 1, Path: "/a"}}}
	for i, c := range []struct {
		w   api.Watched
		d   deed
		err api.Errno
	}{
		{full, add(api.Watch{Session: 1, Num: 1, Path: "?"}), api.ErrArg},
		{full, add(api.Watch{Session: 2, Num: 1, Path: "?"}), api.ErrArg},
		{full, add(full.Watches[3]), api.ErrThere},
		{full, add(api.Watch{Session: 2, Num: 1, Path: "/a"}), api.ErrTooMany},
		{bad, add(bad.Watches[0]), api.ErrArg},
		{bad, end(2, 2), api.ErrArg},
		{bad, end(1, 1), api.ErrArg},
		{bad, take(7, 0), api.ErrArg},
		{bad, tell(1, "/b"), api.ErrArg},
	} {
		if a := agree(t, c.w, c.d); a.err != c.err {
			t.Errorf("%d: error %d; want %d", i, a.err, c.err)
		}
	}
}

// With any other error than ErrArg, the Watched is the argument itself.
func TestRefusedIsUnchanged(t *testing.T) {
	w := api.Watched{Watches: many(1, mostWatches), Sessions: []api.Session{waiting(1, 3, 3)}}
	for _, d := range []deed{add(w.Watches[5]), add(api.Watch{Session: 2, Num: 1, Path: "/"}), end(1, 65), take(2, 0)} {
		a := d.do(w)
		if a.err == api.OK || &a.w.Watches[0] != &w.Watches[0] || &a.w.Sessions[0] != &w.Sessions[0] || len(a.w.Watches) != mostWatches || len(a.w.Sessions) != 1 || a.events != nil {
			t.Errorf("%+v: %+v", d, a)
		}
	}
}

// P3: the same arguments have the same answer, whatever was asked between.
func TestSameAnswersInAnyOrder(t *testing.T) {
	deeds := someDeeds()
	for _, w := range someWatched() {
		var first []answer
		for _, d := range deeds {
			first = append(first, d.do(w))
		}
		for i, d := range slices.Backward(deeds) {
			if a := d.do(w); !alike(a, first[i]) {
				t.Errorf("%+v: first %+v, then %+v", d, first[i], a)
			}
		}
	}
}

var (
	spoiltWatch   = api.Watch{Session: -7, Num: -7, Path: "spoilt"}
	spoiltEvent   = api.Event{Num: -7, Kind: -7, Path: "spoilt", Watch: -7}
	spoiltSession = api.Session{Num: -7, Count: -7}
)

// roomy is l with spare capacity, in which other elements stand.
func roomy[E any](l []E, spoilt E) []E {
	return append(slices.Clone(l), spoilt, spoilt, spoilt, spoilt)[:len(l)]
}

// roomyWatched is w with spare capacity in each of its lists.
func roomyWatched(w api.Watched) api.Watched {
	w = api.Watched{Watches: roomy(w.Watches, spoiltWatch), Sessions: roomy(w.Sessions, spoiltSession)}
	for i, s := range w.Sessions {
		w.Sessions[i].Events = roomy(s.Events, spoiltEvent)
	}
	return w
}

// spare is what stands in the spare capacity of a roomy list.
func spare[E any](l []E) []E {
	return l[len(l) : len(l)+4]
}

// stays reports whether a roomy Watched is still as it was made of w, up to its spare capacity.
func stays(given api.Watched, w api.Watched) bool {
	if !same(given, w) || slices.ContainsFunc(spare(given.Watches), func(x api.Watch) bool { return x != spoiltWatch }) || slices.ContainsFunc(spare(given.Sessions), func(s api.Session) bool { return !sameSession(s, spoiltSession) }) {
		return false
	}
	for _, s := range given.Sessions {
		if slices.ContainsFunc(spare(s.Events), func(e api.Event) bool { return e != spoiltEvent }) {
			return false
		}
	}
	return true
}

func spoil[E any](l []E, spoilt E) {
	l = l[:cap(l)]
	for i := range l {
		l[i] = spoilt
	}
}

func spoilWatched(w api.Watched) {
	for _, s := range w.Sessions {
		spoil(s.Events, spoiltEvent)
	}
	spoil(w.Watches, spoiltWatch)
	spoil(w.Sessions, spoiltSession)
}

// P3: arguments are not changed, up to their spare capacity.
func TestArgumentsStay(t *testing.T) {
	for _, w := range append(someWatched(), noWatched()...) {
		for _, d := range someDeeds() {
			given := roomyWatched(w)
			watch.Right(given)
			d.do(given)
			if !stays(given, w) {
				t.Fatalf("%+v: %+v became %+v", d, w, given)
			}
		}
	}
}

// P3: what is returned is nobody else's, up to its spare capacity. (With an error, the Watched is the argument itself.)
func TestResultsAreNewlyAllocated(t *testing.T) {
	for _, w := range someWatched() {
		for _, d := range someDeeds() {
			given := roomyWatched(w)
			one := d.do(given)
			if one.err != api.OK {
				continue
			}
			two, want := d.do(given), d.want(w)
			spoil(one.events, spoiltEvent)
			if !same(one.w, want.w) {
				t.Fatalf("%+v: the events are those of the Watched: %+v", d, one)
			}
			spoilWatched(one.w)
			if !stays(given, w) || !alike(two, want) {
				t.Fatalf("%+v: a result is shared: %+v, %+v", d, given, two)
			}
			spoilWatched(given)
			if !alike(two, want) || isSpoilt(two) {
				t.Fatalf("%+v: a result is kept: %+v", d, two)
			}
			spoilWatched(two.w)
			if !slices.Equal(two.events, want.events) {
				t.Fatalf("%+v: the events are those of the Watched: %+v", d, two)
			}
		}
	}
}

// isSpoilt reports whether something in an answer, or in its spare capacity, is spoilt.
func isSpoilt(a answer) bool {
	all := a.w.Sessions[:cap(a.w.Sessions)]
	if slices.Contains(a.w.Watches[:cap(a.w.Watches)], spoiltWatch) || slices.Contains(a.events[:cap(a.events)], spoiltEvent) {
		return true
	}
	return slices.ContainsFunc(all, func(s api.Session) bool {
		return s.Num == spoiltSession.Num || slices.Contains(s.Events[:cap(s.Events)], spoiltEvent)
	})
}

// P3: a result stays as it was, whatever is made of it afterwards.
func TestResultsStay(t *testing.T) {
	w := after(t, someWatched()[2], add(api.Watch{Session: 4, Num: 1, Path: "/a", Deep: true}), tell(api.Came, "/a/b"), take(2, 3))
	was := clone(w)
	for _, d := range someDeeds() {
		if a := d.do(w); a.err == api.OK {
			after(t, a.w, tell(api.Changed, "/a"), tell(api.Went, "/a/b"), add(api.Watch{Session: 5, Num: 5, Path: "/"}), take(1, 2))
		}
		if !same(w, was) {
			t.Fatalf("%+v: %+v became %+v", d, was, w)
		}
	}
}
