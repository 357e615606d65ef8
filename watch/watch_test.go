package watch_test

import (
	"maps"
	"regexp"
	"slices"
	"strconv"
	"strings"
	"testing"

	"canton/api"
	"canton/watch"
)

// The bounds as the document says them.
const (
	mostWatches = 64
	mostWait    = 8
	mostNum     = 1 << 48
	part12      = "0123456789ab"
	deep6       = "/a/b/c/d/e/f"
)

var pathForm = regexp.MustCompile(`\A(/|(/[a-z0-9-]{1,12}){1,6})\z`)

func isNum(n int64) bool {
	return n >= 1 && n <= mostNum
}

// isIn is whether a path is q, or lies below it.
func isIn(p string, q string) bool {
	return p == q || q == "/" || strings.HasPrefix(p, q+"/")
}

// wantRight is whether a Watched is valid, as the document says it.
func wantRight(w api.Watched) bool {
	pairs := map[[2]int64]int{}
	for _, x := range w.Watches {
		if !isNum(x.Session) || !isNum(x.Num) || !pathForm.MatchString(x.Path) {
			return false
		}
		pairs[[2]int64{x.Session, x.Num}]++
	}
	if len(w.Watches) > mostWatches || len(pairs) < len(w.Watches) {
		return false
	}
	last := int64(0)
	for _, s := range w.Sessions {
		if s.Num <= last || s.Num > mostNum || s.Count < 0 || s.Count > mostNum || len(s.Events) > mostWait {
			return false
		}
		last = s.Num
		num := s.Count
		for _, e := range slices.Backward(s.Events) {
			if e.Num != num || e.Num < 1 || e.Kind < 1 || e.Kind > 4 || !pathForm.MatchString(e.Path) || !isNum(e.Watch) {
				return false
			}
			num--
		}
	}
	return true
}

// answer is what a function answers; only a Take has events.
type answer struct {
	w      api.Watched
	events []api.Event
	err    api.Errno
}

// deed is a call of one of the functions.
type deed struct {
	call string
	x    api.Watch // what is added; its Session and Num are closed, from its Session is taken, its Path is told
	n    int64     // the kind that is told; up to what is taken
}

func add(x api.Watch) deed { return deed{call: "add", x: x} }

func end(session int64, num int64) deed {
	return deed{call: "close", x: api.Watch{Session: session, Num: num}}
}

func tell(kind int64, p string) deed { return deed{call: "tell", x: api.Watch{Path: p}, n: kind} }

func take(session int64, upTo int64) deed {
	return deed{call: "take", x: api.Watch{Session: session}, n: upTo}
}

func (d deed) do(w api.Watched) answer {
	var a answer
	switch d.call {
	case "add":
		a.w, a.err = watch.Add(w, d.x)
	case "close":
		a.w, a.err = watch.Close(w, d.x.Session, d.x.Num)
	case "tell":
		a.w, a.err = watch.Tell(w, int(d.n), d.x.Path)
	case "take":
		a.w, a.events, a.err = watch.Take(w, d.x.Session, d.n)
	}
	return a
}

// want is a plain reading of I2 to I4, with the sessions in a map by their numbers.
func (d deed) want(w api.Watched) answer {
	if !wantRight(w) {
		return answer{err: api.ErrArg}
	}
	w = clone(w)
	m := map[int64]api.Session{}
	for _, s := range w.Sessions {
		m[s.Num] = s
	}
	at := slices.IndexFunc(w.Watches, func(x api.Watch) bool { return x.Session == d.x.Session && x.Num == d.x.Num })
	switch d.call {
	case "add":
		if !isNum(d.x.Session) || !isNum(d.x.Num) || !pathForm.MatchString(d.x.Path) {
			return answer{err: api.ErrArg}
		}
		if at >= 0 {
			return answer{w: w, err: api.ErrThere}
		}
		if len(w.Watches) >= mostWatches {
			return answer{w: w, err: api.ErrTooMany}
		}
		m[d.x.Session] = m[d.x.Session]
		return answer{w: whole(append(w.Watches, d.x), m)}
	case "close":
		if at < 0 {
			return answer{w: w, err: api.ErrNone}
		}
		return answer{w: whole(append(w.Watches[:at:at], w.Watches[at+1:]...), m)}
	case "tell":
		if d.n < 1 || d.n > 3 || !pathForm.MatchString(d.x.Path) {
			return answer{err: api.ErrArg}
		}
		return answer{w: whole(plainTell(w.Watches, m, int(d.n), d.x.Path), m)}
	}
	s, there := m[d.x.Session]
	if !there {
		return answer{w: w, err: api.ErrNone}
	}
	s.Events = slices.DeleteFunc(s.Events, func(e api.Event) bool { return e.Num <= d.n })
	m[d.x.Session] = s
	return answer{w: whole(w.Watches, m), events: slices.Clone(s.Events)}
}

// plainTell notifies watches, and returns those that stay.
func plainTell(l []api.Watch, m map[int64]api.Session, kind int, p string) []api.Watch {
	var left []api.Watch
	for _, x := range l {
		if p != x.Path && (!x.Deep || !isIn(p, x.Path)) {
			left = append(left, x)
			continue
		}
		s := m[x.Session]
		waiting := len(s.Events)
		if waiting <= 6 && x.Deep {
			left = append(left, x)
		}
		if waiting <= 7 && s.Count < mostNum {
			e := api.Event{Num: s.Count + 1, Kind: kind, Path: p, Watch: x.Num}
			if waiting == 7 {
				e.Kind, e.Path = 4, x.Path
			}
			s.Count, s.Events = e.Num, append(s.Events, e)
		}
		m[x.Session] = s
	}
	return left
}

// whole is the Watched of watches and sessions.
func whole(l []api.Watch, m map[int64]api.Session) api.Watched {
	w := api.Watched{Watches: l}
	for _, num := range slices.Sorted(maps.Keys(m)) {
		s := m[num]
		s.Num = num
		w.Sessions = append(w.Sessions, s)
	}
	return w
}

func clone(w api.Watched) api.Watched {
	w.Watches, w.Sessions = slices.Clone(w.Watches), slices.Clone(w.Sessions)
	for i, s := range w.Sessions {
		w.Sessions[i].Events = slices.Clone(s.Events)
	}
	return w
}

func sameSession(s api.Session, r api.Session) bool {
	return s.Num == r.Num && s.Count == r.Count && slices.Equal(s.Events, r.Events)
}

func same(w api.Watched, v api.Watched) bool {
	return slices.Equal(w.Watches, v.Watches) && slices.EqualFunc(w.Sessions, v.Sessions, sameSession)
}

func alike(a answer, b answer) bool {
	return same(a.w, b.w) && slices.Equal(a.events, b.events) && a.err == b.err
}

// agree does a deed, holds it against the plain reading, and returns what came of it.
func agree(t *testing.T, w api.Watched, d deed) answer {
	t.Helper()
	want, was := d.want(w), clone(w)
	got := d.do(w)
	if !alike(got, want) {
		t.Fatalf("%+v on %+v: %+v; want %+v", d, w, got, want)
	}
	if !same(w, was) {
		t.Fatalf("%+v: the argument %+v became %+v", d, was, w)
	}
	if got.err != api.OK && got.events != nil {
		t.Fatalf("%+v: error %d with events %+v", d, got.err, got.events)
	}
	return got
}

// after is what deeds make of w; none of them may be refused.
func after(t *testing.T, w api.Watched, l ...deed) api.Watched {
	t.Helper()
	for _, d := range l {
		a := agree(t, w, d)
		if a.err != api.OK {
			t.Fatalf("%+v: error %d", d, a.err)
		}
		w = a.w
	}
	return w
}

// waiting is a session in which n events wait, up to its count.
func waiting(num int64, count int64, n int) api.Session {
	s := api.Session{Num: num, Count: count}
	for i := range int64(n) {
		s.Events = append(s.Events, api.Event{Num: count - int64(n) + 1 + i, Kind: 1 + int(i)%4, Path: "/w", Watch: 5 + i})
	}
	return s
}

// many is n watches of one session.
func many(session int64, n int) []api.Watch {
	var l []api.Watch
	for i := range n {
		l = append(l, api.Watch{Session: session, Num: int64(i + 1), Path: "/m" + strconv.Itoa(i)})
	}
	return l
}

// someWatched is Watcheds of all sorts, each of which is valid.
func someWatched() []api.Watched {
	mixed := []api.Watch{
		{Session: 2, Num: 1, Path: "/a"}, {Session: 2, Num: 2, Path: "/a", Deep: true}, {Session: 1, Num: 1, Path: "/", Deep: true}, {Session: 2, Num: 3, Path: "/"},
		{Session: 7, Num: 1, Path: "/a/b", Deep: true}, {Session: 1, Num: 2, Path: "/a-"}, {Session: 1, Num: 9, Path: "/a/b"}, {Session: mostNum, Num: mostNum, Path: deep6, Deep: true},
	}
	return []api.Watched{
		{},
		{Watches: mixed},
		{Watches: mixed, Sessions: []api.Session{{Num: 1}, waiting(2, 6, 6), waiting(7, 9, 7)}},
		{Watches: mixed, Sessions: []api.Session{waiting(1, 8, 8), waiting(2, 3, 0), waiting(7, mostNum, 3), waiting(mostNum, 1, 1)}},
		{Watches: mixed, Sessions: []api.Session{waiting(1, mostNum-1, 6), waiting(2, mostNum-1, 7), waiting(7, mostNum, 7), waiting(mostNum, mostNum, 8)}},
		{Watches: mixed[:2], Sessions: []api.Session{waiting(1, mostNum, 0), waiting(2, 4, 4), waiting(3, 9, 5)}},
		{Sessions: []api.Session{waiting(1, 1, 1), waiting(3, 8, 8), waiting(mostNum, 0, 0)}},
		{Watches: many(3, mostWatches), Sessions: []api.Session{waiting(3, 5, 2)}},
		{Watches: append(many(3, mostWatches-2), mixed[0], mixed[2]), Sessions: []api.Session{waiting(2, 7, 6)}},
	}
}

// noWatched is Watcheds that are not valid.
func noWatched() []api.Watched {
	l := []api.Watched{
		{Watches: many(1, mostWatches+1)},
		{Watches: []api.Watch{{Session: 1, Num: 2, Path: "/a"}, {Session: 1, Num: 1, Path: "/a"}, {Session: 1, Num: 2, Path: "/b", Deep: true}}},
		{Sessions: []api.Session{{Num: 2}, {Num: 1}}},
		{Sessions: []api.Session{{Num: 1}, {Num: 1}}},
		{Sessions: []api.Session{waiting(1, 9, 9)}},
		{Sessions: []api.Session{{Num: 1, Count: -1}}},
		{Sessions: []api.Session{{Num: 1, Count: mostNum + 1}}},
		// An event that was not counted.
		{Sessions: []api.Session{waiting(1, 0, 1)}},
		{Sessions: []api.Session{waiting(1, 7, 8)}},
	}
	for _, x := range wrongWatches() {
		l = append(l, api.Watched{Watches: []api.Watch{x}}, api.Watched{Watches: append(many(1, 3), x), Sessions: []api.Session{{Num: 1}}})
	}
	for _, num := range []int64{-1 << 63, -1, 0, mostNum + 1, 1<<63 - 1} {
		l = append(l, api.Watched{Sessions: []api.Session{{Num: num}}})
	}
	for _, change := range wrongEvents() {
		for i := range 3 {
			s := waiting(1, 9, 3)
			change(&s.Events[i])
			l = append(l, api.Watched{Sessions: []api.Session{s}})
		}
	}
	return l
}

// wrongWatches is watches that are not valid.
func wrongWatches() []api.Watch {
	var l []api.Watch
	for _, num := range []int64{-1 << 63, -1, 0, mostNum + 1, 1<<63 - 1} {
		l = append(l, api.Watch{Session: num, Num: 9, Path: "/a"}, api.Watch{Session: 9, Num: num, Path: "/a"})
	}
	for _, p := range noPaths() {
		l = append(l, api.Watch{Session: 9, Num: 9, Path: p}, api.Watch{Session: 9, Num: 9, Path: p, Deep: true})
	}
	return l
}

func noPaths() []string {
	return []string{"", "a", "//", "/a/", "/A", "/a b", "/é", "/" + part12 + "c", deep6 + "/g"}
}

// wrongEvents is changes, each of which makes an event of a session with the Count 9, of three, not valid.
func wrongEvents() []func(*api.Event) {
	var l []func(*api.Event)
	for _, by := range []int64{-9, -1, 1, 9, 1 << 62} {
		l = append(l, func(e *api.Event) { e.Num += by })
	}
	for _, kind := range []int{-1 << 63, -1, 0, 5, 1<<63 - 1} {
		l = append(l, func(e *api.Event) { e.Kind = kind })
	}
	for _, p := range noPaths() {
		l = append(l, func(e *api.Event) { e.Path = p })
	}
	for _, num := range []int64{-1 << 63, -1, 0, mostNum + 1, 1<<63 - 1} {
		l = append(l, func(e *api.Event) { e.Watch = num })
	}
	return l
}

// P9.1 (I1): Right.

func TestRightNamedEdges(t *testing.T) {
	for i, w := range append(someWatched(),
		api.Watched{Watches: many(1, mostWatches)},
		api.Watched{Watches: []api.Watch{{Session: 1, Num: 2, Path: "/a"}, {Session: 2, Num: 1, Path: "/a"}, {Session: 2, Num: 2, Path: "/a"}, {Session: 1, Num: 1, Path: "/a"}}},
		api.Watched{Watches: []api.Watch{{Session: 1, Num: mostNum, Path: "/" + part12}, {Session: mostNum, Num: 1, Path: deep6}}},
		api.Watched{Sessions: []api.Session{{Num: 1}, {Num: 2, Count: mostNum}, {Num: mostNum, Count: 1}}},
		api.Watched{Sessions: []api.Session{{Num: 1, Count: 1, Events: []api.Event{{Num: 1, Kind: 4, Path: "/", Watch: mostNum}}}}},
		api.Watched{Sessions: []api.Session{waiting(1, 8, 8), waiting(2, mostNum, 8)}},
	) {
		if !watch.Right(w) || !wantRight(w) {
			t.Errorf("%d: %+v is refused", i, w)
		}
	}
	for i, w := range noWatched() {
		if watch.Right(w) || wantRight(w) {
			t.Errorf("%d: %+v is taken", i, w)
		}
	}
}

// What is not valid is refused wherever it stands, and whatever stands beside it.
func TestRightAsksAll(t *testing.T) {
	for _, wrong := range wrongWatches() {
		for i := range mostWatches {
			l := many(1, mostWatches)
			l[i] = wrong
			if watch.Right(api.Watched{Watches: l}) {
				t.Errorf("%+v at %d is taken", wrong, i)
			}
		}
	}
	for i := range mostWatches {
		for j := range i {
			l := many(1, mostWatches)
			l[i].Num = l[j].Num
			if watch.Right(api.Watched{Watches: l}) {
				t.Errorf("%d and %d of one number are taken", j, i)
			}
			l[i].Session = 2
			if !watch.Right(api.Watched{Watches: l}) {
				t.Errorf("%d and %d of two sessions are refused", j, i)
			}
		}
	}
	// Any number of sessions may be there.
	const all = 200
	for i := range all {
		for _, change := range []func(*api.Session){
			func(s *api.Session) { s.Count = 7 },
			func(s *api.Session) { s.Num-- },
			func(s *api.Session) { s.Num -= 2 },
			func(s *api.Session) { s.Num += 2 },
			func(s *api.Session) { s.Events[4].Kind = 9 },
			func(s *api.Session) { s.Events = s.Events[:8] },
			func(s *api.Session) { s.Events = s.Events[1:] },
		} {
			var w api.Watched
			for j := range int64(all) {
				w.Sessions = append(w.Sessions, waiting(2+2*j, 9, 8))
			}
			change(&w.Sessions[i])
			if watch.Right(w) != wantRight(w) {
				t.Errorf("%d of %d sessions: %+v: %v", i, all, w.Sessions[i], watch.Right(w))
			}
		}
	}
}

func TestRightOfAllShortSessions(t *testing.T) {
	right, all := 0, 0
	for count := int64(-2); count <= 4; count++ {
		for n := range 4 {
			for code := range 216 {
				s := api.Session{Num: 1, Count: count}
				for i, c := 0, code; i < n; i, c = i+1, c/6 {
					s.Events = append(s.Events, api.Event{Num: int64(c%6) - 1, Kind: 1, Path: "/", Watch: 1})
				}
				w := api.Watched{Sessions: []api.Session{s}}
				if watch.Right(w) != wantRight(w) {
					t.Errorf("%+v: %v", s, watch.Right(w))
				}
				all++
				if wantRight(w) {
					right++
				}
			}
		}
	}
	if right == 0 || right == all {
		t.Errorf("%d of %d are valid", right, all)
	}
}

// P9.1 (I2): Add and Close.

func TestAdd(t *testing.T) {
	one, two := api.Watch{Session: 5, Num: 1, Path: "/a"}, api.Watch{Session: 2, Num: 1, Path: "/a/b", Deep: true}
	three, four := api.Watch{Session: mostNum, Num: mostNum, Path: "/"}, api.Watch{Session: 5, Num: 2, Path: deep6, Deep: true}
	w := after(t, api.Watched{}, add(one), add(two), add(three), add(four))
	want := api.Watched{Watches: []api.Watch{one, two, three, four}, Sessions: []api.Session{{Num: 2}, {Num: 5}, {Num: mostNum}}}
	if !same(w, want) {
		t.Errorf("%+v; want %+v", w, want)
	}
	// A session that exists stays as it is, and the watch comes to the end, whatever its number.
	w = after(t, api.Watched{Watches: []api.Watch{four}, Sessions: []api.Session{waiting(5, 9, 3)}}, add(one))
	if !same(w, api.Watched{Watches: []api.Watch{four, one}, Sessions: []api.Session{waiting(5, 9, 3)}}) {
		t.Errorf("%+v", w)
	}
}

func TestAddRefused(t *testing.T) {
	full := api.Watched{Watches: many(1, mostWatches)}
	last := api.Watched{Watches: many(1, mostWatches-1)}
	for i, c := range []struct {
		w   api.Watched
		x   api.Watch
		err api.Errno
	}{
		{last, api.Watch{Session: 2, Num: 1, Path: "/"}, api.OK},
		{full, api.Watch{Session: 2, Num: 1, Path: "/"}, api.ErrTooMany},
		{full, api.Watch{Session: 1, Num: 65, Path: "/m0"}, api.ErrTooMany},
		{full, api.Watch{Session: 1, Num: 64, Path: "/"}, api.ErrThere},
		{full, api.Watch{Session: 1, Num: 1, Path: "/m0"}, api.ErrThere},
		{full, api.Watch{Session: 1, Num: 1, Path: "/m0/"}, api.ErrArg},
		{last, api.Watch{Session: 1, Num: 7, Path: "/n", Deep: true}, api.ErrThere},
		{last, api.Watch{Session: 7, Num: 1, Path: "/n", Deep: true}, api.OK},
		{last, api.Watch{}, api.ErrArg},
	} {
		a := agree(t, c.w, add(c.x))
		if a.err != c.err {
			t.Errorf("%d: error %d; want %d", i, a.err, c.err)
		}
	}
	for _, w := range someWatched() {
		for _, x := range wrongWatches() {
			if a := agree(t, w, add(x)); !alike(a, answer{err: api.ErrArg}) {
				t.Errorf("%+v on %+v: %+v", x, w, a)
			}
		}
	}
}

func TestClose(t *testing.T) {
	w := someWatched()[2]
	for i, x := range w.Watches {
		a := agree(t, w, end(x.Session, x.Num))
		want := api.Watched{Watches: slices.Delete(slices.Clone(w.Watches), i, i+1), Sessions: w.Sessions}
		if a.err != api.OK || !same(a.w, want) {
			t.Errorf("%+v: %+v", x, a)
		}
		if b := agree(t, a.w, end(x.Session, x.Num)); b.err != api.ErrNone || !same(b.w, a.w) {
			t.Errorf("%+v, closed twice: %+v", x, b)
		}
	}
	for _, pair := range [][2]int64{{1, 3}, {3, 1}, {9, 1}, {2, mostNum}, {mostNum, 2}, {0, 0}, {0, 1}, {1, 0}, {-1, -1}, {-1 << 63, 1}, {2, 1<<63 - 1}} {
		if a := agree(t, w, end(pair[0], pair[1])); a.err != api.ErrNone || !same(a.w, w) {
			t.Errorf("%d: %+v", pair, a)
		}
	}
}

// P9.1 (I3): Tell.

// told is what waits in a session without events behind it, once kind was told at p.
func told(t *testing.T, x api.Watch, kind int64, p string) (api.Event, bool) {
	t.Helper()
	w := after(t, api.Watched{}, add(x), tell(kind, p))
	s := w.Sessions[0]
	if (s.Count == 1) != (len(s.Events) == 1) || (len(w.Watches) == 1) != (x.Deep || s.Count == 0) {
		t.Errorf("%+v, %d %q: %+v", x, kind, p, w)
	}
	if len(s.Events) == 0 {
		return api.Event{}, false
	}
	return s.Events[0], true
}

func TestTellPaths(t *testing.T) {
	some := []string{"/", "/a", "/a-", "/a/b", "/a/bc", "/a/b/c", "/ab", "/b", "/b/a", deep6, "/a/b/c/d/e", "/" + part12}
	for _, p := range some {
		for _, q := range some {
			for kind := range int64(3) {
				want := api.Event{Num: 1, Kind: int(kind) + 1, Path: p, Watch: 6}
				if e, ok := told(t, api.Watch{Session: 3, Num: 6, Path: q}, kind+1, p); ok != (p == q) || ok && e != want {
					t.Errorf("%q, told of %q: %+v, %v", q, p, e, ok)
				}
				if e, ok := told(t, api.Watch{Session: 3, Num: 6, Path: q, Deep: true}, kind+1, p); ok != isIn(p, q) || ok && e != want {
					t.Errorf("%q, deep, told of %q: %+v, %v", q, p, e, ok)
				}
			}
		}
	}
}

func TestTellAtTheEdges(t *testing.T) {
	const session, num = 4, 77
	for _, deep := range []bool{false, true} {
		x := api.Watch{Session: session, Num: num, Path: "/a", Deep: deep}
		came := api.Event{Kind: api.Came, Path: "/a", Watch: num}
		lost := api.Event{Kind: api.Lost, Path: "/a", Watch: num}
		for i, c := range []struct {
			count  int64
			events int
			got    *api.Event
			stays  bool
		}{
			{0, 0, &came, deep},
			{9, 0, &came, deep},
			{6, 6, &came, deep},
			{99, 6, &came, deep},
			{7, 7, &lost, false},
			{99, 7, &lost, false},
			{8, 8, nil, false},
			{99, 8, nil, false},
			{mostNum - 1, 0, &came, deep},
			{mostNum - 1, 6, &came, deep},
			{mostNum - 1, 7, &lost, false},
			{mostNum - 1, 8, nil, false},
			// Nothing is counted beyond the greatest number; a watch goes, or stays, as it does otherwise.
			{mostNum, 0, nil, deep},
			{mostNum, 6, nil, deep},
			{mostNum, 7, nil, false},
			{mostNum, 8, nil, false},
		} {
			w := api.Watched{Watches: []api.Watch{x}, Sessions: []api.Session{waiting(session, c.count, c.events)}}
			want := clone(w)
			if c.got != nil {
				s := &want.Sessions[0]
				s.Count++
				e := *c.got
				e.Num = s.Count
				s.Events = append(s.Events, e)
			}
			if !c.stays {
				want.Watches = nil
			}
			if a := agree(t, w, tell(api.Came, "/a")); a.err != api.OK || !same(a.w, want) {
				t.Errorf("%d, deep %v: %+v; want %+v", i, deep, a, want)
			}
		}
	}
}

// An event that tells of lost changes has the path of the watch, not the one at which something changed.
func TestTellLost(t *testing.T) {
	w := api.Watched{Watches: []api.Watch{{Session: 1, Num: 2, Path: "/a", Deep: true}}, Sessions: []api.Session{waiting(1, 7, 7)}}
	for kind := range int64(3) {
		got := after(t, w, tell(kind+1, "/a/b/c"))
		if len(got.Watches) != 0 || got.Sessions[0].Events[7] != (api.Event{Num: 8, Kind: api.Lost, Path: "/a", Watch: 2}) {
			t.Errorf("%+v", got)
		}
	}
}

// The watches of one session fill it one after the other; those of others have places of their own.
func TestTellManyWatches(t *testing.T) {
	var l []api.Watch
	for i := range int64(12) {
		l = append(l, api.Watch{Session: 2, Num: 12 - i, Path: "/a", Deep: i%2 == 0})
	}
	l = append(l, api.Watch{Session: 1, Num: 1, Path: "/", Deep: true}, api.Watch{Session: 2, Num: 40, Path: "/b", Deep: true})
	got := after(t, api.Watched{Watches: l}, tell(api.Changed, "/a"))
	want := api.Watched{Watches: []api.Watch{l[0], l[2], l[4], l[6], l[12], l[13]}, Sessions: []api.Session{{Num: 1, Count: 1}, {Num: 2, Count: 8}}}
	want.Sessions[0].Events = []api.Event{{Num: 1, Kind: api.Changed, Path: "/a", Watch: 1}}
	for i := range int64(7) {
		want.Sessions[1].Events = append(want.Sessions[1].Events, api.Event{Num: i + 1, Kind: api.Changed, Path: "/a", Watch: 12 - i})
	}
	want.Sessions[1].Events = append(want.Sessions[1].Events, api.Event{Num: 8, Kind: api.Lost, Path: "/a", Watch: 5})
	if !same(got, want) {
		t.Errorf("%+v; want %+v", got, want)
	}
}

// A session is added at its place when it gets its first event, and not before.
func TestTellAddsSessions(t *testing.T) {
	w := api.Watched{Watches: []api.Watch{{Session: 5, Num: 1, Path: "/a"}, {Session: 3, Num: 1, Path: "/b"}, {Session: 9, Num: 1, Path: "/a"}}, Sessions: []api.Session{{Num: 4}, {Num: 8}}}
	if got := after(t, w, tell(api.Went, "/c")); !same(got, w) {
		t.Errorf("%+v became %+v", w, got)
	}
	got := after(t, w, tell(api.Went, "/a"))
	e := []api.Event{{Num: 1, Kind: api.Went, Path: "/a", Watch: 1}}
	if !same(got, api.Watched{Watches: w.Watches[1:2], Sessions: []api.Session{{Num: 4}, {Num: 5, Count: 1, Events: e}, {Num: 8}, {Num: 9, Count: 1, Events: e}}}) {
		t.Errorf("%+v", got)
	}
}

func TestTellRefused(t *testing.T) {
	for _, w := range someWatched() {
		for _, kind := range []int64{-1 << 63, -1, 0, 4, 5, 1<<63 - 1} {
			for _, p := range []string{"/", "/a", "/a/"} {
				if a := agree(t, w, tell(kind, p)); !alike(a, answer{err: api.ErrArg}) {
					t.Errorf("%d, %q: %+v", kind, p, a)
				}
			}
		}
		for _, p := range noPaths() {
			if a := agree(t, w, tell(api.Came, p)); !alike(a, answer{err: api.ErrArg}) {
				t.Errorf("%q: %+v", p, a)
			}
		}
	}
}

// P9.1 (I4): Take.

func TestTake(t *testing.T) {
	whole := waiting(4, 20, 8) // with the numbers 13 to 20
	w := api.Watched{Watches: many(4, 2), Sessions: []api.Session{waiting(3, 20, 8), whole, waiting(5, 20, 8)}}
	for upTo, left := range map[int64]int{-1 << 63: 8, -1: 8, 0: 8, 12: 8, 13: 7, 16: 4, 19: 1, 20: 0, 21: 0, mostNum + 1: 0, 1<<63 - 1: 0} {
		a := agree(t, w, take(4, upTo))
		want := clone(w)
		want.Sessions[1].Events = whole.Events[8-left:]
		if a.err != api.OK || !same(a.w, want) || !slices.Equal(a.events, whole.Events[8-left:]) {
			t.Errorf("%d: %+v", upTo, a)
		}
	}
	for _, session := range []int64{-1 << 63, -1, 0, 1, 6, mostNum, 1<<63 - 1} {
		if a := agree(t, w, take(session, 20)); !alike(a, answer{w: w, err: api.ErrNone}) {
			t.Errorf("%d: %+v", session, a)
		}
	}
	// A watch alone is no session.
	if a := agree(t, api.Watched{Watches: many(4, 2)}, take(4, 0)); a.err != api.ErrNone {
		t.Errorf("%+v", a)
	}
}

// A session whose events were taken counts on, and a full one has room again.
func TestTakeAndGoOn(t *testing.T) {
	x := api.Watch{Session: 1, Num: 1, Path: "/a", Deep: true}
	w := after(t, api.Watched{}, add(x))
	for range 8 {
		w = after(t, w, tell(api.Came, "/a"))
	}
	if a := agree(t, w, add(x)); a.err != api.OK {
		t.Errorf("a watch that was lost may not be added again: %+v", a)
	}
	w = after(t, w, take(1, 3), add(x), tell(api.Went, "/a/b"), tell(api.Went, "/a/c"), tell(api.Went, "/a/d"))
	a := agree(t, w, take(1, 8))
	want := []api.Event{{Num: 9, Kind: api.Went, Path: "/a/b", Watch: 1}, {Num: 10, Kind: api.Went, Path: "/a/c", Watch: 1}, {Num: 11, Kind: api.Lost, Path: "/a", Watch: 1}}
	if !slices.Equal(a.events, want) || a.w.Sessions[0].Count != 11 || len(a.w.Watches) != 0 {
		t.Errorf("%+v", a)
	}
}

// P9.1: all functions, on all that is at hand.

// someDeeds is deeds of all sorts, right ones and wrong ones.
func someDeeds() []deed {
	l := []deed{add(api.Watch{}), add(api.Watch{Session: 9, Num: 1, Path: "a"})}
	for _, session := range []int64{0, 1, 2, 3, 7, mostNum, mostNum + 1} {
		for _, num := range []int64{0, 1, 2, 9, mostNum, mostNum + 1} {
			l = append(l, add(api.Watch{Session: session, Num: num, Path: "/a/b", Deep: num%2 == 0}), end(session, num))
		}
		for _, upTo := range []int64{-1, 0, 1, 3, 5, 8, mostNum - 3, mostNum} {
			l = append(l, take(session, upTo))
		}
	}
	for _, p := range []string{"/", "/a", "/a-", "/a/b", "/a/b/c", "/b", "/m0", "/w", deep6, "/a/", ""} {
		for kind := range int64(6) {
			l = append(l, tell(kind, p))
		}
	}
	return l
}

func TestAllDeeds(t *testing.T) {
	met := map[string]int{}
	for _, w := range someWatched() {
		for _, d := range someDeeds() {
			a := agree(t, w, d)
			met[d.call+strconv.Itoa(int(a.err))]++
			if a.err == api.OK && !watch.Right(a.w) {
				t.Errorf("%+v on %+v: %+v", d, w, a.w)
			}
			for _, e := range []deed{tell(api.Went, "/a/b"), take(2, 7)} {
				agree(t, a.w, e)
			}
		}
	}
	for _, m := range []string{"add0", "add1", "add61", "add2", "close0", "close62", "tell0", "tell1", "take0", "take62"} {
		if met[m] == 0 {
			t.Errorf("%s was not met: %v", m, met)
		}
	}
}

func TestWrongWatched(t *testing.T) {
	for _, w := range noWatched() {
		for _, d := range someDeeds() {
			if a := agree(t, w, d); a.w.Watches != nil || a.w.Sessions != nil || a.events != nil || a.err != api.ErrArg {
				t.Errorf("%+v on %+v: %+v", d, w, a)
			}
		}
	}
}
