package watch_test

import (
	"math/rand/v2"
	"slices"
	"testing"

	"canton/api"
	"canton/watch"
)

// anyDeed is a deed with a few paths and numbers, so that it often finds something. Every so often all of a session is taken, which some sessions never do.
func anyDeed(r *rand.Rand, w api.Watched) deed {
	few := []string{"/", "/a", "/a/b", "/a/b/c", "/b", "/b/a", "/c"}
	p := few[r.IntN(len(few))]
	session, num := int64(1+r.IntN(4)), int64(1+r.IntN(6))
	switch n := r.IntN(20); {
	case n < 6:
		return add(api.Watch{Session: session, Num: num, Path: p, Deep: r.IntN(3) > 0})
	case n < 7:
		return end(session, num)
	case n < 10:
		var count int64
		if i := slices.IndexFunc(w.Sessions, func(s api.Session) bool { return s.Num == session }); i >= 0 {
			count = w.Sessions[i].Count
		}
		return take(session, count-int64(r.IntN(6))+1)
	}
	return tell(int64(1+r.IntN(3)), p)
}

// script does many deeds one after the other, from nothing on, and has each looked at.
func script(t *testing.T, look func(was api.Watched, d deed, a answer)) {
	t.Helper()
	for seed := range uint64(12) {
		r := rand.New(rand.NewPCG(seed, 9))
		var w api.Watched
		for range 1200 {
			d := anyDeed(r, w)
			a := agree(t, w, d)
			if !watch.Right(a.w) {
				t.Fatalf("%+v on %+v: %+v", d, w, a.w)
			}
			look(w, d, a)
			w = a.w
		}
		look(api.Watched{}, deed{}, answer{})
	}
}

// sessionOf is the session of that number, or one with nothing in it.
func sessionOf(w api.Watched, num int64) api.Session {
	for _, s := range w.Sessions {
		if s.Num == num {
			return s
		}
	}
	return api.Session{Num: num}
}

// news is the events of a session of which there were fewer before.
func news(was api.Watched, w api.Watched, num int64) []api.Event {
	from := sessionOf(was, num).Count
	return slices.DeleteFunc(slices.Clone(sessionOf(w, num).Events), func(e api.Event) bool { return e.Num <= from })
}

func theWatch(w api.Watched, session int64, num int64) (api.Watch, bool) {
	for _, x := range w.Watches {
		if x.Session == session && x.Num == num {
			return x, true
		}
	}
	return api.Watch{}, false
}

// P9.2: a watch that is not Deep is notified at most once, and the events of a session have numbers that increase by one.

func TestOnce(t *testing.T) {
	type pair struct{ session, num int64 }
	notified := map[pair]int{} // since the watch was added
	last := map[int64]int64{}  // the greatest number of a session
	once, events := 0, 0
	script(t, func(was api.Watched, d deed, a answer) {
		if d.call == "" {
			clear(notified)
			clear(last)
			return
		}
		if d.call == "add" && a.err == api.OK {
			notified[pair{d.x.Session, d.x.Num}] = 0
		}
		for _, s := range a.w.Sessions {
			for _, e := range news(was, a.w, s.Num) {
				events++
				if last[s.Num]++; e.Num != last[s.Num] {
					t.Fatalf("%+v: the event %+v of the session %d behind the number %d", d, e, s.Num, last[s.Num]-1)
				}
				x, there := theWatch(was, s.Num, e.Watch)
				if !there {
					t.Fatalf("%+v: %+v of a watch that is not there: %+v", d, e, was)
				}
				n := pair{s.Num, e.Watch}
				if notified[n]++; !x.Deep && notified[n] > 1 {
					t.Fatalf("%+v: %+v was notified %d times", d, x, notified[n])
				}
				if _, still := theWatch(a.w, s.Num, e.Watch); !x.Deep {
					once++
					if still {
						t.Fatalf("%+v: %+v is still there", d, x)
					}
				}
			}
			if s.Count != last[s.Num] {
				t.Fatalf("%+v: the Count of %+v is not %d", d, s, last[s.Num])
			}
		}
	})
	if once < 100 || events < 1000 {
		t.Errorf("%d watches were notified once, of %d events", once, events)
	}
}

// P9.3: a Deep watch is notified of every change in its path, as long as it exists, and goes when it is closed, or together with one Lost event.

func TestNoGap(t *testing.T) {
	type change struct {
		kind int
		path string
	}
	type pair struct{ session, num int64 }
	due, seen := map[pair][]change{}, map[pair][]change{} // since the watch was added
	stayed, lost, closed := 0, 0, 0
	script(t, func(was api.Watched, d deed, a answer) {
		if d.call == "" {
			clear(due)
			clear(seen)
			return
		}
		if d.call == "add" && a.err == api.OK {
			due[pair{d.x.Session, d.x.Num}], seen[pair{d.x.Session, d.x.Num}] = nil, nil
		}
		for _, x := range was.Watches {
			if !x.Deep {
				continue
			}
			n := pair{x.Session, x.Num}
			if d.call == "tell" && isIn(d.x.Path, x.Path) {
				due[n] = append(due[n], change{int(d.n), d.x.Path})
			}
			for _, e := range news(was, a.w, x.Session) {
				if e.Watch == x.Num && e.Kind != api.Lost {
					seen[n] = append(seen[n], change{e.Kind, e.Path})
				}
			}
			_, still := theWatch(a.w, x.Session, x.Num)
			if still && !slices.Equal(due[n], seen[n]) {
				t.Fatalf("%+v: %+v was notified of %+v; want %+v", d, x, seen[n], due[n])
			}
			switch {
			case still:
				stayed++
			case d.call == "close" && d.x.Session == x.Session && d.x.Num == x.Num:
				closed++
			case d.call == "tell" && isIn(d.x.Path, x.Path) && isLost(sessionOf(a.w, x.Session)):
				if lost++; !slices.Equal(due[n][:len(due[n])-1], seen[n]) {
					t.Fatalf("%+v: %+v was notified of %+v; it was lost behind %+v", d, x, seen[n], due[n])
				}
			default:
				t.Fatalf("%+v: %+v is gone: %+v", d, x, a.w)
			}
		}
	})
	if stayed < 1000 || lost < 100 || closed < 20 {
		t.Errorf("%d times a watch stayed, %d were lost, %d closed", stayed, lost, closed)
	}
}

// isLost is whether the eighth event of a session tells of lost changes.
func isLost(s api.Session) bool {
	return len(s.Events) == mostWait && s.Events[mostWait-1].Kind == api.Lost
}

// The watches that are lost at one change have one Lost event between them, which is the session's last one.
func TestOneLostEvent(t *testing.T) {
	for n := range 20 {
		w := api.Watched{Sessions: []api.Session{waiting(1, 7, 7)}}
		w.Sessions[0].Events[3].Kind = api.Came
		for i := range int64(n) {
			w = after(t, w, add(api.Watch{Session: 1, Num: i + 1, Path: "/", Deep: true}))
		}
		got := after(t, w, tell(api.Came, "/a"), tell(api.Came, "/a"))
		s := got.Sessions[0]
		if len(got.Watches) != 0 || len(s.Events) != 7+min(n, 1) || s.Count != int64(len(s.Events)) {
			t.Errorf("%d watches: %+v", n, got)
		}
		if n > 0 && (!isLost(s) || s.Events[7].Watch != 1 || slices.ContainsFunc(s.Events[:7], func(e api.Event) bool { return e.Kind == api.Lost })) {
			t.Errorf("%d watches: %+v", n, s)
		}
	}
}

// P9.4: events that were not taken remain.

func TestEventsRemain(t *testing.T) {
	taken, remained := 0, 0
	script(t, func(was api.Watched, d deed, a answer) {
		if d.call == "" {
			return
		}
		for _, s := range was.Sessions {
			want := s.Events
			if d.call == "take" && d.x.Session == s.Num {
				want = slices.DeleteFunc(slices.Clone(want), func(e api.Event) bool { return e.Num <= d.n })
				taken += len(s.Events) - len(want)
				if !slices.Equal(a.events, want) {
					t.Fatalf("%+v on %+v: %+v", d, was, a.events)
				}
			}
			now := sessionOf(a.w, s.Num)
			if len(now.Events) < len(want) || !slices.Equal(now.Events[:len(want)], want) || now.Count < s.Count {
				t.Fatalf("%+v: %+v became %+v", d, s, now)
			}
			if d.call == "take" && (len(now.Events) != len(want) || now.Count != s.Count) {
				t.Fatalf("%+v: %+v became %+v", d, s, now)
			}
			remained += len(want)
		}
		if d.call == "take" && !slices.Equal(a.w.Watches, was.Watches) {
			t.Fatalf("%+v: %+v became %+v", d, was.Watches, a.w.Watches)
		}
	})
	if taken < 1000 || remained < 1000 {
		t.Errorf("%d events were taken, %d remained", taken, remained)
	}
}

// The watches that are not removed keep their places.
func TestWatchesKeepTheirPlaces(t *testing.T) {
	removed := 0
	script(t, func(was api.Watched, d deed, a answer) {
		if d.call == "" {
			return
		}
		want := was.Watches
		if d.call == "add" && a.err == api.OK {
			want = append(slices.Clone(want), d.x)
		} else {
			want = slices.DeleteFunc(slices.Clone(want), func(x api.Watch) bool { return !slices.Contains(a.w.Watches, x) })
			removed += len(was.Watches) - len(want)
		}
		if !slices.Equal(a.w.Watches, want) {
			t.Fatalf("%+v: %+v became %+v", d, was.Watches, a.w.Watches)
		}
	})
	if removed < 100 {
		t.Errorf("%d watches were removed", removed)
	}
}
