package locks_test

import (
	"maps"
	"math/rand/v2"
	"slices"
	"testing"

	"canton/api"
	"canton/locks"
)

// step is what a script does: a request, or the release of a transaction.
type step struct {
	q    request
	free bool
}

// anyStep is a step with a few directories, so that transactions often meet. Some ages are equal.
func anyStep(r *rand.Rand, l []api.Hold, dirs []string) step {
	txn := int64(r.IntN(7))
	s := step{q: ask(txn, txn*5%4)}
	if len(l) > 0 && r.IntN(6) == 0 {
		h := l[r.IntN(len(l))]
		return step{q: ask(h.Txn, h.Age), free: true}
	}
	for range r.IntN(5) {
		s.q.dirs = append(s.q.dirs, dirs[r.IntN(len(dirs))])
	}
	return s
}

// script does many steps one after the other, from nothing on, and has each looked at; the first of a script has no holds before.
func script(t *testing.T, look func(was []api.Hold, s step, a answer)) {
	t.Helper()
	dirs := []string{"/", "/a", "/a-", "/a/b", "/a/b/c", "/b", "/b/a", "/c", "/d", "/e", "/f", "/g"}
	for seed := range uint64(12) {
		r := rand.New(rand.NewPCG(seed, 10))
		var l []api.Hold
		for range 1500 {
			s := anyStep(r, l, dirs)
			var a answer
			if s.free {
				a.holds = locks.Free(l, s.q.txn)
			} else {
				a = agree(t, l, s.q)
			}
			if !locks.Right(a.holds) || !wantRight(a.holds) {
				t.Fatalf("%+v on %+v: %+v", s, l, a)
			}
			look(l, s, a)
			l = a.holds
		}
		for txn := range int64(7) {
			free := locks.Free(l, txn)
			look(l, step{q: ask(txn, txn*5%4), free: true}, answer{holds: free})
			l = free
		}
		if len(l) != 0 {
			t.Fatalf("%+v is held by nobody", l)
		}
	}
}

// P10.2: a directory is held by at most one transaction; a request is granted completely or not at all.

func TestOneEach(t *testing.T) {
	holder := map[string]int64{}
	granted, refused := 0, 0
	script(t, func(was []api.Hold, s step, a answer) {
		taken := false
		for _, dir := range s.q.dirs {
			if txn, held := holder[dir]; held && txn != s.q.txn {
				taken = true
			}
		}
		switch {
		case s.free:
			maps.DeleteFunc(holder, func(_ string, txn int64) bool { return txn == s.q.txn })
		case a.granted:
			granted++
			for _, dir := range s.q.dirs {
				holder[dir] = s.q.txn
			}
		default:
			refused++
			if !slices.Equal(a.holds, was) {
				t.Fatalf("%+v: %+v became %+v", s, was, a.holds)
			}
		}
		if !s.free && a.granted == taken {
			t.Fatalf("%+v on %+v: %v", s, was, a.granted)
		}
		if len(a.holds) != len(holder) {
			t.Fatalf("%+v: %+v; want %v", s, a.holds, holder)
		}
		for i, h := range a.holds {
			if txn, held := locks.Held(a.holds, h.Dir); !held || txn != holder[h.Dir] || txn != h.Txn || i > 0 && h.Dir == a.holds[i-1].Dir {
				t.Fatalf("%+v: %+v; want %v", s, a.holds, holder)
			}
		}
	})
	if granted < 1000 || refused < 1000 {
		t.Errorf("%d were granted, %d refused", granted, refused)
	}
}

// P10.3: if two transactions wait for each other, one of them is wounded.

// One of the two is wounded, and not the other one, whatever their ages and numbers are.
func TestOneOfTwoIsWounded(t *testing.T) {
	nums := []int64{0, 1, 2, 3, mostNum - 1, mostNum}
	for _, one := range nums {
		for _, two := range nums {
			for _, oneAge := range nums {
				for _, twoAge := range nums {
					if one == two {
						continue
					}
					l := after(t, nil, ask(one, oneAge, "/a", "/c"), ask(two, twoAge, "/b"))
					a, b := agree(t, l, ask(one, oneAge, "/b", "/d")), agree(t, l, ask(two, twoAge, "/c", "/a"))
					if a.granted || b.granted || len(a.wounded)+len(b.wounded) != 1 {
						t.Errorf("%d with the age %d and %d with the age %d: %+v, %+v", one, oneAge, two, twoAge, a, b)
					}
				}
			}
		}
	}
}

func TestNoRing(t *testing.T) {
	waits := map[int64]request{} // what was refused, and not asked for again
	pairs, rings := 0, 0
	script(t, func(was []api.Hold, s step, a answer) {
		delete(waits, s.q.txn)
		if !s.free && !a.granted {
			waits[s.q.txn] = s.q
		}
		bears := map[int64][]int64{} // whom a transaction waits for without wounding
		for txn, q := range waits {
			now := q.take(a.holds)
			for _, other := range holders(a.holds, q) {
				back, isWaiting := waits[other]
				wounds := slices.Contains(now.wounded, other)
				if isWaiting && slices.Contains(holders(a.holds, back), txn) {
					if pairs++; wounds == slices.Contains(back.take(a.holds).wounded, txn) {
						t.Fatalf("%+v on %+v: of %+v and %+v not one is wounded", s, was, q, back)
					}
				}
				if !wounds {
					bears[txn] = append(bears[txn], other)
				}
			}
		}
		if len(bears) > 1 {
			rings++
		}
		if left := ring(bears); len(left) > 0 {
			t.Fatalf("%+v on %+v: a ring without a wound: %v", s, was, left)
		}
	})
	if pairs < 1000 || rings < 1000 {
		t.Errorf("%d times two waited for each other, %d times several waited", pairs, rings)
	}
}

// holders is the other transactions that hold what is requested.
func holders(l []api.Hold, q request) []int64 {
	var found []int64
	for _, h := range l {
		if h.Txn != q.txn && slices.Contains(q.dirs, h.Dir) {
			found = append(found, h.Txn)
		}
	}
	return found
}

// ring is what remains of who waits for whom, when those who wait for nobody any more are let go one after the other.
func ring(waits map[int64][]int64) map[int64][]int64 {
	for range len(waits) + 1 {
		maps.DeleteFunc(waits, func(_ int64, l []int64) bool {
			return !slices.ContainsFunc(l, func(other int64) bool { return len(waits[other]) > 0 })
		})
	}
	return waits
}

// An older transaction that finds its directories held gets them when those that it wounds are let go: the oldest of all waits for nobody.
func TestTheOldestIsServed(t *testing.T) {
	served := 0
	script(t, func(was []api.Hold, s step, a answer) {
		if s.free || len(was) == 0 {
			return
		}
		oldest := was[0]
		for _, h := range was {
			if isOlder(h.Txn, h.Age, oldest.Txn, oldest.Age) {
				oldest = h
			}
		}
		q := ask(oldest.Txn, oldest.Age, "/", "/a", "/b", "/c", "/d", "/a/b")
		got := agree(t, was, q)
		if got.granted {
			return
		}
		for _, txn := range got.wounded {
			got.holds = locks.Free(got.holds, txn)
		}
		served++
		after(t, got.holds, q)
	})
	if served < 1000 {
		t.Errorf("%d were served", served)
	}
}

// P10.4: directories that were released can be requested again.

func TestReleased(t *testing.T) {
	released := 0
	script(t, func(was []api.Hold, s step, a answer) {
		if !s.free {
			return
		}
		var dirs []string
		var rest []api.Hold
		for _, h := range was {
			if h.Txn == s.q.txn {
				dirs = append(dirs, h.Dir)
			} else {
				rest = append(rest, h)
			}
		}
		if !slices.Equal(a.holds, rest) {
			t.Fatalf("%+v: %+v became %+v", s, was, a.holds)
		}
		released += len(dirs)
		for _, dir := range dirs {
			if txn, held := locks.Held(a.holds, dir); txn != 0 || held {
				t.Fatalf("%+v: %s is held by %d", s, dir, txn)
			}
		}
		// By another one, old or young; or by the same one, with any age.
		for _, q := range []request{ask(20, 0, dirs...), ask(20, mostNum, dirs...), ask(s.q.txn, s.q.age, dirs...), ask(s.q.txn, s.q.age+1, dirs...)} {
			got := agree(t, a.holds, q)
			if !got.granted || len(got.holds) != len(was) {
				t.Fatalf("%+v behind %+v on %+v: %+v", q, s, was, got)
			}
			for _, dir := range dirs {
				if txn, held := locks.Held(got.holds, dir); txn != q.txn || !held {
					t.Fatalf("%+v: %s is held by %d", q, dir, txn)
				}
			}
			if back := locks.Free(got.holds, q.txn); !slices.Equal(back, a.holds) {
				t.Fatalf("%+v: %+v became %+v", q, a.holds, back)
			}
		}
	})
	if released < 1000 {
		t.Errorf("%d directories were released", released)
	}
}
