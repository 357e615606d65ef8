package owned_test

import (
	"math/rand/v2"
	"slices"
	"strings"
	"testing"

	"canton/api"
	"canton/owned"
	"canton/part"
)

// anyDeed is a deed with one of a few prefixes, so that ranges often meet. The epochs of half of the drops are right ones.
func anyDeed(r *rand.Rand, l []api.Range, prefixes []string) deed {
	p := prefixes[r.IntN(len(prefixes))]
	epoch := int64(r.IntN(12))
	switch r.IntN(4) {
	case 0:
		return freeze(p)
	case 1:
		return install(p, epoch)
	case 2:
		return drop(p, epoch)
	}
	if len(l) == 0 {
		return install(p, epoch)
	}
	q := l[r.IntN(len(l))]
	return drop(q.Prefix, q.Epoch)
}

// dirsOfScript is directories in, beside and above the prefixes of scripts.
func dirsOfScript() []string {
	return append(prefixesOfScript(), "/a/b/c/d/e", deep6, "/a/b/x", "/a/x", "/a-/x", "/ab", "/b/a/x", "/b/x", "/c/x", "/x")
}

func prefixesOfScript() []string {
	return []string{"/", "/a", "/a-", "/a/b", "/a/b/c", "/a/b/c/d", "/a/c", "/b", "/b/a", "/b/b", "/c", "/d"}
}

// script does many deeds one after the other, from nothing on, and has each looked at that was done. What next makes of a deed is done in place of it.
func script(t *testing.T, next func(l []api.Range, d deed) deed, look func(was []api.Range, d deed, now []api.Range)) {
	t.Helper()
	for seed := range uint64(40) {
		r := rand.New(rand.NewPCG(seed, 11))
		var l []api.Range
		for range 300 {
			d := next(l, anyDeed(r, l, prefixesOfScript()))
			now, ok := agree(t, l, d)
			if !ok {
				continue
			}
			if !owned.Right(now) || !wantRight(now) {
				t.Fatalf("%+v of %+v: %+v", d, l, now)
			}
			look(l, d, now)
			l = now
		}
	}
}

func asItIs(l []api.Range, d deed) deed { return d }

// rangeAt is the range of a directory, if there is one.
func rangeAt(l []api.Range, dir string) (api.Range, bool) {
	at := owned.Of(l, dir)
	if at < 0 {
		return api.Range{}, false
	}
	return l[at], true
}

// P11.2: each directory has at most one range; when a range is added, only the directories in its Prefix that are not in a longer one get another range.

func TestOneRange(t *testing.T) {
	added, replaced, covered := 0, 0, 0
	script(t, asItIs, func(was []api.Range, d deed, now []api.Range) {
		isAdded := len(now) > len(was)
		if isAdded {
			added++
		} else {
			replaced++
		}
		for _, dir := range dirsOfScript() {
			r, had := rangeAt(was, dir)
			q, has := rangeAt(now, dir)
			longer := had && len(r.Prefix) > len(d.prefix)
			if longer && isIn(dir, d.prefix) {
				covered++
			}
			if isIn(dir, d.prefix) && !longer {
				if !has || q.Prefix != d.prefix || isAdded && had && r.Prefix == d.prefix {
					t.Fatalf("%+v of %+v: %q has the range %+v, %v", d, was, dir, q, has)
				}
			} else if had != has || q != r {
				t.Fatalf("%+v of %+v: %q had the range %+v, %v, and has %+v, %v", d, was, dir, r, had, q, has)
			}
		}
		// No other range changes, comes or goes.
		for _, r := range was {
			if r.Prefix != d.prefix && !slices.Contains(now, r) {
				t.Fatalf("%+v of %+v: %+v", d, was, now)
			}
		}
		if isAdded != !slices.ContainsFunc(was, func(r api.Range) bool { return r.Prefix == d.prefix }) || len(now)-len(was) > 1 {
			t.Fatalf("%+v of %+v: %+v", d, was, now)
		}
	})
	if added < 100 || replaced < 100 || covered < 1000 {
		t.Errorf("%d ranges were added, %d replaced, %d times a longer one was left", added, replaced, covered)
	}
}

// Of all ranges whose Prefixes contain a directory, one is the longest, and it is the one that is told.
func TestLongestOfSeveral(t *testing.T) {
	several := 0
	script(t, asItIs, func(was []api.Range, d deed, now []api.Range) {
		for _, dir := range dirsOfScript() {
			containing := 0
			for _, r := range now {
				if !isIn(dir, r.Prefix) {
					continue
				}
				containing++
				if q, has := rangeAt(now, dir); !has || len(q.Prefix) < len(r.Prefix) {
					t.Fatalf("%q in %+v: %+v, %v", dir, now, q, has)
				}
			}
			if _, has := rangeAt(now, dir); has != (containing > 0) {
				t.Fatalf("%q in %+v: %v", dir, now, has)
			}
			if containing > 2 {
				several++
			}
		}
	})
	if several < 1000 {
		t.Errorf("%d directories were in several ranges", several)
	}
}

// P11.3: directories that were frozen are not Mine again until they are installed with a greater epoch.

// thawed does scripts and has each directory looked at that was frozen, as part of a range, and is Mine again.
func thawed(t *testing.T, next func(l []api.Range, d deed) deed, look func(dir string, since api.Range, was []api.Range, d deed)) {
	t.Helper()
	since := map[string]api.Range{} // the ranges as parts of which directories were frozen
	script(t, next, func(was []api.Range, d deed, now []api.Range) {
		if len(was) == 0 {
			clear(since)
		}
		for _, dir := range dirsOfScript() {
			switch owned.State(now, dir) {
			case frozen:
				since[dir], _ = rangeAt(now, dir)
			case mine:
				if r, ever := since[dir]; ever {
					look(dir, r, was, d)
					delete(since, dir)
				}
			}
		}
	})
}

func TestFrozenUntilInstalled(t *testing.T) {
	same, longer := 0, 0
	thawed(t, asItIs, func(dir string, since api.Range, was []api.Range, d deed) {
		if d.call != "install" || !isIn(dir, d.prefix) || !isIn(d.prefix, since.Prefix) {
			t.Fatalf("%q, frozen in %+v, is Mine by %+v of %+v", dir, since, d, was)
		}
		// A Prefix that has no range yet may be installed with any epoch.
		if d.prefix != since.Prefix {
			longer++
			return
		}
		same++
		if d.epoch <= since.Epoch {
			t.Fatalf("%q, frozen in %+v, is Mine by %+v of %+v", dir, since, d, was)
		}
	})
	if same < 100 || longer < 100 {
		t.Errorf("%d were installed with the same Prefix, %d with a longer one", same, longer)
	}
}

// If a Prefix that has no range yet is installed with no other epochs than greater ones than that of the range around it, then the epoch is greater for each directory.
func TestFrozenUntilAGreaterEpoch(t *testing.T) {
	rising := func(l []api.Range, d deed) deed {
		r, has := rangeAt(l, d.prefix)
		if d.call == "install" && has && r.Prefix != d.prefix {
			d.epoch = r.Epoch + 1 + d.epoch%2
		}
		return d
	}
	again := 0
	thawed(t, rising, func(dir string, since api.Range, was []api.Range, d deed) {
		again++
		if d.call != "install" || !isIn(dir, d.prefix) || d.epoch <= since.Epoch {
			t.Fatalf("%q, frozen in %+v, is Mine by %+v of %+v", dir, since, d, was)
		}
	})
	if again < 100 {
		t.Errorf("%d were Mine again", again)
	}
}

// What is frozen, or gone, is not Mine by any deed but an install of the range, or of what lies in it.
func TestFrozenAgainstAll(t *testing.T) {
	for _, state := range []int{frozen, gone} {
		l := []api.Range{ofMine("/", 9), {Prefix: "/a", Epoch: 5, State: state}, ofMine("/b", 2)}
		for _, d := range someDeeds() {
			now, ok := agree(t, l, d)
			if !ok {
				continue
			}
			thaws := d == install("/a", d.epoch) && d.epoch > 5
			for _, dir := range []string{"/a", "/a/y", "/a/y/z"} {
				if isMine := owned.State(now, dir) == mine; isMine != thaws {
					t.Errorf("%+v of %+v: %q: %+v", d, l, dir, now)
				}
			}
		}
	}
}

// P11.4: the two stores that Cut returns together are the original store.

// anyStore is a store of some nodes and turns at and in the directories.
func anyStore(r *rand.Rand, dirs []string) api.Store {
	var paths, turns []string
	for _, dir := range dirs {
		if r.IntN(2) == 0 {
			paths = append(paths, dir)
		}
		for _, last := range []string{"0", "k", "z"} {
			if p := strings.TrimSuffix(dir, "/") + "/" + last; r.IntN(4) == 0 && dir != deep6 {
				paths = append(paths, p)
			}
		}
		if r.IntN(2) == 0 {
			turns = append(turns, dir)
		}
	}
	slices.Sort(paths)
	slices.Sort(turns)
	return storeOf(strings.Join(paths, " "), strings.Join(turns, " "))
}

// together is one store of both.
func together(s api.Store, q api.Store) api.Store {
	now := api.Store{Nodes: slices.Concat(s.Nodes, q.Nodes), Turns: slices.Concat(s.Turns, q.Turns)}
	slices.SortFunc(now.Nodes, func(n api.Node, m api.Node) int { return strings.Compare(n.Path, m.Path) })
	slices.SortFunc(now.Turns, func(a api.Turn, b api.Turn) int { return strings.Compare(a.Dir, b.Dir) })
	return now
}

func TestTogetherTheOriginal(t *testing.T) {
	r := rand.New(rand.NewPCG(4, 11))
	halved, deeds := 0, 0
	script(t, asItIs, func(was []api.Range, d deed, now []api.Range) {
		if deeds++; deeds%4 > 0 {
			return
		}
		s := anyStore(r, dirsOfScript())
		if !part.Right(s) {
			t.Fatalf("%+v is not valid", s)
		}
		for _, prefix := range []string{d.prefix, prefixesOfScript()[r.IntN(len(prefixesOfScript()))], "/", "?"} {
			cut, rest := agreeCut(t, s, now, prefix)
			if both := together(cut, rest); !same(both, s) {
				t.Fatalf("%q of %+v, with %+v: %+v and %+v", prefix, s, now, cut, rest)
			}
			if !part.Right(cut) || !part.Right(rest) {
				t.Fatalf("%q of %+v, with %+v: %+v and %+v are not valid", prefix, s, now, cut, rest)
			}
			if !isZero(cut) && !isZero(rest) {
				halved++
			}
		}
	})
	if halved < 1000 {
		t.Errorf("%d stores were halved", halved)
	}
}

// Cut for one range after the other leaves what is kept at directories without a range.
func TestCutForAllRanges(t *testing.T) {
	r := rand.New(rand.NewPCG(5, 11))
	left, deeds := 0, 0
	script(t, asItIs, func(was []api.Range, d deed, now []api.Range) {
		if deeds++; deeds%8 > 0 {
			return
		}
		s := anyStore(r, dirsOfScript())
		var all api.Store
		rest := s
		for _, q := range now {
			var cut api.Store
			cut, rest = agreeCut(t, rest, now, q.Prefix)
			for _, n := range cut.Nodes {
				if of, has := rangeAt(now, above(n.Path)); !has || of != q {
					t.Fatalf("%+v, with %+v: %+v is cut out for %+v", s, now, n, q)
				}
			}
			for _, turn := range cut.Turns {
				if of, has := rangeAt(now, turn.Dir); !has || of != q {
					t.Fatalf("%+v, with %+v: %+v is cut out for %+v", s, now, turn, q)
				}
			}
			all = together(all, cut)
		}
		for _, n := range rest.Nodes {
			if of, has := rangeAt(now, above(n.Path)); has {
				t.Fatalf("%+v, with %+v: %+v is left over, of %+v", s, now, n, of)
			}
			left++
		}
		if !same(together(all, rest), s) {
			t.Fatalf("%+v, with %+v: %+v and %+v", s, now, all, rest)
		}
	})
	if left == 0 {
		t.Errorf("nothing was left over")
	}
}
