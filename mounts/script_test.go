package mounts_test

import (
	"math/rand/v2"
	"slices"
	"testing"

	"canton/api"
	"canton/mounts"
)

func prefixesOfScript() []string {
	return []string{"/", "/a", "/a-", "/a/b", "/a/b/c", "/a/c", "/b", "/b/a", "/c", "/d"}
}

// dirsOfScript is directories in, beside and above the prefixes of scripts.
func dirsOfScript() []string {
	return append(prefixesOfScript(), "/a/b/c/d", "/a/b/x", "/a/bc", "/a/x", "/a-/x", "/ab", "/b/a/x", "/b/x", "/c/x", "/x", deep6)
}

// anyDeed is a deed with one of a few prefixes, so that mounts often meet. Half of the Flips are those of what is moving, or has moved.
func anyDeed(r *rand.Rand, l []api.Mount) deed {
	p := prefixesOfScript()[r.IntN(len(prefixesOfScript()))]
	switch m := l[r.IntN(len(l))]; r.IntN(4) {
	case 0, 1:
		return begin(p, r.IntN(4))
	case 2:
		return flip(p, m.Epoch-int64(r.IntN(2)), r.IntN(4))
	default:
		return flip(m.Prefix, m.Epoch-int64(r.IntN(2)), m.To)
	}
}

// step is a deed in a script: the mounts ahead of it, and what came of it.
type step struct {
	was []api.Mount
	d   deed
	answer
}

// script does many deeds one after the other, and has each looked at. Each of its parts begins with a root that nobody moves.
func script(t *testing.T, look func(first bool, s step)) {
	t.Helper()
	for seed := range uint64(40) {
		r := rand.New(rand.NewPCG(seed, 14))
		l := []api.Mount{rests("/", int(seed%4), int64(seed))}
		for i := range 300 {
			s := step{was: l, d: anyDeed(r, l)}
			s.answer = agree(t, l, s.d)
			if !mounts.Right(s.l) || !wantRight(s.l) {
				t.Fatalf("%+v: the mounts are not valid", s)
			}
			look(i == 0, s)
			l = s.l
		}
	}
}

// mountAt is the mount of a directory.
func mountAt(t *testing.T, l []api.Mount, dir string) api.Mount {
	t.Helper()
	at := mounts.Of(l, dir)
	if at < 0 {
		t.Fatalf("%q has no mount in %+v", dir, l)
	}
	return l[at]
}

// P14.2: each directory has one mount, the longest of all that contain it.
func TestOneMount(t *testing.T) {
	several := 0
	script(t, func(first bool, s step) {
		for _, dir := range dirsOfScript() {
			containing, m := 0, mountAt(t, s.l, dir)
			for _, n := range s.l {
				if !isIn(dir, n.Prefix) {
					continue
				}
				containing++
				if len(n.Prefix) > len(m.Prefix) || n.Prefix == m.Prefix && n != m {
					t.Fatalf("%q in %+v: %+v", dir, s.l, m)
				}
			}
			if containing == 0 || !isIn(dir, m.Prefix) {
				t.Fatalf("%q in %+v: %+v", dir, s.l, m)
			}
			if containing > 2 {
				several++
			}
		}
	})
	if several < 1000 {
		t.Errorf("%d directories were in several mounts", several)
	}
}

// P14.2: Begin changes the Group of no directory, and Flip changes exactly that of the directories of its mount.
func TestGroups(t *testing.T) {
	begun, flipped, covered := 0, 0, 0
	script(t, func(first bool, s step) {
		isFlip := s.d.call == "flip" && s.err == 0 && !isSame(s.l, s.was)
		for _, dir := range dirsOfScript() {
			was, now := mountAt(t, s.was, dir), mountAt(t, s.l, dir)
			want := was.Group
			if isFlip && was.Prefix == s.d.prefix {
				want = s.d.to
				flipped++
				if was.Group == want {
					t.Fatalf("%+v: the Group of %q does not change", s, dir)
				}
			} else if isIn(dir, s.d.prefix) && isFlip {
				covered++
			}
			if now.Group != want {
				t.Fatalf("%+v: the Group of %q was %d, and is %d", s, dir, was.Group, now.Group)
			}
		}
		if s.d.call == "begin" && s.err == 0 && !isSame(s.l, s.was) {
			begun++
		}
	})
	if begun < 1000 || flipped < 1000 || covered < 100 {
		t.Errorf("%d moves began, %d directories moved, %d times one in a longer mount did not", begun, flipped, covered)
	}
}

// P14.3: a move that was begun and flipped is complete; repeating either call changes nothing.
func TestMovesAreComplete(t *testing.T) {
	moved := 0
	for _, l := range someMounts() {
		for _, p := range somePaths() {
			for to := range 4 {
				a := agree(t, l, begin(p, to))
				if a.err != 0 {
					continue
				}
				if again := agree(t, a.l, begin(p, to)); again.err != 0 || !slices.Equal(again.l, a.l) || again.m != a.m {
					t.Fatalf("%q to %d in %+v: %+v, then %+v", p, to, l, a, again)
				}
				b := agree(t, a.l, flip(p, a.m.Epoch, to))
				if a.m.Epoch == mostNum {
					continue
				}
				done := rests(p, to, a.m.Epoch+1)
				if b.err != 0 || mountAt(t, b.l, p) != done {
					t.Fatalf("%q to %d in %+v: %+v", p, to, l, b)
				}
				moved++
				if again := agree(t, b.l, flip(p, a.m.Epoch, to)); again.err != 0 || !slices.Equal(again.l, b.l) {
					t.Fatalf("%q to %d in %+v: %+v, then %+v", p, to, l, b, again)
				}
				if again := agree(t, b.l, begin(p, to)); again.err == 0 || !slices.Equal(again.l, b.l) {
					t.Fatalf("%q to %d in %+v: %+v, then %+v", p, to, l, b, again)
				}
			}
		}
	}
	if moved < 200 {
		t.Errorf("%d moves were complete", moved)
	}
}

// So it is at any later time, till the next move of that prefix begins.
func TestRepeatedLater(t *testing.T) {
	moving, moved := map[string]api.Mount{}, map[string]api.Mount{}
	early, late := 0, 0
	script(t, func(first bool, s step) {
		if first {
			clear(moving)
			clear(moved)
		}
		if s.err == 0 && !isSame(s.l, s.was) {
			delete(moving, s.d.prefix)
			delete(moved, s.d.prefix)
			if s.d.call == "begin" {
				moving[s.d.prefix] = s.m
			} else {
				moved[s.d.prefix] = rests(s.d.prefix, s.d.to, s.d.epoch+1)
			}
		}
		for p, m := range moving {
			if a := agree(t, s.l, begin(p, m.To)); a.err != 0 || !isSame(a.l, s.l) || a.m != m {
				t.Fatalf("%q to %d in %+v: %+v", p, m.To, s.l, a)
			}
			early++
		}
		for p, m := range moved {
			if a := agree(t, s.l, flip(p, m.Epoch-1, m.To)); a.err != 0 || !isSame(a.l, s.l) {
				t.Fatalf("%q to %d in %+v: %+v", p, m.To, s.l, a)
			}
			if a := agree(t, s.l, begin(p, m.To)); a.err == 0 || !isSame(a.l, s.l) {
				t.Fatalf("%q to %d in %+v: %+v", p, m.To, s.l, a)
			}
			if mountAt(t, s.l, p) != m {
				t.Fatalf("%+v has moved, and is not in %+v", m, s.l)
			}
			late++
		}
	})
	if early < 1000 || late < 1000 {
		t.Errorf("%d Begins were repeated, and %d Flips", early, late)
	}
}

// P14.4: the Epoch of a Prefix never decreases, nor does that of a directory. It rises by a Flip alone, which ends a move.
func TestEpochsNeverDecrease(t *testing.T) {
	rose := 0
	script(t, func(first bool, s step) {
		for _, m := range s.was {
			now := mountAt(t, s.l, m.Prefix)
			if now.Prefix != m.Prefix || now.Epoch < m.Epoch {
				t.Fatalf("%+v: %+v became %+v", s, m, now)
			}
			if now.Epoch == m.Epoch {
				continue
			}
			rose++
			if s.d.call != "flip" || s.d.prefix != m.Prefix || now != rests(m.Prefix, m.To, m.Epoch+1) || !isMoving(m) {
				t.Fatalf("%+v: %+v became %+v", s, m, now)
			}
		}
		for _, dir := range dirsOfScript() {
			if was, now := mountAt(t, s.was, dir), mountAt(t, s.l, dir); now.Epoch < was.Epoch {
				t.Fatalf("%+v: %q had %+v, and has %+v", s, dir, was, now)
			}
		}
	})
	if rose < 500 {
		t.Errorf("%d Epochs rose", rose)
	}
}

// No mount moves that lies in one that does, if the moves are begun here.
func TestNoMoveInAnother(t *testing.T) {
	together := 0
	script(t, func(first bool, s step) {
		var on []string
		for _, m := range s.l {
			if isMoving(m) {
				on = append(on, m.Prefix)
			}
		}
		for i, p := range on {
			for _, q := range on[:i] {
				together++
				if isIn(p, q) || isIn(q, p) {
					t.Fatalf("%+v: %q and %q are moving", s, q, p)
				}
			}
		}
	})
	if together < 1000 {
		t.Errorf("%d pairs were moving", together)
	}
}
