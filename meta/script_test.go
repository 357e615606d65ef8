package meta_test

import (
	"math/rand/v2"
	"slices"
	"testing"

	"canton/api"
	"canton/meta"
)

func prefixesOfScript() []string {
	return []string{"/", "/a", "/a-", "/a/b", "/a/b/c", "/a/c", "/b", "/b/a", "/c", "/d"}
}

// dirsOfScript is directories in, beside and above the prefixes of scripts.
func dirsOfScript() []string {
	return append(prefixesOfScript(), "/a/b/c/d", "/a/b/x", "/a/bc", "/a/x", "/a-/x", "/ab", "/b/a/x", "/b/x", "/c/x", "/x", deep6)
}

// anyCommand is a command with one of a few prefixes, so that mounts often meet. Most Flips are those of what is moving, or has moved.
func anyCommand(r *rand.Rand, l []api.Mount) api.Command {
	p, m := prefixesOfScript()[r.IntN(len(prefixesOfScript()))], l[r.IntN(len(l))]
	switch r.IntN(10) {
	case 0, 1, 2, 3:
		return begin(p, r.IntN(4))
	case 4:
		return flip(p, m.Epoch, r.IntN(4))
	case 5, 6, 7:
		return flip(m.Prefix, m.Epoch-int64(r.IntN(2)), m.To)
	case 8:
		return route()
	default:
		l := wrongCommands()
		return l[r.IntN(len(l))]
	}
}

// step is a command in a script: the mounts ahead of it, those behind it, and its answer.
type step struct {
	c   api.Command
	a   api.Answer
	was []api.Mount
	now []api.Mount
}

// script has committees execute many commands one after the other, and has each looked at.
func script(t *testing.T, look func(s step)) {
	t.Helper()
	for seed := range uint64(40) {
		r := rand.New(rand.NewPCG(seed, 15))
		k := of(t, rests("/", int(seed%4), int64(seed)))
		for range 200 {
			s := step{was: k.m.Mounts()}
			s.c = anyCommand(r, s.was)
			s.a = k.agree(t, s.c)
			s.now = k.m.Mounts()
			look(s)
		}
	}
}

// validMounts is whether mounts are valid, as the document says it.
func validMounts(l []api.Mount) bool {
	for i, m := range l {
		if !pathForm.MatchString(m.Prefix) || m.Group < 0 || m.Group > mostGroup || m.To < 0 || m.To > mostGroup || m.Epoch < 0 || m.Epoch > mostNum {
			return false
		}
		if i > 0 && m.Prefix <= l[i-1].Prefix {
			return false
		}
	}
	return 1 <= len(l) && len(l) <= mostMounts && l[0].Prefix == "/"
}

// P15.2: a command with an error changes nothing; the mounts stay valid.
func TestErrorsChangeNothing(t *testing.T) {
	came := map[api.Errno]int{}
	script(t, func(s step) {
		came[s.a.Err]++
		if s.a.Err != 0 && (!slices.Equal(s.was, s.now) || !sameAnswer(s.a, api.Answer{Err: s.a.Err})) {
			t.Fatalf("%+v", s)
		}
		if !validMounts(s.now) || meta.New(s.now) == nil {
			t.Fatalf("%+v: the mounts are not valid", s)
		}
	})
	for _, err := range []api.Errno{0, errArg, errThere, errBusy, errLate} {
		if came[err] < 100 {
			t.Errorf("the error %d came %d times", err, came[err])
		}
	}
}

// The mounts stay valid where there is room for none, and where an epoch is the last one.
func TestMountsStayValidAtTheBounds(t *testing.T) {
	for _, l := range someMounts() {
		k := of(t, l...)
		for _, c := range slices.Concat(someCommands(), someCommands()) {
			was := k.m.Mounts()
			a := k.agree(t, c)
			if now := k.m.Mounts(); !validMounts(now) || a.Err != 0 && !slices.Equal(was, now) {
				t.Fatalf("%+v: %+v, and %+v became %+v", c, a, was, now)
			}
		}
	}
}

// groupsOfScript is the groups of the directories of scripts, each of which has one.
func groupsOfScript(t *testing.T, l []api.Mount) []int {
	t.Helper()
	groups, ok := meta.Route(l, dirsOfScript())
	if !ok || len(groups) != len(dirsOfScript()) {
		t.Fatalf("%+v: %v, %v", l, groups, ok)
	}
	for i, dir := range dirsOfScript() {
		if groups[i] != groupOf(l, dir) {
			t.Fatalf("%q of %+v: the group %d; want %d", dir, l, groups[i], groupOf(l, dir))
		}
	}
	return groups
}

// P15.3: each directory has one group, which Begin does not change, but a Flip alone: for those of its mount.
func TestOneGroup(t *testing.T) {
	begun, flipped := 0, 0
	script(t, func(s step) {
		was, now := groupsOfScript(t, s.was), groupsOfScript(t, s.now)
		changed := !slices.Equal(was, now)
		if changed && (s.c.Kind != kindFlip || s.a.Err != 0) {
			t.Fatalf("%+v: the groups were %v, and are %v", s, was, now)
		}
		if s.c.Kind == kindBegin && s.a.Err == 0 && !slices.Equal(s.was, s.now) {
			begun++
		}
		for i, dir := range dirsOfScript() {
			if was[i] == now[i] {
				continue
			}
			flipped++
			if now[i] != s.c.To || !isIn(dir, s.c.Prefix) {
				t.Fatalf("%+v: the group of %q was %d, and is %d", s, dir, was[i], now[i])
			}
		}
	})
	if begun < 500 || flipped < 500 {
		t.Errorf("%d moves began, %d directories moved", begun, flipped)
	}
}

// What is answered to a Begin is the mount that moves now, and those in it, as they all are.
func TestBeginTellsWhatThereIs(t *testing.T) {
	inside := 0
	script(t, func(s step) {
		if s.c.Kind != kindBegin || s.a.Err != 0 {
			return
		}
		m := s.a.Mounts[0]
		if m.Prefix != s.c.Prefix || m.To != s.c.To || !isMoving(m) {
			t.Fatalf("%+v", s)
		}
		told := 0
		for _, n := range s.now {
			if isIn(n.Prefix, s.c.Prefix) {
				told++
				if !slices.Contains(s.a.Mounts, n) {
					t.Fatalf("%+v: %+v is not told", s, n)
				}
			}
		}
		if told != len(s.a.Mounts) || !slices.IsSortedFunc(s.a.Mounts[1:], byPrefix) {
			t.Fatalf("%+v", s)
		}
		inside += told - 1
	})
	if inside < 100 {
		t.Errorf("%d mounts were in others that moved", inside)
	}
}
