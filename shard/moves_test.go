package shard_test

import (
	"strconv"
	"testing"

	"canton/api"
	"canton/shard"
)

// P13.1: CmdFreeze.

// tree is a shard in which there are nodes and turns at several levels.
func tree(t *testing.T, l ...api.Range) pair {
	t.Helper()
	return newPair(t, storeOf("/ /a /a/b /a/b/c /a/b/c/d /a/x /ab /b /b/a", "/ /a /a/b /a/b/c /ab /b"), l)
}

func turns(l ...api.Turn) []api.Turn { return l }

func TestFreeze(t *testing.T) {
	x := tree(t, ofMine("/", 4))
	want := storeOf("/a/b /a/b/c /a/b/c/d /a/x", "")
	want.Turns = turns(api.Turn{Dir: "/a", Next: 2}, api.Turn{Dir: "/a/b", Next: 3}, api.Turn{Dir: "/a/b/c", Next: 4})
	was := x.h.Store()
	for range 3 {
		x.answered(t, freeze("/a", 4), api.Answer{Epoch: 4, Store: want})
		x.hasRanges(t, ofMine("/", 4), ofFrozen("/a", 4))
		if !sameStore(x.h.Store(), was) {
			t.Errorf("there is %+v", x.h.Store())
		}
	}
	x.refuses(t, api.ErrBusy, run(list("/a")), run(get("/a/b")), run(create("/a/q")), prepare(1, 1, list("/a")), run(get("/a/b/c")))
	x.answered(t, run(get("/a")), results(api.Result{Data: "/a"}))
	x.answered(t, run(get("/ab")), results(api.Result{Data: "/ab"}))
}

// The root's own directory holds the root, besides what lies in it.
func TestFreezeTheRoot(t *testing.T) {
	x := tree(t, ofMine("/", 4), ofMine("/a", 5), ofGone("/b", 2))
	want := storeOf("/ /a /ab /b", "")
	want.Turns = turns(api.Turn{Dir: "/", Next: 1}, api.Turn{Dir: "/ab", Next: 5})
	x.answered(t, freeze("/", 4), api.Answer{Epoch: 4, Store: want})
	x.hasRanges(t, ofFrozen("/", 4), ofMine("/a", 5), ofGone("/b", 2))
	x.refuses(t, api.ErrBusy, run(get("/")), run(get("/a")))
	x.answered(t, run(get("/a/b")), results(api.Result{Data: "/a/b"}))
}

// What is in a longer prefix is not in the range, whatever its state is.
func TestFreezeAroundOthers(t *testing.T) {
	for _, r := range ranges(ofMine("/a/b", 9), ofFrozen("/a/b", 9), ofGone("/a/b", 0)) {
		x := tree(t, ofMine("/", 4), r)
		want := storeOf("/a/b /a/x", "")
		want.Turns = turns(api.Turn{Dir: "/a", Next: 2})
		x.answered(t, freeze("/a", 4), api.Answer{Epoch: 4, Store: want})
		x.hasRanges(t, ofMine("/", 4), ofFrozen("/a", 4), r)
	}
}

func TestFreezeNothing(t *testing.T) {
	x := tree(t, ofMine("/", 4))
	x.answered(t, freeze("/zz", 4), api.Answer{Epoch: 4})
	x.hasRanges(t, ofMine("/", 4), ofFrozen("/zz", 4))
	x.answered(t, freeze("/zz/y", 0), api.Answer{Err: api.ErrMoved})
	x = tree(t, ofMine("/", 0))
	x.answered(t, freeze("/zz", 0), api.Answer{})
}

func TestFreezeWithAnError(t *testing.T) {
	x := tree(t, ofMine("/", 4), ofFrozen("/a", 3), ofMine("/a/b", 6), ofGone("/b", 2))
	x.refuses(t, api.ErrArg, freeze("", 0), freeze("", 4))
	// It is gone, or frozen at another epoch, or as part of another range.
	x.refuses(t, api.ErrMoved, freeze("/b", 2), freeze("/b", 4), freeze("/b/a", 2), freeze("/a", 4), freeze("/a", 2), freeze("/a/x", 3), freeze("/a/x", 4))
	x.refuses(t, api.ErrLate, freeze("/", 3), freeze("/", 5), freeze("/", 0), freeze("/c", 3), freeze("/c", mostNum), freeze("/a/b", 3), freeze("/a/b", 4), freeze("/a/b/c", 7))
	x.hasRanges(t, ofMine("/", 4), ofFrozen("/a", 3), ofMine("/a/b", 6), ofGone("/b", 2))
	x.after(t, freeze("/a", 3), freeze("/a/b/c", 6), freeze("/c", 4), freeze("/a/b", 6), freeze("/", 4))
	x = newPair(t, storeOf("/ /a", ""), ranges(ofMine("/b", 1)))
	x.refuses(t, api.ErrMoved, freeze("/", 1), freeze("/a", 1), freeze("/", 0))
}

// Only what would be in that range may not be held.
func TestFreezeWhatIsHeld(t *testing.T) {
	for _, c := range []struct {
		dir    string
		prefix string
		busy   bool
	}{
		{"/", "/", true},
		{"/a", "/", true},
		{"/b/a", "/", true},
		{"/c/x", "/", false},
		{"/a", "/a", true},
		{"/a/b", "/a", true},
		{"/a/b/c", "/a", true},
		{"/a/b/c", "/a/b", true},
		{"/", "/a", false},
		{"/ab", "/a", false},
		{"/b", "/a", false},
		{"/a", "/a/b", false},
		{"/c", "/c", true},
		{"/c/x", "/c", false},
		{"/c/x/y", "/c", false},
		{"/c/x", "/c/x", true},
		{"/c", "/c/x", false},
	} {
		x := tree(t, ofMine("/", 4), ofMine("/c", 4), ofMine("/c/x", 4))
		x.after(t, only(prepare(1, 1, list(c.dir)), c.dir))
		if c.busy {
			x.refuses(t, api.ErrBusy, freeze(c.prefix, 4))
			// That is behind the other errors.
			x.refuses(t, api.ErrLate, freeze(c.prefix, 5))
			x.hasRanges(t, ofMine("/", 4), ofMine("/c", 4), ofMine("/c/x", 4))
			x.after(t, finish(1, true))
		}
		x.after(t, freeze(c.prefix, 4))
	}
}

func TestFreezeAmongManyRanges(t *testing.T) {
	x := newPair(t, storeOf("/m100/a /m131/a /m131/b", "/m131"), manyRanges(mostRanges))
	x.refuses(t, api.ErrMoved, freeze("/m131/a", 1), freeze("/m100/b", 5))
	want := storeOf("/m131/a /m131/b", "/m131")
	x.answered(t, freeze("/m131", 1), api.Answer{Epoch: 1, Store: want})
	x = newPair(t, api.Store{}, manyRanges(mostRanges-1))
	x.after(t, freeze("/m101/a", 1))
	x.refuses(t, api.ErrMoved, freeze("/m102/a", 1))
	x.after(t, freeze("/m101/a", 1))
}

// P13.1: CmdInstall.

func TestInstall(t *testing.T) {
	x := newPair(t, api.Store{}, nil)
	in := storeOf("/a /a/b /a/b/c /b", "/a /b")
	for range 3 {
		x.answered(t, install("/a", 3, in), api.Answer{})
		x.hasRanges(t, ofMine("/a", 3))
		// The node of /a itself is kept at /, and so are those beside it.
		x.keeps(t, "/a/b /a/b/c")
	}
	x.answered(t, run(turn("/a/q")), api.Answer{Err: api.ErrMoved})
	x.answered(t, only(run(turn("/a/q")), "/a"), results(api.Result{Path: "/a/q0001"}))
	// The same again, or an older one, takes nothing back.
	x.answered(t, install("/a", 3, in), api.Answer{})
	x.answered(t, install("/a", 2, in, "/a/b"), api.Answer{})
	x.answered(t, install("/a", 0, api.Store{}, "/a/b"), api.Answer{})
	x.hasRanges(t, ofMine("/a", 3))
	x.keeps(t, "/a/b /a/b/c /a/q0001")
	// A newer one takes the place of what was there.
	x.answered(t, install("/a", 4, storeOf("/a/z", "")), api.Answer{})
	x.hasRanges(t, ofMine("/a", 4))
	x.keeps(t, "/a/z")
	x.answered(t, only(run(turn("/a/q")), "/a"), results(api.Result{Path: "/a/q0000"}))
}

func TestInstallTheRoot(t *testing.T) {
	x := newPair(t, storeOf("/a/b /b/a", "/a"), ranges(ofMine("/a", 1)))
	x.answered(t, install("/", 0, storeOf("/ /a /a/c /b /b/c", "/ /a")), api.Answer{})
	x.hasRanges(t, ofMine("/", 0), ofMine("/a", 1))
	x.keeps(t, "/ /a /a/b /b /b/c")
	x.answered(t, run(list("/")), results(api.Result{}, api.Result{Names: []string{"a", "b"}}))
}

// What is gone, and what is frozen, comes back with a greater epoch.
func TestInstallInPlaceOfOthers(t *testing.T) {
	for _, r := range ranges(ofGone("/a", 5), ofFrozen("/a", 5), ofMine("/a", 5)) {
		x := tree(t, ofMine("/", 9), r)
		x.answered(t, install("/a", 5, storeOf("/a/new", "")), api.Answer{})
		x.hasRanges(t, ofMine("/", 9), r)
		x.answered(t, install("/a", 6, storeOf("/a/new /b/new", "/a/new /b")), api.Answer{})
		x.hasRanges(t, ofMine("/", 9), ofMine("/a", 6))
		x.keeps(t, "/ /a /a/new /ab /b /b/a")
		want := turns(api.Turn{Dir: "/", Next: 1}, api.Turn{Dir: "/a/new", Next: 1}, api.Turn{Dir: "/ab", Next: 5}, api.Turn{Dir: "/b", Next: 6})
		if got := x.h.Store(); !sameStore(got, api.Store{Nodes: got.Nodes, Turns: want}) {
			t.Errorf("there is %+v", got)
		}
	}
}

// What is kept elsewhere in a prefix is not kept here, though it is said to be in the store.
func TestInstallWithGone(t *testing.T) {
	x := newPair(t, storeOf("/a/y/z /b/z", "/b"), ranges(ofMine("/a/y", 4), ofMine("/b", 1)))
	in := storeOf("/a/x /a/x/v /a/y /a/y/w /a/z", "/a /a/x /a/y")
	x.answered(t, install("/a", 3, in, "/a/x", "/a/y", "/a/z/z"), api.Answer{})
	x.hasRanges(t, ofMine("/a", 3), ofGone("/a/x", 0), ofMine("/a/y", 4), ofGone("/a/z/z", 0), ofMine("/b", 1))
	x.keeps(t, "/a/x /a/y /a/y/z /a/z /b/z")
	want := turns(api.Turn{Dir: "/a", Next: 1}, api.Turn{Dir: "/b", Next: 1})
	if got := x.h.Store(); !sameStore(got, api.Store{Nodes: got.Nodes, Turns: want}) {
		t.Errorf("there is %+v", got)
	}
	// What is gone may be installed as well.
	x.answered(t, install("/a/x", 1, in), api.Answer{})
	x.hasRanges(t, ofMine("/a", 3), ofMine("/a/x", 1), ofMine("/a/y", 4), ofGone("/a/z/z", 0), ofMine("/b", 1))
	x.keeps(t, "/a/x /a/x/v /a/y /a/y/z /a/z /b/z")
	// With the epoch 0 it is there already.
	x.answered(t, install("/a/z/z", 0, in), api.Answer{})
	x.hasRanges(t, ofMine("/a", 3), ofMine("/a/x", 1), ofMine("/a/y", 4), ofGone("/a/z/z", 0), ofMine("/b", 1))
}

// What is in a prefix that is gone from now on stays in the store, but nobody is told of it.
func TestInstallWithGoneWhereSomethingIs(t *testing.T) {
	x := tree(t, ofMine("/", 4))
	x.answered(t, install("/a", 5, storeOf("/a/new", ""), "/a/b"), api.Answer{})
	x.hasRanges(t, ofMine("/", 4), ofMine("/a", 5), ofGone("/a/b", 0))
	x.keeps(t, "/ /a /a/b/c /a/b/c/d /a/new /ab /b /b/a")
	x.refuses(t, api.ErrMoved, run(get("/a/b/c")), run(list("/a/b")))
}

func TestInstallWithAnError(t *testing.T) {
	x := newPair(t, storeOf("/", ""), ranges(ofMine("/", 1)))
	x.refuses(t, api.ErrArg, install("", 0, api.Store{}), install("", 7, storeOf("/ /a", "")), install("", 7, storeOf("/b /a", "")), install("/a", 7, api.Store{}, "/a"), install("/a", 7, api.Store{}, "/b"))
	x.hasRanges(t, ofMine("/", 1))
}

func TestInstallAmongManyRanges(t *testing.T) {
	many := manyRanges(mostRanges)
	x := newPair(t, api.Store{}, many)
	x.refuses(t, api.ErrTooMany, install("/a", 1, api.Store{}), install("/m100/a", 0, storeOf("/m100/a/b", "")), install("/m100", 2, api.Store{}, "/m100/a"), install("/", 5, api.Store{}, "/m100"))
	// One that is there has its place, and so have those in it.
	x.answered(t, install("/m100", 1, storeOf("/m100/a", ""), "/m100/a", "/m100/b"), api.Answer{})
	x.answered(t, install("/m100", 2, storeOf("/m100/a", "")), api.Answer{})
	x.keeps(t, "/m100/a")
	for _, room := range []int{1, 2, 3} {
		x := newPair(t, api.Store{}, many[room:])
		var in []string
		for i := range room - 1 {
			in = append(in, "/a/m"+strconv.Itoa(i))
		}
		x.refuses(t, api.ErrTooMany, install("/a", 1, api.Store{}, append(in, "/a/z")...))
		x.after(t, install("/a", 1, api.Store{}, in...))
		x.refuses(t, api.ErrTooMany, install("/b", 1, api.Store{}), install("/a", 2, api.Store{}, append(in, "/a/z")...))
		x.after(t, install("/a", 2, api.Store{}, in...))
	}
	// The root has 31 others in it.
	x = newPair(t, api.Store{}, many[1:])
	x.after(t, install("/", 1, api.Store{}, "/m101", "/m131"))
	if l := x.h.Ranges(); len(l) != mostRanges || l[0] != ofMine("/", 1) || l[1] != many[1] {
		t.Errorf("there is %+v", l)
	}
}

// Nothing may be held whose range would be the installed one, or another one than before.
func TestInstallWhatIsHeld(t *testing.T) {
	for _, c := range []struct {
		dir    string
		prefix string
		gone   []string
		busy   bool
	}{
		{"/a", "/a", nil, true},
		{"/a/b", "/a", nil, true},
		{"/a/b/c", "/a", []string{"/a/b"}, true},
		{"/a/b/c", "/a", []string{"/a/b", "/a/b/c"}, true},
		{"/a/b/c/d", "/a/b", nil, true},
		{"/", "/a", nil, false},
		{"/ab", "/a", nil, false},
		{"/b", "/a", []string{"/a/b"}, false},
		{"/a", "/a/b", nil, false},
		{"/a/x", "/a/b", nil, false},
		{"/", "/", nil, true},
		{"/a", "/", nil, true},
		{"/c", "/", nil, false},
		{"/c/y", "/", []string{"/c"}, false},
		{"/c/y", "/", []string{"/c/y"}, true},
		{"/c/x/z", "/", []string{"/c", "/c/x"}, false},
		{"/c/x/z", "/", []string{"/c/y"}, false},
		{"/c", "/c", nil, true},
		{"/c/x", "/c", nil, false},
		{"/c/x", "/c", []string{"/c/x"}, false},
		{"/c/x/y", "/c", []string{"/c/x/y"}, true},
		{"/c/x", "/c", []string{"/c/x/y"}, false},
		{"/c", "/c/x", nil, false},
		{"/c/x/z", "/c/x", nil, true},
	} {
		x := tree(t, ofMine("/", 4), ofMine("/c", 4), ofMine("/c/x", 4))
		was := x.h.Store()
		x.after(t, only(prepare(1, 1, list(c.dir)), c.dir))
		in := install(c.prefix, 9, storeOf("/a/new /c/new", ""), c.gone...)
		if c.busy {
			x.refuses(t, api.ErrBusy, in)
			x.hasRanges(t, ofMine("/", 4), ofMine("/c", 4), ofMine("/c/x", 4))
			if !sameStore(x.h.Store(), was) {
				t.Errorf("%+v: there is %+v", c, x.h.Store())
			}
			x.after(t, finish(1, true))
		}
		x.after(t, in)
	}
}

// Too many ranges come ahead of what is held; what is there already, ahead of both.
func TestInstallErrorsInOrder(t *testing.T) {
	x := newPair(t, api.Store{}, manyRanges(mostRanges))
	x.after(t, only(prepare(1, 1, list("/m100/a")), "/m100/a"))
	x.refuses(t, api.ErrTooMany, install("/m100/a", 1, api.Store{}), install("/m100", 2, api.Store{}, "/m100/a"))
	x.refuses(t, api.ErrBusy, install("/m100", 2, api.Store{}))
	x.answered(t, install("/m100", 1, api.Store{}, "/m100/a"), api.Answer{})
}

// P13.1: CmdDrop.

func TestDrop(t *testing.T) {
	x := tree(t, ofMine("/", 4), ofFrozen("/a", 4), ofMine("/a/b", 6))
	// It is of another epoch, or not frozen, or there is no such range.
	for _, c := range []api.Command{drop("/a", 3), drop("/a", 5), drop("/a/b", 6), drop("/", 4), drop("/a/x", 4), drop("/b", 0), drop("/b", 4)} {
		x.answered(t, c, api.Answer{})
	}
	x.hasRanges(t, ofMine("/", 4), ofFrozen("/a", 4), ofMine("/a/b", 6))
	x.keeps(t, "/ /a /a/b /a/b/c /a/b/c/d /a/x /ab /b /b/a")
	x.refuses(t, api.ErrArg, drop("", 4), drop("", 0))
	for range 2 {
		x.answered(t, drop("/a", 4), api.Answer{})
		x.hasRanges(t, ofMine("/", 4), ofGone("/a", 4), ofMine("/a/b", 6))
		x.keeps(t, "/ /a /a/b/c /a/b/c/d /ab /b /b/a")
	}
	want := turns(api.Turn{Dir: "/", Next: 1}, api.Turn{Dir: "/a/b", Next: 3}, api.Turn{Dir: "/a/b/c", Next: 4}, api.Turn{Dir: "/ab", Next: 5}, api.Turn{Dir: "/b", Next: 6})
	if got := x.h.Store(); !sameStore(got, api.Store{Nodes: got.Nodes, Turns: want}) {
		t.Errorf("there is %+v", got)
	}
	x.refuses(t, api.ErrMoved, run(list("/a")), run(get("/a/b")), prepare(1, 1, list("/a")), freeze("/a", 4))
	x.answered(t, run(get("/a/b/c")), results(api.Result{Data: "/a/b/c"}))
}

func TestDropTheRoot(t *testing.T) {
	x := tree(t, ofMine("/", 4), ofMine("/b", 1))
	x.after(t, freeze("/", 4), drop("/", 4))
	x.hasRanges(t, ofGone("/", 4), ofMine("/b", 1))
	x.keeps(t, "/b/a")
}

// P13.4 and the seventh example of the whole: a directory moves.

func TestMove(t *testing.T) {
	h, g := tree(t, ofMine("/", 1)), newPair(t, api.Store{}, nil)
	a := h.agree(t, freeze("/a", 1))
	h.refuses(t, api.ErrBusy, run(get("/a/b")))
	g.refuses(t, api.ErrMoved, run(get("/a/b")))
	g.after(t, install("/a", 2, a.Store))
	h.refuses(t, api.ErrBusy, run(get("/a/b")))
	h.after(t, drop("/a", 1))
	h.refuses(t, api.ErrMoved, run(get("/a/b")))
	g.answered(t, run(get("/a/b")), results(api.Result{Data: "/a/b"}))
	g.answered(t, only(run(turn("/a/q")), "/a"), results(api.Result{Path: "/a/q0002"}))
	h.keeps(t, "/ /a /ab /b /b/a")
	g.keeps(t, "/a/b /a/b/c /a/b/c/d /a/q0002 /a/x")
	// And back again.
	b := g.agree(t, freeze("/a", 2))
	h.after(t, install("/a", 3, b.Store))
	g.after(t, drop("/a", 2))
	h.keeps(t, "/ /a /a/b /a/b/c /a/b/c/d /a/q0002 /a/x /ab /b /b/a")
	h.answered(t, run(turn("/a/q")), results(api.Result{}, api.Result{Path: "/a/q0003"}))
	g.keeps(t, "")
	// What was asked late has no effect.
	h.answered(t, install("/a", 2, a.Store), api.Answer{})
	g.answered(t, install("/a", 2, a.Store), api.Answer{})
	h.answered(t, drop("/a", 1), api.Answer{})
	h.refuses(t, api.ErrLate, freeze("/a", 1))
	g.refuses(t, api.ErrMoved, freeze("/a", 2))
	g.keeps(t, "")
	h.hasRanges(t, ofMine("/", 1), ofMine("/a", 3))
}

// More nodes than a tree may have, if they are brought together.
func TestManyNodes(t *testing.T) {
	x := newPair(t, api.Store{}, nil)
	for i := range 3 {
		p := "/a" + strconv.Itoa(i)
		var in api.Store
		for j := range 512 {
			in.Nodes = append(in.Nodes, api.Node{Path: under(p, strconv.Itoa(1000+j))})
			in.Turns = append(in.Turns, api.Turn{Dir: under(p, strconv.Itoa(1000+j)), Next: 1})
		}
		x.after(t, install(p, 1, in))
	}
	if s := x.h.Store(); len(s.Nodes) != 1536 || len(s.Turns) != 1536 {
		t.Errorf("there are %d nodes, %d turns", len(s.Nodes), len(s.Turns))
	}
}

// P13.1: CmdWatch, CmdUnwatch and CmdTake.

func TestWatches(t *testing.T) {
	x := whole(t, "/")
	x.answered(t, watchOf(3, 2, "/a", true), api.Answer{})
	x.answered(t, watchOf(1, mostNum, "/b", false), api.Answer{})
	want := api.Watched{
		Watches:  []api.Watch{{Session: 3, Num: 2, Path: "/a", Deep: true}, {Session: 1, Num: mostNum, Path: "/b"}},
		Sessions: []api.Session{{Num: 1}, {Num: 3}},
	}
	if w := x.h.Watched(); !sameWatched(w, want) {
		t.Errorf("there is %+v", w)
	}
	x.refuses(t, api.ErrArg, watchOf(0, 1, "/a", true), watchOf(1, 0, "/a", true), watchOf(1, 1, "", true))
	x.refuses(t, api.ErrThere, watchOf(3, 2, "/c", false))
	x.refuses(t, api.ErrNone, unwatch(3, 1), unwatch(1, 2), unwatch(2, 2), unwatch(0, 0), take(2, 1), take(0, 1))
	if w := x.h.Watched(); !sameWatched(w, want) {
		t.Errorf("there is %+v", w)
	}
	x.answered(t, unwatch(3, 2), api.Answer{})
	x.answered(t, take(3, 9), api.Answer{})
	if w := x.h.Watched(); !sameWatched(w, api.Watched{Watches: want.Watches[1:], Sessions: want.Sessions}) {
		t.Errorf("there is %+v", w)
	}
}

func TestManyWatches(t *testing.T) {
	x := whole(t, "/")
	for num := range int64(64) {
		x.after(t, watchOf(1, num+1, "/a", true))
	}
	x.refuses(t, api.ErrTooMany, watchOf(1, 65, "/a", true), byId(1, watchOf(2, 1, "/a", true)))
	x.refuses(t, api.ErrThere, watchOf(1, 64, "/a", true))
	x.after(t, unwatch(1, 64), watchOf(1, 65, "/a", true))
	// It is one error as others are: the answer of that Id.
	x.refuses(t, api.ErrTooMany, byId(1, unwatch(1, 65)), byId(1, run()))
}

// The events of a session are taken once, if they are taken by an Id.
func TestTakeOfAnId(t *testing.T) {
	x := whole(t, "/")
	x.after(t, watchOf(1, 1, "/", true), run(create("/a")), run(create("/b")), run(create("/c")))
	events := []api.Event{{Num: 2, Kind: api.Came, Path: "/b", Watch: 1}, {Num: 3, Kind: api.Came, Path: "/c", Watch: 1}}
	x.answered(t, byId(1, take(1, 1)), api.Answer{Events: events})
	x.answered(t, take(1, 2), api.Answer{Events: events[1:]})
	x.answered(t, byId(1, take(1, 3)), api.Answer{Events: events})
	x.answered(t, take(1, 0), api.Answer{Events: events[1:]})
	x.answered(t, take(1, mostNum), api.Answer{})
}

// Eight events wait, and the last one of them tells that others are lost.
func TestLost(t *testing.T) {
	x := whole(t, "/")
	x.after(t, watchOf(1, 1, "/", true))
	for range 10 {
		x.after(t, run(turn("/q")))
	}
	a := x.agree(t, take(1, 6))
	want := []api.Event{{Num: 7, Kind: api.Came, Path: "/q0006", Watch: 1}, {Num: 8, Kind: api.Lost, Path: "/", Watch: 1}}
	if !sameAnswer(a, api.Answer{Events: want}) || len(x.h.Watched().Watches) != 0 {
		t.Errorf("%+v of %+v", a, x.h.Watched())
	}
}

// All commands of a few, each pair of them on each of a few shards.

func fewCommands() []api.Command {
	in := storeOf("/ /a /a/b /a/b/c /b", "/a /b")
	l := []api.Command{
		run(), run(create("/a/b")), run(set("/b", "x"), get("/b")), run(remove("/a")), run(turn("/a/q"), sweep("/a", 1)), run(get("/a/b/c")), run(list("/")),
		byId(1, run(turn("/q"))), byId(2, run(turn("/a/q"))), byId(1, watchOf(1, 1, "/", true)), byId(2, unwatch(1, 1)), byId(1, take(1, 1)),
		watchOf(1, 1, "/a", true), watchOf(1, 2, "/", false), unwatch(1, 1), take(1, 1), take(2, 0),
		decide(1, true, 0), decide(1, false, 1), decide(2, false, 0),
	}
	for txn := range int64(3) {
		l = append(l, finish(txn, true), finish(txn, false),
			prepare(txn, 2*txn, create("/a/c")), prepare(txn, 3, create("/b"), get("/a")), only(prepare(txn, 4-txn, list("/a"), set("/a/b", "y")), "/a"))
	}
	for _, prefix := range []string{"", "/", "/a", "/a/b"} {
		for epoch := range int64(3) {
			l = append(l, freeze(prefix, epoch), drop(prefix, epoch), install(prefix, epoch, in))
		}
		if prefix != "" {
			l = append(l, install(prefix, 2, in, under(prefix, "b")), install(prefix, 3, in, under(prefix, "a"), under(prefix, "b")))
		}
	}
	return append(l, install("/a", 2, manyNodes(513)), api.Command{Kind: api.CmdRoute})
}

func TestAllPairs(t *testing.T) {
	few := fewCommands()
	tree := storeOf("/ /a /a/b /a/b/c /b", "/a")
	tree.Nodes = append(tree.Nodes, api.Node{Path: "/c", Owner: 1})
	for _, l := range [][]api.Range{
		nil,
		ranges(ofMine("/", 1)),
		ranges(ofMine("/", 1), ofFrozen("/a", 1)),
		ranges(ofMine("/", 1), ofGone("/a", 1), ofMine("/a/b", 0)),
		ranges(ofFrozen("/", 2), ofMine("/a", 1)),
	} {
		errs := map[api.Errno]int{}
		for _, c := range few {
			for _, d := range few {
				x := newPair(t, tree, l)
				x.agree(t, c)
				errs[x.agree(t, d).Err]++
			}
		}
		if len(errs) < 7 {
			t.Errorf("%+v: %v", l, errs)
		}
	}
}

// A shard does not know of another.
func TestShardsAreApart(t *testing.T) {
	s, l := storeOf("/ /a", ""), ranges(ofMine("/", 1))
	h, g := shard.New(s, l), shard.New(s, l)
	was := stateOf(g)
	for _, c := range fewCommands() {
		h.Do(c)
		if !sameState(stateOf(g), was) {
			t.Fatalf("%+v: there is %+v", c, stateOf(g))
		}
	}
	x := pair{g, newModel(s, l)}
	x.answered(t, byId(1, run(turn("/q"))), results(api.Result{}, api.Result{Path: "/q0000"}))
	x.answered(t, decide(1, false, 1), api.Answer{Epoch: 1})
	x.refuses(t, api.ErrNone, finish(1, true))
}
