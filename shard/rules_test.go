package shard_test

import (
	"slices"
	"strings"
	"testing"

	"canton/api"
	"canton/command"
	"canton/owned"
	"canton/part"
	"canton/shard"
)

const long = 1 << 20

func wildTexts() []string {
	return []string{"", "/", "/a", "/\x00", "\xff", "/é", strings.Repeat("/a", long), "/" + strings.Repeat("a", long), strings.Repeat("/", long), strings.Repeat("x", long)}
}

func wildNums() []int64 {
	return []int64{-1 << 63, -1, 0, 1, 10, 11, mostNum, mostNum + 1, 1<<63 - 1}
}

// wildStores is stores of all sorts, most of which are not valid.
func wildStores() []api.Store {
	l := append(someStores(), noStores()...)
	for _, p := range wildTexts() {
		for _, n := range wildNums() {
			l = append(l, api.Store{Nodes: []api.Node{{Path: p, Data: p, Version: n, Owner: n}}}, api.Store{Nodes: []api.Node{{Path: "/a", Version: n}}, Turns: []api.Turn{{Dir: p, Next: n}}})
		}
	}
	return append(l, api.Store{Nodes: make([]api.Node, 1<<12), Turns: make([]api.Turn, 1<<12)}, manyNodes(9000))
}

// wildRanges is lists of ranges of all sorts, most of which are not valid.
func wildRanges() [][]api.Range {
	l := append(someRanges(), noRanges()...)
	for _, p := range wildTexts() {
		for _, n := range wildNums() {
			l = append(l, ranges(api.Range{Prefix: p, Epoch: n, State: int(n)}), ranges(ofMine(p, n)))
		}
	}
	return append(l, make([]api.Range, 1<<12), manyRanges(800))
}

// wildCommands is commands of all sorts, most of which are not valid.
func wildCommands() []api.Command {
	l := append(fewCommands(), wrongCommands()...)
	for kind := -1; kind <= 14; kind++ {
		for _, p := range wildTexts() {
			for _, n := range wildNums() {
				l = append(l,
					api.Command{Kind: kind, Id: n, Txn: n, Age: n, Epoch: n, Prefix: p},
					api.Command{Kind: kind, Txn: n, Epoch: n, Watch: api.Watch{Session: n, Num: n, Path: p}},
					api.Command{Kind: kind, Pieces: []api.Piece{{Op: int(n), Part: api.Part{Kind: int(n), Dir: p, Path: p, Data: p, Version: n, Owner: n}}}},
					api.Command{Kind: kind, Prefix: "/", Epoch: 9, Gone: []string{p}},
				)
			}
		}
		for _, s := range wildStores() {
			l = append(l, api.Command{Kind: kind, Prefix: "/a", Epoch: 9, Store: s})
		}
	}
	return append(l, api.Command{Kind: 1, Pieces: make([]api.Piece, 1<<16)}, api.Command{Kind: 6, Prefix: "/", Gone: make([]string, 1<<16)})
}

// P1 and P2: every function ends, without a panic, whatever it is given; where there is no result, it is zero.

func TestAnyStart(t *testing.T) {
	stores, lists := wildStores(), wildRanges()
	for i, s := range stores {
		right := part.Right(s)
		for j, l := range lists {
			h := shard.New(s, l)
			if (h != nil) != (right && owned.Right(l)) {
				t.Errorf("%d, %d: %v", i, j, h != nil)
			}
			if h != nil && j%16 == 0 {
				stateOf(h)
			}
		}
	}
}

func TestAnyCommands(t *testing.T) {
	x := tree(t, ofMine("/", 1))
	right := 0
	for _, c := range wildCommands() {
		if valid := command.Right(c) && c.Kind <= api.CmdTake; valid {
			right++
			x.agree(t, c)
		} else if a := x.h.Do(c); !sameAnswer(a, api.Answer{Err: api.ErrArg}) || a.Results != nil || a.Store.Nodes != nil || a.Wounded != nil || a.Events != nil {
			t.Errorf("kind %d: error %d", c.Kind, a.Err)
		}
	}
	x.hold(t, "all of them")
	if right < 200 {
		t.Errorf("only %d right ones", right)
	}
}

// P3: the same commands have the same answers, whatever is asked of it, or of others, between.
func TestSameAnswers(t *testing.T) {
	start := storeOf("/ /a /a/b /a/b/c /b", "/a")
	few := fewCommands()
	for first := range few {
		l := slices.Concat(few[first:], few[:first])
		h, g := shard.New(start, ranges(ofMine("/", 1))), shard.New(start, ranges(ofMine("/", 1)))
		var answers []api.Answer
		for _, c := range l {
			answers = append(answers, h.Do(c))
		}
		other := shard.New(start, ranges(ofMine("/", 1)))
		for i, c := range l {
			stateOf(g)
			other.Do(l[len(l)-1-i])
			if a := g.Do(c); !sameAnswer(a, answers[i]) {
				t.Fatalf("%+v: first %+v, then %+v", c, answers[i], a)
			}
		}
		if !sameState(stateOf(h), stateOf(g)) {
			t.Fatalf("first %+v, then %+v", stateOf(h), stateOf(g))
		}
	}
}

var (
	spoiltPiece   = api.Piece{Op: -7, Part: api.Part{Kind: -7, Dir: "spoilt", Path: "spoilt", Data: "spoilt", Version: -7, Owner: -7}}
	spoiltNode    = api.Node{Path: "spoilt", Data: "spoilt", Version: -7, Turn: -7, Owner: -7}
	spoiltTurn    = api.Turn{Dir: "spoilt", Next: -7}
	spoiltRange   = api.Range{Prefix: "spoilt", Epoch: -7, State: -7}
	spoiltHold    = api.Hold{Dir: "spoilt", Txn: -7, Age: -7}
	spoiltWatch   = api.Watch{Session: -7, Num: -7, Path: "spoilt"}
	spoiltEvent   = api.Event{Num: -7, Kind: -7, Path: "spoilt", Watch: -7}
	spoiltSession = api.Session{Num: -7, Count: -7}
	spoiltResult  = api.Result{Err: -7, Path: "spoilt", Data: "spoilt", Version: -7}
)

const (
	spoiltText       = "spoilt"
	spoiltNum  int64 = -7
)

// roomy is l with spare capacity, in which other elements stand.
func roomy[E any](l []E, spoilt E) []E {
	return append(slices.Clone(l), spoilt, spoilt, spoilt, spoilt)[:len(l)]
}

func roomyStore(s api.Store) api.Store {
	return api.Store{Nodes: roomy(s.Nodes, spoiltNode), Turns: roomy(s.Turns, spoiltTurn)}
}

func roomyCommand(c api.Command) api.Command {
	c.Pieces = roomy(c.Pieces, spoiltPiece)
	c.Store = roomyStore(c.Store)
	c.Gone = roomy(c.Gone, spoiltText)
	return c
}

// stays reports whether a roomy list is still as it was made of l, up to its spare capacity.
func stays[E comparable](given []E, l []E, spoilt E) bool {
	return slices.Equal(given[:len(l)+4], append(slices.Clone(l), spoilt, spoilt, spoilt, spoilt))
}

func staysStore(given api.Store, s api.Store) bool {
	return stays(given.Nodes, s.Nodes, spoiltNode) && stays(given.Turns, s.Turns, spoiltTurn)
}

func staysCommand(given api.Command, c api.Command) bool {
	return stays(given.Pieces, c.Pieces, spoiltPiece) && staysStore(given.Store, c.Store) && stays(given.Gone, c.Gone, spoiltText)
}

func spoil[E any](l []E, spoilt E) {
	l = l[:cap(l)]
	for i := range l {
		l[i] = spoilt
	}
}

func spoilStore(s api.Store) {
	spoil(s.Nodes, spoiltNode)
	spoil(s.Turns, spoiltTurn)
}

func spoilCommand(c api.Command) {
	spoil(c.Pieces, spoiltPiece)
	spoilStore(c.Store)
	spoil(c.Gone, spoiltText)
}

func spoilAnswer(a api.Answer) {
	for _, r := range a.Results[:cap(a.Results)] {
		spoil(r.Names, spoiltText)
	}
	spoil(a.Results, spoiltResult)
	spoilStore(a.Store)
	spoil(a.Events, spoiltEvent)
	spoil(a.Wounded, spoiltNum)
}

func spoilState(s state) {
	spoilStore(s.store)
	spoil(s.ranges, spoiltRange)
	spoil(s.holds, spoiltHold)
	spoil(s.watched.Watches, spoiltWatch)
	for _, x := range s.watched.Sessions[:cap(s.watched.Sessions)] {
		spoil(x.Events, spoiltEvent)
	}
	spoil(s.watched.Sessions, spoiltSession)
}

// scriptOfFew is a shard's start and commands that leave something of every kind in it.
func scriptOfFew() (api.Store, []api.Range, []api.Command) {
	s := storeOf("/ /a /a/b /a/b/c /a/d /b /b/x /c /c/y", "/a /c")
	return s, ranges(ofMine("/", 1), ofFrozen("/f", 1)), []api.Command{
		watchOf(1, 1, "/", true), watchOf(2, 2, "/a", true), watchOf(2, 3, "/a", true),
		byId(1, run(list("/a"), list("/"), turn("/a/q"))), byId(1, run()),
		run(set("/b", "x"), list("/b")), run(owns("/a/s", 1), owns("/a/t", 1)), byId(2, run(sweep("/a", 1), list("/a"))), byId(2, run()),
		only(prepare(1, 5, list("/a"), get("/a/b"), turn("/a/r")), "/a"), prepare(1, 5), only(prepare(2, 6, list("/c"), set("/c/y", "x")), "/c"), only(prepare(3, 9, create("/b/z"), list("/b")), "/b"),
		prepare(9, 2, list("/a"), list("/b"), list("/c")), prepare(9, 2, list("/a"), list("/b"), list("/c")),
		byId(3, take(1, 1)), byId(3, take(1, 2)), take(2, 0), take(2, 0), byId(4, watchOf(3, 1, "/c", false)), unwatch(2, 3),
		decide(1, true, 2), finish(1, true), prepare(1, 5), byId(1, run()), byId(2, run()),
		freeze("/a", 1), freeze("/a", 1), install("/d", 3, storeOf("/d/a /d/b", "/d /d/b"), "/d/c", "/d/e"), install("/a", 4, storeOf("/a/z /a/zz", "/a")), drop("/f", 1),
		freeze("/a", 4), drop("/a", 4), finish(2, true), finish(3, false), byId(3, run()), take(2, 0), run(list("/"), list("/c")),
	}
}

// P3: arguments are not changed, up to their spare capacity, and none of them is kept.
func TestArgumentsStay(t *testing.T) {
	s, l, commands := scriptOfFew()
	for _, commands := range [][]api.Command{commands, fewCommands(), wrongCommands()} {
		givenStore, givenRanges := roomyStore(s), roomy(l, spoiltRange)
		h := shard.New(givenStore, givenRanges)
		if !staysStore(givenStore, s) || !stays(givenRanges, l, spoiltRange) {
			t.Fatalf("%+v and %+v became %+v and %+v", s, l, givenStore, givenRanges)
		}
		spoilStore(givenStore)
		spoil(givenRanges, spoiltRange)
		x := pair{h, newModel(s, l)}
		x.hold(t, "the arguments were changed")
		for _, c := range commands {
			given := roomyCommand(c)
			a, want := h.Do(given), x.m.do(c)
			if !staysCommand(given, c) {
				t.Fatalf("%+v became %+v", c, given)
			}
			spoilCommand(given)
			if !sameAnswer(a, want) {
				t.Fatalf("%+v: %+v; want %+v", c, a, want)
			}
			x.hold(t, c)
		}
	}
}

// P3: what is returned is nobody else's, up to its spare capacity.
func TestResultsAreNewlyAllocated(t *testing.T) {
	s, l, commands := scriptOfFew()
	wounded, taken, named := 0, 0, 0
	for _, commands := range [][]api.Command{commands, fewCommands()} {
		x := newPair(t, s, l)
		for range 2 {
			for _, c := range commands {
				a := x.agree(t, c)
				wounded, taken = wounded+len(a.Wounded), taken+len(a.Events)
				for _, r := range a.Results {
					named += len(r.Names)
				}
				spoilAnswer(a)
				x.hold(t, c)
				spoilState(stateOf(x.h))
				x.hold(t, "it was told")
			}
		}
	}
	if wounded == 0 || taken == 0 || named == 0 {
		t.Errorf("%d wounded, %d events, %d names", wounded, taken, named)
	}
}

// No two lists of an answer share their room.
func TestListsOfAnAnswerAreApart(t *testing.T) {
	s, l, commands := scriptOfFew()
	x := newPair(t, s, l)
	several := 0
	for _, c := range commands {
		want := x.m.do(c)
		a := x.h.Do(c)
		for i := range a.Results {
			spoil(a.Results[i].Names, spoiltText)
			for j, r := range a.Results {
				if j > i && !sameResult(r, want.Results[j]) {
					t.Fatalf("%+v: %+v; want %+v", c, a, want)
				}
				if j > i && len(r.Names) > 0 {
					several++
				}
			}
		}
	}
	if several == 0 {
		t.Error("no answer had several names")
	}
}

// P3: a result stays as it was, whatever is done afterwards.
func TestResultsStay(t *testing.T) {
	s, l, commands := scriptOfFew()
	x := newPair(t, s, l)
	var answers, wantAnswers []api.Answer
	var states, wantStates []state
	for _, c := range commands {
		answers = append(answers, x.agree(t, c))
		states = append(states, stateOf(x.h))
	}
	y := newModel(s, l)
	for _, c := range commands {
		wantAnswers = append(wantAnswers, y.do(c))
		wantStates = append(wantStates, y.has())
	}
	for _, c := range fewCommands() {
		x.h.Do(c)
	}
	for i := range answers {
		if !sameAnswer(answers[i], wantAnswers[i]) || !sameState(states[i], wantStates[i]) {
			t.Errorf("%+v: %+v became %+v, or %+v became %+v", commands[i], wantAnswers[i], answers[i], wantStates[i], states[i])
		}
	}
}
