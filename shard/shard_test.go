package shard_test

import (
	"slices"
	"strconv"
	"strings"
	"testing"

	"canton/api"
	"canton/shard"
)

// answered does a command and holds its answer against the one that is written out.
func (x pair) answered(t *testing.T, c api.Command, want api.Answer) {
	t.Helper()
	if a := x.agree(t, c); !sameAnswer(a, want) {
		t.Errorf("%+v: %+v; want %+v", c, a, want)
	}
}

// refuses does commands, each of which has an error with nothing beside it.
func (x pair) refuses(t *testing.T, err api.Errno, l ...api.Command) {
	t.Helper()
	for _, c := range l {
		x.answered(t, c, api.Answer{Err: err})
	}
}

// keeps holds the paths of the nodes that are there against those that are written out.
func (x pair) keeps(t *testing.T, paths string) {
	t.Helper()
	if got := pathsOf(x.h.Store()); got != paths {
		t.Errorf("there is %s; want %s", got, paths)
	}
}

func (x pair) hasRanges(t *testing.T, want ...api.Range) {
	t.Helper()
	if got := x.h.Ranges(); !slices.Equal(got, want) {
		t.Errorf("there is %+v; want %+v", got, want)
	}
}

func (x pair) hasHolds(t *testing.T, want ...api.Hold) {
	t.Helper()
	if got := x.h.Holds(); !slices.Equal(got, want) {
		t.Errorf("there is %+v; want %+v", got, want)
	}
}

// yes is the answer to what is prepared, if its pieces have these results.
func yes(results ...api.Result) api.Answer { return api.Answer{Yes: true, Results: results} }

func results(l ...api.Result) api.Answer { return api.Answer{Results: l} }

// The example of the chapter.
func TestExample(t *testing.T) {
	x := whole(t, "/ /a")
	x.answered(t, prepare(5, 5, get("/a/b")), api.Answer{Err: api.ErrNone})
	x.hasHolds(t, api.Hold{Dir: "/a", Txn: 5, Age: 5})
	x.refuses(t, api.ErrBusy, run(create("/a/c")))
}

// P13.1 (M1): New, and what a shard tells of itself.

func someStores() []api.Store {
	const deep6 = "/a/b/c/d/e/f"
	return []api.Store{
		{},
		{Nodes: []api.Node{}, Turns: []api.Turn{}},
		storeOf("/", ""),
		storeOf("/ /a /a/b", "/ /a"),
		storeOf("/a /a/b "+deep6, deep6+" /b"),
		{Nodes: []api.Node{{Path: "/", Version: mostNum}, {Path: "/a", Data: strings.Repeat("x", 256), Owner: 1 << 40}}, Turns: []api.Turn{{Dir: "/z", Next: 10000}}},
		manyNodes(513),
	}
}

func noStores() []api.Store {
	return []api.Store{
		storeOf("/b /a", ""),
		storeOf("/a /a", ""),
		storeOf("a", ""),
		storeOf("/", "/b /a"),
		storeOf("/", "/a /a"),
		storeOf("/", "a"),
		{Nodes: []api.Node{{}}},
		{Nodes: []api.Node{{Path: "/", Owner: 1}}},
		{Nodes: []api.Node{{Path: "/a", Owner: -1}}},
		{Nodes: []api.Node{{Path: "/a", Owner: 1<<40 + 1}}},
		{Nodes: []api.Node{{Path: "/a", Version: -1}}},
		{Nodes: []api.Node{{Path: "/a", Version: mostNum + 1}}},
		{Nodes: []api.Node{{Path: "/a", Turn: 1}}},
		{Nodes: []api.Node{{Path: "/a", Data: strings.Repeat("x", 257)}}},
		{Turns: []api.Turn{{Dir: "/a"}}},
		{Turns: []api.Turn{{Dir: "/a", Next: 10001}}},
		{Turns: []api.Turn{{Dir: "/a", Next: -1}}},
	}
}

func someRanges() [][]api.Range {
	return [][]api.Range{
		nil,
		{},
		ranges(ofMine("/", 1)),
		ranges(ofMine("/", 0), ofFrozen("/a", mostNum), ofGone("/a/b", 7), ofMine("/b", 2)),
		manyRanges(32),
	}
}

func noRanges() [][]api.Range {
	return [][]api.Range{
		{{}},
		ranges(ofMine("", 1)),
		ranges(ofMine("a", 1)),
		ranges(ofMine("/a", -1)),
		ranges(ofMine("/a", mostNum+1)),
		ranges(ofMine("/a", 1), ofMine("/a", 2)),
		ranges(ofMine("/b", 1), ofMine("/a", 2)),
		{{Prefix: "/a", Epoch: 1}},
		{{Prefix: "/a", Epoch: 1, State: 4}},
		manyRanges(33),
	}
}

// manyNodes is a store of n nodes, of which most lie in /a.
func manyNodes(n int) api.Store {
	s := storeOf("/ /a", "")
	for i := range n - 2 {
		s.Nodes = append(s.Nodes, api.Node{Path: "/a/m" + strconv.Itoa(10000+i)})
	}
	return s
}

// manyRanges is n ranges beside each other, all of which are kept here.
func manyRanges(n int) []api.Range {
	var l []api.Range
	for i := range n {
		l = append(l, ofMine("/m"+strconv.Itoa(100+i), 1))
	}
	return l
}

func TestNew(t *testing.T) {
	for i, s := range someStores() {
		for j, l := range someRanges() {
			h := shard.New(s, l)
			if h == nil {
				t.Fatalf("%d, %d are refused", i, j)
			}
			if !sameStore(h.Store(), s) || !slices.Equal(h.Ranges(), l) || len(h.Holds()) != 0 || !sameWatched(h.Watched(), api.Watched{}) {
				t.Errorf("%d, %d: %+v", i, j, stateOf(h))
			}
		}
		for j, l := range noRanges() {
			if shard.New(s, l) != nil {
				t.Errorf("%d, wrong %d are not refused", i, j)
			}
		}
	}
	for i, s := range noStores() {
		for j, l := range append(someRanges(), noRanges()...) {
			if shard.New(s, l) != nil {
				t.Errorf("wrong %d, %d are not refused", i, j)
			}
		}
	}
}

// There is nothing else in a new one: no answer, no transaction, no decision, no watch.
func TestNothingElseInANewOne(t *testing.T) {
	for id := range int64(5) {
		x := whole(t, "/")
		x.refuses(t, api.ErrNone, finish(id, true), unwatch(id, id), take(id, mostNum))
		x.answered(t, decide(id, true, id), api.Answer{Yes: true, Epoch: id})
		x.answered(t, prepare(id, 0, create("/a")), yes(api.Result{}, api.Result{Path: "/a"}))
		x.after(t, finish(id, false))
		x.answered(t, byId(id, run(create("/b"))), results(api.Result{}, api.Result{Path: "/b"}))
		x.keeps(t, "/ /b")
	}
}

// P13.1 (M2): commands that are not valid, and those of the committee.

func wrongCommands() []api.Command {
	l := []api.Command{{}, {Kind: -1}, {Kind: 14}, {Kind: 1 << 32}, {Kind: -1 << 63}, {Kind: 1<<63 - 1}}
	for kind := api.CmdBegin; kind <= api.CmdRoute; kind++ {
		l = append(l, api.Command{Kind: kind}, api.Command{Kind: kind, Id: 1, Prefix: "/a", Epoch: 1})
	}
	for kind := api.CmdRun; kind <= api.CmdTake; kind++ {
		c := api.Command{Kind: kind, Id: 1, Txn: 1, Age: 1, Prefix: "/a", Epoch: 1, Pieces: pieces(create("/a/b")), Watch: api.Watch{Session: 1, Num: 1, Path: "/"}}
		for _, wrong := range []func(*api.Command){
			func(c *api.Command) { c.Id = -1 },
			func(c *api.Command) { c.Id = mostNum + 1 },
			func(c *api.Command) { c.Txn = -1 },
			func(c *api.Command) { c.Txn = mostNum + 1 },
			func(c *api.Command) { c.Age = mostNum + 1 },
			func(c *api.Command) { c.Epoch = -1 },
			func(c *api.Command) { c.To = 4 },
			func(c *api.Command) { c.Prefix = "a" },
			func(c *api.Command) { c.Watch.Path = "//" },
			func(c *api.Command) { c.Watch.Session = -1 },
			func(c *api.Command) { c.Pieces[0].Op = 8 },
			func(c *api.Command) { c.Pieces[1].Part.Dir = "/b" },
			func(c *api.Command) { c.Pieces[1].Part.Version = mostNum },
			func(c *api.Command) { c.Pieces = slices.Repeat(c.Pieces[:1], 17) },
			func(c *api.Command) { c.Store = storeOf("/b /a", "") },
			func(c *api.Command) { c.Store = manyNodes(513) },
			func(c *api.Command) { c.Gone = []string{"/b"} },
			func(c *api.Command) { c.Gone = []string{"/a/b", "/a/b"} },
		} {
			d := c
			d.Pieces = slices.Clone(c.Pieces)
			wrong(&d)
			l = append(l, d)
		}
	}
	return l
}

func TestWrongCommands(t *testing.T) {
	x := whole(t, "/ /a")
	for _, c := range wrongCommands() {
		x.refuses(t, api.ErrArg, c)
	}
	x.keeps(t, "/ /a")
	// No answer was stored under the Id 1, and nothing is known of the transaction 1.
	x.refuses(t, api.ErrNone, finish(1, true))
	x.after(t, byId(1, run(create("/a/b"))), decide(1, true, 2), prepare(1, 2))
}

// A wrong command is refused ahead of an answer that was given for its Id.
func TestWrongCommandOfAnId(t *testing.T) {
	x := whole(t, "/")
	x.after(t, byId(1, run(create("/a"))))
	wrong := byId(1, run(create("/a")))
	wrong.To = 4
	x.refuses(t, api.ErrArg, wrong, api.Command{Kind: api.CmdRoute, Id: 1})
}

// P13.1 and P13.3: commands with an Id.

func TestAnswerOfAnId(t *testing.T) {
	x := whole(t, "/")
	first := results(api.Result{}, api.Result{Path: "/q0000"})
	for range 3 {
		x.answered(t, byId(7, run(turn("/q"))), first)
	}
	x.keeps(t, "/ /q0000")
	// Whatever it is that asks for that Id now.
	for _, c := range []api.Command{run(create("/b")), run(), run(get("/zz")), watchOf(1, 1, "/", true), unwatch(9, 9), take(1, 1)} {
		x.answered(t, byId(7, c), first)
	}
	x.keeps(t, "/ /q0000")
	if len(x.h.Watched().Watches) != 0 {
		t.Errorf("there is %+v", x.h.Watched())
	}
	// The other kinds have no Ids.
	x.answered(t, byId(7, prepare(1, 1, create("/c"))), yes(api.Result{}, api.Result{Path: "/c"}))
	x.answered(t, byId(7, decide(1, true, 4)), api.Answer{Yes: true, Epoch: 4})
	x.answered(t, byId(7, finish(1, true)), api.Answer{})
	x.answered(t, byId(7, freeze("/q0000", 1)), api.Answer{Epoch: 1})
	x.answered(t, byId(7, drop("/q0000", 1)), api.Answer{})
	x.answered(t, byId(7, install("/q0000", 2, api.Store{})), api.Answer{})
	x.hasRanges(t, ofMine("/", 1), ofMine("/q0000", 2))
	x.keeps(t, "/ /c /q0000")
	// They store no answer, either.
	x.answered(t, byId(8, decide(1, false, 0)), api.Answer{Yes: true, Epoch: 4})
	x.answered(t, byId(8, run(get("/c"))), results(api.Result{}))
}

func TestNoIdIsExecutedEachTime(t *testing.T) {
	x := whole(t, "/")
	for _, want := range []string{"/q0000", "/q0001", "/q0002"} {
		x.answered(t, run(turn("/q")), results(api.Result{}, api.Result{Path: want}))
	}
	x.after(t, watchOf(1, 1, "/", true))
	x.refuses(t, api.ErrThere, watchOf(1, 1, "/", true))
	x.after(t, unwatch(1, 1))
	x.refuses(t, api.ErrNone, unwatch(1, 1))
}

// Errors are answers too, but for those behind which one asks again.
func TestErrorsOfAnId(t *testing.T) {
	x := whole(t, "/")
	x.answered(t, byId(1, run(create("/b"), get("/a"))), api.Answer{Err: api.ErrNone, At: 2})
	x.refuses(t, api.ErrNone, byId(2, unwatch(1, 1)), byId(3, take(1, 1)))
	x.refuses(t, api.ErrArg, byId(4, watchOf(0, 1, "/", true)))
	x.after(t, run(create("/a")), watchOf(1, 1, "/", true))
	x.answered(t, byId(1, run(get("/a"))), api.Answer{Err: api.ErrNone, At: 2})
	x.refuses(t, api.ErrNone, byId(2, unwatch(1, 1)), byId(3, take(1, 1)))
	x.refuses(t, api.ErrArg, byId(4, watchOf(1, 2, "/", true)))
	x.refuses(t, api.ErrThere, byId(5, watchOf(1, 1, "/", true)), byId(5, run(get("/a"))))
}

func TestBusyAndMovedOfAnId(t *testing.T) {
	x := whole(t, "/ /a")
	x.after(t, prepare(1, 1, create("/a/b")))
	x.refuses(t, api.ErrBusy, byId(1, run(create("/a/c"))), byId(1, run(create("/a/c"))))
	x.after(t, finish(1, false))
	x.after(t, byId(1, run(create("/a/c"))), freeze("/a", 1))
	x.refuses(t, api.ErrBusy, byId(2, run(create("/a/d"))))
	x.after(t, drop("/a", 1))
	x.refuses(t, api.ErrMoved, byId(2, run(create("/a/d"))), byId(2, run(create("/a/d"))))
	// What was answered is answered again, wherever the directory is by now.
	x.answered(t, byId(1, run(create("/a/c"))), results(api.Result{}, api.Result{Path: "/a/c"}))
	x.after(t, install("/a", 2, api.Store{}), byId(2, run(create("/a/d"))))
	x.keeps(t, "/ /a /a/d")
}

func TestManyIds(t *testing.T) {
	x := whole(t, "/ /a /z")
	x.after(t, only(prepare(1, 1, create("/z/a")), "/z"))
	for id := range int64(mostIds - 4) {
		x.after(t, byId(id+1, run(set("/a", strconv.Itoa(int(id))))))
	}
	// What is busy takes no place; all other answers do, whichever the kind.
	x.refuses(t, api.ErrBusy, byId(mostNum, run(create("/z/b"))))
	x.answered(t, byId(1000, run(create("/b"))), results(api.Result{}, api.Result{Path: "/b"}))
	x.after(t, byId(1001, watchOf(1, 1, "/", true)), byId(1002, take(1, 1)))
	x.refuses(t, api.ErrNone, byId(1003, unwatch(1, 9)))
	for _, c := range []api.Command{run(create("/c")), run(), run(create("/z/b")), run(get("/x/y")), watchOf(2, 2, "/", true), watchOf(1, 1, "/", true), unwatch(1, 1), take(1, 1)} {
		x.refuses(t, api.ErrTooMany, byId(mostNum, c), byId(2000, c))
	}
	// The answers that are there still are, and what has no Id, or needs none, goes on.
	x.answered(t, byId(1, run(create("/c"))), results(api.Result{Version: 1}))
	x.answered(t, byId(mostIds-4, run()), results(api.Result{Version: mostIds - 4}))
	x.refuses(t, api.ErrNone, byId(1003, run()))
	x.after(t, run(create("/d")), byId(mostNum, prepare(2, 2, create("/e"))), byId(mostNum, finish(2, true)), byId(mostNum, decide(2, true, 1)), byId(mostNum, freeze("/a", 1)))
	x.keeps(t, "/ /a /b /d /e /z")
}

// P13.1: CmdRun.

func TestRun(t *testing.T) {
	x := whole(t, "/ /a")
	x.answered(t, run(), api.Answer{})
	x.answered(t, run(create("/a/b"), set("/a/b", "x"), get("/a/b"), list("/a")), results(api.Result{}, api.Result{Path: "/a/b"}, api.Result{Version: 1}, api.Result{Data: "x", Version: 1}, api.Result{}, api.Result{Names: []string{"b"}}))
	x.keeps(t, "/ /a /a/b")
	x.answered(t, run(remove("/a/b"), remove("/a")), results(api.Result{}, api.Result{}, api.Result{}, api.Result{}))
	x.keeps(t, "/")
}

// All or none; At is the piece, not the operation.
func TestRunWithAnError(t *testing.T) {
	x := whole(t, "/ /a /a/b")
	x.after(t, watchOf(1, 1, "/", true))
	for at, c := range map[int]api.Command{
		1: run(create("/a")),
		2: run(create("/c"), create("/x/y")),
		3: run(remove("/a/b"), create("/a/b"), create("/a/b")),
		4: run(create("/c"), set("/a", "x"), get("/c"), get("/d")),
	} {
		a := x.agree(t, c)
		if a.Err == 0 || len(a.Results) != 0 {
			t.Errorf("%+v: %+v", c, a)
		}
		if at != 3 && a.At != at {
			t.Errorf("%+v: %+v; want At %d", c, a, at)
		}
	}
	x.answered(t, run(remove("/a")), api.Answer{Err: api.ErrFilled, At: 1})
	x.answered(t, run(check("/a", 5)), api.Answer{Err: api.ErrVersion})
	x.keeps(t, "/ /a /a/b")
	if w := x.h.Watched(); len(w.Sessions[0].Events) != 0 {
		t.Errorf("there is %+v", w)
	}
}

// Of directories that are elsewhere, moving and held, those that are elsewhere come first.
func TestRunWhereNotAllIsKept(t *testing.T) {
	x := newPair(t, storeOf("/ /a /b /b/x /c /d", ""), ranges(ofMine("/", 1), ofFrozen("/a", 1), ofGone("/b", 1)))
	x.after(t, prepare(1, 1, create("/c/z")))
	x.hasHolds(t, api.Hold{Dir: "/", Txn: 1, Age: 1}, api.Hold{Dir: "/c", Txn: 1, Age: 1})
	moved, busy := list("/b"), list("/a")
	x.refuses(t, api.ErrMoved, run(moved), run(busy, moved), run(moved, busy), run(get("/c/z"), moved), run(get("/b/x"), get("/c/z")), run(get("/zzz/y"), moved))
	x.refuses(t, api.ErrBusy, run(busy), run(get("/a/b")), run(get("/a/b/c")), run(get("/c/z")), run(list("/c")), run(get("/c")), run(get("/a/b"), get("/c/z")), run(get("/d/e"), get("/a/b")))
	// What is not held is not in the way, though it lies in what is.
	x.answered(t, run(get("/c/z/y")), api.Answer{Err: api.ErrNone})
	x.answered(t, run(get("/d/e")), api.Answer{Err: api.ErrNone})
	x.answered(t, run(), api.Answer{})
}

func TestRunWithoutARange(t *testing.T) {
	for _, x := range []pair{newPair(t, storeOf("/ /a", ""), nil), newPair(t, storeOf("/ /a", ""), ranges(ofMine("/b", 1)))} {
		x.refuses(t, api.ErrMoved, run(get("/")), run(get("/a")), run(get("/a/b")), prepare(1, 1, get("/a")))
		x.answered(t, run(), api.Answer{})
		x.answered(t, prepare(2, 1), yes())
	}
}

// P13.1: the notifications.

func TestNotifications(t *testing.T) {
	x := newPair(t, storeOf("/ /a /a/b", "/a"), ranges(ofMine("/", 1)))
	x.after(t, watchOf(1, 5, "/", true))
	x.after(t, run(turn("/a/q"), set("/a", "x"), remove("/a/b")), run(owns("/a/s", 3)), run(owns("/a/r", 3), get("/a"), list("/a"), check("/a", 1)))
	x.answered(t, take(1, 0), api.Answer{Events: []api.Event{
		{Num: 1, Kind: api.Came, Path: "/a/q0001", Watch: 5},
		{Num: 2, Kind: api.Changed, Path: "/a", Watch: 5},
		{Num: 3, Kind: api.Went, Path: "/a/b", Watch: 5},
		{Num: 4, Kind: api.Came, Path: "/a/s", Watch: 5},
		{Num: 5, Kind: api.Came, Path: "/a/r", Watch: 5},
	}})
	x.answered(t, take(1, 5), api.Answer{})
	x.after(t, run(sweep("/a", 3), sweep("/a", 4)), run(owns("/t", 4), owns("/u", 4)), run(sweep("/", 4)))
	x.answered(t, take(1, 5), api.Answer{Events: []api.Event{
		{Num: 6, Kind: api.Went, Path: "/a/r", Watch: 5},
		{Num: 7, Kind: api.Went, Path: "/a/s", Watch: 5},
		{Num: 8, Kind: api.Came, Path: "/t", Watch: 5},
		{Num: 9, Kind: api.Came, Path: "/u", Watch: 5},
		{Num: 10, Kind: api.Went, Path: "/t", Watch: 5},
		{Num: 11, Kind: api.Went, Path: "/u", Watch: 5},
	}})
	x.keeps(t, "/ /a /a/q0001")
}

// What comes and goes within one command is told too; what is only prepared is not, and neither is what is moved.
func TestNotificationsOfTransactionsAndMoves(t *testing.T) {
	x := whole(t, "/ /a /a/b")
	x.after(t, watchOf(1, 5, "/a", true), watchOf(1, 6, "/a", false))
	x.after(t, prepare(1, 1, set("/a", "x"), create("/a/c"), remove("/a/c")))
	x.answered(t, take(1, 0), api.Answer{})
	x.after(t, finish(1, true), prepare(2, 1, create("/a/d")), finish(2, false))
	events := []api.Event{
		{Num: 1, Kind: api.Changed, Path: "/a", Watch: 5},
		{Num: 2, Kind: api.Changed, Path: "/a", Watch: 6},
		{Num: 3, Kind: api.Came, Path: "/a/c", Watch: 5},
		{Num: 4, Kind: api.Went, Path: "/a/c", Watch: 5},
	}
	x.answered(t, take(1, 0), api.Answer{Events: events})
	x.after(t, finish(1, true), freeze("/a", 1), drop("/a", 1), install("/a", 2, storeOf("/a/b /a/c", "")))
	x.answered(t, take(1, 3), api.Answer{Events: events[3:]})
}

// P13.1: CmdPrepare, and the example of the whole in which an older transaction finds a younger one.

func TestPrepare(t *testing.T) {
	x := whole(t, "/ /a /a/b")
	first := yes(api.Result{}, api.Result{Path: "/a/c"}, api.Result{}, api.Result{Names: []string{"b", "c"}})
	x.answered(t, prepare(3, 8, create("/a/c"), list("/a")), first)
	x.keeps(t, "/ /a /a/b")
	holds := []api.Hold{{Dir: "/", Txn: 3, Age: 8}, {Dir: "/a", Txn: 3, Age: 8}}
	x.hasHolds(t, holds...)
	// It is answered again, whatever is asked of that transaction.
	x.answered(t, prepare(3, 8, create("/a/c"), list("/a")), first)
	x.answered(t, prepare(3, 9, create("/q")), first)
	x.answered(t, prepare(3, 0), first)
	x.hasHolds(t, holds...)
	x.answered(t, finish(3, true), api.Answer{})
	x.keeps(t, "/ /a /a/b /a/c")
	x.hasHolds(t)
	x.refuses(t, api.ErrLate, prepare(3, 8, create("/a/c"), list("/a")), prepare(3, 0))
}

// An error of its pieces is an answer too: the directories are held, and there is nothing to execute.
func TestPrepareWithAnError(t *testing.T) {
	for _, done := range []bool{true, false} {
		x := whole(t, "/ /a")
		for range 2 {
			x.answered(t, prepare(3, 8, create("/b"), get("/a/c")), api.Answer{Err: api.ErrNone, At: 2})
		}
		x.hasHolds(t, api.Hold{Dir: "/", Txn: 3, Age: 8}, api.Hold{Dir: "/a", Txn: 3, Age: 8})
		x.refuses(t, api.ErrBusy, run(create("/c")))
		x.answered(t, finish(3, done), api.Answer{})
		x.hasHolds(t)
		x.keeps(t, "/ /a")
		x.refuses(t, api.ErrLate, prepare(3, 8, create("/b")))
	}
}

// An error of the pieces may have the number of one of Prepare's own.
func TestPrepareAtTheLastVersion(t *testing.T) {
	x := newPair(t, api.Store{Nodes: []api.Node{{Path: "/", Version: mostNum}}}, ranges(ofMine("/", 1)))
	x.answered(t, prepare(1, 1, create("/a"), set("/", "x")), api.Answer{Err: api.ErrTooMany, At: 2})
	x.hasHolds(t, api.Hold{Dir: "/", Txn: 1, Age: 1})
	x.answered(t, prepare(1, 1), api.Answer{Err: api.ErrTooMany, At: 2})
	x.after(t, finish(1, true))
	x.keeps(t, "/")
	x.refuses(t, api.ErrLate, prepare(1, 1))
}

func TestPrepareWhereOthersHold(t *testing.T) {
	x := whole(t, "/ /a /b /c /d")
	x.after(t, only(prepare(5, 9, list("/a")), "/a"), only(prepare(7, 4, list("/b")), "/b"), only(prepare(6, 9, list("/c"), list("/d")), "/c", "/d"))
	holds := x.h.Holds()
	for _, c := range []struct {
		c       api.Command
		wounded []int64
	}{
		{prepare(3, 2, list("/a"), list("/b"), list("/c"), list("/d")), []int64{5, 6, 7}},
		{prepare(3, 2, list("/d"), list("/c")), []int64{6}},
		{prepare(3, 4, list("/c"), list("/b"), list("/a")), []int64{5, 6, 7}},
		{prepare(8, 4, list("/c"), list("/b"), list("/a")), []int64{5, 6}},
		{prepare(4, 9, list("/c"), list("/b"), list("/a")), []int64{5, 6}},
		{prepare(5<<20, 9, list("/c"), list("/b"), list("/a")), nil},
		{prepare(3, 10, list("/a")), nil},
		{prepare(9, mostNum, get("/a/x")), nil},
		{prepare(1, 9, get("/a/x")), []int64{5}},
	} {
		x.answered(t, c.c, api.Answer{Err: api.ErrBusy, Wounded: c.wounded})
		if !slices.Equal(x.h.Holds(), holds) {
			t.Fatalf("%+v: there is %+v", c.c, x.h.Holds())
		}
	}
	// None of them was prepared.
	x.refuses(t, api.ErrNone, finish(3, true), finish(9, true), finish(1, true))
	x.after(t, finish(5, false))
	x.answered(t, prepare(3, 2, get("/a")), yes(api.Result{Data: "/a"}))
}

func TestPrepareWhereNotAllIsKept(t *testing.T) {
	x := newPair(t, storeOf("/ /a /b /b/x /c /d", ""), ranges(ofMine("/", 1), ofFrozen("/a", 1), ofGone("/b", 1)))
	x.after(t, only(prepare(1, 8, create("/c/z")), "/c"))
	moved, moving, held := list("/b"), get("/a/b"), get("/c/z")
	x.refuses(t, api.ErrMoved, prepare(2, 2, moved), prepare(2, 2, moving, moved), prepare(2, 2, held, moved), prepare(2, 2, held, moving, moved))
	x.refuses(t, api.ErrBusy, prepare(2, 2, moving), prepare(2, 2, moving, held), prepare(2, 2, held, moving), prepare(2, 2, list("/a")))
	x.answered(t, prepare(2, 2, held), api.Answer{Err: api.ErrBusy, Wounded: []int64{1}})
	// Of a transaction that there is nothing else counts.
	x.answered(t, prepare(1, 2, moved, moving, held), yes(api.Result{Path: "/c/z"}))
	x.after(t, finish(1, false))
	x.refuses(t, api.ErrLate, prepare(1, 2, moved, moving, held))
}

func TestManyTransactions(t *testing.T) {
	for _, finished := range []int64{0, 100, mostTxns - 1} {
		x := newPair(t, storeOf("/ /a /b /d /d/x", ""), ranges(ofMine("/", 1), ofFrozen("/a", 1), ofGone("/b", 1)))
		for txn := range finished {
			x.after(t, finish(txn, false))
		}
		for txn := finished; txn < mostTxns-1; txn++ {
			x.after(t, prepare(txn, txn))
		}
		x.after(t, prepare(mostNum, 5, get("/d/x")))
		// That is ahead of what others hold, and behind what is elsewhere or moving.
		x.refuses(t, api.ErrTooMany, prepare(500, 1), prepare(500, 1, get("/d/x")), prepare(501, 9, get("/d")), finish(500, false))
		x.refuses(t, api.ErrMoved, prepare(500, 1, list("/b")), prepare(500, 1, get("/a/b"), list("/b")))
		x.refuses(t, api.ErrBusy, prepare(500, 1, get("/a/b")))
		x.refuses(t, api.ErrNone, finish(500, true))
		// Those that there are go on, and none of them makes room.
		x.answered(t, prepare(mostNum, 0), yes(api.Result{Data: "/d/x"}))
		x.after(t, finish(mostNum, true), finish(mostNum, false), finish(0, true))
		x.refuses(t, api.ErrLate, prepare(mostNum, 0), prepare(0, 0))
		x.refuses(t, api.ErrTooMany, prepare(500, 1), finish(500, false))
		x.after(t, run(create("/e")), decide(500, true, 1))
	}
}

// P13.1: CmdFinish.

func TestFinish(t *testing.T) {
	x := whole(t, "/ /a")
	x.refuses(t, api.ErrNone, finish(1, true), finish(0, true))
	x.answered(t, finish(1, false), api.Answer{})
	x.refuses(t, api.ErrLate, prepare(1, 1, create("/b")))
	for _, done := range []bool{true, false} {
		x.answered(t, finish(1, done), api.Answer{})
	}
	// The number 0 is one as all others are.
	x.after(t, prepare(0, 1, create("/b")))
	x.hasHolds(t, api.Hold{Dir: "/", Txn: 0, Age: 1})
	x.after(t, finish(0, true))
	x.keeps(t, "/ /a /b")
}

func TestFinishReleasesItsOwn(t *testing.T) {
	x := whole(t, "/ /a /b")
	x.after(t, only(prepare(1, 7, create("/a/x")), "/a"), only(prepare(2, 7, create("/b/x")), "/b"))
	x.after(t, finish(1, false))
	x.hasHolds(t, api.Hold{Dir: "/b", Txn: 2, Age: 7})
	x.keeps(t, "/ /a /b")
	x.after(t, finish(2, true), finish(2, true))
	x.hasHolds(t)
	x.keeps(t, "/ /a /b /b/x")
	// What was let go is not executed any more.
	x.after(t, finish(1, true))
	x.keeps(t, "/ /a /b /b/x")
	// What was done stays done.
	x.after(t, run(remove("/b/x")), finish(2, true), finish(2, false))
	x.keeps(t, "/ /a /b")
}

// P13.1: CmdDecide.

func TestDecide(t *testing.T) {
	x := whole(t, "/")
	for _, first := range []api.Command{decide(0, false, 0), decide(1, true, 0), decide(2, false, 1), decide(mostNum, true, mostNum)} {
		want := api.Answer{Yes: first.Yes, Epoch: first.Epoch}
		x.answered(t, first, want)
		for _, c := range []api.Command{decide(first.Txn, true, 3), decide(first.Txn, false, 0), decide(first.Txn, false, 4)} {
			x.answered(t, c, want)
		}
	}
	// A decision says nothing to the transaction, and a transaction nothing to the decision.
	x.after(t, prepare(1, 1, create("/a")), decide(3, true, 0), finish(3, false))
	x.keeps(t, "/")
	x.answered(t, decide(3, false, 1), api.Answer{Yes: true})
	x.refuses(t, api.ErrNone, finish(2, true))
}

func TestManyDecisions(t *testing.T) {
	x := whole(t, "/")
	for txn := range int64(mostTxns) {
		x.answered(t, decide(2*txn, txn%2 == 0, txn), api.Answer{Yes: txn%2 == 0, Epoch: txn})
	}
	x.refuses(t, api.ErrTooMany, decide(1, true, 1), decide(mostNum, false, 0), decide(2*mostTxns, true, 0))
	x.answered(t, decide(0, false, 7), api.Answer{Yes: true})
	x.answered(t, decide(2*mostTxns-2, true, 7), api.Answer{Epoch: mostTxns - 1})
	x.after(t, prepare(1, 1), finish(3, false))
}
