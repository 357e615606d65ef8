package meta_test

import (
	"regexp"
	"slices"
	"strconv"
	"strings"
	"testing"

	"canton/api"
	"canton/command"
	"canton/meta"
	"canton/mounts"
	"canton/multi"
)

// The bounds, the errors and the kinds as the document says them.
const (
	mostMounts = 32
	mostGroup  = 3
	mostNum    = 1 << 48
	errArg     = api.Errno(1)
	errTooMany = api.Errno(2)
	errThere   = api.Errno(61)
	errBusy    = api.Errno(131)
	errLate    = api.Errno(133)
	kindBegin  = 11
	kindFlip   = 12
	kindRoute  = 13
	part12     = "0123456789ab"
	deep6      = "/a/b/c/d/e/f"
)

var pathForm = regexp.MustCompile(`\A(/|(/[a-z0-9-]{1,12}){1,6})\z`)

// isIn is whether a path is q, or lies below it.
func isIn(p string, q string) bool {
	return p == q || q == "/" || strings.HasPrefix(p, q+"/")
}

func isMoving(m api.Mount) bool { return m.To != m.Group }

// rests is a mount that is not moving; moves is one that is.

func rests(prefix string, group int, epoch int64) api.Mount {
	return api.Mount{Prefix: prefix, Group: group, Epoch: epoch, To: group}
}

func moves(prefix string, group int, epoch int64, to int) api.Mount {
	return api.Mount{Prefix: prefix, Group: group, Epoch: epoch, To: to}
}

func list(l ...api.Mount) []api.Mount { return l }

// many is n mounts: the root, and others beside each other, none of which is moving.
func many(n int) []api.Mount {
	l := list(rests("/", 1, 3))
	for i := range n - 1 {
		l = append(l, rests("/m"+strconv.Itoa(1000+i), i%4, int64(i%5)))
	}
	return l
}

func begin(prefix string, to int) api.Command {
	return api.Command{Kind: kindBegin, Prefix: prefix, To: to}
}

func flip(prefix string, epoch int64, to int) api.Command {
	return api.Command{Kind: kindFlip, Prefix: prefix, Epoch: epoch, To: to}
}

func route() api.Command { return api.Command{Kind: kindRoute} }

// groupOf is the group of a directory, as the document says it: that of the longest Prefix that contains it.
func groupOf(l []api.Mount, dir string) int {
	of := l[0]
	for _, m := range l {
		if isIn(dir, m.Prefix) && len(m.Prefix) > len(of.Prefix) {
			of = m
		}
	}
	return of.Group
}

// sameAnswer also holds against each other what a committee never answers.
func sameAnswer(a api.Answer, b api.Answer) bool {
	none := len(a.Results)+len(a.Store.Nodes)+len(a.Store.Turns)+len(a.Events)+len(a.Wounded) == 0
	return none && a.Err == b.Err && a.At == b.At && a.Yes == b.Yes && a.Epoch == b.Epoch && slices.Equal(a.Mounts, b.Mounts)
}

// want is a plain reading of O1: the mounts behind a command, and its answer.
func want(l []api.Mount, c api.Command) ([]api.Mount, api.Answer) {
	if !command.Right(c) || c.Kind <= 10 || c.Kind != kindRoute && c.Prefix == "" {
		return l, api.Answer{Err: errArg}
	}
	if c.Kind == kindRoute {
		return l, api.Answer{Mounts: l}
	}
	if c.Kind == kindFlip {
		now, err := mounts.Flip(l, c.Prefix, c.Epoch, c.To)
		return now, api.Answer{Err: err}
	}
	now, m, err := mounts.Begin(l, c.Prefix, c.To)
	if err != 0 {
		return l, api.Answer{Err: err}
	}
	a := api.Answer{Mounts: list(m)}
	for _, n := range now {
		if isIn(n.Prefix, c.Prefix) && n.Prefix != c.Prefix {
			a.Mounts = append(a.Mounts, n)
		}
	}
	return now, a
}

// committee is one that is held against the plain reading, with the mounts that it should have.
type committee struct {
	m *meta.Meta
	l []api.Mount
}

func of(t *testing.T, l ...api.Mount) *committee {
	t.Helper()
	k := &committee{meta.New(l), slices.Clone(l)}
	if k.m == nil {
		t.Fatalf("no committee of %+v", l)
	}
	k.has(t, "new", l...)
	return k
}

func (k *committee) has(t *testing.T, behind any, want ...api.Mount) {
	t.Helper()
	if got := k.m.Mounts(); !slices.Equal(got, want) {
		t.Fatalf("%+v: the mounts are %+v; want %+v", behind, got, want)
	}
}

// agree executes a command, holds all that came of it against the plain reading, and returns the answer.
func (k *committee) agree(t *testing.T, c api.Command) api.Answer {
	t.Helper()
	was := k.l
	now, answer := want(k.l, c)
	a := k.m.Do(c)
	if !sameAnswer(a, answer) {
		t.Fatalf("%+v of %+v: %+v; want %+v", c, was, a, answer)
	}
	k.l = now
	k.has(t, c, now...)
	return a
}

// answers is agree for a command with such an answer.
func (k *committee) answers(t *testing.T, c api.Command, l ...api.Mount) {
	t.Helper()
	if a := k.agree(t, c); !sameAnswer(a, api.Answer{Mounts: l}) {
		t.Errorf("%+v: %+v; want %+v", c, a, l)
	}
}

// refuses is agree for commands that are refused with an error, which change nothing.
func (k *committee) refuses(t *testing.T, err api.Errno, l ...api.Command) {
	t.Helper()
	for _, c := range l {
		was := k.m.Mounts()
		if a := k.agree(t, c); !sameAnswer(a, api.Answer{Err: err}) || a.Mounts != nil {
			t.Errorf("%+v of %+v: %+v; want the error %d", c, was, a, err)
		}
		k.has(t, c, was...)
	}
}

// someMounts is lists of mounts of all sorts, each of which is valid.
func someMounts() [][]api.Mount {
	return [][]api.Mount{
		list(rests("/", 0, 0)),
		list(rests("/", 3, mostNum)),
		list(moves("/", 2, mostNum, 0)),
		list(rests("/", 0, 1), rests("/a", 1, 1)),
		list(rests("/", 1, 2), rests("/a", 2, 5), rests("/a-", 3, 3), rests("/a/b", 3, 5), rests("/a/b/c", 0, 7), rests("/a0", 2, 8), rests("/b", 1, mostNum)),
		list(rests("/", 1, 2), rests("/a", 2, 5), moves("/a/b", 2, 5, 3), rests("/a/b/c", 0, 7), moves("/b", 1, 2, 0)),
		// So none ever begins, but it is valid: a mount that moves lies in another that does.
		list(moves("/", 0, 4, 1), moves("/a", 1, 4, 2), moves("/a/b", 3, 0, 1), rests("/b", 2, 1)),
		many(31),
		many(32),
		append(many(31), moves("/x", 0, mostNum-1, 1)),
	}
}

// noMounts is lists of mounts that are not valid.
func noMounts() [][]api.Mount {
	return [][]api.Mount{
		nil,
		{},
		many(33),
		many(32)[1:],
		list(rests("/a", 0, 0)),
		list(rests("/a", 0, 0), rests("/", 0, 0)),
		list(rests("/", 0, 0), rests("/", 0, 0)),
		list(rests("/", 0, 0), rests("/b", 0, 0), rests("/a", 0, 0)),
		list(rests("/", 0, 0), rests("/a/b", 0, 0), rests("/a-", 0, 0)),
		list(rests("/", 0, 0), rests("a", 0, 0)),
		list(rests("/", 0, 0), rests("", 0, 0)),
		list(rests("", 0, 0)),
		list(rests("/", -1, 0)),
		list(rests("/", 4, 0)),
		list(moves("/", 0, 0, 4)),
		list(moves("/", 0, 0, -1)),
		list(rests("/", 0, -1)),
		list(rests("/", 0, mostNum+1)),
		list(rests("/", 0, 0), rests("/a", 0, 0), moves("/b", 0, 0, 4)),
	}
}

func noPaths() []string {
	return []string{"", "a", "//", "/a/", "/A", "/a b", "/é", "?", "/" + part12 + "c", deep6 + "/g"}
}

// somePaths is paths in, beside and above the Prefixes of someMounts.
func somePaths() []string {
	return []string{"/", "/a", "/a-", "/a-/b", "/a/b", "/a/b/c", "/a/b/c/d", deep6, "/a/bc", "/a/b-", "/a/x", "/a0", "/ab", "/b", "/b/a", "/c", "/m1000", "/m1002/x", "/m1030", "/m1031", "/x", "/x/" + part12, "/z"}
}

// someCommands is commands of the committee of all sorts, right ones and wrong ones.
func someCommands() []api.Command {
	l := []api.Command{route(), {Kind: kindRoute, Prefix: "/a", Epoch: 1, To: 3}}
	for _, p := range append(somePaths(), noPaths()...) {
		for _, to := range []int{0, 1, 2, 3, -1, 4} {
			l = append(l, begin(p, to))
			for _, n := range []int64{-1, 0, 1, 2, 4, 5, 7, mostNum - 1, mostNum, mostNum + 1} {
				l = append(l, flip(p, n, to))
			}
		}
	}
	return l
}

// P15.1 (O1): New and Mounts.

func TestNew(t *testing.T) {
	for _, l := range someMounts() {
		of(t, l...)
	}
	for i, l := range noMounts() {
		if meta.New(l) != nil {
			t.Errorf("%d: a committee of %+v", i, l)
		}
	}
}

// P15.1 (O1): CmdBegin.

func TestBegin(t *testing.T) {
	k := of(t, rests("/", 0, 4))
	k.answers(t, begin("/b", 1), moves("/b", 0, 4, 1))
	k.has(t, "/b", rests("/", 0, 4), moves("/b", 0, 4, 1))
	k.answers(t, begin("/a/b", 2), moves("/a/b", 0, 4, 2))
	k.has(t, "/a/b", rests("/", 0, 4), moves("/a/b", 0, 4, 2), moves("/b", 0, 4, 1))
	// Once more, it is the same move.
	k.answers(t, begin("/b", 1), moves("/b", 0, 4, 1))
	k.has(t, "/b", rests("/", 0, 4), moves("/a/b", 0, 4, 2), moves("/b", 0, 4, 1))
}

// Behind the mount that moves come all that are in it, and no others, whether that mount is new or not.
func TestBeginTellsWhatIsInThePrefix(t *testing.T) {
	l := list(rests("/", 1, 2), rests("/a", 2, 5), rests("/a-", 3, 3), rests("/a/b", 3, 5), rests("/a/b-", 1, 1), rests("/a/b/c", 0, 7), rests("/a0", 2, 8), rests("/b/c/d", 1, 1), rests("/c", 1, 9))
	for _, x := range []struct {
		prefix string
		to     int
		want   []api.Mount
	}{
		{"/", 0, append(list(moves("/", 1, 2, 0)), l[1:]...)},
		{"/a", 1, list(moves("/a", 2, 5, 1), l[3], l[4], l[5])},
		{"/a/b", 2, list(moves("/a/b", 3, 5, 2), l[5])},
		{"/a/b/c", 3, list(moves("/a/b/c", 0, 7, 3))},
		{"/a/b/c/d", 3, list(moves("/a/b/c/d", 0, 7, 3))},
		{"/a/c", 1, list(moves("/a/c", 2, 5, 1))},
		{"/a-", 1, list(moves("/a-", 3, 3, 1))},
		{"/a0", 1, list(moves("/a0", 2, 8, 1))},
		{"/b", 2, list(moves("/b", 1, 2, 2), l[7])},
		{"/b/c", 0, list(moves("/b/c", 1, 2, 0), l[7])},
		{"/bb", 0, list(moves("/bb", 1, 2, 0))},
		{"/z", 3, list(moves("/z", 1, 2, 3))},
	} {
		k := of(t, l...)
		k.answers(t, begin(x.prefix, x.to), x.want...)
		k.answers(t, begin(x.prefix, x.to), x.want...)
	}
	// Of a move that has begun, those that are moving themselves are told too.
	inner := list(moves("/", 0, 4, 1), moves("/a", 1, 4, 2), moves("/a/b", 3, 0, 1), rests("/b", 2, 1))
	of(t, inner...).answers(t, begin("/", 1), inner...)
	of(t, inner...).answers(t, begin("/a", 2), inner[1], inner[2])
	full := of(t, many(mostMounts)...)
	full.answers(t, begin("/", 2), append(list(moves("/", 1, 3, 2)), many(mostMounts)[1:]...)...)
}

// What is told behind the mount that moves may stand in the CmdInstall of that move as what is kept elsewhere.
func TestBeginTellsWhatMayBeGone(t *testing.T) {
	several := 0
	for _, l := range someMounts() {
		for _, c := range someCommands() {
			a := of(t, l...).agree(t, c)
			if c.Kind != kindBegin || a.Err != 0 {
				continue
			}
			move := api.Command{Kind: api.CmdInstall, Prefix: c.Prefix, Epoch: a.Mounts[0].Epoch}
			for _, m := range a.Mounts[1:] {
				move.Gone = append(move.Gone, m.Prefix)
			}
			if !command.Right(move) {
				t.Errorf("%+v of %+v: %q", c, l, move.Gone)
			}
			if len(move.Gone) > 1 {
				several++
			}
		}
	}
	if several < 5 {
		t.Errorf("%d moves had several mounts in them", several)
	}
}

func TestBeginWithAnError(t *testing.T) {
	k := of(t, rests("/", 0, 0), rests("/a", 1, 0), moves("/a/b", 1, 0, 2), rests("/c", 2, mostNum))
	k.refuses(t, errBusy, begin("/", 1), begin("/a", 0), begin("/a/b", 3), begin("/a/b", 1), begin("/a/b/c", 2), begin("/a", 1))
	k.refuses(t, errThere, begin("/b", 0), begin("/a/c", 1), begin("/c", 2), begin("/c/d", 2))
	k.refuses(t, errTooMany, begin("/c", 1), begin("/c/d", 3))
	k.refuses(t, errArg, begin("", 1), begin("", 0), begin("a", 1), begin("/d", 4), begin("/d", -1))
	k.answers(t, begin("/a/c", 0), moves("/a/c", 1, 0, 0))
	full := of(t, many(mostMounts)...)
	full.refuses(t, errTooMany, begin("/z", 2), begin("/m1000/a", 2))
	full.answers(t, begin("/m1000", 2), moves("/m1000", 0, 0, 2))
	last := of(t, many(mostMounts-1)...)
	last.answers(t, begin("/z", 2), moves("/z", 1, 3, 2))
	last.refuses(t, errTooMany, begin("/y", 2))
}

// P15.1 (O1): CmdFlip.

func TestFlip(t *testing.T) {
	k := of(t, rests("/", 0, 4), moves("/a", 1, 5, 2), moves("/a/b", 1, 0, 0), moves("/b", 3, mostNum-1, 1))
	k.answers(t, flip("/a", 5, 2))
	k.answers(t, flip("/a/b", 0, 0))
	k.answers(t, flip("/b", mostNum-1, 1))
	now := list(rests("/", 0, 4), rests("/a", 2, 6), rests("/a/b", 0, 1), rests("/b", 1, mostNum))
	k.has(t, "all", now...)
	// Once more, nothing changes.
	k.answers(t, flip("/a", 5, 2))
	k.answers(t, flip("/b", mostNum-1, 1))
	k.answers(t, flip("/", 3, 0))
	k.has(t, "once more", now...)
}

func TestFlipWithAnError(t *testing.T) {
	k := of(t, rests("/", 0, 4), moves("/a", 1, 5, 2), moves("/b", 0, mostNum, 1))
	k.refuses(t, errLate,
		flip("/a", 4, 2), flip("/a", 6, 2), flip("/a", 5, 1), flip("/a", 4, 1), flip("/a", 5, 3), flip("/a/b", 5, 2), flip("/ab", 5, 2),
		flip("/", 4, 0), flip("/", 3, 1), flip("/b", mostNum, 1), flip("/b", mostNum-1, 1), flip("/z", 0, 2))
	k.refuses(t, errArg, flip("", 5, 2), flip("", 4, 0), flip("a", 5, 2), flip("/a", 5, 4), flip("/a", 5, -1), flip("/a", -1, 2), flip("/a", mostNum+1, 2))
	// The epoch before the first one is that of no valid command, even where a move of it would be complete.
	rest := of(t, rests("/", 2, 0))
	if _, err := mounts.Flip(rest.l, "/", -1, 2); err != 0 {
		t.Errorf("error %d", err)
	}
	rest.refuses(t, errArg, flip("/", -1, 2))
}

// P15.1 (O1): CmdRoute.

func TestRouteTellsAllMounts(t *testing.T) {
	for _, l := range someMounts() {
		of(t, l...).answers(t, route(), l...)
	}
	k := of(t, rests("/", 0, 0))
	k.agree(t, begin("/a", 2))
	k.answers(t, route(), rests("/", 0, 0), moves("/a", 0, 0, 2))
	k.agree(t, flip("/a", 0, 2))
	k.answers(t, route(), rests("/", 0, 0), rests("/a", 2, 1))
	k.agree(t, begin("/a/b", 1))
	k.answers(t, route(), rests("/", 0, 0), rests("/a", 2, 1), moves("/a/b", 2, 1, 1))
}

// P15.1 (O1): all of them.

// A whole move, there and back.
func TestMove(t *testing.T) {
	k := of(t, rests("/", 0, 1))
	k.answers(t, begin("/a", 2), moves("/a", 0, 1, 2))
	k.refuses(t, errBusy, begin("/a/b", 1), begin("/", 1), begin("/a", 1))
	k.answers(t, flip("/a", 1, 2))
	k.refuses(t, errThere, begin("/a", 2), begin("/a/b", 2))
	k.refuses(t, errLate, flip("/a", 2, 2), flip("/a", 0, 2), flip("/a", 1, 0))
	k.answers(t, begin("/a/b", 0), moves("/a/b", 2, 2, 0))
	k.answers(t, flip("/a/b", 2, 0))
	k.answers(t, begin("/a", 0), moves("/a", 2, 2, 0), rests("/a/b", 0, 3))
	k.answers(t, flip("/a", 2, 0))
	k.answers(t, route(), rests("/", 0, 1), rests("/a", 0, 3), rests("/a/b", 0, 3))
}

// full is a command of a kind with something in every field.
func full(kind int) api.Command {
	return api.Command{
		Kind: kind, Id: 7, Txn: 8, Age: 9, Yes: true, Pieces: multi.Of([]api.Op{{Kind: api.Create, Path: "/a/b"}}), Prefix: "/a", Epoch: 1, To: 2,
		Store: api.Store{Nodes: []api.Node{{Path: "/a/b", Data: "x"}}, Turns: []api.Turn{{Dir: "/a", Next: 3}}}, Gone: []string{"/a/b"},
		Watch: api.Watch{Session: 1, Num: 2, Path: "/a", Deep: true},
	}
}

// What a command has beyond the fields of its kind does not matter, as long as it is valid; nor does its Id, however often it comes.
func TestOtherFields(t *testing.T) {
	k := of(t, rests("/", 0, 1), rests("/a/b", 3, 3))
	for range 3 {
		k.answers(t, full(kindBegin), moves("/a", 0, 1, 2), rests("/a/b", 3, 3))
	}
	k.answers(t, full(kindRoute), rests("/", 0, 1), moves("/a", 0, 1, 2), rests("/a/b", 3, 3))
	for range 3 {
		k.answers(t, full(kindFlip))
	}
	k.answers(t, full(kindRoute), rests("/", 0, 1), rests("/a", 2, 2), rests("/a/b", 3, 3))
	k.refuses(t, errThere, full(kindBegin))
	k.answers(t, api.Command{Kind: kindRoute, Id: 7, Epoch: mostNum, Prefix: deep6, To: 3}, k.l...)
}

// wrongCommands is commands for which the answer is ErrArg, whatever the mounts are.
func wrongCommands() []api.Command {
	l := []api.Command{{}, {Kind: -1}, {Kind: 14}, {Kind: 1 << 32}, {Kind: -1 << 63}, {Kind: 1<<63 - 1}, begin("", 2), flip("", 1, 2), flip("", 0, 0)}
	for kind := 1; kind <= 10; kind++ {
		l = append(l, api.Command{Kind: kind}, api.Command{Kind: kind, Prefix: "/a", Epoch: 1, To: 2}, full(kind))
	}
	for kind := kindBegin; kind <= kindRoute; kind++ {
		for _, spoil := range []func(*api.Command){
			func(c *api.Command) { c.Id = -1 },
			func(c *api.Command) { c.Id = mostNum + 1 },
			func(c *api.Command) { c.Txn = -1 },
			func(c *api.Command) { c.Txn = mostNum + 1 },
			func(c *api.Command) { c.Age = -1 },
			func(c *api.Command) { c.Age = mostNum + 1 },
			func(c *api.Command) { c.Epoch = -1 },
			func(c *api.Command) { c.Epoch = mostNum + 1 },
			func(c *api.Command) { c.To = -1 },
			func(c *api.Command) { c.To = 4 },
			func(c *api.Command) { c.Prefix = "a" },
			func(c *api.Command) { c.Prefix, c.Gone = "/a/", nil },
			func(c *api.Command) { c.Prefix = "" },
			func(c *api.Command) { c.Gone = []string{"/a"} },
			func(c *api.Command) { c.Gone = []string{"/b"} },
			func(c *api.Command) { c.Pieces = slices.Repeat(c.Pieces[:1], 17) },
			func(c *api.Command) { c.Pieces = []api.Piece{{Op: 8, Part: c.Pieces[0].Part}} },
			func(c *api.Command) { c.Pieces = []api.Piece{{}} },
			func(c *api.Command) { c.Store.Nodes = make([]api.Node, 1) },
			func(c *api.Command) { c.Store.Turns = make([]api.Turn, 1) },
			func(c *api.Command) { c.Watch.Session = -1 },
			func(c *api.Command) { c.Watch.Num = mostNum + 1 },
			func(c *api.Command) { c.Watch.Path = "//" },
		} {
			c := full(kind)
			spoil(&c)
			l = append(l, c)
		}
	}
	return l
}

func TestWrongCommands(t *testing.T) {
	for _, l := range someMounts() {
		of(t, l...).refuses(t, errArg, wrongCommands()...)
	}
	// So it is where the same command, with nothing wrong in it, is not.
	k := of(t, rests("/", 0, 1))
	k.refuses(t, errArg, wrongCommands()...)
	k.answers(t, full(kindBegin), moves("/a", 0, 1, 2))
	k.refuses(t, errArg, wrongCommands()...)
	k.answers(t, full(kindFlip))
	k.refuses(t, errArg, wrongCommands()...)
}

func TestAllCommands(t *testing.T) {
	came := map[int]map[api.Errno]int{kindBegin: {}, kindFlip: {}, kindRoute: {}}
	for _, l := range someMounts() {
		for _, c := range someCommands() {
			a := of(t, l...).agree(t, c)
			came[c.Kind][a.Err]++
		}
	}
	for kind, errs := range map[int][]api.Errno{kindBegin: {0, errArg, errBusy, errThere, errTooMany}, kindFlip: {0, errArg, errLate}, kindRoute: {0}} {
		for _, err := range errs {
			if came[kind][err] < 10 {
				t.Errorf("kind %d: the error %d came %d times", kind, err, came[kind][err])
			}
		}
		if len(came[kind]) != len(errs) {
			t.Errorf("kind %d: %v", kind, came[kind])
		}
	}
}

// P15.1 (O2): Route.

func TestRoute(t *testing.T) {
	two := list(rests("/", 0, 0), rests("/a", 1, 0))
	nested := list(rests("/", 2, 2), moves("/a", 1, 2, 3), rests("/a-", 3, 3), rests("/a/b", 0, 1), rests("/a0", 2, 8))
	for i, c := range []struct {
		l    []api.Mount
		dirs []string
		want []int
		ok   bool
	}{
		// The example of the chapter.
		{two, []string{"/b", "/a/c"}, []int{0, 1}, true},
		{two, nil, nil, true},
		{two, []string{}, nil, true},
		{two, []string{"/"}, []int{0}, true},
		{two, []string{"/a", "/", "/a", "/a/b", "/ab", "/a"}, []int{1, 0, 1, 1, 0, 1}, true},
		// A mount that is moving is still its Group's, and not that to which it moves.
		{nested, []string{"/a", "/a/c", "/a/b", "/a/b/c", "/a/bc", "/a-/x", "/a0", "/a00", "/"}, []int{1, 1, 0, 0, 1, 3, 2, 2, 2}, true},
		{many(32), []string{"/m1030/a", "/m1031", "/m1003", "/z"}, []int{2, 1, 3, 1}, true},
		{two, []string{"?"}, nil, false},
		{two, []string{""}, nil, false},
		{two, []string{"?", "/a"}, nil, false},
		{two, []string{"/a", "/b", "/c/"}, nil, false},
		{two, []string{"/a", "//", "/b"}, nil, false},
		{nil, nil, nil, false},
		{nil, []string{"/"}, nil, false},
		{many(33), nil, nil, false},
		{many(33), []string{"/m1000"}, nil, false},
		{many(32)[1:], []string{"/m1000"}, nil, false},
	} {
		if got, ok := meta.Route(c.l, c.dirs); ok != c.ok || !slices.Equal(got, c.want) {
			t.Errorf("%d: %q: %v, %v; want %v, %v", i, c.dirs, got, ok, c.want, c.ok)
		}
	}
}

func TestRouteOfAll(t *testing.T) {
	for _, l := range someMounts() {
		var all []int
		for _, dir := range somePaths() {
			group := groupOf(l, dir)
			all = append(all, group)
			if got, ok := meta.Route(l, []string{dir}); !ok || !slices.Equal(got, []int{group}) {
				t.Errorf("%q of %+v: %v, %v; want %d", dir, l, got, ok, group)
			}
		}
		dirs := slices.Repeat(somePaths(), 40)
		if got, ok := meta.Route(l, dirs); !ok || !slices.Equal(got, slices.Repeat(all, 40)) {
			t.Errorf("%+v: %v, %v; want %v again and again", l, got, ok, all)
		}
		// One that is not a path is enough, wherever it stands.
		for i, wrong := range noPaths() {
			for _, at := range []int{0, i, len(dirs)} {
				if got, ok := meta.Route(l, slices.Insert(slices.Clone(dirs), at, wrong)); ok || len(got) != 0 {
					t.Errorf("%q at %d of %+v: %v, %v", wrong, at, l, got, ok)
				}
			}
		}
	}
	for _, l := range noMounts() {
		for _, dirs := range [][]string{nil, {"/"}, {"/m1000", "/"}, {"?"}, somePaths()} {
			if got, ok := meta.Route(l, dirs); ok || len(got) != 0 {
				t.Errorf("%q of %+v: %v, %v", dirs, l, got, ok)
			}
		}
	}
}

// What a committee tells of its mounts is what Route takes.
func TestRouteOfACommittee(t *testing.T) {
	k := of(t, rests("/", 0, 1))
	dirs := []string{"/a/x", "/b", "/a"}
	for _, x := range []struct {
		c    api.Command
		want []int
	}{
		{begin("/a", 2), []int{0, 0, 0}},
		{flip("/a", 1, 2), []int{2, 0, 2}},
		{begin("/a/x", 1), []int{2, 0, 2}},
		{flip("/a/x", 2, 1), []int{1, 0, 2}},
		{begin("/", 3), []int{1, 0, 2}},
		{flip("/", 1, 3), []int{1, 3, 2}},
	} {
		if a := k.agree(t, x.c); a.Err != 0 {
			t.Errorf("%+v: error %d", x.c, a.Err)
		}
		for _, l := range [][]api.Mount{k.m.Mounts(), k.agree(t, route()).Mounts} {
			if got, ok := meta.Route(l, dirs); !ok || !slices.Equal(got, x.want) {
				t.Errorf("%+v: %v, %v; want %v", x.c, got, ok, x.want)
			}
		}
	}
}
