package shard_test

import (
	"maps"
	"slices"
	"strings"
	"testing"

	"canton/api"
	"canton/command"
	"canton/multi"
	"canton/part"
	"canton/shard"
	"canton/watch"
)

// The bounds as the document says them.
const (
	mostIds    = 512
	mostTxns   = 128
	mostRanges = 32
	mostNum    = 1 << 48
	mine       = 1
	frozen     = 2
	gone       = 3
)

// above is the parent of a path; above the root is the root.
func above(p string) string {
	return p[:max(strings.LastIndex(p, "/"), 1)]
}

// isIn is whether a path is q, or lies below it.
func isIn(p string, q string) bool {
	return p == q || q == "/" || strings.HasPrefix(p, q+"/")
}

// under is the path of what lies in dir by that name.
func under(dir string, name string) string {
	return strings.TrimSuffix(dir, "/") + "/" + name
}

// dirsOf is the directories of pieces, some of them more than once.
func dirsOf(l []api.Piece) []string {
	var dirs []string
	for _, x := range l {
		dirs = append(dirs, x.Part.Dir)
	}
	return dirs
}

// prepared is a transaction that is prepared.
type prepared struct {
	pieces []api.Piece
	answer api.Answer
}

// model is a plain reading of M1 and M2, with all that a shard has in maps.
type model struct {
	nodes     map[string]api.Node
	turns     map[string]api.Turn
	ranges    map[string]api.Range
	holds     map[string]api.Hold
	watched   api.Watched
	answers   map[int64]api.Answer
	prepared  map[int64]prepared
	finished  map[int64]struct{}
	decisions map[int64]api.Answer
}

func newModel(s api.Store, l []api.Range) *model {
	m := &model{
		ranges:    map[string]api.Range{},
		holds:     map[string]api.Hold{},
		answers:   map[int64]api.Answer{},
		prepared:  map[int64]prepared{},
		finished:  map[int64]struct{}{},
		decisions: map[int64]api.Answer{},
	}
	m.keep(s)
	for _, r := range l {
		m.ranges[r.Prefix] = r
	}
	return m
}

// values is what m has, by increasing keys.
func values[K string | int64, V any](m map[K]V) []V {
	var l []V
	for _, k := range slices.Sorted(maps.Keys(m)) {
		l = append(l, m[k])
	}
	return l
}

func (m *model) keep(s api.Store) {
	m.nodes, m.turns = map[string]api.Node{}, map[string]api.Turn{}
	for _, n := range s.Nodes {
		m.nodes[n.Path] = n
	}
	for _, turn := range s.Turns {
		m.turns[turn.Dir] = turn
	}
}

func (m *model) store() api.Store {
	return api.Store{Nodes: values(m.nodes), Turns: values(m.turns)}
}

// prefixIn is the longest of the prefixes that a directory is in, or "".
func prefixIn(ranges map[string]api.Range, dir string) string {
	longest := ""
	for p := range ranges {
		if isIn(dir, p) && len(p) > len(longest) {
			longest = p
		}
	}
	return longest
}

func (m *model) state(dir string) int {
	p := prefixIn(m.ranges, dir)
	if p == "" {
		return gone
	}
	return m.ranges[p].State
}

// some is whether one of the directories of pieces has that state.
func (m *model) some(l []api.Piece, state int) bool {
	return slices.ContainsFunc(dirsOf(l), func(dir string) bool { return m.state(dir) == state })
}

func (m *model) txns() int {
	return len(m.prepared) + len(m.finished)
}

func errorOf(err api.Errno) api.Answer { return api.Answer{Err: err} }

func (m *model) do(c api.Command) api.Answer {
	if !command.Right(c) || c.Kind > 10 {
		return errorOf(1)
	}
	if c.Id == 0 || c.Kind != 1 && c.Kind < 8 {
		return m.execute(c)
	}
	if a, there := m.answers[c.Id]; there {
		return a
	}
	if len(m.answers) >= mostIds {
		return errorOf(2)
	}
	a := m.execute(c)
	if a.Err != 131 && a.Err != 132 {
		m.answers[c.Id] = a
	}
	return a
}

func (m *model) execute(c api.Command) api.Answer {
	switch c.Kind {
	case 1:
		return m.run(c)
	case 2:
		return m.prepare(c)
	case 3:
		return m.finish(c)
	case 4:
		return m.decide(c)
	case 5:
		return m.freeze(c)
	case 6:
		return m.install(c)
	case 7:
		return m.drop(c)
	}
	var events []api.Event
	var err api.Errno
	now := m.watched
	switch c.Kind {
	case 8:
		now, err = watch.Add(m.watched, c.Watch)
	case 9:
		now, err = watch.Close(m.watched, c.Watch.Session, c.Watch.Num)
	case 10:
		now, events, err = watch.Take(m.watched, c.Watch.Session, c.Epoch)
	}
	if err == 0 {
		m.watched = now
	}
	return api.Answer{Err: err, Events: events}
}

// all executes pieces one by one, on a store that nobody else has.
func (m *model) all(l []api.Piece) (api.Store, api.Answer) {
	s := m.store()
	var results []api.Result
	for i, x := range l {
		now, r := part.Do(s, x.Part)
		if r.Err != 0 {
			return m.store(), api.Answer{Err: r.Err, At: i}
		}
		s, results = now, append(results, r)
	}
	return s, api.Answer{Results: results}
}

func (m *model) apply(l []api.Piece) api.Answer {
	s, a := m.all(l)
	m.keep(s)
	for i, r := range a.Results {
		p := l[i].Part
		switch p.Kind {
		case 2:
			m.watched, _ = watch.Tell(m.watched, 1, r.Path)
		case 3:
			m.watched, _ = watch.Tell(m.watched, 2, p.Path)
		case 5:
			m.watched, _ = watch.Tell(m.watched, 3, p.Path)
		case 10:
			for _, name := range r.Names {
				m.watched, _ = watch.Tell(m.watched, 2, under(p.Path, name))
			}
		}
	}
	return a
}

func (m *model) run(c api.Command) api.Answer {
	if m.some(c.Pieces, gone) {
		return errorOf(132)
	}
	for _, dir := range dirsOf(c.Pieces) {
		if _, held := m.holds[dir]; held || m.state(dir) == frozen {
			return errorOf(131)
		}
	}
	return m.apply(c.Pieces)
}

func (m *model) prepare(c api.Command) api.Answer {
	if x, there := m.prepared[c.Txn]; there {
		return x.answer
	}
	if _, there := m.finished[c.Txn]; there {
		return errorOf(133)
	}
	if m.some(c.Pieces, gone) {
		return errorOf(132)
	}
	if m.some(c.Pieces, frozen) {
		return errorOf(131)
	}
	if m.txns() >= mostTxns {
		return errorOf(2)
	}
	younger, busy := map[int64]int64{}, false
	for _, dir := range dirsOf(c.Pieces) {
		if x, held := m.holds[dir]; held {
			busy = true
			if x.Age > c.Age || x.Age == c.Age && x.Txn > c.Txn {
				younger[x.Txn] = x.Txn
			}
		}
	}
	if busy {
		return api.Answer{Err: 131, Wounded: values(younger)}
	}
	for _, dir := range dirsOf(c.Pieces) {
		m.holds[dir] = api.Hold{Dir: dir, Txn: c.Txn, Age: c.Age}
	}
	_, a := m.all(c.Pieces)
	a.Yes = a.Err == 0
	m.prepared[c.Txn] = prepared{c.Pieces, a}
	return a
}

func (m *model) finish(c api.Command) api.Answer {
	if _, there := m.finished[c.Txn]; there {
		return api.Answer{}
	}
	x, there := m.prepared[c.Txn]
	if !there && c.Yes {
		return errorOf(62)
	}
	if !there && m.txns() >= mostTxns {
		return errorOf(2)
	}
	delete(m.prepared, c.Txn)
	m.finished[c.Txn] = struct{}{}
	maps.DeleteFunc(m.holds, func(_ string, x api.Hold) bool { return x.Txn == c.Txn })
	if c.Yes && x.answer.Yes {
		m.apply(x.pieces)
	}
	return api.Answer{}
}

func (m *model) decide(c api.Command) api.Answer {
	if _, there := m.decisions[c.Txn]; !there {
		if len(m.decisions) >= mostTxns {
			return errorOf(2)
		}
		m.decisions[c.Txn] = api.Answer{Yes: c.Yes, Epoch: c.Epoch}
	}
	return m.decisions[c.Txn]
}

// cut takes what is kept at the directories out of s for which is holds, and returns that.
func cut(s *model, is func(dir string) bool) api.Store {
	out := newModel(api.Store{}, nil)
	for p, n := range s.nodes {
		if is(above(p)) {
			out.nodes[p] = n
			delete(s.nodes, p)
		}
	}
	for dir, turn := range s.turns {
		if is(dir) {
			out.turns[dir] = turn
			delete(s.turns, dir)
		}
	}
	return out.store()
}

func (m *model) freeze(c api.Command) api.Answer {
	if c.Prefix == "" {
		return errorOf(1)
	}
	next := api.Range{Prefix: c.Prefix, Epoch: c.Epoch, State: frozen}
	if was, there := m.ranges[c.Prefix]; was != next {
		around := prefixIn(m.ranges, c.Prefix)
		if around == "" || m.ranges[around].State != mine || !there && len(m.ranges) == mostRanges {
			return errorOf(132)
		}
		if m.ranges[around].Epoch != c.Epoch {
			return errorOf(133)
		}
		for dir := range m.holds {
			if isIn(dir, c.Prefix) && prefixIn(m.ranges, dir) == around {
				return errorOf(131)
			}
		}
		m.ranges[c.Prefix] = next
	}
	out := cut(newModel(m.store(), nil), func(dir string) bool { return prefixIn(m.ranges, dir) == c.Prefix })
	return api.Answer{Epoch: c.Epoch, Store: out}
}

func (m *model) install(c api.Command) api.Answer {
	if c.Prefix == "" {
		return errorOf(1)
	}
	if was, there := m.ranges[c.Prefix]; there && was.Epoch >= c.Epoch {
		return api.Answer{}
	}
	now := maps.Clone(m.ranges)
	now[c.Prefix] = api.Range{Prefix: c.Prefix, Epoch: c.Epoch, State: mine}
	for _, p := range c.Gone {
		if _, there := now[p]; !there {
			now[p] = api.Range{Prefix: p, State: gone}
		}
	}
	if len(now) > mostRanges {
		return errorOf(2)
	}
	for dir := range m.holds {
		if p := prefixIn(now, dir); p == c.Prefix || p != prefixIn(m.ranges, dir) {
			return errorOf(131)
		}
	}
	m.ranges = now
	inside := func(dir string) bool { return prefixIn(now, dir) == c.Prefix }
	cut(m, inside)
	in := newModel(cut(newModel(c.Store, nil), inside), nil)
	maps.Copy(m.nodes, in.nodes)
	maps.Copy(m.turns, in.turns)
	return api.Answer{}
}

func (m *model) drop(c api.Command) api.Answer {
	if c.Prefix == "" {
		return errorOf(1)
	}
	if m.ranges[c.Prefix] != (api.Range{Prefix: c.Prefix, Epoch: c.Epoch, State: frozen}) {
		return api.Answer{}
	}
	cut(m, func(dir string) bool { return prefixIn(m.ranges, dir) == c.Prefix })
	m.ranges[c.Prefix] = api.Range{Prefix: c.Prefix, Epoch: c.Epoch, State: gone}
	return api.Answer{}
}

func sameResult(r api.Result, q api.Result) bool {
	return r.Err == q.Err && r.Path == q.Path && r.Data == q.Data && r.Version == q.Version && slices.Equal(r.Names, q.Names)
}

func sameStore(s api.Store, q api.Store) bool {
	return slices.Equal(s.Nodes, q.Nodes) && slices.Equal(s.Turns, q.Turns)
}

func sameSession(s api.Session, q api.Session) bool {
	return s.Num == q.Num && s.Count == q.Count && slices.Equal(s.Events, q.Events)
}

func sameWatched(w api.Watched, v api.Watched) bool {
	return slices.Equal(w.Watches, v.Watches) && slices.EqualFunc(w.Sessions, v.Sessions, sameSession)
}

func sameAnswer(a api.Answer, b api.Answer) bool {
	if a.Err != b.Err || a.At != b.At || a.Yes != b.Yes || a.Epoch != b.Epoch {
		return false
	}
	return slices.EqualFunc(a.Results, b.Results, sameResult) && sameStore(a.Store, b.Store) && slices.Equal(a.Events, b.Events) && slices.Equal(a.Mounts, b.Mounts) && slices.Equal(a.Wounded, b.Wounded)
}

// state is all that a shard tells of what it has.
type state struct {
	store   api.Store
	ranges  []api.Range
	holds   []api.Hold
	watched api.Watched
}

func stateOf(h *shard.Shard) state {
	return state{h.Store(), h.Ranges(), h.Holds(), h.Watched()}
}

func (m *model) has() state {
	return state{m.store(), values(m.ranges), values(m.holds), m.watched}
}

func sameState(a state, b state) bool {
	return sameStore(a.store, b.store) && slices.Equal(a.ranges, b.ranges) && slices.Equal(a.holds, b.holds) && sameWatched(a.watched, b.watched)
}

// pair is a shard and its plain reading.
type pair struct {
	h *shard.Shard
	m *model
}

func newPair(t *testing.T, s api.Store, l []api.Range) pair {
	t.Helper()
	h := shard.New(s, l)
	if h == nil {
		t.Fatalf("%+v with %+v is refused", s, l)
	}
	x := pair{h, newModel(s, l)}
	x.hold(t, "New")
	return x
}

// hold holds what the shard has against the plain reading.
func (x pair) hold(t *testing.T, behind any) {
	t.Helper()
	if got, want := stateOf(x.h), x.m.has(); !sameState(got, want) {
		t.Fatalf("%+v: there is %+v; want %+v", behind, got, want)
	}
}

// agree does a command, holds it against the plain reading, and returns the answer.
func (x pair) agree(t *testing.T, c api.Command) api.Answer {
	t.Helper()
	was := stateOf(x.h)
	want := x.m.do(c)
	a := x.h.Do(c)
	if !sameAnswer(a, want) {
		t.Fatalf("%+v on %+v: %+v; want %+v", c, was, a, want)
	}
	x.hold(t, c)
	// What was prepared is held even if it was answered an error.
	if a.Err != 0 && c.Kind != api.CmdPrepare && !sameState(was, stateOf(x.h)) {
		t.Fatalf("%+v on %+v: error %d, and there is %+v", c, was, a.Err, stateOf(x.h))
	}
	return a
}

// after does commands, none of which may have an error.
func (x pair) after(t *testing.T, l ...api.Command) pair {
	t.Helper()
	for _, c := range l {
		if a := x.agree(t, c); a.Err != 0 {
			t.Fatalf("%+v: error %d", c, a.Err)
		}
	}
	return x
}

// The commands by what they are about.

func pieces(ops ...api.Op) []api.Piece { return multi.Of(ops) }

func run(ops ...api.Op) api.Command {
	return api.Command{Kind: api.CmdRun, Pieces: pieces(ops...)}
}

func byId(id int64, c api.Command) api.Command {
	c.Id = id
	return c
}

// only is c with those of its pieces that are executed at dirs.
func only(c api.Command, dirs ...string) api.Command {
	c.Pieces = slices.DeleteFunc(slices.Clone(c.Pieces), func(x api.Piece) bool { return !slices.Contains(dirs, x.Part.Dir) })
	return c
}

func prepare(txn int64, age int64, ops ...api.Op) api.Command {
	return api.Command{Kind: api.CmdPrepare, Txn: txn, Age: age, Pieces: pieces(ops...)}
}

func finish(txn int64, yes bool) api.Command {
	return api.Command{Kind: api.CmdFinish, Txn: txn, Yes: yes}
}

func decide(txn int64, yes bool, epoch int64) api.Command {
	return api.Command{Kind: api.CmdDecide, Txn: txn, Yes: yes, Epoch: epoch}
}

func freeze(prefix string, epoch int64) api.Command {
	return api.Command{Kind: api.CmdFreeze, Prefix: prefix, Epoch: epoch}
}

func install(prefix string, epoch int64, s api.Store, gone ...string) api.Command {
	return api.Command{Kind: api.CmdInstall, Prefix: prefix, Epoch: epoch, Store: s, Gone: gone}
}

func drop(prefix string, epoch int64) api.Command {
	return api.Command{Kind: api.CmdDrop, Prefix: prefix, Epoch: epoch}
}

func watchOf(session int64, num int64, p string, deep bool) api.Command {
	return api.Command{Kind: api.CmdWatch, Watch: api.Watch{Session: session, Num: num, Path: p, Deep: deep}}
}

func unwatch(session int64, num int64) api.Command {
	return api.Command{Kind: api.CmdUnwatch, Watch: api.Watch{Session: session, Num: num}}
}

func take(session int64, upTo int64) api.Command {
	return api.Command{Kind: api.CmdTake, Watch: api.Watch{Session: session}, Epoch: upTo}
}

// The operations.

func create(p string) api.Op { return api.Op{Kind: api.Create, Path: p} }

func turn(p string) api.Op { return api.Op{Kind: api.Create, Path: p, Turns: true} }

func owns(p string, owner int64) api.Op { return api.Op{Kind: api.Create, Path: p, Owner: owner} }

func remove(p string) api.Op { return api.Op{Kind: api.Delete, Path: p, Version: -1} }

func set(p string, data string) api.Op {
	return api.Op{Kind: api.Set, Path: p, Data: data, Version: -1}
}

func check(p string, version int64) api.Op {
	return api.Op{Kind: api.Check, Path: p, Version: version}
}

func get(p string) api.Op { return api.Op{Kind: api.Get, Path: p} }

func list(p string) api.Op { return api.Op{Kind: api.List, Path: p} }

func sweep(p string, owner int64) api.Op { return api.Op{Kind: api.Sweep, Path: p, Owner: owner} }

// The ranges, and what is kept.

func ofMine(prefix string, epoch int64) api.Range {
	return api.Range{Prefix: prefix, Epoch: epoch, State: mine}
}

func ofFrozen(prefix string, epoch int64) api.Range {
	return api.Range{Prefix: prefix, Epoch: epoch, State: frozen}
}

func ofGone(prefix string, epoch int64) api.Range {
	return api.Range{Prefix: prefix, Epoch: epoch, State: gone}
}

func ranges(l ...api.Range) []api.Range { return l }

// storeOf is a store of nodes at some paths, whose data is their path, and of the turns 1, 2 and so on of some directories.
func storeOf(paths string, turns string) api.Store {
	var s api.Store
	for _, p := range strings.Fields(paths) {
		s.Nodes = append(s.Nodes, api.Node{Path: p, Data: p})
	}
	for i, dir := range strings.Fields(turns) {
		s.Turns = append(s.Turns, api.Turn{Dir: dir, Next: int64(i) + 1})
	}
	return s
}

// whole is a shard that keeps all, since the epoch 1.
func whole(t *testing.T, paths string) pair {
	t.Helper()
	return newPair(t, storeOf(paths, ""), ranges(ofMine("/", 1)))
}

// pathsOf is the paths of a store's nodes, in one text.
func pathsOf(s api.Store) string {
	var l []string
	for _, n := range s.Nodes {
		l = append(l, n.Path)
	}
	return strings.Join(l, " ")
}
