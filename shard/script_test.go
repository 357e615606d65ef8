package shard_test

import (
	"math/rand/v2"
	"slices"
	"strconv"
	"testing"

	"canton/api"
	"canton/locks"
	"canton/multi"
	"canton/nodes"
	"canton/owned"
	"canton/part"
	"canton/shard"
	"canton/watch"
)

func pathsOfScript() []string {
	return []string{"/", "/a", "/a/b", "/a/b/c", "/a/c", "/b", "/b/a", "/b/a/q", "/c", "/q0000"}
}

func prefixesOfScript() []string {
	return []string{"/", "/a", "/a/b", "/a/c", "/b", "/b/a", "/c"}
}

func one[E any](r *rand.Rand, l []E) E {
	return l[r.IntN(len(l))]
}

// anyOp is an operation on a few paths, so that it often finds something of what is there.
func anyOp(r *rand.Rand, there api.Store) api.Op {
	for {
		p := one(r, pathsOfScript())
		if len(there.Nodes) > 0 && r.IntN(2) == 0 {
			p = one(r, there.Nodes).Path
		}
		var o api.Op
		switch r.IntN(12) {
		case 0, 1:
			o = create(p)
			o.Data = strconv.Itoa(r.IntN(100))
		case 2:
			o = owns(p, 1+r.Int64N(2))
		case 3:
			o = turn(under(p, "q"))
		case 4:
			o = remove(p)
		case 5, 6:
			o = set(p, strconv.Itoa(r.IntN(100)))
		case 7:
			o = check(p, r.Int64N(4)-1)
		case 8, 9:
			o = get(p)
		case 10:
			o = list(p)
		case 11:
			o = sweep(p, 1+r.Int64N(2))
		}
		if nodes.May(o) {
			return o
		}
	}
}

func anyOps(r *rand.Rand, there api.Store) []api.Op {
	var l []api.Op
	for range 1 + min(r.IntN(4), r.IntN(4)) {
		l = append(l, anyOp(r, there))
	}
	return l
}

// anyRange is one of those that there are, or one of a few.
func anyRange(r *rand.Rand, l []api.Range) api.Range {
	if len(l) == 0 || r.IntN(4) == 0 {
		return api.Range{Prefix: one(r, prefixesOfScript()), Epoch: r.Int64N(8)}
	}
	return one(r, l)
}

// scene is a shard on which a script is done, and what the script knows of it.
type scene struct {
	r       *rand.Rand
	x       pair
	cut     []api.Store // what was frozen, some of which is installed again
	ids     int64       // how many there were
	everyId bool
}

// anyMove is a command about a range.
func (s *scene) anyMove() api.Command {
	q := anyRange(s.r, s.x.h.Ranges())
	switch s.r.IntN(8) {
	case 0:
		// A longer prefix has the epoch of the range around it.
		p := one(s.r, prefixesOfScript())
		if at := owned.Of(s.x.h.Ranges(), p); at >= 0 {
			return freeze(p, s.x.h.Ranges()[at].Epoch+s.r.Int64N(8)/7)
		}
		return freeze(p, q.Epoch)
	case 1:
		return freeze(q.Prefix, q.Epoch)
	case 2:
		return drop(q.Prefix, q.Epoch)
	}
	var in api.Store
	if len(s.cut) > 0 {
		in = one(s.r, s.cut[max(0, len(s.cut)-5):])
	}
	c := install(q.Prefix, max(0, q.Epoch+s.r.Int64N(4)-1), in)
	for _, p := range prefixesOfScript() {
		if p != q.Prefix && isIn(p, q.Prefix) && s.r.IntN(20) == 0 {
			c.Gone = append(c.Gone, p)
		}
	}
	slices.Sort(c.Gone)
	return c
}

// mineOf is c, as a rule with no pieces but those at directories that are kept.
func (s *scene) mineOf(c api.Command) api.Command {
	if s.r.IntN(4) == 0 {
		return c
	}
	var dirs []string
	for _, dir := range locks.Dirs(c.Pieces) {
		if s.x.m.state(dir) == mine {
			dirs = append(dirs, dir)
		}
	}
	return only(c, dirs...)
}

// anyId is none, one that there was, or a new one.
func (s *scene) anyId() int64 {
	switch n := s.r.IntN(6); {
	case n == 0:
		return s.r.Int64N(s.ids + 1)
	case n < 4 && !s.everyId:
		return 0
	}
	s.ids++
	return s.ids
}

// anyCommand is a command that often has an effect. There are more transactions, decisions and Ids in long scripts than there may be.
func (s *scene) anyCommand() api.Command {
	r := s.r
	txn := r.Int64N(300)
	if holds := s.x.h.Holds(); len(holds) > 0 && r.IntN(2) > 0 {
		txn = one(r, holds).Txn
	}
	id := s.anyId()
	watching := byId(id, api.Command{Watch: api.Watch{Session: r.Int64N(4), Num: r.Int64N(6), Path: one(r, pathsOfScript()), Deep: r.IntN(3) > 0}, Epoch: r.Int64N(40)})
	switch n := r.IntN(40); {
	case n < 14:
		return byId(id, s.mineOf(run(anyOps(r, s.x.h.Store())...)))
	case n < 20:
		c := s.mineOf(prepare(txn, r.Int64N(40), anyOps(r, s.x.h.Store())...))
		dirs := locks.Dirs(c.Pieces)
		// Most are on one directory, so that there may be several.
		if r.IntN(4) > 0 && len(dirs) > 0 {
			return only(c, one(r, dirs))
		}
		return c
	case n < 26:
		return finish(txn, r.IntN(3) > 0)
	case n < 30:
		return decide(r.Int64N(400), r.IntN(2) == 0, r.Int64N(3))
	case n < 34:
		return s.anyMove()
	case n < 36:
		watching.Kind = api.CmdWatch
	case n < 37:
		watching.Kind = api.CmdUnwatch
	default:
		watching.Kind = api.CmdTake
	}
	return watching
}

// script does many commands one after the other, and has each looked at: what there was before, the answer, and what is there now.
func script(t *testing.T, look func(was state, c api.Command, a api.Answer, now state)) {
	t.Helper()
	for seed := range uint64(12) {
		r := rand.New(rand.NewPCG(seed, 13))
		s := &scene{r: r, x: newPair(t, storeOf("/ /a /a/b /b", "/a"), ranges(ofMine("/", 1))), everyId: seed%4 == 0}
		was := stateOf(s.x.h)
		for range 1600 {
			c := s.anyCommand()
			a := s.x.agree(t, c)
			if len(a.Store.Nodes) > 0 {
				s.cut = append(s.cut, a.Store)
			}
			now := stateOf(s.x.h)
			look(was, c, a, now)
			was = now
		}
		look(was, api.Command{}, api.Answer{}, state{})
	}
}

func TestScript(t *testing.T) {
	type answer struct {
		kind int
		err  api.Errno
	}
	answers := map[answer]int{}
	script(t, func(was state, c api.Command, a api.Answer, now state) {
		answers[answer{c.Kind, a.Err}]++
	})
	for _, a := range []answer{
		{1, 0}, {1, 2}, {1, 61}, {1, 62}, {1, 63}, {1, 64}, {1, 65}, {1, 131}, {1, 132},
		{2, 0}, {2, 2}, {2, 61}, {2, 62}, {2, 131}, {2, 132}, {2, 133},
		{3, 0}, {3, 2}, {3, 62}, {4, 0}, {4, 2},
		{5, 0}, {5, 131}, {5, 132}, {5, 133}, {6, 0}, {6, 131}, {7, 0},
		{8, 0}, {8, 1}, {8, 61}, {9, 0}, {9, 62}, {10, 0}, {10, 62},
	} {
		if answers[a] < 4 {
			t.Errorf("kind %d, error %d: %d times", a.kind, a.err, answers[a])
		}
	}
}

// keptAt is those nodes and turns of a store that are kept at a directory.
func keptAt(s api.Store, dir string) api.Store {
	var kept api.Store
	for _, n := range s.Nodes {
		if above(n.Path) == dir {
			kept.Nodes = append(kept.Nodes, n)
		}
	}
	for _, x := range s.Turns {
		if x.Dir == dir {
			kept.Turns = append(kept.Turns, x)
		}
	}
	return kept
}

// dirsOfScript is all directories in which something may be.
func dirsOfScript() []string {
	l := pathsOfScript()
	for _, p := range pathsOfScript() {
		l = append(l, under(p, "q0000"))
	}
	slices.Sort(l)
	return slices.Compact(l)
}

// knownTxns returns what reports whether the transaction of a command was prepared before, so that it is answered again, whatever its pieces are now.
func knownTxns() func(c api.Command, a api.Answer) bool {
	known := map[int64]struct{}{}
	return func(c api.Command, a api.Answer) bool {
		if c.Kind == 0 {
			clear(known)
		}
		_, again := known[c.Txn]
		if c.Kind == api.CmdPrepare && (a.Yes || a.Err > 60 && a.Err < 130) {
			known[c.Txn] = struct{}{}
		}
		return again
	}
}

// P13.2: while a transaction is prepared, nothing in its directories is changed or read by others.
func TestHeld(t *testing.T) {
	known := knownTxns()
	held, refused := 0, 0
	script(t, func(was state, c api.Command, a api.Answer, now state) {
		again := known(c, a)
		for _, x := range was.holds {
			if c.Kind == 0 {
				break
			}
			held++
			own := c.Txn == x.Txn && (c.Kind == api.CmdFinish || c.Kind == api.CmdPrepare)
			if still := slices.Contains(now.holds, x); still == (own && c.Kind == api.CmdFinish) {
				t.Fatalf("%+v on %+v: %+v is there: %v", c, was, x, still)
			}
			if own {
				continue
			}
			if !sameStore(keptAt(was.store, x.Dir), keptAt(now.store, x.Dir)) {
				t.Fatalf("%+v on %+v: there is %+v, though %+v is held", c, was, now, x)
			}
			if in := keptAt(a.Store, x.Dir); len(in.Nodes)+len(in.Turns) > 0 {
				t.Fatalf("%+v on %+v: %+v, though %+v is held", c, was, a, x)
			}
			if c.Id == 0 && (c.Kind == api.CmdRun || c.Kind == api.CmdPrepare && !again) && slices.Contains(dirsOf(c.Pieces), x.Dir) {
				refused++
				if a.Yes || len(a.Results) > 0 || a.Err < 130 && a.Err != api.ErrTooMany {
					t.Fatalf("%+v on %+v: %+v, though %+v is held", c, was, a, x)
				}
			}
		}
	})
	if held < 2000 || refused < 100 {
		t.Errorf("%d were held, %d refused", held, refused)
	}
}

// P13.2: what is finished with Yes has exactly the effect that it answered, whatever was done between.
func TestDoneAsAnswered(t *testing.T) {
	asked := map[int64]prepared{}
	effects, none := 0, 0
	script(t, func(was state, c api.Command, a api.Answer, now state) {
		if c.Kind == 0 {
			clear(asked)
			return
		}
		x, there := asked[c.Txn]
		if c.Kind == api.CmdPrepare && !there && (a.Yes || a.Err > 60 && a.Err < 130) {
			asked[c.Txn] = prepared{c.Pieces, a}
		}
		if c.Kind != api.CmdFinish || !there {
			return
		}
		delete(asked, c.Txn)
		want := was.store
		if c.Yes && x.answer.Yes {
			s, l, err, _ := multi.All(was.store, x.pieces)
			if err != 0 || !slices.EqualFunc(l, x.answer.Results, sameResult) {
				t.Fatalf("%+v was answered %+v; it has %+v, %d", x.pieces, x.answer, l, err)
			}
			want = s
		} else {
			none++
		}
		if !sameStore(now.store, want) {
			t.Fatalf("%+v of %+v: there is %+v; want %+v", c, x, now.store, want)
		}
		if !sameStore(now.store, was.store) {
			effects++
		}
	})
	if effects < 100 || none < 100 {
		t.Errorf("%d had an effect, %d had none", effects, none)
	}
}

// P13.3: a command with an Id takes effect at most once and has one answer.
func TestOnce(t *testing.T) {
	answers := map[int64]api.Answer{}
	again, full := 0, 0
	script(t, func(was state, c api.Command, a api.Answer, now state) {
		if c.Kind == 0 {
			clear(answers)
			return
		}
		if c.Id == 0 {
			return
		}
		if first, there := answers[c.Id]; there {
			again++
			if !sameAnswer(a, first) || !sameState(was, now) {
				t.Fatalf("%+v on %+v: first %+v, then %+v, and there is %+v", c, was, first, a, now)
			}
			return
		}
		if len(answers) == mostIds {
			full++
			if !sameAnswer(a, api.Answer{Err: api.ErrTooMany}) || !sameState(was, now) {
				t.Fatalf("%+v on %+v: %+v, and there is %+v", c, was, a, now)
			}
			return
		}
		if a.Err != api.ErrBusy && a.Err != api.ErrMoved {
			answers[c.Id] = a
		}
	})
	if again < 500 || full < 20 {
		t.Errorf("%d were asked again, %d when there was no room", again, full)
	}
}

// P13.4: what is frozen does not change and is not accessible until it is dropped, or installed anew.
func TestFrozen(t *testing.T) {
	known := knownTxns()
	stays, refused := 0, 0
	script(t, func(was state, c api.Command, a api.Answer, now state) {
		again := known(c, a)
		for _, dir := range dirsOfScript() {
			if c.Kind == 0 || owned.State(was.ranges, dir) != frozen {
				continue
			}
			if (c.Kind == api.CmdDrop || c.Kind == api.CmdInstall) && isIn(dir, c.Prefix) {
				continue
			}
			stays++
			if !sameStore(keptAt(was.store, dir), keptAt(now.store, dir)) || owned.State(now.ranges, dir) != frozen {
				t.Fatalf("%+v on %+v: %q is frozen, and there is %+v", c, was, dir, now)
			}
			if c.Id == 0 && (c.Kind == api.CmdRun || c.Kind == api.CmdPrepare && !again) && slices.Contains(dirsOf(c.Pieces), dir) {
				refused++
				if a.Err != api.ErrBusy && a.Err != api.ErrMoved && a.Err != api.ErrLate {
					t.Fatalf("%+v on %+v: %+v, though %q is frozen", c, was, a, dir)
				}
			}
		}
	})
	if stays < 2000 || refused < 200 {
		t.Errorf("%d times something stayed, %d commands were refused", stays, refused)
	}
}

// P13.5: the store and the ranges stay valid, and so does all else.
func TestStaysValid(t *testing.T) {
	many := 0
	script(t, func(was state, c api.Command, a api.Answer, now state) {
		if !part.Right(now.store) || !owned.Right(now.ranges) || !locks.Right(now.holds) || !watch.Right(now.watched) {
			t.Fatalf("%+v on %+v: there is %+v", c, was, now)
		}
		if len(now.ranges) > 4 && len(now.store.Nodes) > 4 {
			many++
		}
	})
	if many < 1000 {
		t.Errorf("%d times there was something", many)
	}
}

// mount says where a prefix is kept, since which epoch.
type mount struct {
	prefix string
	shard  int
	epoch  int64
}

// cluster is three shards, and the store that they are together.
type cluster struct {
	r      *rand.Rand
	shards []*shard.Shard
	mounts []mount
	whole  api.Store
	txn    int64
}

func newCluster(r *rand.Rand) *cluster {
	s := storeOf("/ /a /a/b /b", "")
	return &cluster{
		r:      r,
		shards: []*shard.Shard{shard.New(s, ranges(ofMine("/", 1))), shard.New(api.Store{}, nil), shard.New(api.Store{}, nil)},
		mounts: []mount{{"/", 0, 1}},
		whole:  s,
	}
}

// of is the mount of a directory.
func (k *cluster) of(dir string) mount {
	var found mount
	for _, m := range k.mounts {
		if isIn(dir, m.prefix) && len(m.prefix) > len(found.prefix) {
			found = m
		}
	}
	return found
}

// move has a prefix kept by another shard. Every step may be asked for more than once, and between them, what is not moving goes on.
func (k *cluster) move(t *testing.T, prefix string, to int) {
	t.Helper()
	from := k.of(prefix)
	if from.shard == to {
		return
	}
	var in []string
	for _, m := range k.mounts {
		if m.prefix != prefix && isIn(m.prefix, prefix) {
			in = append(in, m.prefix)
		}
	}
	slices.Sort(in)
	a := k.step(t, from.shard, freeze(prefix, from.epoch))
	k.step(t, to, install(prefix, from.epoch+1, a.Store, in...))
	k.step(t, from.shard, drop(prefix, from.epoch))
	k.mounts = slices.DeleteFunc(k.mounts, func(m mount) bool { return m.prefix == prefix })
	k.mounts = append(k.mounts, mount{prefix, to, from.epoch + 1})
	k.same(t)
}

func (k *cluster) step(t *testing.T, at int, c api.Command) api.Answer {
	t.Helper()
	a := k.shards[at].Do(c)
	for range k.r.IntN(3) {
		b := k.shards[at].Do(c)
		if !sameAnswer(a, b) {
			t.Fatalf("%+v at %d: first %+v, then %+v", c, at, a, b)
		}
	}
	if a.Err != 0 {
		t.Fatalf("%+v at %d of %+v: error %d", c, at, k.mounts, a.Err)
	}
	return a
}

// call has all shards that it concerns prepare and finish operations, and holds what they answer against the whole.
func (k *cluster) call(t *testing.T, ops []api.Op) {
	t.Helper()
	k.txn++
	all := pieces(ops...)
	next, want, err, at := multi.All(k.whole, all)
	agreed := true
	for i, h := range k.shards {
		var own []int
		c := api.Command{Kind: api.CmdPrepare, Txn: k.txn, Age: k.txn}
		for j, x := range all {
			if k.of(x.Part.Dir).shard == i {
				own, c.Pieces = append(own, j), append(c.Pieces, x)
			}
		}
		a := h.Do(c)
		agreed = agreed && a.Yes
		if a.Err != 0 && (err == 0 || own[a.At] < at || own[a.At] == at && a.Err != err) {
			t.Fatalf("%+v of %+v: %d answers %+v; want %d at %d", ops, k.mounts, i, a, err, at)
		}
		for j, r := range a.Results {
			if err == 0 && !sameResult(r, want[own[j]]) {
				t.Fatalf("%+v of %+v: %d answers %+v; want %+v", ops, k.mounts, i, a, want)
			}
		}
	}
	if agreed != (err == 0) {
		t.Fatalf("%+v of %+v: %v; want %d", ops, k.mounts, agreed, err)
	}
	for i := range k.shards {
		k.step(t, i, finish(k.txn, agreed))
	}
	k.whole = next
	k.same(t)
}

// same holds what the shards keep, each at its own directories, against the whole.
func (k *cluster) same(t *testing.T) {
	t.Helper()
	together := newModel(api.Store{}, nil)
	for i, h := range k.shards {
		s := newModel(h.Store(), nil)
		kept := newModel(cut(s, func(dir string) bool { return k.of(dir).shard == i }), nil)
		if left := s.store(); len(left.Nodes)+len(left.Turns) > 0 {
			t.Fatalf("%+v: %d keeps %+v", k.mounts, i, left)
		}
		for p, n := range kept.nodes {
			together.nodes[p] = n
		}
		for dir, x := range kept.turns {
			together.turns[dir] = x
		}
		for _, dir := range dirsOfScript() {
			if isMine := owned.State(h.Ranges(), dir) == mine; isMine != (k.of(dir).shard == i) {
				t.Fatalf("%+v: %q at %d of %+v", k.mounts, dir, i, h.Ranges())
			}
		}
	}
	if got := together.store(); !sameStore(got, k.whole) {
		t.Fatalf("%+v: there is %+v; want %+v", k.mounts, got, k.whole)
	}
}

// P13.2 and P13.4: what several shards keep is what one would, and a move is not to be seen in it.
func TestScriptOfMoves(t *testing.T) {
	moves, most := 0, 0
	for seed := range uint64(40) {
		r := rand.New(rand.NewPCG(seed, 14))
		k := newCluster(r)
		for range 120 {
			if r.IntN(4) == 0 {
				moves++
				k.move(t, one(r, prefixesOfScript()), r.IntN(3))
			} else {
				k.call(t, anyOps(r, k.whole))
			}
		}
		most = max(most, len(k.mounts))
	}
	if moves < 1000 || most < 6 {
		t.Errorf("%d moves, up to %d mounts", moves, most)
	}
}
