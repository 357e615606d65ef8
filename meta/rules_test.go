package meta_test

import (
	"cmp"
	"slices"
	"strings"
	"testing"

	"canton/api"
	"canton/command"
	"canton/meta"
)

func byPrefix(m api.Mount, n api.Mount) int { return cmp.Compare(m.Prefix, n.Prefix) }

const long = 1 << 20

func wildTexts() []string {
	return []string{"", "/", "/a", "/\x00", "\xff", "/é", strings.Repeat("/a", long), "/" + strings.Repeat("a", long), strings.Repeat("/", long), strings.Repeat("x", long)}
}

func wildNums() []int64 {
	return []int64{-1 << 63, -1, 0, 1, 3, 4, 11, mostNum, mostNum + 1, 1<<63 - 1}
}

// wildMounts is lists of mounts of all sorts, most of which are not valid.
func wildMounts() [][]api.Mount {
	l := append(someMounts(), noMounts()...)
	for _, p := range wildTexts() {
		for _, n := range wildNums() {
			l = append(l, list(moves(p, int(n), n, int(n))), list(rests("/", 0, 1), moves(p, 0, n, 1)), list(rests("/", 0, 1), moves(p, 1, 1, int(n))))
		}
	}
	return append(l, make([]api.Mount, 1<<12), many(1<<12))
}

// wildCommands is commands of all sorts, most of which are not valid.
func wildCommands() []api.Command {
	l := append(someCommands()[:200], wrongCommands()...)
	for kind := -1; kind <= 14; kind++ {
		for _, p := range wildTexts() {
			for _, n := range wildNums() {
				l = append(l,
					api.Command{Kind: kind, Prefix: p, Epoch: n, To: 1},
					api.Command{Kind: kind, Prefix: p, To: int(n)},
					api.Command{Kind: kind, Id: n, Txn: n, Age: n, Prefix: p, Watch: api.Watch{Session: n, Num: n, Path: p}},
					api.Command{Kind: kind, Prefix: "/a", Pieces: []api.Piece{{Op: int(n), Part: api.Part{Kind: int(n), Dir: p, Path: p, Data: p, Version: n, Owner: n}}}},
					api.Command{Kind: kind, Prefix: "/b", Store: api.Store{Nodes: []api.Node{{Path: p, Data: p, Version: n, Owner: n}}, Turns: []api.Turn{{Dir: p, Next: n}}}, Gone: []string{p}},
				)
			}
		}
		l = append(l, api.Command{Kind: kind, Pieces: make([]api.Piece, 1<<16), Gone: make([]string, 1<<16)})
	}
	return l
}

// P1 and P2: every function ends, without a panic, whatever it is given; with an error, or without a result, all else is zero.

func TestAnyCommands(t *testing.T) {
	k := of(t, rests("/", 0, 0), rests("/a/b", 2, 1))
	right := 0
	for i, c := range wildCommands() {
		a := k.agree(t, c)
		if valid := command.Right(c) && c.Kind > 10; valid {
			right++
		} else if a.Err != errArg || a.Mounts != nil {
			t.Errorf("%d: kind %d: error %d", i, c.Kind, a.Err)
		}
	}
	if right < 100 {
		t.Errorf("only %d right ones", right)
	}
}

func TestAnyMounts(t *testing.T) {
	lists := [][]string{nil, {}, somePaths(), noPaths(), slices.Repeat(somePaths(), 1000), make([]string, 1<<16)}
	for _, p := range wildTexts() {
		lists = append(lists, []string{p}, []string{"/a", p}, []string{p, "/a/b", p})
	}
	for i, l := range wildMounts() {
		valid := validMounts(l)
		if k := meta.New(l); (k != nil) != valid {
			t.Errorf("%d: %v", i, k != nil)
		}
		for j, dirs := range lists {
			// Those lists are long: a few mounts are enough for them.
			if len(dirs) > 1000 && i > 4 {
				continue
			}
			paths := !slices.ContainsFunc(dirs, func(dir string) bool { return !pathForm.MatchString(dir) })
			got, ok := meta.Route(l, dirs)
			if ok != (valid && paths) || ok && len(got) != len(dirs) || !ok && got != nil {
				t.Errorf("%d, %d: %d groups, %v", i, j, len(got), ok)
			}
		}
	}
}

// fewCommands is commands that leave something of every kind in a committee.
func fewCommands() []api.Command {
	return []api.Command{
		route(), begin("/a", 2), begin("/a", 2), begin("/a/b", 1), flip("/a", 1, 2), flip("/a", 1, 2), begin("/a/b", 1), begin("/b/c", 3), route(), flip("/a/b", 2, 1),
		begin("", 1), full(1), flip("/z", 0, 2), begin("/a", 0), flip("/b/c", 1, 3), begin("/b", 1), begin("/b", 1), route(), flip("/b", 1, 1), flip("/a", 2, 0), begin("/", 2), route(),
	}
}

// P3: the same commands have the same answers, whatever is asked of it, or of others, between.
func TestSameAnswers(t *testing.T) {
	few := fewCommands()
	for first := range few {
		l := slices.Concat(few[first:], few[:first])
		k, other, again := meta.New(list(rests("/", 0, 1))), meta.New(list(rests("/", 0, 1))), meta.New(list(rests("/", 0, 1)))
		var answers []api.Answer
		for _, c := range l {
			answers = append(answers, k.Do(c))
		}
		for i, c := range l {
			other.Do(l[len(l)-1-i])
			meta.Route(again.Mounts(), []string{"/a", "?"})
			if a := again.Do(c); !sameAnswer(a, answers[i]) {
				t.Fatalf("%+v: first %+v, then %+v", c, answers[i], a)
			}
		}
		if !slices.Equal(k.Mounts(), again.Mounts()) {
			t.Fatalf("first %+v, then %+v", k.Mounts(), again.Mounts())
		}
	}
}

func TestSameRoutesInAnyOrder(t *testing.T) {
	for _, l := range someMounts() {
		var first [][]int
		for _, dir := range somePaths() {
			groups, _ := meta.Route(l, []string{"/", dir})
			first = append(first, groups)
		}
		for i, dir := range slices.Backward(somePaths()) {
			if again, _ := meta.Route(l, []string{"/", dir}); !slices.Equal(again, first[i]) {
				t.Errorf("%q of %+v: first %v, then %v", dir, l, first[i], again)
			}
		}
	}
}

var (
	spoiltMount = api.Mount{Prefix: "spoilt", Group: -7, Epoch: -7, To: -7}
	spoiltPiece = api.Piece{Op: -7, Part: api.Part{Kind: -7, Dir: "spoilt", Path: "spoilt"}}
	spoiltNode  = api.Node{Path: "spoilt", Version: -7}
	spoiltTurn  = api.Turn{Dir: "spoilt", Next: -7}
)

const (
	spoiltText  = "spoilt"
	spoiltGroup = -7
)

// roomy is l with spare capacity, in which other elements stand.
func roomy[E any](l []E, spoilt E) []E {
	return append(slices.Clone(l), spoilt, spoilt, spoilt, spoilt)[:len(l)]
}

// stays reports whether a roomy list is still as it was made of l, up to its spare capacity.
func stays[E comparable](given []E, l []E, spoilt E) bool {
	return slices.Equal(given[:len(l)+4], append(slices.Clone(l), spoilt, spoilt, spoilt, spoilt))
}

func spoil[E any](l []E, spoilt E) {
	l = l[:cap(l)]
	for i := range l {
		l[i] = spoilt
	}
}

func roomyCommand(c api.Command) api.Command {
	c.Pieces = roomy(c.Pieces, spoiltPiece)
	c.Store = api.Store{Nodes: roomy(c.Store.Nodes, spoiltNode), Turns: roomy(c.Store.Turns, spoiltTurn)}
	c.Gone = roomy(c.Gone, spoiltText)
	return c
}

func staysCommand(given api.Command, c api.Command) bool {
	return stays(given.Pieces, c.Pieces, spoiltPiece) && stays(given.Store.Nodes, c.Store.Nodes, spoiltNode) && stays(given.Store.Turns, c.Store.Turns, spoiltTurn) && stays(given.Gone, c.Gone, spoiltText)
}

// P3: arguments are not changed, up to their spare capacity, and none of them is kept.
func TestArgumentsStay(t *testing.T) {
	for _, l := range someMounts() {
		given := roomy(l, spoiltMount)
		k := &committee{meta.New(given), l}
		for _, c := range slices.Concat(fewCommands(), []api.Command{full(kindBegin), full(kindFlip), full(kindRoute)}, wrongCommands()) {
			room := roomyCommand(c)
			k.agree(t, room)
			if !stays(given, l, spoiltMount) || !staysCommand(room, c) {
				t.Fatalf("%+v: %+v became %+v", c, l, given)
			}
		}
		dirs := roomy(somePaths(), spoiltText)
		meta.Route(given, dirs)
		if !stays(given, l, spoiltMount) || !stays(dirs, somePaths(), spoiltText) {
			t.Fatalf("%+v became %+v, or %q", l, given, dirs)
		}
		spoil(given, spoiltMount)
		k.has(t, "the argument was changed", k.l...)
	}
	for _, l := range noMounts() {
		given := roomy(l, spoiltMount)
		if meta.New(given); !stays(given, l, spoiltMount) {
			t.Fatalf("%+v became %+v", l, given)
		}
		if meta.Route(given, somePaths()); !stays(given, l, spoiltMount) {
			t.Fatalf("%+v became %+v", l, given)
		}
	}
}

// So it is at once, ahead of any command.
func TestMountsOfNewAreNotKept(t *testing.T) {
	for _, l := range someMounts() {
		given := roomy(l, spoiltMount)
		k := &committee{meta.New(given), l}
		spoil(given, spoiltMount)
		k.has(t, "the argument was changed", l...)
		k.answers(t, route(), l...)
	}
}

// P3: what is returned is nobody else's, up to its spare capacity.
func TestResultsAreNewlyAllocated(t *testing.T) {
	for _, l := range someMounts() {
		k := of(t, l...)
		for _, c := range slices.Concat(fewCommands(), fewCommands()) {
			was := k.m.Mounts()
			a := k.agree(t, c)
			told := k.m.Mounts()
			spoil(a.Mounts, spoiltMount)
			k.has(t, c, told...)
			again := k.m.Mounts()
			spoil(told, spoiltMount)
			k.has(t, c, again...)
			spoil(was, spoiltMount)
			k.has(t, c, again...)
		}
	}
}

func TestRoutesAreNewlyAllocated(t *testing.T) {
	for _, l := range someMounts() {
		one, _ := meta.Route(l, somePaths())
		two, _ := meta.Route(l, somePaths())
		want := slices.Clone(two)
		spoil(one, spoiltGroup)
		if three, _ := meta.Route(l, somePaths()); !slices.Equal(two, want) || !slices.Equal(three, want) {
			t.Errorf("%+v: %v and %v; want %v", l, two, three, want)
		}
	}
}

// P3: a result stays as it was, whatever is done afterwards; no committee knows of another one of the same mounts.
func TestResultsStay(t *testing.T) {
	start := list(rests("/", 0, 1))
	k, other := of(t, start...), of(t, start...)
	var answers, wantAnswers []api.Answer
	var lists, wantLists [][]api.Mount
	for _, c := range fewCommands() {
		a, l := k.agree(t, c), k.m.Mounts()
		answers, lists = append(answers, a), append(lists, l)
		a.Mounts = slices.Clone(a.Mounts)
		wantAnswers, wantLists = append(wantAnswers, a), append(wantLists, slices.Clone(l))
	}
	for _, c := range someCommands() {
		k.agree(t, c)
	}
	for i, c := range fewCommands() {
		if !sameAnswer(answers[i], wantAnswers[i]) || !slices.Equal(lists[i], wantLists[i]) {
			t.Errorf("%+v: %+v became %+v, or %+v became %+v", c, wantAnswers[i], answers[i], wantLists[i], lists[i])
		}
	}
	other.has(t, "another one", start...)
}
