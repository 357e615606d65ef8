package command_test

import (
	"slices"
	"strings"
	"testing"

	"canton/api"
	"canton/command"
)

// wildCommands is commands of all sorts, most of which are not valid.
func wildCommands() []api.Command {
	const long = 1 << 20
	l := append(someCommands(), noCommands()...)
	texts := []string{strings.Repeat("/a", long), "/" + strings.Repeat("a", long), strings.Repeat("/", long), strings.Repeat("x", long), "/\xff", "\x00"}
	for _, s := range texts {
		for _, n := range []int64{-1 << 63, 1<<63 - 1, 1} {
			l = append(l,
				api.Command{Kind: int(n), Id: n, Txn: n, Age: n, Epoch: n, To: int(n), Prefix: s},
				api.Command{Kind: 1, Watch: api.Watch{Session: n, Num: n, Path: s}},
				api.Command{Kind: 1, Pieces: []api.Piece{{Op: int(n), Part: api.Part{Kind: int(n), Dir: s, Path: s, Data: s, Version: n, Owner: n}}}},
				api.Command{Kind: 1, Pieces: []api.Piece{{Part: api.Part{Kind: 1, Dir: "/", Path: "/a", Data: s, Version: n}}}},
				api.Command{Kind: 6, Store: api.Store{Nodes: []api.Node{{Path: s, Data: s, Version: n, Turn: n, Owner: n}}, Turns: []api.Turn{{Dir: s, Next: n}}}},
				api.Command{Kind: 6, Store: api.Store{Nodes: []api.Node{{Path: "/a", Data: s, Version: n}}}},
				api.Command{Kind: 6, Prefix: s, Gone: []string{s, s}},
				api.Command{Kind: 6, Prefix: "/", Gone: []string{s}},
			)
		}
	}
	return append(l,
		api.Command{Kind: 1, Pieces: make([]api.Piece, 1<<16)},
		api.Command{Kind: 6, Store: api.Store{Nodes: make([]api.Node, 1<<16), Turns: make([]api.Turn, 1<<16)}},
		api.Command{Kind: 6, Store: stored(9000, 9000)},
		api.Command{Kind: 6, Prefix: "/", Gone: make([]string, 1<<16)},
		api.Command{Kind: 6, Prefix: "/", Gone: named(9000, "")},
	)
}

// wildBytes is bytes of all sorts, most of which are no encodings.
func wildBytes() []string {
	const long = 1 << 20
	l := []string{"", "\x0d", strings.Repeat("\x00", 16), strings.Repeat("\x00", long), strings.Repeat("\x01", long), strings.Repeat("\x80", long), strings.Repeat("\xff", long), strings.Repeat("\x02/a", long), everyByte()}
	head, most := "\x06\x00\x00\x00\x00", "\xc0\x80\x80\x80\x80\x80\x00"
	// Far more elements are said to follow than do; or as many do, though no list may have so many.
	for _, n := range []string{most, num(1 << 31), num(long), num(33), num(513), num(1 << 40)} {
		for _, behind := range []string{"", strings.Repeat("\x00", 100), strings.Repeat("\x00", long), strings.Repeat("\x01/\x01", long/3)} {
			l = append(l, head+n+behind, head+"\x00"+n+behind, head+"\x00\x00\x00\x00"+n+behind, head+"\x00\x00\x00\x00\x00"+n+behind, head+"\x00\x00\x00\x00\x00\x00"+n+behind, head+"\x00\x01/\x00\x00\x00\x00"+n+behind)
		}
	}
	return l
}

// P1 and P2: every function ends, without a panic, whatever it is given; where there is no result, it is zero.

func TestAnyCommands(t *testing.T) {
	right := 0
	for i, c := range wildCommands() {
		want := wantRight(c)
		b, err := command.Put(c)
		if command.Right(c) != want || want != (err == api.OK) || want != (b != nil) || !want && err != api.ErrArg {
			t.Errorf("%d: right %v, %d bytes, error %d; want right %v", i, command.Right(c), len(b), err, want)
		}
		if want {
			right++
		}
	}
	if right < len(someCommands()) {
		t.Errorf("only %d right ones", right)
	}
}

func TestAnyBytes(t *testing.T) {
	for i, b := range wildBytes() {
		c, err := command.Get([]byte(b))
		want, ok := wantGet(b)
		if !same(c, want) || ok != (err == api.OK) || !ok && err != api.ErrCorrupt {
			t.Errorf("%d: %d, %v", i, err, ok)
		}
		if !ok && (c.Pieces != nil || c.Store.Nodes != nil || c.Store.Turns != nil || c.Gone != nil) {
			t.Errorf("%d: lists beside an error", i)
		}
	}
	for _, b := range [][]byte{nil, {}} {
		if c, err := command.Get(b); !isZero(c) || err != api.ErrCorrupt {
			t.Errorf("no bytes: %+v, %d", c, err)
		}
	}
}

// P3: the same arguments have the same answer, whatever was asked between.
func TestSameAnswersInAnyOrder(t *testing.T) {
	type answer struct {
		right bool
		b     string
		c     api.Command
		errs  [2]api.Errno
	}
	ask := func(c api.Command, s string) answer {
		var a answer
		a.right = command.Right(c)
		b, err := command.Put(c)
		a.b, a.errs[0] = string(b), err
		a.c, a.errs[1] = command.Get([]byte(s))
		return a
	}
	commands := append(shortCommands(), noCommands()...)
	texts := encodings(t, shortCommands())
	for _, b := range texts {
		texts = append(texts, b[:len(b)-1], b+"\x00", b[1:])
	}
	var first []answer
	for i, c := range commands {
		first = append(first, ask(c, texts[i%len(texts)]))
	}
	for i, c := range slices.Backward(commands) {
		a, b := ask(c, texts[i%len(texts)]), first[i]
		if a.right != b.right || a.b != b.b || !same(a.c, b.c) || a.errs != b.errs {
			t.Errorf("%+v, %q: first %+v, then %+v", c, texts[i%len(texts)], b, a)
		}
	}
}

var (
	spoiltPiece = api.Piece{Op: -7, Part: api.Part{Kind: -7, Dir: "spoilt", Path: "spoilt", Data: "spoilt", Version: -7, Owner: -7}}
	spoiltNode  = api.Node{Path: "spoilt", Data: "spoilt", Version: -7, Turn: -7, Owner: -7}
	spoiltTurn  = api.Turn{Dir: "spoilt", Next: -7}
)

const (
	spoiltText = "spoilt"
	spoiltByte = 0xee
)

// roomy is l with spare capacity, in which other elements stand.
func roomy[E any](l []E, spoilt E) []E {
	return append(slices.Clone(l), spoilt, spoilt, spoilt, spoilt)[:len(l)]
}

func roomyCommand(c api.Command) api.Command {
	c.Pieces = roomy(c.Pieces, spoiltPiece)
	c.Store.Nodes = roomy(c.Store.Nodes, spoiltNode)
	c.Store.Turns = roomy(c.Store.Turns, spoiltTurn)
	c.Gone = roomy(c.Gone, spoiltText)
	return c
}

// stays reports whether a roomy list is still as it was made of l, up to its spare capacity.
func stays[E comparable](given []E, l []E, spoilt E) bool {
	return slices.Equal(given[:len(l)+4], append(slices.Clone(l), spoilt, spoilt, spoilt, spoilt))
}

func staysCommand(given api.Command, c api.Command) bool {
	return same(given, c) && stays(given.Pieces, c.Pieces, spoiltPiece) && stays(given.Store.Nodes, c.Store.Nodes, spoiltNode) && stays(given.Store.Turns, c.Store.Turns, spoiltTurn) && stays(given.Gone, c.Gone, spoiltText)
}

func spoil[E any](l []E, spoilt E) {
	l = l[:cap(l)]
	for i := range l {
		l[i] = spoilt
	}
}

func spoilCommand(c api.Command) {
	spoil(c.Pieces, spoiltPiece)
	spoil(c.Store.Nodes, spoiltNode)
	spoil(c.Store.Turns, spoiltTurn)
	spoil(c.Gone, spoiltText)
}

// P3: arguments are not changed, up to their spare capacity.
func TestArgumentsStay(t *testing.T) {
	for _, c := range append(someCommands(), noCommands()...) {
		given := roomyCommand(c)
		command.Right(given)
		command.Put(given)
		if !staysCommand(given, c) {
			t.Fatalf("%+v became %+v", c, given)
		}
	}
	for _, b := range encodings(t, shortCommands()) {
		for n := range len(b) + 1 {
			given := roomy([]byte(b[:n]), spoiltByte)
			command.Get(given)
			if !stays(given, []byte(b[:n]), spoiltByte) {
				t.Fatalf("%q became %q", b[:n], given)
			}
		}
	}
}

// P3: what is returned is nobody else's, up to its spare capacity.

func TestBytesAreNewlyAllocated(t *testing.T) {
	for _, c := range someCommands() {
		given := roomyCommand(c)
		one, _ := command.Put(given)
		two, _ := command.Put(given)
		spoil(one, spoiltByte)
		if want := wantPut(c); string(two) != want || !staysCommand(given, c) {
			t.Fatalf("%+v: the bytes are shared: %q", c, two)
		}
		spoilCommand(given)
		if three, err := command.Put(c); string(three) != string(two) || err != api.OK {
			t.Fatalf("%+v: the bytes are kept: %q", c, three)
		}
	}
}

func TestCommandsAreNewlyAllocated(t *testing.T) {
	for _, c := range someCommands() {
		b := wantPut(c)
		given := roomy([]byte(b), spoiltByte)
		one, _ := command.Get(given)
		two, _ := command.Get(given)
		spoilCommand(one)
		if !same(two, c) || !stays(given, []byte(b), spoiltByte) {
			t.Fatalf("%q: the command is shared: %+v", b, two)
		}
		spoil(given, spoiltByte)
		if !same(two, c) {
			t.Fatalf("%q: the bytes are kept in the command: %+v", b, two)
		}
		if three, err := command.Get([]byte(b)); !same(three, c) || err != api.OK {
			t.Fatalf("%q: the command is kept: %+v", b, three)
		}
	}
}

// P3: a result stays as it was, whatever is asked afterwards.
func TestResultsStay(t *testing.T) {
	var commands []api.Command
	var texts [][]byte
	for _, b := range encodings(t, shortCommands()) {
		c, _ := command.Get([]byte(b))
		put, _ := command.Put(c)
		commands, texts = append(commands, c), append(texts, put)
	}
	for _, c := range append(shortCommands(), noCommands()...) {
		b, _ := command.Put(c)
		command.Get(b)
		command.Get(append(b, 0))
	}
	for i, c := range shortCommands() {
		if !same(commands[i], c) || string(texts[i]) != wantPut(c) {
			t.Errorf("%+v became %+v and %q", c, commands[i], texts[i])
		}
	}
}
