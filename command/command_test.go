package command_test

import (
	"regexp"
	"slices"
	"strconv"
	"strings"
	"testing"

	"canton/api"
	"canton/command"
	"canton/multi"
	"canton/nodes"
	"canton/part"
)

// The bounds as the document says them.
const (
	mostNum    = 1 << 48
	mostOwner  = 1 << 40
	mostData   = 256
	mostPieces = 16
	mostNodes  = 512
	mostTurns  = 512
	mostNext   = 10000
	mostGone   = 32
	part12     = "0123456789ab"
	deep6      = "/a/b/c/d/e/f"
)

var pathForm = regexp.MustCompile(`\A(/|(/[a-z0-9-]{1,12}){1,6})\z`)

// The kinds of parts that are executed at their own Path; all others are executed at its parent.
var atPath = []int{4, 9, 10}

// above is the parent of a path; above the root is the root.
func above(p string) string {
	return p[:max(strings.LastIndex(p, "/"), 1)]
}

// isIn is whether a path is q, or lies below it.
func isIn(p string, q string) bool {
	return p == q || q == "/" || strings.HasPrefix(p, q+"/")
}

func inside(n int64, least int64, most int64) bool {
	return least <= n && n <= most
}

func wantRightPart(p api.Part) bool {
	if !pathForm.MatchString(p.Path) || !inside(int64(p.Kind), 1, 10) || p.Kind == 2 && p.Path == "/" {
		return false
	}
	dir := above(p.Path)
	if slices.Contains(atPath, p.Kind) {
		dir = p.Path
	}
	return p.Dir == dir && len(p.Data) <= mostData && inside(p.Version, -1, mostNum-1) && inside(p.Owner, 0, mostOwner)
}

func wantRightStore(s api.Store) bool {
	if len(s.Nodes) > mostNodes || len(s.Turns) > mostTurns {
		return false
	}
	for i, n := range s.Nodes {
		if !pathForm.MatchString(n.Path) || i > 0 && s.Nodes[i-1].Path >= n.Path || len(n.Data) > mostData {
			return false
		}
		if !inside(n.Version, 0, mostNum) || !inside(n.Owner, 0, mostOwner) || n.Turn != 0 || n.Path == "/" && n.Owner != 0 {
			return false
		}
	}
	for i, turn := range s.Turns {
		if !pathForm.MatchString(turn.Dir) || i > 0 && s.Turns[i-1].Dir >= turn.Dir || !inside(turn.Next, 1, mostNext) {
			return false
		}
	}
	return true
}

// wantRight is whether a command is valid, as the document says it.
func wantRight(c api.Command) bool {
	for _, n := range []int64{c.Id, c.Txn, c.Age, c.Epoch, c.Watch.Session, c.Watch.Num} {
		if !inside(n, 0, mostNum) {
			return false
		}
	}
	for _, p := range []string{c.Prefix, c.Watch.Path} {
		if p != "" && !pathForm.MatchString(p) {
			return false
		}
	}
	if !inside(int64(c.Kind), 1, 13) || !inside(int64(c.To), 0, 3) || len(c.Pieces) > mostPieces || len(c.Gone) > mostGone {
		return false
	}
	for i, p := range c.Pieces {
		if !wantRightPart(p.Part) || !inside(int64(p.Op), 0, 7) || i > 0 && c.Pieces[i-1].Op > p.Op {
			return false
		}
	}
	for i, p := range c.Gone {
		if !pathForm.MatchString(p) || c.Prefix == "" || p == c.Prefix || !isIn(p, c.Prefix) || i > 0 && c.Gone[i-1] >= p {
			return false
		}
	}
	return wantRightStore(c.Store)
}

// num is a number as layer 2 says it: the digits to the base 128, with 128 added to all but the last one.
func num(n int64) string {
	s := string([]byte{byte(n % 128)})
	for n /= 128; n > 0; n /= 128 {
		s = string([]byte{byte(128 + n%128)}) + s
	}
	return s
}

func text(s string) string {
	return num(int64(len(s))) + s
}

func flag(yes bool) string {
	if yes {
		return "\x01"
	}
	return "\x00"
}

// wantPut is the encoding of a command, as the document says it.
func wantPut(c api.Command) string {
	s := num(int64(c.Kind)) + num(c.Id) + num(c.Txn) + num(c.Age) + flag(c.Yes)
	s += num(int64(len(c.Pieces)))
	for _, p := range c.Pieces {
		s += num(int64(p.Op)) + num(int64(p.Part.Kind)) + text(p.Part.Dir) + text(p.Part.Path) + text(p.Part.Data)
		s += num(p.Part.Version+1) + num(p.Part.Owner) + flag(p.Part.Turns)
	}
	s += text(c.Prefix) + num(c.Epoch) + num(int64(c.To))
	s += num(int64(len(c.Store.Nodes)))
	for _, n := range c.Store.Nodes {
		s += text(n.Path) + text(n.Data) + num(n.Version) + num(n.Owner)
	}
	s += num(int64(len(c.Store.Turns)))
	for _, turn := range c.Store.Turns {
		s += text(turn.Dir) + num(turn.Next)
	}
	s += num(int64(len(c.Gone)))
	for _, p := range c.Gone {
		s += text(p)
	}
	return s + num(c.Watch.Session) + num(c.Watch.Num) + text(c.Watch.Path) + flag(c.Watch.Deep)
}

// loose is what remains of bytes that are read without looking at what they may be.
type loose struct {
	rest string
	bad  bool
}

func (l *loose) num() int64 {
	var n int64
	for i := 0; i < len(l.rest) && i < 7; i++ {
		n = 128*n + int64(l.rest[i]%128)
		if l.rest[i] < 128 {
			l.rest = l.rest[i+1:]
			return n
		}
	}
	l.bad, l.rest = true, ""
	return 0
}

func (l *loose) text() string {
	n := l.num()
	if n > int64(len(l.rest)) {
		l.bad, l.rest = true, ""
		return ""
	}
	s := l.rest[:n]
	l.rest = l.rest[n:]
	return s
}

// times reads as many elements as a number says, up to where the bytes end.
func (l *loose) times(read func()) {
	for range l.num() {
		if l.bad {
			return
		}
		read()
	}
}

func (l *loose) command() api.Command {
	var c api.Command
	c.Kind, c.Id, c.Txn, c.Age, c.Yes = int(l.num()), l.num(), l.num(), l.num(), l.num() == 1
	l.times(func() {
		p := api.Piece{Op: int(l.num())}
		p.Part = api.Part{Kind: int(l.num()), Dir: l.text(), Path: l.text(), Data: l.text(), Version: l.num() - 1, Owner: l.num(), Turns: l.num() == 1}
		c.Pieces = append(c.Pieces, p)
	})
	c.Prefix, c.Epoch, c.To = l.text(), l.num(), int(l.num())
	l.times(func() {
		c.Store.Nodes = append(c.Store.Nodes, api.Node{Path: l.text(), Data: l.text(), Version: l.num(), Owner: l.num()})
	})
	l.times(func() {
		c.Store.Turns = append(c.Store.Turns, api.Turn{Dir: l.text(), Next: l.num()})
	})
	l.times(func() {
		c.Gone = append(c.Gone, l.text())
	})
	c.Watch = api.Watch{Session: l.num(), Num: l.num(), Path: l.text(), Deep: l.num() == 1}
	return c
}

// wantGet is the valid command whose encoding is b: what b is read as, if that is valid and its encoding is b again.
func wantGet(b string) (api.Command, bool) {
	l := &loose{rest: b}
	c := l.command()
	if l.bad || !wantRight(c) || wantPut(c) != b {
		return api.Command{}, false
	}
	return c, true
}

func same(c api.Command, d api.Command) bool {
	if c.Kind != d.Kind || c.Id != d.Id || c.Txn != d.Txn || c.Age != d.Age || c.Yes != d.Yes || c.Prefix != d.Prefix || c.Epoch != d.Epoch || c.To != d.To || c.Watch != d.Watch {
		return false
	}
	return slices.Equal(c.Pieces, d.Pieces) && slices.Equal(c.Store.Nodes, d.Store.Nodes) && slices.Equal(c.Store.Turns, d.Store.Turns) && slices.Equal(c.Gone, d.Gone)
}

func isZero(c api.Command) bool {
	return same(c, api.Command{})
}

// agree holds Right and Put of a command, and Get of its encoding, against the document, and returns that encoding and whether there is one.
func agree(t *testing.T, c api.Command) (string, bool) {
	t.Helper()
	right := wantRight(c)
	if command.Right(c) != right {
		t.Fatalf("Right(%+v) = %v", c, !right)
	}
	b, err := command.Put(c)
	if !right {
		if len(b) != 0 || err != api.ErrArg {
			t.Fatalf("Put(%+v) = %q, %d; want ErrArg", c, b, err)
		}
		return "", false
	}
	if want := wantPut(c); string(b) != want || err != api.OK {
		t.Fatalf("Put(%+v) = %q, %d; want %q", c, b, err, want)
	}
	if back, err := command.Get(b); !same(back, c) || err != api.OK {
		t.Fatalf("Get(%q) = %+v, %d; want %+v", b, back, err, c)
	}
	return string(b), true
}

// agreeGet holds Get of bytes, and Put of what that is, against the document, and returns whether they are an encoding.
func agreeGet(t *testing.T, b string) bool {
	t.Helper()
	want, ok := wantGet(b)
	c, err := command.Get([]byte(b))
	if !ok {
		if !isZero(c) || err != api.ErrCorrupt {
			t.Fatalf("Get(%q) = %+v, %d; want ErrCorrupt", b, c, err)
		}
		return false
	}
	if !same(c, want) || err != api.OK {
		t.Fatalf("Get(%q) = %+v, %d; want %+v", b, c, err, want)
	}
	if back, err := command.Put(c); string(back) != b || err != api.OK {
		t.Fatalf("Put(%+v) = %q, %d; want %q", c, back, err, b)
	}
	return true
}

// piece is a piece whose part has the Dir that belongs to its Path.
func piece(op int, kind int, p string) api.Piece {
	dir := above(p)
	if slices.Contains(atPath, kind) {
		dir = p
	}
	return api.Piece{Op: op, Part: api.Part{Kind: kind, Dir: dir, Path: p}}
}

// named is n paths in p, in increasing order.
func named(n int, p string) []string {
	var l []string
	for i := range n {
		l = append(l, p+"/m"+strconv.Itoa(1000+i))
	}
	return l
}

// stored is a store of n nodes and m turns.
func stored(n int, m int) api.Store {
	var s api.Store
	for i, p := range named(n, "/s") {
		s.Nodes = append(s.Nodes, api.Node{Path: p, Data: strings.Repeat("x", i%5), Version: int64(i % 300), Owner: int64(i % 3)})
	}
	for i, p := range named(m, "/s/t") {
		s.Turns = append(s.Turns, api.Turn{Dir: p, Next: 1 + int64(i*37%mostNext)})
	}
	return s
}

// pieces is n pieces, of all kinds, of Ops that increase as far as they may.
func pieces(n int) []api.Piece {
	var l []api.Piece
	for i := range n {
		p := piece(min(i/2, 7), 1+i%10, "/p/q"+strconv.Itoa(i))
		p.Part.Data, p.Part.Version, p.Part.Owner, p.Part.Turns = strings.Repeat("d", i), int64(i)-1, int64(i), i%2 == 0
		l = append(l, p)
	}
	return l
}

// everyByte is all bytes there are.
func everyByte() string {
	b := make([]byte, 256)
	for i := range b {
		b[i] = byte(i)
	}
	return string(b)
}

// usualCommands is commands as they are asked for, one of each kind at least.
func usualCommands() []api.Command {
	ops := []api.Op{{Kind: api.Create, Path: "/a/q", Data: "x", Owner: 3, Turns: true}, {Kind: api.Delete, Path: "/b", Version: -1}, {Kind: api.Set, Path: "/c", Data: "y", Version: 2}}
	return []api.Command{
		{Kind: 1, Id: 9, Pieces: multi.Of(ops)},
		{Kind: 2, Txn: 146, Age: 9, Pieces: multi.Of(ops)[2:]},
		{Kind: 3, Txn: 146, Yes: true},
		{Kind: 3, Txn: 146},
		{Kind: 4, Txn: 146, Yes: true},
		{Kind: 4, Txn: 146, Epoch: 1},
		{Kind: 5, Prefix: "/a", Epoch: 3},
		{Kind: 6, Prefix: "/a", Epoch: 4, Store: stored(3, 2), Gone: []string{"/a/b", "/a/c/d"}},
		{Kind: 7, Prefix: "/a", Epoch: 3},
		{Kind: 8, Watch: api.Watch{Session: 5, Num: 1, Path: "/a", Deep: true}},
		{Kind: 9, Watch: api.Watch{Session: 5, Num: 1}},
		{Kind: 10, Epoch: 4, Watch: api.Watch{Session: 5}},
		{Kind: 11, Prefix: "/a", To: 2},
		{Kind: 12, Prefix: "/a", Epoch: 3, To: 2},
		{Kind: 13},
	}
}

// edgeCommands is commands at the edges of what is valid.
func edgeCommands() []api.Command {
	widest := api.Command{Kind: 13, Id: mostNum, Txn: mostNum, Age: mostNum, Yes: true, Prefix: "/s", Epoch: mostNum, To: 3, Pieces: pieces(16), Store: stored(512, 512), Gone: named(32, "/s"), Watch: api.Watch{Session: mostNum, Num: mostNum, Path: deep6, Deep: true}}
	l := []api.Command{
		widest,
		{Kind: 1, Pieces: pieces(16)},
		{Kind: 1, Pieces: pieces(15)},
		{Kind: 1, Pieces: slices.Repeat(pieces(1), 16)},
		{Kind: 1, Pieces: []api.Piece{piece(7, 1, "/"), piece(7, 4, "/"), piece(7, 3, "/")}},
		{Kind: 1, Pieces: []api.Piece{piece(0, 2, deep6), piece(3, 9, deep6), piece(7, 10, "/"+part12)}},
		{Kind: 1, Pieces: []api.Piece{{Part: api.Part{Kind: 5, Dir: "/", Path: "/a", Data: everyByte(), Version: mostNum - 1, Owner: mostOwner, Turns: true}}}},
		{Kind: 1, Pieces: []api.Piece{{Part: api.Part{Kind: 3, Dir: "/", Path: "/a", Version: -1}}}},
		{Kind: 6, Store: stored(512, 512)},
		{Kind: 6, Store: stored(511, 0)},
		{Kind: 6, Store: stored(0, 511)},
		{Kind: 6, Store: api.Store{Nodes: []api.Node{{Path: "/", Version: mostNum}, {Path: deep6, Data: everyByte(), Version: mostNum, Owner: mostOwner}}, Turns: []api.Turn{{Dir: "/", Next: 1}, {Dir: "/a", Next: mostNext}}}},
		{Kind: 6, Store: api.Store{Nodes: []api.Node{{Path: "/a"}, {Path: "/a-"}, {Path: "/a/b"}, {Path: "/a0"}}, Turns: []api.Turn{{Dir: "/a", Next: 1}, {Dir: "/a-", Next: 1}, {Dir: "/a/b", Next: 1}, {Dir: "/a0", Next: 1}}}},
		{Kind: 6, Prefix: "/", Gone: []string{"/a", "/a-", "/a/b", "/a0", "/b"}},
		{Kind: 6, Prefix: "/", Gone: named(32, "")},
		{Kind: 6, Prefix: "/a/b/c/d/e", Gone: []string{deep6}},
		{Kind: 6, Prefix: "/" + part12, Gone: []string{"/" + part12 + "/" + part12}},
		{Kind: 6, Prefix: deep6},
		{Kind: 8, Watch: api.Watch{Path: "/"}},
		{Kind: 8, Watch: api.Watch{Deep: true}},
		{Kind: 13, Pieces: []api.Piece{}, Store: api.Store{Nodes: []api.Node{}, Turns: []api.Turn{}}, Gone: []string{}},
	}
	for _, n := range []int64{1, 127, 128, 300, 16383, 16384, mostNum - 1, mostNum} {
		l = append(l, api.Command{Kind: 1, Id: n}, api.Command{Kind: 2, Txn: n}, api.Command{Kind: 2, Age: n}, api.Command{Kind: 5, Epoch: n}, api.Command{Kind: 8, Watch: api.Watch{Session: n}}, api.Command{Kind: 8, Watch: api.Watch{Num: n}})
	}
	return l
}

// someCommands is commands of all sorts, each of which is valid.
func someCommands() []api.Command {
	return append(usualCommands(), edgeCommands()...)
}

func noPaths() []string {
	return []string{"", "a", "//", "/a/", "/A", "/a b", "/é", "?", "/?", "/\x00", "/" + part12 + "c", deep6 + "/g"}
}

func wrongNums() []int64 {
	return []int64{-1 << 63, -1, mostNum + 1, 1<<63 - 1}
}

// wrongParts is parts that are not valid in a command.
func wrongParts() []api.Part {
	l := []api.Part{
		{},
		{Kind: 11, Dir: "/", Path: "/a"},
		{Kind: -1, Dir: "/", Path: "/a"},
		{Kind: 1 + 1<<32, Dir: "/", Path: "/a"},
		{Kind: 2, Dir: "/", Path: "/"},
		{Kind: 1, Dir: "", Path: "/a"},
		{Kind: 1, Dir: "/a", Path: "/a"},
		{Kind: 1, Dir: "/", Path: "/a/b"},
		{Kind: 4, Dir: "/", Path: "/a"},
		{Kind: 9, Dir: "/", Path: "/a"},
		{Kind: 10, Dir: "/a", Path: "/a/b"},
		{Kind: 5, Dir: "/", Path: "/a", Data: strings.Repeat("x", mostData+1)},
		{Kind: 5, Dir: "/", Path: "/a", Version: -2},
		{Kind: 5, Dir: "/", Path: "/a", Version: mostNum}, // valid as a part alone
		{Kind: 5, Dir: "/", Path: "/a", Version: mostNum + 1},
		{Kind: 5, Dir: "/", Path: "/a", Version: -1 << 63},
		{Kind: 5, Dir: "/", Path: "/a", Version: 1<<63 - 1},
		{Kind: 5, Dir: "/", Path: "/a", Owner: -1},
		{Kind: 5, Dir: "/", Path: "/a", Owner: mostOwner + 1},
	}
	for _, p := range noPaths() {
		l = append(l, api.Part{Kind: 1, Dir: "/", Path: p}, api.Part{Kind: 9, Dir: p, Path: p})
	}
	return l
}

// wrongStores is stores that are not valid in a command.
func wrongStores() []api.Store {
	l := []api.Store{
		stored(513, 0), // valid as a store alone, as are the next three
		stored(0, 513),
		stored(513, 512),
		stored(512, 513),
		{Nodes: []api.Node{{Path: "/a", Turn: 1}}},
		{Nodes: []api.Node{{Path: "/a", Turn: -1}}},
		{Nodes: []api.Node{{Path: "/", Owner: 1}}},
		{Nodes: []api.Node{{Path: "/a", Data: strings.Repeat("x", mostData+1)}}},
		{Nodes: []api.Node{{Path: "/a", Owner: -1}}},
		{Nodes: []api.Node{{Path: "/a", Owner: mostOwner + 1}}},
		{Nodes: []api.Node{{Path: "/a"}, {Path: "/a"}}},
		{Nodes: []api.Node{{Path: "/b"}, {Path: "/a"}}},
		{Nodes: []api.Node{{Path: "/a/b"}, {Path: "/a-"}}},
		{Turns: []api.Turn{{Dir: "/a", Next: 1}, {Dir: "/a", Next: 1}}},
		{Turns: []api.Turn{{Dir: "/b", Next: 1}, {Dir: "/a", Next: 1}}},
	}
	for _, n := range wrongNums() {
		l = append(l, api.Store{Nodes: []api.Node{{Path: "/a", Version: n}}}, api.Store{Turns: []api.Turn{{Dir: "/a", Next: n}}})
	}
	for _, n := range []int64{0, mostNext + 1} {
		l = append(l, api.Store{Turns: []api.Turn{{Dir: "/a", Next: n}}}, api.Store{Nodes: []api.Node{{Path: "/"}}, Turns: []api.Turn{{Dir: "/", Next: 1}, {Dir: "/a", Next: n}}})
	}
	for _, p := range noPaths() {
		l = append(l, api.Store{Nodes: []api.Node{{Path: p}}}, api.Store{Turns: []api.Turn{{Dir: p, Next: 1}}})
	}
	return l
}

// beneath is a Prefix and longer ones that are kept elsewhere.
type beneath struct {
	prefix string
	gone   []string
}

// wrongGone is those that are not valid together.
func wrongGone() []beneath {
	l := []beneath{
		{"/s", named(33, "/s")},
		{"/", named(33, "")},
		{"", []string{"/"}},
		{"", []string{"/a"}},
		{"", named(32, "")},
		{"/", []string{"/"}},
		{"/a", []string{"/a"}},
		{"/a", []string{"/"}},
		{"/a", []string{"/b"}},
		{"/a", []string{"/ab"}},
		{"/a/b", []string{"/a"}},
		{"/a/b", []string{"/a/c"}},
		{"/a", []string{"/a", "/a/b"}},
		{"/a", []string{"/a/b", "/b"}},
		{"/a", []string{"/a/b", "/a/b"}},
		{"/a", []string{"/a/c", "/a/b"}},
		{"/", []string{"/a/b", "/a-"}},
		{"/a", []string{"/a/b", "/a/d", "/a/c"}},
	}
	for _, p := range noPaths() {
		l = append(l, beneath{"/a", []string{p}}, beneath{"/", []string{p}}, beneath{"/", []string{"/a", "/" + p}}, beneath{"/a", []string{"/a/b", "/a/" + p + "/"}})
	}
	return l
}

// wrongs is what makes a command wrong, whatever else it holds.
func wrongs() []func(*api.Command) {
	var l []func(*api.Command)
	add := func(f func(*api.Command)) { l = append(l, f) }
	for _, n := range []int{-1 << 63, -1, 0, 14, 15, 1 + 1<<32, 1<<63 - 1} {
		add(func(c *api.Command) { c.Kind = n })
	}
	for _, n := range []int{-1 << 63, -1, 4, 5, 1 << 32, 1<<63 - 1} {
		add(func(c *api.Command) { c.To = n })
	}
	for _, n := range wrongNums() {
		add(func(c *api.Command) { c.Id = n })
		add(func(c *api.Command) { c.Txn = n })
		add(func(c *api.Command) { c.Age = n })
		add(func(c *api.Command) { c.Epoch = n })
		add(func(c *api.Command) { c.Watch.Session = n })
		add(func(c *api.Command) { c.Watch.Num = n })
	}
	for _, p := range noPaths()[1:] {
		add(func(c *api.Command) { c.Prefix = p })
		add(func(c *api.Command) { c.Prefix, c.Gone = p, nil })
		add(func(c *api.Command) { c.Watch.Path = p })
	}
	for _, n := range []int{-1 << 63, -1, 8, 1 << 32, 1<<63 - 1} {
		add(func(c *api.Command) { c.Pieces = []api.Piece{piece(n, 1, "/a")} })
	}
	for _, ops := range [][]int{{1, 0}, {7, 6}, {0, 2, 1}, {3, 0, 3}, {0, 8}, {-1, 0}} {
		add(func(c *api.Command) {
			c.Pieces = nil
			for _, op := range ops {
				c.Pieces = append(c.Pieces, piece(op, 1, "/a"))
			}
		})
	}
	for _, n := range []int{17, 18, 1000} {
		add(func(c *api.Command) { c.Pieces = slices.Repeat(pieces(1), n) })
	}
	for _, p := range wrongParts() {
		add(func(c *api.Command) { c.Pieces = []api.Piece{{Part: p}} })
		add(func(c *api.Command) { c.Pieces = append(pieces(15), api.Piece{Op: 7, Part: p}) })
		add(func(c *api.Command) { c.Pieces = append([]api.Piece{{Part: p}}, pieces(2)...) })
	}
	for _, s := range wrongStores() {
		add(func(c *api.Command) { c.Store = s })
	}
	for _, b := range wrongGone() {
		add(func(c *api.Command) { c.Prefix, c.Gone = b.prefix, b.gone })
	}
	return l
}

// noCommands is commands that are not valid.
func noCommands() []api.Command {
	l := []api.Command{{}}
	bases := someCommands()
	for i, wrong := range wrongs() {
		for _, c := range []api.Command{{Kind: 13}, bases[0], bases[7], bases[9], bases[i%len(bases)]} {
			wrong(&c)
			l = append(l, c)
		}
	}
	return l
}

// shortCommands is commands of few bytes, which together have each field.
func shortCommands() []api.Command {
	return append(usualCommands(),
		api.Command{Kind: 1, Pieces: []api.Piece{piece(0, 1, "/"), piece(0, 2, "/a"), piece(7, 10, "/a")}},
		api.Command{Kind: 6, Prefix: "/", Store: api.Store{Nodes: []api.Node{{Path: "/"}, {Path: "/a", Data: "x", Version: 300, Owner: 1}}, Turns: []api.Turn{{Dir: "/", Next: 1}, {Dir: "/a", Next: mostNext}}}, Gone: []string{"/a", "/b"}},
		api.Command{Kind: 12, Id: mostNum, Txn: mostNum, Age: mostNum, Yes: true, Prefix: "/", Epoch: mostNum, To: 3, Watch: api.Watch{Session: mostNum, Num: mostNum, Path: "/", Deep: true}},
	)
}

func encodings(t *testing.T, l []api.Command) []string {
	t.Helper()
	var all []string
	for _, c := range l {
		b, ok := agree(t, c)
		if !ok {
			t.Fatalf("%+v is refused", c)
		}
		all = append(all, b)
	}
	return all
}

// P12.1 (L1): Right and Put.

func TestExampleOfTheChapter(t *testing.T) {
	b, err := command.Put(api.Command{Kind: api.CmdRoute})
	if string(b) != "\x0d"+strings.Repeat("\x00", 15) || err != api.OK {
		t.Errorf("%q, %d", b, err)
	}
	c, err := command.Get(b)
	if !same(c, api.Command{Kind: api.CmdRoute}) || err != api.OK {
		t.Errorf("%+v, %d", c, err)
	}
}

// TestEncodingsByHand has the bytes written out, so that nothing hangs on the test's own encoding.
func TestEncodingsByHand(t *testing.T) {
	for _, c := range []struct {
		c    api.Command
		want string
	}{
		{api.Command{Kind: 3, Id: 300, Txn: 5, Age: 6, Yes: true}, "\x03\x82\x2c\x05\x06\x01" + "\x00" + "\x00\x00\x00" + "\x00\x00\x00" + "\x00\x00\x00\x00"},
		{api.Command{Kind: 12, Prefix: "/a", Epoch: 128, To: 3}, "\x0c\x00\x00\x00\x00" + "\x00" + "\x02/a\x81\x00\x03" + "\x00\x00\x00" + "\x00\x00\x00\x00"},
		{api.Command{Kind: 8, Watch: api.Watch{Session: 7, Num: 300, Path: "/w", Deep: true}}, "\x08\x00\x00\x00\x00" + "\x00" + "\x00\x00\x00" + "\x00\x00\x00" + "\x07\x82\x2c\x02/w\x01"},
		{api.Command{Kind: 1, Pieces: []api.Piece{
			{Op: 0, Part: api.Part{Kind: api.Remove, Dir: "/", Path: "/a", Version: -1}},
			{Op: 0, Part: api.Part{Kind: api.Empty, Dir: "/a", Path: "/a"}},
			{Op: 7, Part: api.Part{Kind: api.Put, Dir: "/a", Path: "/a/q", Data: "xyz", Owner: 130, Turns: true}},
		}}, "\x01\x00\x00\x00\x00" + "\x03" + "\x00\x03\x01/\x02/a\x00\x00\x00\x00" + "\x00\x04\x02/a\x02/a\x00\x01\x00\x00" + "\x07\x02\x02/a\x04/a/q\x03xyz\x01\x81\x02\x01" + "\x00\x00\x00" + "\x00\x00\x00" + "\x00\x00\x00\x00"},
		{api.Command{Kind: 6, Prefix: "/a", Epoch: 2, Gone: []string{"/a/b", "/a/c"}, Store: api.Store{
			Nodes: []api.Node{{Path: "/a/x", Data: "d", Version: 4, Owner: 9}, {Path: "/a/y"}},
			Turns: []api.Turn{{Dir: "/a", Next: 10000}},
		}}, "\x06\x00\x00\x00\x00" + "\x00" + "\x02/a\x02\x00" + "\x02\x04/a/x\x01d\x04\x09\x04/a/y\x00\x00\x00" + "\x01\x02/a\xce\x10" + "\x02\x04/a/b\x04/a/c" + "\x00\x00\x00\x00"},
	} {
		b, ok := agree(t, c.c)
		if b != c.want || !ok {
			t.Errorf("%+v: %q; want %q", c.c, b, c.want)
		}
	}
}

func TestValidCommands(t *testing.T) {
	for _, c := range someCommands() {
		if b, ok := agree(t, c); !ok || b == "" {
			t.Errorf("%+v is refused", c)
		}
	}
}

func TestWrongCommandsAreRefused(t *testing.T) {
	for _, c := range noCommands() {
		if _, ok := agree(t, c); ok {
			t.Errorf("%+v is not refused", c)
		}
	}
}

// TestEachFieldAlone goes through small values of each field, beyond both ends of what is valid.
func TestEachFieldAlone(t *testing.T) {
	right := 0
	hold := func(c api.Command) {
		if _, ok := agree(t, c); ok {
			right++
		}
	}
	for kind := -3; kind <= 20; kind++ {
		for to := -3; to <= 7; to++ {
			for _, yes := range []bool{false, true} {
				hold(api.Command{Kind: kind, To: to, Yes: yes, Watch: api.Watch{Deep: !yes}})
			}
		}
	}
	if right != 13*4*2 {
		t.Errorf("%d kinds and groups", right)
	}
	for _, n := range []int64{-2, -1, 0, 1, 2, 127, 128, 129, mostNum - 1, mostNum, mostNum + 1} {
		for i := range 7 {
			c := api.Command{Kind: 2}
			*[]*int64{&c.Id, &c.Txn, &c.Age, &c.Epoch, &c.Watch.Session, &c.Watch.Num, new(int64)}[i] = n
			hold(c)
		}
	}
	for _, p := range append(noPaths(), "/", "/a", "/a/b", deep6, "/"+part12, "/-", "/0") {
		hold(api.Command{Kind: 5, Prefix: p})
		hold(api.Command{Kind: 5, Watch: api.Watch{Path: p}})
	}
}

func TestPiecesOfAllSorts(t *testing.T) {
	right, wrong := 0, 0
	hold := func(l ...api.Piece) {
		if _, ok := agree(t, api.Command{Kind: 1, Pieces: l}); ok {
			right++
		} else {
			wrong++
		}
	}
	paths := []string{"", "/", "/a", "/a/b", "/b", deep6, "?"}
	for kind := -1; kind <= 12; kind++ {
		for _, p := range paths {
			for _, dir := range append(paths, above(deep6)) {
				hold(api.Piece{Part: api.Part{Kind: kind, Dir: dir, Path: p}})
			}
		}
		for _, version := range []int64{-3, -2, -1, 0, 1, 126, 127, 128, mostNum - 2, mostNum - 1, mostNum, mostNum + 1} {
			for _, owner := range []int64{-1, 0, 1, 127, 128, mostOwner - 1, mostOwner, mostOwner + 1} {
				p := piece(3, kind, "/a/b")
				p.Part.Version, p.Part.Owner, p.Part.Turns = version, owner, owner == version
				hold(p)
			}
		}
		for _, n := range []int{0, 1, 127, 128, 255, 256, 257, 300} {
			p := piece(3, kind, "/a/b")
			p.Part.Data = strings.Repeat("\x80", n)
			hold(p)
		}
	}
	for one := -1; one <= 8; one++ {
		for two := -1; two <= 8; two++ {
			for three := -1; three <= 8; three++ {
				hold(piece(one, 1, "/a"), piece(two, 4, "/a"), piece(three, 5, "/b"))
			}
		}
	}
	for n := range 40 {
		hold(slices.Repeat(pieces(1), n)...)
	}
	if right < 500 || wrong < 500 {
		t.Errorf("%d right ones, %d wrong ones", right, wrong)
	}
}

// shortLists is all lists of up to most of these.
func shortLists(l []string, most int) [][]string {
	all := [][]string{nil}
	begin := 0
	for range most {
		end := len(all)
		for _, begun := range all[begin:end] {
			for _, s := range l {
				all = append(all, append(slices.Clone(begun), s))
			}
		}
		begin = end
	}
	return all
}

func TestAllShortListsOfGone(t *testing.T) {
	right := 0
	for _, prefix := range []string{"", "/", "/a", "/a/b", "/b", "a"} {
		for _, l := range shortLists([]string{"/", "/a", "/a-", "/a/b", "/a/b/c", "/ab", "/b", ""}, 3) {
			if _, ok := agree(t, api.Command{Kind: 6, Prefix: prefix, Gone: l}); ok {
				right++
			}
		}
	}
	// Five of the prefixes may stand without a list. Six, two and one of the others are in "/", in "/a" and in "/a/b".
	if right != 5+(6+15+20)+(2+1)+1 {
		t.Errorf("%d right ones", right)
	}
	for n := range 50 {
		agree(t, api.Command{Kind: 6, Prefix: "/", Gone: named(n, "")})
		agree(t, api.Command{Kind: 6, Prefix: "/s", Gone: named(n, "/s")})
	}
}

func TestAllShortStores(t *testing.T) {
	right, wrong := 0, 0
	for _, paths := range shortLists([]string{"/", "/a", "/a-", "/a/b", "/b/c", ""}, 3) {
		for _, dirs := range shortLists([]string{"/", "/a", "/a/b"}, 2) {
			var s api.Store
			for i, p := range paths {
				s.Nodes = append(s.Nodes, api.Node{Path: p, Data: p, Version: int64(i)})
			}
			for i, dir := range dirs {
				s.Turns = append(s.Turns, api.Turn{Dir: dir, Next: int64(i) + 1})
			}
			if _, ok := agree(t, api.Command{Kind: 6, Store: s}); ok {
				right++
			} else {
				wrong++
			}
		}
	}
	if right != (1+5+10+10)*(1+3+3) || wrong < 1000 {
		t.Errorf("%d right ones, %d wrong ones", right, wrong)
	}
	for _, n := range []int{0, 1, 127, 128, 510, 511, 512, 513, 514} {
		for _, m := range []int{0, 1, 127, 128, 510, 511, 512, 513, 514} {
			if _, ok := agree(t, api.Command{Kind: 6, Store: stored(n, m)}); ok != (n <= 512 && m <= 512) {
				t.Errorf("%d nodes, %d turns: %v", n, m, ok)
			}
		}
	}
}

// TestPartsAndStoresOfTheirOwnLayer are valid in a command, but for those that are greater than it may hold.
func TestPartsAndStoresOfTheirOwnLayer(t *testing.T) {
	for _, p := range wrongParts() {
		if part.May(p) != (p.Kind == 5 && p.Version == mostNum) {
			t.Errorf("%+v: %v", p, part.May(p))
		}
	}
	for i, s := range wrongStores() {
		if part.Right(s) != (i < 4) {
			t.Errorf("%d: %v", i, part.Right(s))
		}
	}
	tree := nodes.New()
	for _, p := range named(511, "") {
		tree = append(tree, api.Node{Path: p, Data: p, Turn: 3})
	}
	if _, ok := agree(t, api.Command{Kind: 6, Prefix: "/", Store: part.Keep(tree)}); !ok || !nodes.Right(tree) {
		t.Error("the store of the greatest tree is refused")
	}
}

// TestPiecesOfOperations are valid in a command, unless they ask for the greatest Version there may be.
func TestPiecesOfOperations(t *testing.T) {
	for _, version := range []int64{-1, 0, 5, mostNum - 1, mostNum} {
		ops := []api.Op{{Kind: api.Create, Path: deep6, Data: everyByte(), Owner: mostOwner}, {Kind: api.Create, Path: "/a", Turns: true}, {Kind: api.Delete, Path: "/b", Version: version}, {Kind: api.Set, Path: "/", Data: "x", Version: version}, {Kind: api.Check, Path: "/c", Version: version}, {Kind: api.Get, Path: "/"}, {Kind: api.List, Path: "/"}, {Kind: api.Sweep, Path: "/", Owner: 1}}
		l := multi.Of(ops)
		if _, ok := agree(t, api.Command{Kind: 1, Pieces: l}); ok != (version < mostNum) || len(l) == 0 {
			t.Errorf("the version %d: %d pieces, %v", version, len(l), ok)
		}
	}
	widest := multi.Of(slices.Repeat([]api.Op{{Kind: api.Create, Path: "/a/b"}}, 8))
	if _, ok := agree(t, api.Command{Kind: 1, Pieces: widest}); !ok || len(widest) != mostPieces {
		t.Errorf("%d pieces of eight operations: %v", len(widest), ok)
	}
}

// P12.1 (L1): Get.

func TestGetOfTheEdges(t *testing.T) {
	const (
		head  = "\x01\x00\x00\x00\x00"
		tail  = "\x00\x00\x00\x00"
		zeros = "\x00\x00\x00"
		most  = "\xc0\x80\x80\x80\x80\x80\x00" // 2^48
	)
	for _, c := range []struct {
		b  string
		ok bool
	}{
		{head + "\x00" + zeros + zeros + tail, true},
		{"", false},
		{"\x0d", false},
		{"\x0d" + strings.Repeat("\x00", 14), false},
		{"\x0d" + strings.Repeat("\x00", 15), true},
		{"\x0d" + strings.Repeat("\x00", 16), false},
		{"\x00" + strings.Repeat("\x00", 15), false},
		{"\x0e" + strings.Repeat("\x00", 15), false},
		{"\x80\x0d" + strings.Repeat("\x00", 15), false},
		{"\x0d\x00\x00\x00\x02\x00" + zeros + zeros + tail, false},     // Yes is 2
		{"\x0d\x00\x00\x00\x81\x00\x00" + zeros + zeros + tail, false}, // Yes is 128
		{"\x0d" + most + most + most + "\x01\x00" + zeros + zeros + tail, true},
		{"\x0d\xc0\x80\x80\x80\x80\x80\x01\x00\x00\x00\x00" + zeros + zeros + tail, false},
		{head + "\x00" + "\x00\x00\x03" + zeros + tail, true},
		{head + "\x00" + "\x00\x00\x04" + zeros + tail, false},
		{head + "\x00" + "\x00" + most + "\x00" + zeros + tail, true},
		{head + "\x00" + "\x01/\x00\x00" + zeros + tail, true},
		{head + "\x00" + "\x01a\x00\x00" + zeros + tail, false},
		{head + "\x00" + zeros + zeros + "\x00\x00\x00\x02", false}, // Deep is 2
		{head + "\x00" + zeros + zeros + most + most + "\x01/\x01", true},
		{head + "\x00" + zeros + zeros + "\x00\x00\x01?\x00", false},
		// A piece: its Op, its Kind, its Version plus one, its Owner, its Turns.
		{head + "\x01\x00\x01\x01/\x02/a\x00\x00\x00\x00" + zeros + zeros + tail, true},
		{head + "\x01\x07\x01\x01/\x02/a\x00\x00\x00\x00" + zeros + zeros + tail, true},
		{head + "\x01\x08\x01\x01/\x02/a\x00\x00\x00\x00" + zeros + zeros + tail, false},
		{head + "\x01\x00\x00\x01/\x02/a\x00\x00\x00\x00" + zeros + zeros + tail, false},
		{head + "\x01\x00\x0b\x01/\x02/a\x00\x00\x00\x00" + zeros + zeros + tail, false},
		{head + "\x01\x00\x01\x01/\x02/a\x00" + most + "\x00\x00" + zeros + zeros + tail, true},
		{head + "\x01\x00\x01\x01/\x02/a\x00\xc0\x80\x80\x80\x80\x80\x01\x00\x00" + zeros + zeros + tail, false},
		{head + "\x01\x00\x01\x01/\x02/a\x00\x00\xa0\x80\x80\x80\x80\x00\x00" + zeros + zeros + tail, true},
		{head + "\x01\x00\x01\x01/\x02/a\x00\x00\xa0\x80\x80\x80\x80\x01\x00" + zeros + zeros + tail, false},
		{head + "\x01\x00\x01\x01/\x02/a\x00\x00\x00\x01" + zeros + zeros + tail, true},
		{head + "\x01\x00\x01\x01/\x02/a\x00\x00\x00\x02" + zeros + zeros + tail, false},
		{head + "\x01\x00\x01\x02/a\x02/a\x00\x00\x00\x00" + zeros + zeros + tail, false},
		// A number of elements that are not there, or too many of them.
		{head + "\x01" + zeros + zeros + tail, false},
		{head + most + zeros + zeros + tail, false},
		{head + "\x11" + strings.Repeat("\x00\x01\x01/\x02/a\x00\x00\x00\x00", 17) + zeros + zeros + tail, false},
		{head + "\x10" + strings.Repeat("\x00\x01\x01/\x02/a\x00\x00\x00\x00", 16) + zeros + zeros + tail, true},
		{head + "\x00" + zeros + most + "\x00\x00" + tail, false},
		{head + "\x00" + zeros + "\x00" + most + "\x00" + tail, false},
		{head + "\x00" + zeros + "\x00\x00" + most + tail, false},
		{head + "\x00" + zeros + "\x01\x02/a\x00" + most + "\xa0\x80\x80\x80\x80\x00" + "\x00\x00" + tail, true},
		{head + "\x00" + zeros + "\x01\x02/a\x00" + most + "\xa0\x80\x80\x80\x80\x01" + "\x00\x00" + tail, false},
		{head + "\x00" + zeros + "\x00\x01\x01/\xce\x10\x00" + tail, true},
		{head + "\x00" + zeros + "\x00\x01\x01/\xce\x11\x00" + tail, false},
		{head + "\x00" + zeros + "\x00\x01\x01/\x00\x00" + tail, false},
		{head + "\x00" + "\x01/\x00\x00" + "\x00\x00\x01\x02/a" + tail, true},
		{head + "\x00" + "\x01/\x00\x00" + "\x00\x00\x01\x01/" + tail, false},
		{head + "\x00" + "\x00\x00\x00" + "\x00\x00\x01\x02/a" + tail, false},
		{head + "\x00" + "\x01/\x00\x00" + "\x00\x00\x01\x00" + tail, false},
	} {
		if agreeGet(t, c.b) != c.ok {
			t.Errorf("%q: %v", c.b, !c.ok)
		}
	}
}

// TestEncodingsOfWrongCommands are as the encodings would be, if the commands were valid.
func TestEncodingsOfWrongCommands(t *testing.T) {
	many := 0
	for _, c := range noCommands() {
		l := []int64{int64(c.Kind), c.Id, c.Txn, c.Age, int64(c.To), c.Epoch, c.Watch.Session, c.Watch.Num}
		for _, p := range c.Pieces {
			l = append(l, int64(p.Op), int64(p.Part.Kind), p.Part.Version+1, p.Part.Owner)
		}
		turned := false
		for _, n := range c.Store.Nodes {
			l = append(l, n.Version, n.Owner)
			turned = turned || n.Turn != 0
		}
		for _, turn := range c.Store.Turns {
			l = append(l, turn.Next)
		}
		// The others have no such bytes: a number below 0, or a turn, which is not written.
		if slices.Min(l) < 0 || turned {
			continue
		}
		many++
		if agreeGet(t, wantPut(c)) {
			t.Errorf("%+v is an encoding", c)
		}
	}
	if many < 800 {
		t.Errorf("only %d", many)
	}
}

// P12.2 (there and back), P12.3: what is no encoding is refused.

func TestCutOff(t *testing.T) {
	for i, b := range encodings(t, someCommands()) {
		for n := range len(b) {
			// What is cut off late was read as often as there are bytes: of long ones a part is enough.
			if len(b) > 2000 && n > 200 && n < len(b)-200 && n%97 != 0 {
				continue
			}
			c, err := command.Get([]byte(b[:n]))
			if !isZero(c) || err != api.ErrCorrupt {
				t.Fatalf("%d, the first %d bytes: %+v, %d", i, n, c, err)
			}
		}
	}
}

func TestFollowedByMore(t *testing.T) {
	all := encodings(t, someCommands())
	for i, b := range all {
		more := append([]string{"\x00\x00", strings.Repeat("\x00", 16), "\x0d" + strings.Repeat("\x00", 15), strings.Repeat("\xff", 1000), b}, all[:3]...)
		for n := range 256 {
			more = append(more, string([]byte{byte(n)}))
		}
		for _, behind := range more {
			c, err := command.Get([]byte(b + behind))
			if !isZero(c) || err != api.ErrCorrupt {
				t.Fatalf("%d, followed by %q: %+v, %d", i, behind, c, err)
			}
		}
	}
}

// TestOneByteOff has each byte of short encodings changed, left out, doubled, and another one put ahead of it.
func TestOneByteOff(t *testing.T) {
	right, wrong := 0, 0
	hold := func(b string) {
		if agreeGet(t, b) {
			right++
		} else {
			wrong++
		}
	}
	for _, b := range encodings(t, shortCommands()) {
		for i := range len(b) {
			for n := range 256 {
				hold(b[:i] + string([]byte{byte(n)}) + b[i+1:])
			}
			hold(b[:i] + b[i+1:])
			hold(b[:i] + b[i:i+1] + b[i:])
			for _, s := range []string{"\x00", "\x01", "\x02", "/", "\x7f", "\x80", "\x81", "\xff"} {
				hold(b[:i] + s + b[i:])
			}
		}
	}
	if right < 10000 || wrong < 100000 {
		t.Errorf("%d right ones, %d wrong ones", right, wrong)
	}
}

// TestTwoBytesOff has two bytes of the shortest encoding changed.
func TestTwoBytesOff(t *testing.T) {
	right, wrong := 0, 0
	few := []byte{0, 1, 2, 3, 4, 12, 13, 14, 47, 127, 128, 129, 255}
	for i := range 16 {
		for j := range i {
			for _, n := range few {
				for _, m := range few {
					b := []byte("\x0d" + strings.Repeat("\x00", 15))
					b[i], b[j] = n, m
					if agreeGet(t, string(b)) {
						right++
					} else {
						wrong++
					}
				}
			}
		}
	}
	if right < 2000 || wrong < 10000 {
		t.Errorf("%d right ones, %d wrong ones", right, wrong)
	}
}

// TestDifferentCommandsHaveDifferentEncodings, none of which begins another.
func TestDifferentCommandsHaveDifferentEncodings(t *testing.T) {
	var different []api.Command
	for _, c := range append(someCommands(), shortCommands()...) {
		if !slices.ContainsFunc(different, func(d api.Command) bool { return same(c, d) }) {
			different = append(different, c)
		}
	}
	all := encodings(t, different)
	slices.Sort(all)
	for i, b := range all[1:] {
		if strings.HasPrefix(b, all[i]) {
			t.Errorf("%q begins %q", all[i], b)
		}
	}
}
