package command_test

import (
	"maps"
	"math/rand/v2"
	"slices"
	"strings"
	"testing"

	"canton/api"
	"canton/command"
)

// anyNum is a number of up to most: each count of bytes is about as frequent as the others, and so are the ends.
func anyNum(r *rand.Rand, most int64) int64 {
	switch r.IntN(6) {
	case 0:
		return 0
	case 1:
		return most
	case 2:
		return min(most, int64(r.IntN(4)))
	}
	return r.Int64N(min(most, 1<<r.IntN(49)) + 1)
}

func anyPath(r *rand.Rand) string {
	const letters = "abz09-"
	if r.IntN(8) == 0 {
		return "/"
	}
	p := ""
	for range 1 + r.IntN(6) {
		p += "/"
		for range 1 + min(r.IntN(12), r.IntN(12)) {
			n := r.IntN(len(letters))
			p += letters[n : n+1]
		}
	}
	return p
}

// anyPaths is different paths, in increasing order.
func anyPaths(r *rand.Rand, most int) []string {
	m := map[string]struct{}{}
	for range r.IntN(most + 1) {
		m[anyPath(r)] = struct{}{}
	}
	return slices.Sorted(maps.Keys(m))
}

func anyData(r *rand.Rand) string {
	b := make([]byte, anyNum(r, mostData))
	for i := range b {
		b[i] = byte(r.IntN(256))
	}
	return string(b)
}

func anyPieces(r *rand.Rand) []api.Piece {
	var l []api.Piece
	op := 0
	for range r.IntN(mostPieces + 1) {
		op = min(7, op+r.IntN(3))
		p := piece(op, 1+r.IntN(10), anyPath(r))
		if p.Part.Kind == api.Put && p.Part.Path == "/" {
			continue
		}
		p.Part.Data, p.Part.Version, p.Part.Owner, p.Part.Turns = anyData(r), anyNum(r, mostNum)-1, anyNum(r, mostOwner), r.IntN(2) == 0
		l = append(l, p)
	}
	return l
}

func anyStore(r *rand.Rand) api.Store {
	var s api.Store
	for _, p := range anyPaths(r, 20) {
		n := api.Node{Path: p, Data: anyData(r), Version: anyNum(r, mostNum), Owner: anyNum(r, mostOwner)}
		if p == "/" {
			n.Owner = 0
		}
		s.Nodes = append(s.Nodes, n)
	}
	for _, p := range anyPaths(r, 10) {
		s.Turns = append(s.Turns, api.Turn{Dir: p, Next: 1 + anyNum(r, mostNext-1)})
	}
	return s
}

// anyCommand is a valid command, each field of which may be filled or not.
func anyCommand(r *rand.Rand) api.Command {
	c := api.Command{Kind: 1 + r.IntN(13), Id: anyNum(r, mostNum), Txn: anyNum(r, mostNum), Age: anyNum(r, mostNum), Yes: r.IntN(2) == 0, Epoch: anyNum(r, mostNum), To: r.IntN(4)}
	if r.IntN(2) == 0 {
		c.Pieces = anyPieces(r)
	}
	if r.IntN(3) == 0 {
		c.Store = anyStore(r)
	}
	if r.IntN(3) > 0 {
		c.Prefix = "/" + strings.SplitN(anyPath(r), "/", 3)[1]
		for _, p := range anyPaths(r, 32) {
			if p != c.Prefix && isIn(p, c.Prefix) {
				c.Gone = append(c.Gone, p)
			}
		}
	}
	if r.IntN(2) == 0 {
		c.Watch = api.Watch{Session: anyNum(r, mostNum), Num: anyNum(r, mostNum), Path: anyPath(r), Deep: r.IntN(2) == 0}
	}
	return c
}

// TestScriptThereAndBack puts random commands and gets them again.
func TestScriptThereAndBack(t *testing.T) {
	r := rand.New(rand.NewPCG(12, 1))
	var lists [4]int
	kinds := map[int]int{}
	for range 4000 {
		c := anyCommand(r)
		if _, ok := agree(t, c); !ok {
			t.Fatalf("%+v is refused", c)
		}
		kinds[c.Kind]++
		for i, n := range []int{len(c.Pieces), len(c.Store.Nodes), len(c.Store.Turns), len(c.Gone)} {
			if n > 1 {
				lists[i]++
			}
		}
	}
	if len(kinds) != 13 || slices.Min(lists[:]) < 200 {
		t.Errorf("kinds %v, lists %v", kinds, lists)
	}
}

// TestScriptOfWrongCommands makes one thing wrong in random commands.
func TestScriptOfWrongCommands(t *testing.T) {
	r := rand.New(rand.NewPCG(12, 2))
	for range 2 {
		for i, wrong := range wrongs() {
			c := anyCommand(r)
			wrong(&c)
			if _, ok := agree(t, c); ok {
				t.Fatalf("%d: %+v is not refused", i, c)
			}
		}
	}
}

// TestScriptOfCutsAndMore holds P12.3 for random commands.
func TestScriptOfCutsAndMore(t *testing.T) {
	r := rand.New(rand.NewPCG(12, 3))
	for range 2000 {
		b, err := command.Put(anyCommand(r))
		if err != api.OK {
			t.Fatal(err)
		}
		other, _ := command.Put(anyCommand(r))
		for _, wrong := range [][]byte{b[:len(b)-1], b[:r.IntN(len(b))], append(slices.Clone(b), byte(r.IntN(256))), slices.Concat(b, other), slices.Concat(b, other[:r.IntN(len(other))+1])} {
			if c, err := command.Get(wrong); !isZero(c) || err != api.ErrCorrupt {
				t.Fatalf("%q for %q: %+v, %d", wrong, b, c, err)
			}
		}
	}
}

// TestScriptOfChangedBytes changes some bytes of random encodings: what is still one is the encoding of what it is read as.
func TestScriptOfChangedBytes(t *testing.T) {
	r := rand.New(rand.NewPCG(12, 4))
	right, wrong := 0, 0
	for range 20000 {
		b := []byte(wantPut(anyCommand(r)))
		for range 1 + r.IntN(3) {
			at := r.IntN(len(b))
			switch r.IntN(4) {
			case 0:
				b[at]++
			case 1:
				b[at] = byte(r.IntN(256))
			case 2:
				b = slices.Delete(b, at, min(len(b), at+1+r.IntN(3)))
			case 3:
				b = slices.Insert(b, at, byte(r.IntN(130)))
			}
			if len(b) == 0 {
				break
			}
		}
		if agreeGet(t, string(b)) {
			right++
		} else {
			wrong++
		}
	}
	if right < 2000 || wrong < 5000 {
		t.Errorf("%d right ones, %d wrong ones", right, wrong)
	}
}
