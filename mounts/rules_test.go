package mounts_test

import (
	"slices"
	"strings"
	"testing"

	"canton/api"
	"canton/mounts"
)

// wildMounts is lists of mounts of all sorts, most of which are not valid.
func wildMounts() [][]api.Mount {
	const long = 1 << 20
	l := append(someMounts(), noMounts()...)
	for _, p := range []string{strings.Repeat("/a", long), "/" + strings.Repeat("a", long), strings.Repeat("/", long), "/\x00", "/\xff", "\xff"} {
		for _, n := range []int64{-1 << 63, 1, 1<<63 - 1} {
			l = append(l, []api.Mount{moves(p, int(n), n, int(n))}, []api.Mount{rests("/", 0, 1), moves(p, 0, n, 1)})
		}
	}
	return append(l, make([]api.Mount, 1<<12), many(1<<12), slices.Concat(many(20), many(12)))
}

// wildDeeds is deeds of all sorts, most of which are refused.
func wildDeeds() []deed {
	const long = 1 << 20
	l := someDeeds()[:100]
	for _, p := range []string{"", "/", "/a", "/\x00", "\xff", strings.Repeat("/a", long), "/" + strings.Repeat("a", long), strings.Repeat("/", long)} {
		for _, to := range []int{-1 << 63, 1, 1<<63 - 1} {
			l = append(l, begin(p, to), flip(p, -1<<63, to), flip(p, 1<<63-1, to))
		}
	}
	return l
}

// P1 and P2: every function ends, without a panic, whatever it is given; with an error there is no mount, and with an ErrArg there are no mounts.
func TestAnyArguments(t *testing.T) {
	deeds := wildDeeds()
	for i, l := range wildMounts() {
		right := wantRight(l)
		if mounts.Right(l) != right {
			t.Errorf("%d: %v", i, mounts.Right(l))
		}
		for j, d := range deeds {
			got := d.do(l)
			if want, _ := d.want(l); !got.is(want) {
				t.Errorf("%d, %s %d: %d mounts, the error %d", i, d.call, j, len(got.l), got.err)
			}
			if got.err != 0 && got.m != (api.Mount{}) || got.err == errArg && got.l != nil || !right && got.err != errArg {
				t.Errorf("%d, %s %d: %d mounts, the error %d", i, d.call, j, len(got.l), got.err)
			}
			if at := mounts.Of(l, d.prefix); at != wantOf(l, d.prefix) {
				t.Errorf("%d, %s %d: the mount %d", i, d.call, j, at)
			}
		}
	}
}

// P3: the same arguments have the same answer, whatever was asked between.
func TestSameAnswersInAnyOrder(t *testing.T) {
	type told struct {
		answer
		at int
	}
	ask := func(l []api.Mount, d deed) told { return told{d.do(l), mounts.Of(l, d.prefix)} }
	deeds := someDeeds()
	for _, l := range someMounts() {
		var first []told
		for _, d := range deeds {
			first = append(first, ask(l, d))
		}
		for i, d := range slices.Backward(deeds) {
			if a, b := ask(l, d), first[i]; !a.is(b.answer) || a.at != b.at {
				t.Errorf("%+v of %+v: first %+v, then %+v", d, l, b, a)
			}
		}
	}
}

var spoilt = api.Mount{Prefix: "spoilt", Group: -7, Epoch: -7, To: -7}

// roomy is l with spare capacity, in which other elements stand.
func roomy(l []api.Mount) []api.Mount {
	return append(slices.Clone(l), spoilt, spoilt, spoilt, spoilt)[:len(l)]
}

// stays reports whether a roomy list is still as it was made of l, up to its spare capacity.
func stays(given []api.Mount, l []api.Mount) bool {
	return slices.Equal(given[:len(l)+4], append(slices.Clone(l), spoilt, spoilt, spoilt, spoilt))
}

func spoil(l []api.Mount) {
	l = l[:cap(l)]
	for i := range l {
		l[i] = spoilt
	}
}

// P3: arguments are not changed, up to their spare capacity.
func TestArgumentsStay(t *testing.T) {
	for _, l := range append(someMounts(), noMounts()...) {
		given := roomy(l)
		mounts.Right(given)
		for _, d := range someDeeds() {
			d.do(given)
			mounts.Of(given, d.prefix)
			if !stays(given, l) {
				t.Fatalf("%+v: %+v became %+v", d, l, given)
			}
		}
	}
}

// P3: mounts that are not the argument are nobody else's, up to their spare capacity.
func TestMountsAreNewlyAllocated(t *testing.T) {
	changed := 0
	for _, l := range someMounts() {
		for _, d := range someDeeds() {
			want, same := d.want(l)
			if want.err != 0 || same {
				continue
			}
			changed++
			given := roomy(l)
			one, two := d.do(given), d.do(given)
			spoil(one.l)
			if !stays(given, l) || !two.is(want) {
				t.Fatalf("%+v: a result is shared: %+v, %+v", d, given, two)
			}
			spoil(given)
			if !two.is(want) || slices.Contains(two.l[:cap(two.l)], spoilt) {
				t.Fatalf("%+v: a result is kept: %+v", d, two)
			}
		}
	}
	if changed < 100 {
		t.Errorf("%d deeds changed mounts", changed)
	}
}

// P3: a result stays as it was, whatever is made of it afterwards.
func TestResultsStay(t *testing.T) {
	l := after(t, many(3), begin("/a", 2), begin("/b", 3), flip("/b", 3, 3))
	was := slices.Clone(l)
	for _, d := range someDeeds() {
		if a := d.do(l); a.err == 0 {
			after(t, a.l, begin("/y/z", 0), flip("/y/z", 3, 0), begin("/y/z", 2), begin("/w", 3), flip("/w", 3, 3))
		}
		if !slices.Equal(l, was) {
			t.Fatalf("%+v: %+v became %+v", d, was, l)
		}
	}
}
