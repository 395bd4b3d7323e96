package word_test

import (
	"math"
	"math/rand"
	"slices"
	"strings"
	"testing"

	"doorward/api"
	"doorward/call"
	"doorward/mean"
	"doorward/types"
	"doorward/word"
)

const all = math.MaxUint64

func load(k uint32) api.Op                     { return api.Op{Kind: api.OLoad, K: k} }
func mask(k uint32) api.Op                     { return api.Op{Kind: api.OAnd, K: k} }
func label(t int) api.Op                       { return api.Op{Kind: api.OLabel, T: t} }
func goTo(t int) api.Op                        { return api.Op{Kind: api.OGoto, T: t} }
func ret(k uint32) api.Op                      { return api.Op{Kind: api.ORet, K: k} }
func jump(kind int, k uint32, t, f int) api.Op { return api.Op{Kind: kind, K: k, T: t, F: f} }

func at(label int) api.End       { return api.End{Label: label} }
func told(answer uint32) api.End { return api.End{Answer: answer, Told: true} }

var wrong = api.End{Wrong: true}

func record(nr uint32, args ...uint64) string {
	c := api.Call{Nr: nr, Arch: 0xc000003e, IP: 0x0000000700000008}
	copy(c.Args[:], args)
	return call.Pack(c)
}

// P19.1: Walk.
func TestWalk(t *testing.T) {
	for _, c := range []struct {
		l    []api.Op
		want api.End
	}{
		{nil, at(-1)}, {[]api.Op{}, at(-1)}, {[]api.Op{load(0)}, at(-1)}, {[]api.Op{label(7)}, at(-1)}, {[]api.Op{ret(9)}, told(9)}, {[]api.Op{ret(0)}, told(0)}, {[]api.Op{ret(math.MaxUint32)}, told(math.MaxUint32)},
		{[]api.Op{ret(1), ret(2), {}}, told(1)}, {[]api.Op{{Kind: api.ORet, K: 1, T: 5, F: 6}}, told(1)},
		{[]api.Op{goTo(5)}, at(5)}, {[]api.Op{goTo(0)}, at(0)}, {[]api.Op{goTo(-1), ret(1)}, at(-1)}, {[]api.Op{goTo(math.MinInt)}, at(math.MinInt)}, {[]api.Op{goTo(math.MaxInt), label(0)}, at(math.MaxInt)},
		{[]api.Op{goTo(5), ret(1), label(5), ret(2)}, told(2)}, {[]api.Op{goTo(5), ret(1), label(5), ret(2), label(5), ret(3)}, told(2)}, {[]api.Op{label(5), goTo(5), ret(1)}, at(5)}, {[]api.Op{label(5), goTo(5), label(5), ret(3)}, told(3)},
		{[]api.Op{goTo(5), {Kind: api.OLabel, T: 4, F: 5, K: 5}, ret(1)}, at(5)}, {[]api.Op{goTo(5), {Kind: api.OGoto, T: 5}, ret(1)}, at(5)}, {[]api.Op{{Kind: api.OGoto, T: 5, F: 6, K: 1}, label(6), ret(1), label(5)}, at(-1)},
		// A is 0 at first, then what is loaded and and-ed.
		{[]api.Op{jump(api.OEq, 0, 1, 2)}, at(1)}, {[]api.Op{jump(api.OGt, 0, 1, 2)}, at(2)}, {[]api.Op{jump(api.OGe, 0, 1, 2)}, at(1)}, {[]api.Op{jump(api.OEq, 1, 1, 2)}, at(2)}, {[]api.Op{mask(5), jump(api.OEq, 0, 1, 2)}, at(1)},
		{[]api.Op{load(0), jump(api.OEq, 5, 1, 2)}, at(1)}, {[]api.Op{load(0), jump(api.OEq, 6, 1, 2)}, at(2)}, {[]api.Op{load(0), mask(4), jump(api.OEq, 4, 1, 2)}, at(1)}, {[]api.Op{load(0), mask(2), jump(api.OEq, 0, 1, 2)}, at(1)},
		{[]api.Op{load(0), jump(api.OGt, 4, 1, 2)}, at(1)}, {[]api.Op{load(0), jump(api.OGt, 5, 1, 2)}, at(2)}, {[]api.Op{load(0), jump(api.OGt, 6, 1, 2)}, at(2)}, {[]api.Op{load(0), jump(api.OGt, math.MaxUint32, 1, 2)}, at(2)},
		{[]api.Op{load(0), jump(api.OGe, 4, 1, 2)}, at(1)}, {[]api.Op{load(0), jump(api.OGe, 5, 1, 2)}, at(1)}, {[]api.Op{load(0), jump(api.OGe, 6, 1, 2)}, at(2)},
		{[]api.Op{load(4), jump(api.OGt, 0x80000000, 1, 2)}, at(1)}, {[]api.Op{load(4), jump(api.OEq, 0xc000003e, 1, 2)}, at(1)}, {[]api.Op{load(8), jump(api.OEq, 8, 1, 2)}, at(1)}, {[]api.Op{load(12), jump(api.OEq, 7, 1, 2)}, at(1)},
		{[]api.Op{load(60), jump(api.OEq, 11, 1, 2)}, at(1)}, {[]api.Op{load(0), load(8), jump(api.OEq, 8, 1, 2)}, at(1)}, {[]api.Op{load(0), label(9), jump(api.OEq, 5, 1, 2)}, at(1)}, {[]api.Op{load(0), goTo(9), load(8), label(9), jump(api.OEq, 5, 1, 2)}, at(1)},
		{[]api.Op{load(0), jump(api.OEq, 5, 1, 2), label(2), ret(8), label(1), ret(7)}, told(7)}, {[]api.Op{load(0), jump(api.OEq, 4, 1, 2), label(1), ret(7), label(2), ret(8)}, told(8)}, {[]api.Op{jump(api.OEq, 0, 3, 3), label(3), ret(1)}, told(1)},
		// What goes wrong, and only as it is done.
		{[]api.Op{{}}, wrong}, {[]api.Op{{Kind: 9}}, wrong}, {[]api.Op{{Kind: -1}}, wrong}, {[]api.Op{{Kind: math.MinInt}}, wrong}, {[]api.Op{{Kind: math.MaxInt}, ret(1)}, wrong}, {[]api.Op{load(1)}, wrong}, {[]api.Op{load(64), ret(1)}, wrong},
		{[]api.Op{load(61)}, wrong}, {[]api.Op{load(math.MaxUint32)}, wrong}, {[]api.Op{load(math.MaxUint32 - 3)}, wrong}, {[]api.Op{load(1 << 31)}, wrong}, {[]api.Op{goTo(1), {}, load(1), label(1), ret(2)}, told(2)},
	} {
		was := slices.Clone(c.l)
		if got := word.Walk(c.l, record(5, 1, 2, 3, 4, 5, 11<<32)); got != c.want || !slices.Equal(c.l, was) {
			t.Errorf("%v: %v, not %v", c.l, got, c.want)
		}
		for _, n := range []int{0, 1, 63, 65, 128} {
			if got := word.Walk(c.l, strings.Repeat("\x00", n)); got != wrong {
				t.Errorf("%v on %d bytes: %v", c.l, n, got)
			}
		}
	}
}

// plain walks by the chapter's words, with other means: each label's places are looked up from the end.
func plain(l []api.Op, rec string) api.End {
	a := uint32(0)
	at := 0
	for at < len(l) {
		o := l[at]
		on, to := false, 0
		switch o.Kind {
		case api.OLoad:
			if o.K%4 != 0 || o.K > 60 {
				return wrong
			}
			a = uint32(rec[o.K]) | uint32(rec[o.K+1])<<8 | uint32(rec[o.K+2])<<16 | uint32(rec[o.K+3])<<24
		case api.OAnd:
			a &= o.K
		case api.OEq, api.OGt, api.OGe:
			on, to = true, o.F
			if o.Kind != api.OGt && a == o.K || o.Kind != api.OEq && a > o.K {
				to = o.T
			}
		case api.OGoto:
			on, to = true, o.T
		case api.ORet:
			return told(o.K)
		case api.OLabel:
		default:
			return wrong
		}
		at++
		if on {
			next := slices.IndexFunc(l[at:], func(o api.Op) bool { return o.Kind == api.OLabel && o.T == to })
			if next < 0 {
				return api.End{Label: to}
			}
			at += next
		}
	}
	return api.End{Label: -1}
}

// P19.1: random steps.
func TestRandomWalks(t *testing.T) {
	r := rand.New(rand.NewSource(1))
	for range 30000 {
		l := make([]api.Op, r.Intn(25))
		for i := range l {
			l[i] = api.Op{Kind: 1 + r.Intn(7), K: uint32(4 * r.Intn(8)), T: r.Intn(5), F: r.Intn(5)}
			switch r.Intn(60) {
			case 0:
				l[i].Kind = r.Intn(12) - 1
			case 1:
				l[i].K = r.Uint32()
			case 2:
				l[i].Kind = api.ORet
			}
		}
		rec := record(uint32(r.Intn(9)), uint64(r.Intn(30)), 4, 8, 12)
		if got := word.Walk(l, rec); got != plain(l, rec) {
			t.Fatalf("%v: %v, not %v", l, got, plain(l, rec))
		}
	}
}

// P1: many steps, of jumps far on, end soon.
func TestLongWalks(t *testing.T) {
	var l []api.Op
	for i := range 20000 {
		l = append(l, goTo(i), label(i))
	}
	if got := word.Walk(append(l, ret(3)), record(1)); got != told(3) {
		t.Error(got)
	}
}

func test(arg int, m uint64, sign string, value uint64) api.Cond {
	return api.Cond{Kind: api.CTest, Arg: arg, Mask: m, Sign: sign, Value: value}
}

func and(l ...api.Cond) api.Cond { return api.Cond{Kind: api.CAnd, Kids: l} }
func or(l ...api.Cond) api.Cond  { return api.Cond{Kind: api.COr, Kids: l} }
func not(c api.Cond) api.Cond    { return api.Cond{Kind: api.CNot, Kids: []api.Cond{c}} }

func conds(c api.Cond) int {
	n := 1
	for _, kid := range c.Kids {
		n += conds(kid)
	}
	return n
}

// made asks for a condition's steps, and holds them to what is promised of them but what they mean.
func made(t *testing.T, c api.Cond, yes, no, next int) []api.Op {
	t.Helper()
	l, free, e := word.Cond(c, yes, no, next)
	if e != api.OK || free < next {
		t.Fatalf("Cond(%v, %d, %d, %d): %d, %d", c, yes, no, next, free, e)
	}
	if most := 9*types.Tests(c) + conds(c); len(l) > most {
		t.Fatalf("%v: %d steps, more than %d", c, len(l), most)
	}
	seen := map[int]int{}
	for i, o := range l {
		if o.Kind < api.OLoad || o.Kind > api.OGoto || o.Kind == api.OLoad && (o.K%4 != 0 || o.K > 60) {
			t.Fatalf("%v: %v", c, o)
		}
		if o.Kind == api.OLabel {
			if _, twice := seen[o.T]; twice || o.T < next || o.T >= free {
				t.Fatalf("%v: label %d, of %d to %d", c, o.T, next, free)
			}
			seen[o.T] = i
		}
	}
	for i, o := range l {
		goals := []int{o.T, o.F}
		if o.Kind == api.OGoto {
			goals = goals[:1]
		} else if o.Kind < api.OEq || o.Kind > api.OGe {
			continue
		}
		for _, to := range goals {
			if place, found := seen[to]; to != yes && to != no && (!found || place <= i) {
				t.Fatalf("%v: step %d goes to %d", c, i, to)
			}
		}
	}
	return l
}

// edges are numbers by which the two words of an argument are told apart.
func edges(v uint64) []uint64 {
	const word = 1 << 32
	return []uint64{v, v + 1, v - 1, v + word, v - word, v ^ word, v &^ (word - 1), v & (word - 1), v<<32 | v>>32, ^v, 0, 1, all, 1 << 63, v | word - 1, v + word + 1, v + word - 1, v - word + 1}
}

// meant holds steps to what the condition says, on a record.
func meant(t *testing.T, c api.Cond, l []api.Op, yes, no int, rec string) {
	t.Helper()
	x, _ := call.Unpack(rec)
	want := no
	if mean.Holds(c, x) {
		want = yes
	}
	if got := word.Walk(l, rec); got != at(want) {
		t.Fatalf("%v of %v: %v, not %d", c, x.Args, got, want)
	}
}

// P19.2: tests: each sign, argument, mask and word.
func TestTests(t *testing.T) {
	const word = 1 << 32
	for _, sign := range []string{"==", "!=", "<", "<=", ">", ">="} {
		for i, v := range []uint64{0, 1, 5, word, word + 1, 3*word + 7, all, all - word, 1 << 63, word - 1, 0x0123456789abcdef} {
			for _, m := range []uint64{all, 0, 1, word - 1, all - word + 1, 0xf0f0f0f0f0f0f0f0, 1 << 63, v} {
				c := test(i%6, m, sign, v)
				l := made(t, c, 3, 4, 5+i)
				if len(l) > 9 {
					t.Errorf("%v: %d steps", c, len(l))
				}
				for _, arg := range edges(v) {
					args := []uint64{77, 77 << 32, v, all, 77, 0}
					args[c.Arg] = arg
					meant(t, c, l, 3, 4, record(9, args...))
				}
			}
		}
	}
}

// some is a random condition that may be.
func some(r *rand.Rand, deep int) api.Cond {
	if deep == 0 || r.Intn(4) == 0 {
		value := []uint64{0, 1, 2, 1 << 32, 1<<32 + 1, 2<<32 + 2}[r.Intn(6)]
		m := []uint64{all, all, 3, 3 << 32, 1<<33 + 1}[r.Intn(5)]
		return test(r.Intn(2), m, []string{"==", "!=", "<", "<=", ">", ">="}[r.Intn(6)], value)
	}
	if r.Intn(4) == 0 {
		return not(some(r, deep-1))
	}
	var kids []api.Cond
	for range 2 + r.Intn(2) {
		kids = append(kids, some(r, deep-1))
	}
	return api.Cond{Kind: []int{api.CAnd, api.COr}[r.Intn(2)], Kids: kids}
}

// P19.2: conditions of many tests; any labels.
func TestConditions(t *testing.T) {
	r := rand.New(rand.NewSource(2))
	values := []uint64{0, 1, 2, 3, 1 << 32, 1<<32 + 1, 1<<32 + 2, 2 << 32, 2<<32 + 2, all}
	for range 2000 {
		c := some(r, 3)
		if !types.Right(c) {
			continue
		}
		next := 2 + r.Intn(1000)
		yes, no := r.Intn(next), r.Intn(next)
		if yes == no {
			continue
		}
		l := made(t, c, yes, no, next)
		for range 20 {
			meant(t, c, l, yes, no, record(1, values[r.Intn(len(values))], values[r.Intn(len(values))]))
		}
	}
	a := test(0, all, "<", 5)
	deep := a
	for range 99 {
		deep = not(deep)
	}
	for _, c := range []api.Cond{deep, and(slices.Repeat([]api.Cond{a}, 99)...), or(slices.Repeat([]api.Cond{a}, 99)...)} {
		for _, next := range []int{2, 999999, 1000000} {
			l := made(t, c, next-1, 0, next)
			meant(t, c, l, next-1, 0, record(1, 4))
			meant(t, c, l, next-1, 0, record(1, 5))
		}
	}
}

// P19.2: Cond's errors.
func TestCondRefuses(t *testing.T) {
	a := test(0, all, "==", 1)
	check := func(c api.Cond, yes, no, next int) {
		t.Helper()
		if l, free, e := word.Cond(c, yes, no, next); len(l) != 0 || free != 0 || e != api.ErrArg {
			t.Errorf("Cond(%v, %d, %d, %d) = %v, %d, %d", c, yes, no, next, l, free, e)
		}
	}
	for _, c := range []api.Cond{{}, and(a), or(), not(and(a)), test(6, all, "==", 1), test(0, all, "", 1), {Kind: 9}, and(slices.Repeat([]api.Cond{a}, 100)...)} {
		check(c, 0, 1, 2)
		check(c, 1, 1, 2)
	}
	for _, x := range [][3]int{
		{0, 0, 1}, {1, 1, 5}, {-1, 0, 5}, {0, -1, 5}, {5, 0, 5}, {0, 5, 5}, {0, 6, 5}, {9, 0, 5}, {0, 1, 1}, {0, 1, 0}, {0, 1, -5}, {0, 1, 1000001}, {0, 1, math.MaxInt}, {0, 1, math.MinInt},
		{math.MinInt, 0, 5}, {0, math.MinInt, 5}, {math.MaxInt, 0, 5}, {0, math.MaxInt, 5}, {999999, 1000000, 1000000},
	} {
		check(a, x[0], x[1], x[2])
	}
	made(t, a, 0, 1, 2)
	made(t, a, 1, 0, 2)
	made(t, a, 999999, 999998, 1000000)
}

// P19.3: with steps put behind that begin with both labels, each with an answer, it is the answer that the condition says.
func TestAnswers(t *testing.T) {
	r := rand.New(rand.NewSource(3))
	for range 1000 {
		c := some(r, 2)
		l := made(t, c, 1, 2, 3)
		tail := []api.Op{label(1), ret(100), label(2), ret(200)}
		if r.Intn(2) == 0 {
			tail = []api.Op{label(2), ret(200), label(1), ret(100)}
		}
		rec := record(1, uint64(r.Intn(4)), uint64(r.Intn(4))<<32)
		x, _ := call.Unpack(rec)
		want := told(200)
		if mean.Holds(c, x) {
			want = told(100)
		}
		if got := word.Walk(slices.Concat(l, tail), rec); got != want {
			t.Fatalf("%v of %v: %v", c, x.Args, got)
		}
	}
}

// The chapter's examples.
func TestExamples(t *testing.T) {
	if got := word.Walk([]api.Op{load(0), jump(api.OEq, 5, 1, 2)}, record(5)); got != at(1) {
		t.Error(got)
	}
	if got := word.Walk(nil, record(5)); got != at(-1) {
		t.Error(got)
	}
}
