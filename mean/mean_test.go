package mean_test

import (
	"math"
	"math/rand"
	"slices"
	"strings"
	"testing"

	"doorward/api"
	"doorward/call"
	"doorward/mean"
)

const (
	all = math.MaxUint64
	x86 = 0xc000003e
)

func test(arg int, mask uint64, sign string, value uint64) api.Cond {
	return api.Cond{Kind: api.CTest, Arg: arg, Mask: mask, Sign: sign, Value: value}
}

func and(l ...api.Cond) api.Cond { return api.Cond{Kind: api.CAnd, Kids: l} }
func or(l ...api.Cond) api.Cond  { return api.Cond{Kind: api.COr, Kids: l} }
func not(c api.Cond) api.Cond    { return api.Cond{Kind: api.CNot, Kids: []api.Cond{c}} }

// yes and no hold for each call, and for none.
var yes, no = test(0, 0, "==", 0), test(0, 0, "==", 1)

func args(l ...uint64) api.Call {
	x := api.Call{Arch: x86}
	copy(x.Args[:], l)
	return x
}

func holds(t *testing.T, c api.Cond, x api.Call, want bool) {
	t.Helper()
	if mean.Holds(c, x) != want {
		t.Errorf("%v of %v: %v", c, x.Args, !want)
	}
}

// P18.1: tests, sign by sign.
func TestSigns(t *testing.T) {
	for _, v := range []struct{ arg, value uint64 }{{0, 0}, {0, 1}, {1, 0}, {5, 5}, {1 << 32, 1}, {1, 1 << 32}, {1<<32 + 1, 1 << 32}, {all, all}, {all, 0}, {0, all}, {1 << 63, 1<<63 - 1}, {1<<63 - 1, 1 << 63}, {1 << 31, 1 << 63}} {
		for arg := range 6 {
			x := api.Call{Args: [6]uint64{77, 77, 77, 77, 77, 77}}
			x.Args[arg] = v.arg
			holds(t, test(arg, all, "==", v.value), x, v.arg == v.value)
			holds(t, test(arg, all, "!=", v.value), x, v.arg != v.value)
			holds(t, test(arg, all, "<", v.value), x, v.arg < v.value)
			holds(t, test(arg, all, "<=", v.value), x, v.arg <= v.value)
			holds(t, test(arg, all, ">", v.value), x, v.arg > v.value)
			holds(t, test(arg, all, ">=", v.value), x, v.arg >= v.value)
		}
	}
}

// P18.1: the mask is and-ed with the argument, not with the value.
func TestMasks(t *testing.T) {
	x := args(0xff, 1<<40|3)
	holds(t, test(0, 0xf0, "==", 0xf0), x, true)
	holds(t, test(0, 0xf0, "==", 0xff), x, false)
	holds(t, test(0, 0xf0, "<", 0xff), x, true)
	holds(t, test(0, 0x0f, "==", 0x0f), x, true)
	holds(t, test(0, 0, "==", 0), x, true)
	holds(t, test(0, 0, "==", 0xff), x, false)
	holds(t, test(1, 1<<40, "==", 1<<40), x, true)
	holds(t, test(1, 0xffffffff, "==", 3), x, true)
	holds(t, test(1, 0xffffffff00000000, "==", 1<<40), x, true)
	holds(t, test(1, 0xffffffff00000000, ">", 3), x, true)
}

// P18.1: and, or, not.
func TestConditions(t *testing.T) {
	x := args(1)
	for _, c := range []struct {
		c    api.Cond
		want bool
	}{
		{yes, true}, {no, false}, {and(yes, yes), true}, {and(yes, no), false}, {and(no, yes), false}, {and(no, no), false}, {and(yes, yes, no), false}, {and(yes, yes, yes), true},
		{or(yes, yes), true}, {or(yes, no), true}, {or(no, yes), true}, {or(no, no), false}, {or(no, no, yes), true}, {not(yes), false}, {not(no), true}, {not(not(yes)), true},
		{and(or(no, yes), not(and(yes, no))), true}, {or(and(yes, no), not(or(no, yes))), false},
	} {
		holds(t, c.c, x, c.want)
	}
}

// P18.1: a condition that is zero holds; any other one that may not be does not, nor does one that it is in.
func TestConditionsThatMayNotBe(t *testing.T) {
	x := args(1)
	holds(t, api.Cond{}, x, true)
	holds(t, api.Cond{Kids: []api.Cond{}}, x, true)
	for _, c := range []api.Cond{
		{Arg: 1}, {Mask: 1}, {Sign: "=="}, {Value: 1}, {Kids: []api.Cond{yes}}, {Kind: 5}, {Kind: -1}, and(), or(), and(yes), or(yes), {Kind: api.CNot}, {Kind: api.CNot, Kids: []api.Cond{no, no}},
		test(6, 0, "==", 0), test(-1, 0, "==", 0), test(math.MaxInt, 0, "==", 0), test(0, 0, "", 0), test(0, 0, "=", 0), test(0, 0, "!", 1), and(yes, api.Cond{}), or(yes, api.Cond{}), not(api.Cond{}), not(test(0, 0, "?", 1)),
		not(and(no)), or(yes, and(yes)), {Kind: api.CAnd, Kids: []api.Cond{yes, yes}, Sign: "=="}, {Kind: api.CNot, Kids: []api.Cond{no}, Mask: 1}, {Kind: api.CTest, Sign: "==", Kids: []api.Cond{yes}},
		or(slices.Repeat([]api.Cond{yes}, 100)...),
	} {
		holds(t, c, x, false)
	}
	holds(t, or(slices.Repeat([]api.Cond{yes}, 99)...), x, true)
	deep := yes
	for range 98 {
		deep = not(deep)
	}
	holds(t, deep, x, true)
	holds(t, not(deep), x, false)
	holds(t, not(not(deep)), x, false) // of more than 100
	holds(t, not(not(not(deep))), x, false)
}

func match(action uint32, c api.Cond, nrs ...uint32) api.Match {
	return api.Match{Nrs: nrs, If: c, Action: action}
}

// P18.1: Eval: the first rule that matches, else the default; another architecture is killed.
func TestEval(t *testing.T) {
	one := api.Typed{Arch: x86, Default: 9, Rules: []api.Match{
		match(1, test(0, all, "==", 1), 4, 5), match(2, api.Cond{}, 5, 6), match(3, api.Cond{}, 4, 5, 6, 7), match(4, and(yes), 8), match(5, yes, 8, 0), match(6, yes), match(7, yes, math.MaxUint32, 3, 3, 2),
	}}
	for _, c := range []struct {
		nr   uint32
		arg  uint64
		want uint32
	}{{4, 1, 1}, {4, 2, 3}, {5, 1, 1}, {5, 2, 2}, {6, 1, 2}, {7, 1, 3}, {8, 0, 5}, {0, 0, 5}, {1, 0, 9}, {9, 1, 9}, {math.MaxUint32, 0, 7}, {2, 0, 7}, {3, 0, 7}} {
		x := api.Call{Nr: c.nr, Arch: x86, Args: [6]uint64{c.arg, 1, 1, 1, 1, 1}, IP: 7}
		if n := mean.Eval(one, x); n != c.want {
			t.Errorf("Eval of %v: %d", x, n)
		}
		if n, e := mean.Of(one, call.Pack(x)); n != c.want || e != api.OK {
			t.Errorf("Of %v: %d, %d", x, n, e)
		}
		for _, arch := range []uint32{0, 0xc00000b7, x86 + 1, 0x3e} {
			x.Arch = arch
			if n := mean.Eval(one, x); n != api.KillProcess {
				t.Errorf("Eval of %v: %d", x, n)
			}
		}
	}
	if n := mean.Eval(api.Typed{}, api.Call{}); n != 0 {
		t.Error(n)
	}
	if n := mean.Eval(api.Typed{Default: 3}, api.Call{Nr: 1}); n != 3 {
		t.Error(n)
	}
	if n := mean.Eval(api.Typed{}, api.Call{Arch: 1}); n != api.KillProcess {
		t.Error(n)
	}
}

// P18.2: Of a record that has not 64 bytes.
func TestOf(t *testing.T) {
	for _, n := range []int{0, 1, 63, 65, 128} {
		for _, p := range []api.Typed{{}, {Arch: x86, Default: 9, Rules: []api.Match{match(1, yes, 0)}}} {
			if a, e := mean.Of(p, strings.Repeat("\x00", n)); a != 0 || e != api.ErrRecord {
				t.Errorf("Of %d bytes: %d, %d", n, a, e)
			}
		}
	}
	b := []byte(call.Pack(api.Call{Nr: 5, Arch: x86, Args: [6]uint64{0, 0, 0, 0, 0, 1 << 33}}))
	p := api.Typed{Arch: x86, Default: 9, Rules: []api.Match{match(1, test(5, all, ">", 1<<32), 5)}}
	if a, e := mean.Of(p, string(b)); a != 1 || e != api.OK {
		t.Error(a, e)
	}
	b[60] = 0
	if a, e := mean.Of(p, string(b)); a != 9 || e != api.OK {
		t.Error(a, e)
	}
}

// some is a random condition that may be.
func some(r *rand.Rand, deep int) api.Cond {
	if deep == 0 || r.Intn(3) == 0 {
		return test(r.Intn(6), uint64(r.Intn(4)), []string{"==", "!=", "<", "<=", ">", ">="}[r.Intn(6)], uint64(r.Intn(4)))
	}
	if r.Intn(3) == 0 {
		return not(some(r, deep-1))
	}
	var kids []api.Cond
	for range 2 + r.Intn(3) {
		kids = append(kids, some(r, deep-1))
	}
	return api.Cond{Kind: []int{api.CAnd, api.COr}[r.Intn(2)], Kids: kids}
}

func someCall(r *rand.Rand) api.Call {
	x := api.Call{Nr: uint32(r.Intn(4)), Arch: x86}
	for i := range x.Args {
		x.Args[i] = uint64(r.Intn(4))
	}
	return x
}

// P18.3: a condition and CNot of it do not both hold; CNot of CAnd holds just if COr of all its kids' CNots does.
func TestNotOfConditions(t *testing.T) {
	r := rand.New(rand.NewSource(1))
	for range 5000 {
		c, x := some(r, 2), someCall(r)
		if mean.Holds(c, x) == mean.Holds(not(c), x) {
			t.Fatalf("%v and its CNot, of %v", c, x)
		}
		var kids, nots []api.Cond
		for range 2 + r.Intn(3) {
			kid := some(r, 1)
			kids, nots = append(kids, kid), append(nots, not(kid))
		}
		if mean.Holds(not(and(kids...)), x) != mean.Holds(or(nots...), x) {
			t.Fatalf("CNot of CAnd of %v, of %v", kids, x)
		}
	}
}

// P18.3: with a rule more behind all others a call that one of them matches is answered the same; what is answered is the default, KillProcess, or a rule's action.
func TestRulesBehind(t *testing.T) {
	r := rand.New(rand.NewSource(2))
	for range 3000 {
		p := api.Typed{Arch: x86, Default: 100}
		actions := []uint32{100, api.KillProcess}
		for i := range r.Intn(5) {
			c := some(r, 1)
			if r.Intn(3) == 0 {
				c = api.Cond{}
			}
			p.Rules = append(p.Rules, match(uint32(i), c, uint32(r.Intn(4)), uint32(r.Intn(4))))
			actions = append(actions, uint32(i))
		}
		x := someCall(r)
		if r.Intn(10) == 0 {
			x.Arch++
		}
		first := mean.Eval(p, x)
		if !slices.Contains(actions, first) {
			t.Fatalf("%v of %v: %d", p, x, first)
		}
		p.Rules = append(p.Rules, match(50, api.Cond{}, 0, 1, 2, 3))
		if again := mean.Eval(p, x); first != 100 && again != first || first == 100 && again != 50 {
			t.Fatalf("%v of %v: %d, not %d", p, x, again, first)
		}
	}
}

// The chapter's example.
func TestExample(t *testing.T) {
	p := api.Typed{Arch: x86, Default: api.Allow, Rules: []api.Match{match(0x5000d, test(0, all, "==", 1), 1)}}
	for arg, want := range map[uint64]uint32{1: 0x5000d, 2: 0x7fff0000} {
		if n := mean.Eval(p, api.Call{Nr: 1, Arch: x86, Args: [6]uint64{arg}}); n != want {
			t.Errorf("write with %d: %x", arg, n)
		}
	}
}
