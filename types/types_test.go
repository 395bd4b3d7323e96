package types_test

import (
	"math"
	"math/rand"
	"slices"
	"strings"
	"testing"

	"doorward/api"
	"doorward/types"
)

const (
	x86 = 0xc000003e
	arm = 0xc00000b7
)

func sameCond(a, b api.Cond) bool {
	return a.Kind == b.Kind && a.Arg == b.Arg && a.Mask == b.Mask && a.Sign == b.Sign && a.Value == b.Value && slices.EqualFunc(a.Kids, b.Kids, sameCond)
}

func same(a, b api.Typed) bool {
	return a.Arch == b.Arch && a.Default == b.Default && slices.EqualFunc(a.Rules, b.Rules, func(x, y api.Match) bool {
		return slices.Equal(x.Nrs, y.Nrs) && sameCond(x.If, y.If) && x.Action == y.Action
	})
}

func test() api.Cond {
	return api.Cond{Kind: api.CTest, Arg: 1, Mask: math.MaxUint64, Sign: "<", Value: 5}
}

func of(kind int, kids ...api.Cond) api.Cond { return api.Cond{Kind: kind, Kids: kids} }

func not(c api.Cond) api.Cond { return of(api.CNot, c) }

// chain is n conditions, each within another one.
func chain(n int) api.Cond {
	c := test()
	for range n - 1 {
		c = not(c)
	}
	return c
}

// tests is a condition of n tests.
func tests(n int) api.Cond { return of(api.CAnd, slices.Repeat([]api.Cond{test()}, n)...) }

// with is a test that is changed.
func with(change func(c *api.Cond)) api.Cond {
	c := test()
	change(&c)
	return c
}

// right are conditions that may be, and how many tests they have.
func right() map[int][]api.Cond {
	ones := []api.Cond{test(), chain(2), chain(100), with(func(c *api.Cond) { c.Arg = 0 }), with(func(c *api.Cond) { c.Arg = 5 }), with(func(c *api.Cond) { c.Mask, c.Value = 0, math.MaxUint64 }), with(func(c *api.Cond) { c.Kids = []api.Cond{} })}
	for _, s := range []string{"==", "!=", "<", "<=", ">", ">="} {
		ones = append(ones, with(func(c *api.Cond) { c.Sign = s }))
	}
	return map[int][]api.Cond{
		1:  ones,
		2:  {tests(2), of(api.COr, test(), not(test())), not(of(api.COr, not(test()), test()))},
		3:  {tests(3), of(api.COr, tests(2), test()), of(api.CAnd, tests(2), test()), of(api.COr, of(api.COr, test(), test()), test())},
		40: {tests(40)}, 41: {tests(41), of(api.COr, tests(20), tests(21))},
		50: {of(api.CAnd, append(slices.Repeat([]api.Cond{not(test())}, 49), test())...)},
		98: {not(tests(98))}, 99: {tests(99)}, 97: {of(api.COr, tests(48), tests(49))},
	}
}

// wrong are conditions that may not be; zero is one of them.
func wrong() []api.Cond {
	l := []api.Cond{
		{}, {Kind: -1}, {Kind: 5}, {Kind: math.MaxInt}, {Kind: math.MinInt}, {Kind: api.CAnd}, {Kind: api.COr}, {Kind: api.CNot}, {Kids: []api.Cond{test(), test()}},
		of(api.CAnd, test()), of(api.COr, test()), of(api.CNot, test(), test()), of(api.CTest, test()), of(0, test()), of(5, test(), test()),
		chain(101), tests(100), tests(101), tests(1000), not(tests(99)), of(api.COr, tests(49), tests(49)), of(api.CAnd, slices.Repeat([]api.Cond{not(test())}, 50)...),
		not(api.Cond{}), of(api.CAnd, test(), api.Cond{}), of(api.COr, api.Cond{}, test()), of(api.CAnd, tests(2), of(api.COr, test())),
		with(func(c *api.Cond) { c.Kids = []api.Cond{test()} }), not(with(func(c *api.Cond) { c.Sign = "" })), of(api.CAnd, test(), test(), with(func(c *api.Cond) { c.Arg = 6 })),
	}
	for _, n := range []int{-1, 6, math.MinInt, math.MaxInt} {
		l = append(l, with(func(c *api.Cond) { c.Arg = n }))
	}
	for _, s := range []string{"", "=", "!", "&", "===", "== ", "<>", "=<", "and"} {
		l = append(l, with(func(c *api.Cond) { c.Sign = s }))
	}
	for _, c := range []api.Cond{tests(2), of(api.COr, test(), test()), not(test())} {
		for i := range 5 {
			x := c
			switch i {
			case 0:
				x.Arg = 1
			case 1:
				x.Mask = 1
			case 2:
				x.Sign = "=="
			case 3:
				x.Value = 1
			case 4:
				x.Arg = -1
			}
			l = append(l, x, of(api.CAnd, test(), x))
		}
	}
	return l
}

// P16.1: Right and Tests.
func TestRightAndTests(t *testing.T) {
	for n, l := range right() {
		for i, c := range l {
			if !types.Right(c) || types.Tests(c) != n {
				t.Errorf("condition %d of %d tests: %v, %d", i, n, types.Right(c), types.Tests(c))
			}
		}
	}
	for i, c := range wrong() {
		if types.Right(c) || types.Tests(c) != 0 {
			t.Errorf("condition %d may not be: %d, %v", i, types.Tests(c), c.Kind)
		}
	}
}

// P1: conditions far too deep, too wide, or that share what is in them, end soon.
func TestGreatConditions(t *testing.T) {
	shared := test()
	for range 20 {
		shared = of(api.CAnd, shared, shared)
	}
	wide := slices.Repeat([]api.Cond{of(api.CAnd, test(), test())}, 1<<17)
	wider := of(api.COr, wide...)
	for i, c := range []api.Cond{chain(50000), shared, wider, of(api.CAnd, wider, wider), not(wider), of(api.CNot, wide...), of(9, wide...)} {
		if types.Right(c) || types.Tests(c) != 0 {
			t.Errorf("condition %d may not be", i)
		}
		p := api.Policy{Arch: "x86_64", Default: "allow", Rules: []api.Rule{{Action: "allow", Names: []string{"read"}, If: c}}}
		if x, e := types.Check(p); e != api.ErrType || !same(x, api.Typed{}) {
			t.Errorf("condition %d: %d", i, e)
		}
	}
}

func policy(rules ...api.Rule) api.Policy {
	return api.Policy{Arch: "x86_64", Default: "allow", Rules: rules}
}

func rule(names ...string) api.Rule { return api.Rule{Action: "errno", Data: 13, Names: names} }

func ruled(c api.Cond) api.Rule {
	r := rule("read")
	r.If = c
	return r
}

// P16.2, P16.3: what Check makes.
func TestCheck(t *testing.T) {
	for _, c := range []struct {
		p    api.Policy
		want api.Typed
	}{
		{policy(), api.Typed{Arch: x86, Default: 0x7fff0000}},
		{api.Policy{Arch: "aarch64", Default: "kill"}, api.Typed{Arch: arm, Default: 0x80000000}},
		{api.Policy{Arch: "aarch64", Default: "kill_thread", Rules: []api.Rule{}}, api.Typed{Arch: arm}},
		{api.Policy{Arch: "x86_64", Default: "trace", Data: 65535}, api.Typed{Arch: x86, Default: 0x7ff0ffff}},
		{policy(rule("write", "read")), api.Typed{Arch: x86, Default: 0x7fff0000, Rules: []api.Match{{Nrs: []uint32{0, 1}, Action: 0x5000d}}}},
		{policy(rule("openat", "read", "openat", "ioctl", "read", "read")), api.Typed{Arch: x86, Default: 0x7fff0000, Rules: []api.Match{{Nrs: []uint32{0, 16, 257}, Action: 0x5000d}}}},
		{policy(rule("exit"), rule("brk"), api.Rule{Action: "log", Names: []string{"exit"}}), api.Typed{Arch: x86, Default: 0x7fff0000, Rules: []api.Match{{Nrs: []uint32{60}, Action: 0x5000d}, {Nrs: []uint32{12}, Action: 0x5000d}, {Nrs: []uint32{60}, Action: 0x7ffc0000}}}},
		{api.Policy{Arch: "aarch64", Default: "allow", Rules: []api.Rule{rule("write", "close", "read")}}, api.Typed{Arch: arm, Default: 0x7fff0000, Rules: []api.Match{{Nrs: []uint32{57, 63, 64}, Action: 0x5000d}}}},
	} {
		if got, e := types.Check(c.p); !same(got, c.want) || e != api.OK {
			t.Errorf("Check(%v) = %v, %d", c.p, got, e)
		}
	}
	for n, l := range right() {
		for _, c := range l {
			want := api.Typed{Arch: x86, Default: 0x7fff0000, Rules: []api.Match{{Nrs: []uint32{0}, If: c, Action: 0x5000d}}}
			got, e := types.Check(policy(ruled(c)))
			if n <= 40 && (!same(got, want) || e != api.OK) || n > 40 && (!same(got, api.Typed{}) || e != api.ErrLong) {
				t.Errorf("%d tests: %v, %d", n, got, e)
			}
		}
	}
	most := policy(slices.Repeat([]api.Rule{rule("read")}, 24)...)
	if got, e := types.Check(most); len(got.Rules) != 24 || e != api.OK {
		t.Error(len(got.Rules), e)
	}
}

// P16.2: what Check refuses.
func TestCheckRefuses(t *testing.T) {
	check := func(what string, p api.Policy, want api.Errno) {
		t.Helper()
		if got, e := types.Check(p); !same(got, api.Typed{}) || e != want {
			t.Errorf("%s: %v, %d", what, got, e)
		}
	}
	change := func(f func(p *api.Policy)) api.Policy {
		p := policy(rule("read"), rule("write", "close"))
		f(&p)
		return p
	}
	check("nothing", api.Policy{}, api.ErrType)
	for _, name := range []string{"", "x86", "X86_64", "arm"} {
		check("the architecture", change(func(p *api.Policy) { p.Arch = name }), api.ErrType)
	}
	for _, name := range []string{"", "deny", "read", "Allow"} {
		check("the default", change(func(p *api.Policy) { p.Default = name }), api.ErrType)
		check("an action", change(func(p *api.Policy) { p.Rules[1].Action = name }), api.ErrType)
	}
	check("the default's datum", change(func(p *api.Policy) { p.Data = 1 }), api.ErrType)
	check("the default's datum", change(func(p *api.Policy) { p.Default, p.Data = "errno", 4096 }), api.ErrType)
	check("a datum", change(func(p *api.Policy) { p.Rules[0].Data = 4096 }), api.ErrType)
	check("a datum", change(func(p *api.Policy) { p.Rules[1].Data = 1 << 32 }), api.ErrType)
	check("no names", change(func(p *api.Policy) { p.Rules[1].Names = nil }), api.ErrType)
	check("no names", change(func(p *api.Policy) { p.Rules[0].Names = []string{} }), api.ErrType)
	for _, name := range []string{"", "none", "READ", "allow"} {
		check("a name", change(func(p *api.Policy) { p.Rules[1].Names = []string{"read", name} }), api.ErrType)
		check("a name", change(func(p *api.Policy) { p.Rules[0].Names = []string{name, "read"} }), api.ErrType)
	}
	for _, name := range []string{"open", "stat", "access", "pipe", "fork"} {
		check("a name of the other architecture", api.Policy{Arch: "aarch64", Default: "allow", Rules: []api.Rule{rule(name)}}, api.ErrType)
		if _, e := types.Check(policy(rule(name))); e != api.OK {
			t.Errorf("%s: %d", name, e)
		}
	}
	for i, c := range wrong() {
		if !sameCond(c, api.Cond{}) {
			check("condition "+strings.Repeat("i", i), policy(rule("read"), ruled(c)), api.ErrType)
		}
	}
	for _, c := range []api.Cond{{Arg: 1}, {Mask: 1}, {Sign: "=="}, {Value: 1}, {Kids: []api.Cond{{}}}, {Kids: []api.Cond{test()}}} {
		check("of Kind 0, but not zero", policy(ruled(c)), api.ErrType)
	}
	if _, e := types.Check(policy(ruled(api.Cond{Kids: []api.Cond{}}))); e != api.OK {
		t.Error("no kids are none", e)
	}
}

// P16.2: ErrLong comes ahead of ErrType.
func TestLongComesFirst(t *testing.T) {
	check := func(p api.Policy) {
		t.Helper()
		if got, e := types.Check(p); !same(got, api.Typed{}) || e != api.ErrLong {
			t.Errorf("%v, %d", got, e)
		}
	}
	check(policy(slices.Repeat([]api.Rule{rule("read")}, 25)...))
	check(api.Policy{Rules: make([]api.Rule, 25)})
	check(policy(rule("none"), ruled(tests(41))))
	check(api.Policy{Rules: []api.Rule{{}, {If: tests(41)}}})
	check(api.Policy{Rules: []api.Rule{{If: tests(99)}, {If: tests(100)}}})
	if _, e := types.Check(api.Policy{Rules: slices.Repeat([]api.Rule{rule("none")}, 24)}); e != api.ErrType {
		t.Error(e)
	}
}

// P16.3: names in another order, or told twice, make the same; each rule has numbers, rising, each once. R4: no argument changes.
func TestNamesInAnotherOrder(t *testing.T) {
	r := rand.New(rand.NewSource(1))
	names := []string{"read", "write", "open", "close", "stat", "mmap", "brk", "openat", "seccomp", "futex"}
	for range 500 {
		l := slices.Clone(names[:1+r.Intn(len(names))])
		more := slices.Concat(l, l[:r.Intn(len(l))])
		r.Shuffle(len(more), func(i, j int) { more[i], more[j] = more[j], more[i] })
		was := slices.Clone(more)
		a, e := types.Check(policy(rule(l...)))
		b, f := types.Check(policy(rule(more...)))
		if e != api.OK || f != api.OK || !same(a, b) || !slices.Equal(more, was) {
			t.Fatalf("%v, %d, %v, %d", a, e, b, f)
		}
		nrs := a.Rules[0].Nrs
		for i := range nrs {
			if len(nrs) != len(l) || i > 0 && nrs[i-1] >= nrs[i] {
				t.Fatal(nrs)
			}
		}
	}
}
