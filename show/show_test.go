package show_test

import (
	"math"
	"math/rand"
	"slices"
	"strconv"
	"strings"
	"testing"

	"doorward/api"
	"doorward/parse"
	"doorward/show"
)

const all = math.MaxUint64

func sameCond(a, b api.Cond) bool {
	return a.Kind == b.Kind && a.Arg == b.Arg && a.Mask == b.Mask && a.Sign == b.Sign && a.Value == b.Value && slices.EqualFunc(a.Kids, b.Kids, sameCond)
}

func same(a, b api.Policy) bool {
	return a.Arch == b.Arch && a.Default == b.Default && a.Data == b.Data && slices.EqualFunc(a.Rules, b.Rules, func(x, y api.Rule) bool {
		return x.Action == y.Action && x.Data == y.Data && slices.Equal(x.Names, y.Names) && sameCond(x.If, y.If)
	})
}

func test(arg int, sign string, value uint64) api.Cond {
	return api.Cond{Kind: api.CTest, Arg: arg, Mask: all, Sign: sign, Value: value}
}

func and(l ...api.Cond) api.Cond { return api.Cond{Kind: api.CAnd, Kids: l} }
func or(l ...api.Cond) api.Cond  { return api.Cond{Kind: api.COr, Kids: l} }
func not(c api.Cond) api.Cond    { return api.Cond{Kind: api.CNot, Kids: []api.Cond{c}} }

func masked(mask uint64) api.Cond {
	c := test(1, "!=", 0)
	c.Mask = mask
	return c
}

func nots(n int, c api.Cond) api.Cond {
	for range n {
		c = not(c)
	}
	return c
}

var a, b, c, d = test(0, "==", 1), test(1, "<", 2), test(2, ">=", all), test(5, "!=", 0)

const ta, tb, tc, td = "arg0 == 1", "arg1 < 2", "arg2 >= 18446744073709551615", "arg5 != 0"

// P17.1: Cond.
func TestCond(t *testing.T) {
	for _, x := range []struct {
		c    api.Cond
		want string
	}{
		{a, ta}, {b, tb}, {c, tc}, {d, td}, {test(3, "<=", 0x10), "arg3 <= 16"}, {test(4, ">", 0), "arg4 > 0"},
		{masked(0), "arg1 & 0 != 0"}, {masked(255), "arg1 & 255 != 0"}, {masked(all - 1), "arg1 & 18446744073709551614 != 0"}, {masked(all), "arg1 != 0"},
		{not(a), "not " + ta}, {not(not(a)), "not not " + ta}, {not(and(a, b)), "not (" + ta + " and " + tb + ")"}, {not(or(a, b)), "not (" + ta + " or " + tb + ")"},
		{and(a, b), ta + " and " + tb}, {or(a, b, c), ta + " or " + tb + " or " + tc}, {and(a, not(b), c), ta + " and not " + tb + " and " + tc}, {or(not(a), not(b)), "not " + ta + " or not " + tb},
		{and(and(a, b), c), "(" + ta + " and " + tb + ") and " + tc}, {and(a, or(b, c)), ta + " and (" + tb + " or " + tc + ")"}, {and(or(a, b), and(c, d)), "(" + ta + " or " + tb + ") and (" + tc + " and " + td + ")"},
		{or(and(a, b), c), ta + " and " + tb + " or " + tc}, {or(or(a, b), c), "(" + ta + " or " + tb + ") or " + tc}, {or(a, and(b, c), or(c, d)), ta + " or " + tb + " and " + tc + " or (" + tc + " or " + td + ")"},
		{or(and(a, or(b, c)), not(and(c, or(a, d)))), ta + " and (" + tb + " or " + tc + ") or not (" + tc + " and (" + ta + " or " + td + "))"},
		{nots(99, a), strings.Repeat("not ", 99) + ta},
		{api.Cond{Kind: api.CTest, Sign: "==", Kids: []api.Cond{}}, "arg0 & 0 == 0"},
	} {
		if s, e := show.Cond(x.c); s != x.want || e != api.OK {
			t.Errorf("%q, %d, not %q", s, e, x.want)
		}
	}
	for i, c := range wrongConds() {
		if s, e := show.Cond(c); s != "" || e != api.ErrArg {
			t.Errorf("condition %d: %q, %d", i, s, e)
		}
	}
}

// wrongConds are conditions that may not be; the first one is zero.
func wrongConds() []api.Cond {
	named := and(a, b)
	named.Sign = "=="
	shared := a
	for range 20 {
		shared = and(shared, shared)
	}
	return []api.Cond{
		{}, {Kind: 9}, {Kind: -1}, and(a), or(), not(and(a)), {Kind: api.CNot}, {Kind: api.CNot, Kids: []api.Cond{a, b}}, test(6, "==", 1), test(-1, "==", 1), test(0, "=", 1), test(0, "", 1),
		named, and(a, api.Cond{}), nots(100, a), nots(5000, a), shared, and(slices.Repeat([]api.Cond{a}, 100)...), {Kind: api.CTest, Sign: "==", Kids: []api.Cond{a}},
	}
}

func policy(rules ...api.Rule) api.Policy {
	return api.Policy{Arch: "x86_64", Default: "kill", Rules: rules}
}

func rule(names ...string) api.Rule { return api.Rule{Action: "allow", Names: names} }

func ruled(c api.Cond) api.Policy {
	return policy(api.Rule{Action: "errno", Data: 13, Names: []string{"read"}, If: c})
}

// printed holds a policy, that can be written, to its source.
func printed(t *testing.T, p api.Policy, want string) {
	t.Helper()
	if s, e := show.Print(p); s != want || e != api.OK || !show.Right(p) {
		t.Errorf("%q, %d, %v, not %q", s, e, show.Right(p), want)
	}
	if got, e, _ := parse.Parse(want); e != api.OK || !same(got, p) {
		t.Errorf("%q is parsed as %v, %d", want, got, e)
	}
}

func refused(t *testing.T, p api.Policy) {
	t.Helper()
	if s, e := show.Print(p); s != "" || e != api.ErrArg || show.Right(p) {
		t.Errorf("%v: %q, %d, %v", p, s, e, show.Right(p))
	}
}

// P17.1: Print, and Right, of policies that can be written.
func TestPrint(t *testing.T) {
	const head = "arch x86_64\ndefault kill\n"
	printed(t, policy(), head)
	printed(t, api.Policy{Arch: "a", Default: "b", Data: all}, "arch a\ndefault b 18446744073709551615\n")
	printed(t, api.Policy{Arch: "arch", Default: "default", Data: 1, Rules: []api.Rule{{Action: "arch", Names: []string{"default", "arg0", "_"}}}}, "arch arch\ndefault default 1\narch default arg0 _\n")
	printed(t, policy(rule("read", "write", "read"), api.Rule{Action: "trap", Data: 16, Names: []string{"open"}}), head+"allow read write read\ntrap 16 open\n")
	printed(t, ruled(or(and(a, b), not(or(c, d)))), head+"errno 13 read if "+ta+" and "+tb+" or not ("+tc+" or "+td+")\n")
	printed(t, policy(api.Rule{Action: "x", Names: []string{"y"}, If: api.Cond{}}, api.Rule{Action: "x", Names: []string{"y"}, If: a}), head+"x y\nx y if "+ta+"\n")
	if s, e := show.Print(ruled(api.Cond{Kids: []api.Cond{}})); s != head+"errno 13 read\n" || e != api.OK {
		t.Errorf("%q, %d", s, e)
	}
	printed(t, policy(slices.Repeat([]api.Rule{rule("r")}, 100)...), head+strings.Repeat("allow r\n", 100))
}

// P17.1: words that are none, or reserved; rules without a name; conditions that may not be.
func TestRightRefuses(t *testing.T) {
	for _, w := range []string{"", " ", "a b", "a ", " a", "a\n", "\n", "#", "a#", "A", "5", "5a", "==", "(", "a(", "é", "\x00", "a\x00", "if", "and", "or", "not", strings.Repeat("a", 2001)} {
		p := policy(rule("read"), rule("write", "close"))
		p.Arch = w
		refused(t, p)
		p = policy(rule("read"), rule("write", "close"))
		p.Default = w
		refused(t, p)
		p = policy(rule("read"), rule("write", "close"))
		p.Rules[1].Action = w
		refused(t, p)
		refused(t, policy(rule("read"), rule("write", w)))
		refused(t, policy(rule(w), rule("write")))
	}
	refused(t, api.Policy{})
	refused(t, policy(rule()))
	refused(t, policy(rule("read"), api.Rule{Action: "kill", Names: []string{}}))
	for _, c := range wrongConds()[1:] {
		refused(t, ruled(c))
	}
	for _, c := range []api.Cond{{Arg: 1}, {Mask: 1}, {Sign: "=="}, {Value: 1}, {Kids: []api.Cond{{}}}, {Kids: []api.Cond{a, b}}} {
		refused(t, ruled(c))
	}
}

// P17.1: no factor is deeper than 8, as it is written.
func TestDepth(t *testing.T) {
	nest := func(n int) api.Cond {
		x := and(a, b)
		for range n {
			x = and(a, x)
		}
		return x
	}
	either := func(n int) api.Cond {
		x := or(a, b)
		for range n {
			x = or(x, a)
		}
		return x
	}
	turns := func(n int, x api.Cond) api.Cond {
		for i := range n {
			x = or(a, and(a, x))
			if i%2 == 0 {
				x = not(x)
			}
		}
		return x
	}
	for _, c := range []api.Cond{
		a, nots(8, a), nest(8), either(8), nots(7, and(a, b)), nots(6, and(or(a, b), c)), not(nest(6)), and(nots(8, a), nots(8, b)), or(and(nots(8, a), b), nots(8, b)), or(nest(8), nest(8)),
		and(a, nots(7, or(a, b))), nots(7, or(and(a, b), c)), turns(3, or(a, b)),
	} {
		p := ruled(c)
		s, _ := show.Cond(c)
		printed(t, p, "arch x86_64\ndefault kill\nerrno 13 read if "+s+"\n")
	}
	for _, c := range []api.Cond{
		nots(9, a), nest(9), either(9), nots(8, and(a, b)), nots(8, or(a, b)), nots(7, and(or(a, b), c)), not(nest(7)), not(either(7)), and(nots(9, a), a), or(a, nots(9, a)), or(and(a, nots(9, a)), b), or(nest(9), a),
		and(a, nots(8, or(a, b))), nots(30, a),
	} {
		refused(t, ruled(c))
		s, _ := show.Cond(c)
		if _, e, _ := parse.Parse("arch x86_64\ndefault kill\nerrno 13 read if " + s); e != api.ErrDeep {
			t.Errorf("%q: %d", s, e)
		}
	}
}

// P17.1: the source has at most 2000 bytes.
func TestLength(t *testing.T) {
	const head = "arch x86_64\ndefault kill\n"
	room := 2000 - len(head) - len("allow \n")
	name := strings.Repeat("a", room)
	printed(t, policy(rule(name)), head+"allow "+name+"\n")
	refused(t, policy(rule(name+"a")))
	refused(t, policy(rule(name, "a")))
	refused(t, policy(slices.Repeat([]api.Rule{rule("read")}, 1000)...))
	wide := and(slices.Repeat([]api.Cond{c}, 99)...)
	if s, e := show.Cond(wide); len(s) != 99*len(tc)+98*5 || e != api.OK {
		t.Error(len(s), e)
	}
	refused(t, ruled(wide))
}

// some is a random condition, of which no more than so many kinds are within one another.
func some(r *rand.Rand, deep int) api.Cond {
	switch {
	case deep == 0 || r.Intn(3) == 0:
		x := test(r.Intn(6), []string{"==", "!=", "<", "<=", ">", ">="}[r.Intn(6)], r.Uint64()>>r.Intn(64))
		if r.Intn(3) == 0 {
			x.Mask = r.Uint64() >> r.Intn(64)
		}
		return x
	case r.Intn(3) == 0:
		return not(some(r, deep-1))
	}
	var kids []api.Cond
	for range 2 + r.Intn(2) {
		kids = append(kids, some(r, deep-1))
	}
	return api.Cond{Kind: []int{api.CAnd, api.COr}[r.Intn(2)], Kids: kids}
}

// plain writes a condition as the chapter's words tell it.
func plain(c api.Cond) string {
	factor := func(c api.Cond) string {
		if c.Kind == api.CTest || c.Kind == api.CNot {
			return plain(c)
		}
		return "(" + plain(c) + ")"
	}
	switch c.Kind {
	case api.CTest:
		s := "arg" + strconv.Itoa(c.Arg)
		if c.Mask != all {
			s += " & " + strconv.FormatUint(c.Mask, 10)
		}
		return s + " " + c.Sign + " " + strconv.FormatUint(c.Value, 10)
	case api.CNot:
		return "not " + factor(c.Kids[0])
	}
	s := ""
	for i, kid := range c.Kids {
		switch {
		case i > 0 && c.Kind == api.CAnd:
			s += " and "
		case i > 0:
			s += " or "
		}
		if c.Kind == api.COr && kid.Kind == api.CAnd {
			s += plain(kid)
		} else {
			s += factor(kid)
		}
	}
	return s
}

// P17.2: what is written is parsed as that policy; what is parsed, with other blanks and parentheses, is written, parsed as the same, and written again as itself.
func TestBackAndForth(t *testing.T) {
	r := rand.New(rand.NewSource(1))
	seen := 0
	for range 4000 {
		p := api.Policy{Arch: "aarch64", Default: "trap", Data: uint64(r.Intn(3))}
		loose := "\narch  aarch64 # a\ndefault trap " + strconv.FormatUint(p.Data, 10) + "\n\n"
		for range r.Intn(4) {
			x := api.Rule{Action: "errno", Data: uint64(r.Intn(3)), Names: slices.Repeat([]string{"read", "write"}, 1+r.Intn(2))}
			loose += "errno 0x" + strconv.FormatUint(x.Data, 16) + "  " + strings.Join(x.Names, "\t")
			if r.Intn(3) > 0 {
				x.If = some(r, 3)
				s, e := show.Cond(x.If)
				if s != plain(x.If) || e != api.OK {
					t.Fatalf("%q, %d, not %q", s, e, plain(x.If))
				}
				loose += " if ((" + strings.ReplaceAll(s, " ", "  ") + "))"
			}
			p.Rules, loose = append(p.Rules, x), loose+" # end\n\n"
		}
		s, e := show.Print(p)
		if e != api.OK {
			if show.Right(p) {
				t.Fatalf("%v: %d", p, e)
			}
			continue
		}
		seen++
		printed(t, p, s)
		got, f, _ := parse.Parse(loose)
		if f == api.ErrLong {
			continue
		}
		again, g := show.Print(got)
		if f != api.OK || g != api.OK || again != s {
			t.Fatalf("%q: %d, %q, %d, not %q", loose, f, again, g, s)
		}
	}
	if seen < 3000 {
		t.Errorf("only %d can be written", seen)
	}
}

// The chapter's examples.
func TestExamples(t *testing.T) {
	if s, _ := show.Cond(or(and(a, b), or(c, d))); s != ta+" and "+tb+" or ("+tc+" or "+td+")" {
		t.Error(s)
	}
	if s, _ := show.Cond(not(and(a, b))); s != "not ("+ta+" and "+tb+")" {
		t.Error(s)
	}
}
