package parse_test

import (
	"math"
	"math/rand"
	"slices"
	"strconv"
	"strings"
	"testing"

	"doorward/api"
	"doorward/parse"
)

const all = math.MaxUint64

func sameCond(a, b api.Cond) bool {
	return a.Kind == b.Kind && a.Arg == b.Arg && a.Mask == b.Mask && a.Sign == b.Sign && a.Value == b.Value && slices.EqualFunc(a.Kids, b.Kids, sameCond)
}

func same(a, b api.Policy) bool {
	return a.Arch == b.Arch && a.Default == b.Default && a.Data == b.Data && slices.EqualFunc(a.Rules, b.Rules, func(x, y api.Rule) bool {
		return x.Action == y.Action && x.Data == y.Data && slices.Equal(x.Names, y.Names) && sameCond(x.If, y.If)
	})
}

// parsed holds a source (lines parted by /) to what it is.
func parsed(t *testing.T, s string, want api.Policy) {
	t.Helper()
	if p, e, at := parse.Parse(strings.ReplaceAll(s, "/", "\n")); !same(p, want) || e != api.OK || at != 0 {
		t.Errorf("%q: %v, %d, %d; not %v", s, p, e, at, want)
	}
}

func refused(t *testing.T, s string, want api.Errno, place int) {
	t.Helper()
	if p, e, at := parse.Parse(strings.ReplaceAll(s, "/", "\n")); !same(p, api.Policy{}) || e != want || at != place {
		t.Errorf("%q: %v, %d, %d; not %d, %d", s, p, e, at, want, place)
	}
}

func of(rules ...api.Rule) api.Policy {
	return api.Policy{Arch: "x86_64", Default: "kill", Rules: rules}
}

func rule(names ...string) api.Rule { return api.Rule{Action: "allow", Names: names} }

func test(arg int, sign string, value uint64) api.Cond {
	return api.Cond{Kind: api.CTest, Arg: arg, Mask: all, Sign: sign, Value: value}
}

func and(l ...api.Cond) api.Cond { return api.Cond{Kind: api.CAnd, Kids: l} }
func or(l ...api.Cond) api.Cond  { return api.Cond{Kind: api.COr, Kids: l} }
func not(c api.Cond) api.Cond    { return api.Cond{Kind: api.CNot, Kids: []api.Cond{c}} }

// head is the first two lines of most sources here: 23 bytes.
const head = "arch x86_64/default kill/"

// condition holds the condition of a rule to what it is.
func condition(t *testing.T, s string, want api.Cond) {
	t.Helper()
	r := rule("read")
	r.If = want
	parsed(t, head+"allow read if "+s+"/", of(r))
	parsed(t, head+"allow read if "+s, of(r))
}

// P15.1: Reserved.
func TestReserved(t *testing.T) {
	for _, w := range []string{"if", "and", "or", "not"} {
		if !parse.Reserved(w) {
			t.Errorf("%q is reserved", w)
		}
	}
	for _, w := range []string{"", "arch", "default", "IF", "i", "iff", "an", "nota", "or ", "allow", "arg0", "read", "else"} {
		if parse.Reserved(w) {
			t.Errorf("%q is not reserved", w)
		}
	}
}

// P15.1: lines, actions, names.
func TestPolicies(t *testing.T) {
	parsed(t, "arch x86_64/default kill/", of())
	parsed(t, "arch x86_64/default kill", of())
	parsed(t, "//arch x86_64///default kill///", of())
	parsed(t, "arch a/default b 5/", api.Policy{Arch: "a", Default: "b", Data: 5})
	parsed(t, "arch a/default b 0xffffffffffffffff", api.Policy{Arch: "a", Default: "b", Data: all})
	parsed(t, "arch a/default b 0", api.Policy{Arch: "a", Default: "b"})
	parsed(t, "arch arch/default default/arch default/default arch", api.Policy{Arch: "arch", Default: "default", Rules: []api.Rule{{Action: "arch", Names: []string{"default"}}, {Action: "default", Names: []string{"arch"}}}})
	parsed(t, head+"allow read write/", of(rule("read", "write")))
	parsed(t, head+"allow read", of(rule("read")))
	parsed(t, head+"//allow read////allow write read read//", of(rule("read"), rule("write", "read", "read")))
	parsed(t, head+"errno 13 open close/trap 0x10 arg0 arg9 _", of(api.Rule{Action: "errno", Data: 13, Names: []string{"open", "close"}}, api.Rule{Action: "trap", Data: 16, Names: []string{"arg0", "arg9", "_"}}))
	parsed(t, "  arch\tx86_64 # one\r/ # two/default kill#three/# four/allow read # if arg0 == 1/", of(rule("read")))
	parsed(t, head+"allow arg0 if arg0 == 1", of(api.Rule{Action: "allow", Names: []string{"arg0"}, If: test(0, "==", 1)}))
	many := strings.Repeat("allow read/", 100)
	parsed(t, head+many, of(slices.Repeat([]api.Rule{rule("read")}, 100)...))
}

// P15.1: tests.
func TestTests(t *testing.T) {
	for arg := range 6 {
		for _, sign := range []string{"==", "!=", "<", "<=", ">", ">="} {
			condition(t, "arg"+strconv.Itoa(arg)+" "+sign+" 7", test(arg, sign, 7))
			c := test(arg, sign, all)
			c.Mask = 3
			condition(t, "arg"+strconv.Itoa(arg)+"&3"+sign+"18446744073709551615", c)
			c.Mask = 0
			condition(t, "arg"+strconv.Itoa(arg)+" & 0 "+sign+" 0xffffffffffffffff", c)
		}
	}
	c := test(1, "==", 0)
	c.Mask = 0xf0
	condition(t, "arg1 & 0xf0 == 0", c)
	condition(t, "arg1 & 18446744073709551615 == 0", test(1, "==", 0))
}

// P15.1: and, or, not, and what stands within parentheses.
func TestConditions(t *testing.T) {
	a, b, c, d := test(0, "==", 1), test(1, "<", 2), test(2, ">", 3), test(3, "!=", 4)
	const ta, tb, tc, td = "arg0 == 1", "arg1 < 2", "arg2 > 3", "arg3 != 4"
	condition(t, ta+" and "+tb, and(a, b))
	condition(t, ta+" or "+tb, or(a, b))
	condition(t, ta+" and "+tb+" and "+tc+" and "+td, and(a, b, c, d))
	condition(t, ta+" or "+tb+" or "+tc+" or "+td, or(a, b, c, d))
	condition(t, ta+" and "+tb+" or "+tc+" and "+td, or(and(a, b), and(c, d)))
	condition(t, ta+" or "+tb+" and "+tc+" or "+td, or(a, and(b, c), d))
	condition(t, "("+ta+" or "+tb+") and "+tc, and(or(a, b), c))
	condition(t, ta+" and ("+tb+" and "+tc+")", and(a, and(b, c)))
	condition(t, ta+" or ("+tb+" or "+tc+")", or(a, or(b, c)))
	condition(t, "("+ta+" and "+tb+") or "+tc, or(and(a, b), c))
	condition(t, "("+ta+")", a)
	condition(t, "((("+ta+") and ("+tb+")))", and(a, b))
	condition(t, "not "+ta, not(a))
	condition(t, "not not "+ta, not(not(a)))
	condition(t, "not "+ta+" and "+tb, and(not(a), b))
	condition(t, "not ("+ta+" and "+tb+")", not(and(a, b)))
	condition(t, "not (not ("+ta+" or not "+tb+")) or "+tc, or(not(not(or(a, not(b)))), c))
	condition(t, "not("+ta+")and(not("+tb+"))", and(not(a), not(b)))
}

// P15.1: the first token that may not stand there.
func TestPlacesOfErrors(t *testing.T) {
	for _, c := range []struct {
		s  string
		at int
	}{
		{"", 0}, {"/", 1}, {"///", 3}, {"# a", 3}, {"default kill/", 0}, {"arch", 4}, {"arch/", 4}, {"arch x86_64", 11}, {"arch x86_64/", 12}, {"arch if/", 5}, {"arch and", 5}, {"arch or", 5}, {"arch not", 5}, {"arch 5/", 5}, {"arch ==/", 5},
		{"arch a b/", 7}, {"arch a 5/", 7}, {"arch a (/", 7}, {"arch a if", 7}, {"arch a default kill/", 7}, {"allow read/arch a/", 0}, {"5", 0}, {"==", 0}, {"if", 0},
		{"arch a/allow read/", 7}, {"arch a/arch a/", 7}, {"arch a//7/", 8}, {"arch a/default", 14}, {"arch a/default/", 14}, {"arch a/default if/", 15}, {"arch a/default not", 15}, {"arch a/default 5/", 15},
		{"arch a/default b c/", 17}, {"arch a/default b 5 6/", 19}, {"arch a/default b 5 c/", 19}, {"arch a/default b </", 17}, {"arch a/default b if/", 17},
	} {
		refused(t, c.s, api.ErrParse, c.at)
	}
	const n = len(head)
	for _, c := range []struct {
		s  string
		at int
	}{
		{"allow", 5}, {"allow/", 5}, {"5 read/", 0}, {"if read/", 0}, {"not/", 0}, {"(", 0}, {"allow if arg0 == 1/", 6}, {"allow 5/", 7}, {"allow 5 6/", 8}, {"allow 5 if", 8}, {"allow and/", 6}, {"allow read and/", 11}, {"allow read or write/", 11},
		{"allow read not/", 11}, {"allow read 5/", 11}, {"allow read (/", 11}, {"allow read ==/", 11}, {"allow read/allow/", 16}, {"allow read 5 write", 11},
		{"allow read if", 13}, {"allow read if/", 13}, {"allow read if read/", 14}, {"allow read if if/", 14}, {"allow read if 5/", 14}, {"allow read if )/", 14}, {"allow read if and/", 14}, {"allow read if == 1/", 14},
		{"allow read if arg6 == 1/", 14}, {"allow read if arg == 1/", 14}, {"allow read if arg00 == 1/", 14}, {"allow read if arg_ == 1/", 14}, {"allow read if arg10 == 1/", 14}, {"allow read if a == 1/", 14},
		{"allow read if arg0", 18}, {"allow read if arg0/", 18}, {"allow read if arg0 1/", 19}, {"allow read if arg0 and/", 19}, {"allow read if arg0 &/", 20}, {"allow read if arg0 & == 1/", 21}, {"allow read if arg0 & arg1 == 1/", 21},
		{"allow read if arg0 & 1/", 22}, {"allow read if arg0 & 1 & 2 == 3/", 23}, {"allow read if arg0 & 1 )/", 23}, {"allow read if arg0 ==/", 21}, {"allow read if arg0 == == 1/", 22}, {"allow read if arg0 == arg1/", 22}, {"allow read if arg0 == /", 22}, {"allow read if arg0 ( 1/", 19},
		{"allow read if arg0 == 1 2/", 24}, {"allow read if arg0 == 1 & 2/", 24}, {"allow read if arg0 == 1 read/", 24}, {"allow read if arg0 == 1 if/", 24}, {"allow read if arg0 == 1 not/", 24}, {"allow read if arg0 == 1)/", 23}, {"allow read if arg0 == 1 (/", 24},
		{"allow read if arg0 == 1 and/", 27}, {"allow read if arg0 == 1 or/", 26}, {"allow read if arg0 == 1 or or/", 27}, {"allow read if arg0 == 1 and/arg1 == 2", 27},
		{"allow read if not/", 17}, {"allow read if not and/", 18}, {"allow read if (/", 15}, {"allow read if ()/", 15}, {"allow read if (arg0 == 1/", 24}, {"allow read if (arg0 == 1", 24}, {"allow read if (arg0 == 1 arg1/", 25}, {"allow read if (arg0 == 1 or)/", 27}, {"allow read if ((arg0 == 1)/", 26},
		{"allow read if (arg0 == 1/)", 24}, {"allow read if arg0 == 1 = 2", 24},
	} {
		e := api.ErrParse
		if strings.Contains(c.s, " = ") {
			e = api.ErrLex
		}
		refused(t, head+c.s, e, n+c.at)
	}
}

// P15.1: lex's errors, and their places, come first.
func TestLexErrors(t *testing.T) {
	refused(t, "~", api.ErrLex, 0)
	refused(t, "if if ~", api.ErrLex, 6)
	refused(t, head+"allow read if arg0 == 007/", api.ErrLex, len(head)+22)
	refused(t, "A", api.ErrLex, 0)
	refused(t, strings.Repeat("/", 2001), api.ErrLong, 0)
	refused(t, "~"+strings.Repeat("/", 2000), api.ErrLong, 0)
	parsed(t, head+strings.Repeat("/", 2000-len(head)), of())
}

// P15.1: depth 8 may be, 9 may not, and is told ahead of anything of that factor.
func TestDepth(t *testing.T) {
	a := test(0, "==", 1)
	deep := a
	for range 8 {
		deep = not(deep)
	}
	condition(t, strings.Repeat("not ", 8)+"arg0 == 1", deep)
	condition(t, strings.Repeat("(", 8)+"arg0 == 1"+strings.Repeat(")", 8), a)
	condition(t, strings.Repeat("not (", 4)+"arg0 == 1"+strings.Repeat(")", 4), not(not(not(not(a)))))
	condition(t, strings.Repeat("(", 8)+"arg0 == 1"+strings.Repeat(")", 8)+" and "+strings.Repeat("(", 8)+"arg0 == 1 or arg0 == 1"+strings.Repeat(")", 8), and(a, or(a, a)))
	condition(t, "not ("+strings.Repeat("(", 6)+"arg0 == 1"+strings.Repeat(")", 6)+" and not arg0 == 1) or not arg0 == 1", or(not(and(a, not(a))), not(a)))

	n := len(head) + len("allow read if ")
	for _, c := range []struct {
		ahead  string
		behind []string
	}{
		{strings.Repeat("not ", 9), []string{"arg0 == 1", "not arg0", "(", ")", "", "/", "5", "read", "if", "and"}},
		{strings.Repeat("(", 9), []string{"arg0 == 1)))))))))", "((((", ")))", "", "/", "=="}},
		{strings.Repeat("not (", 4) + "not ", []string{"arg0 == 1", "(", ""}},
		{strings.Repeat("not (", 4) + "(", []string{"arg0 == 1", "not", ")"}},
		{"not " + strings.Repeat("(", 7) + "arg0 == 1 and not ", []string{"arg0 == 1", "("}},
		{strings.Repeat("(", 8) + "arg0 == 1 or arg1 == 2" + strings.Repeat(")", 8) + " or " + strings.Repeat("not ", 9), []string{"arg0 == 1"}},
	} {
		for _, s := range c.behind {
			refused(t, head+"allow read if "+c.ahead+s, api.ErrDeep, n+len(c.ahead))
		}
	}
	refused(t, head+"allow read if "+strings.Repeat("not ", 8)+"and", api.ErrParse, n+32)
	refused(t, head+"allow read if "+strings.Repeat("(", 8)+")", api.ErrParse, n+8)
	refused(t, head+"allow read if arg9 "+strings.Repeat("(", 9), api.ErrParse, n)
	refused(t, head+"allow read if "+strings.Repeat("(", 1500), api.ErrDeep, n+9)
}

// some is a random condition, and a text of it with more parentheses than it needs; depth is what is open around it.
func some(r *rand.Rand, depth int) (api.Cond, string) {
	c, s := someOr(r, depth)
	return c, s
}

func someOr(r *rand.Rand, depth int) (api.Cond, string) {
	return series(r, depth, api.COr, " or ", someAnd)
}

func someAnd(r *rand.Rand, depth int) (api.Cond, string) {
	return series(r, depth, api.CAnd, " and ", someFactor)
}

func series(r *rand.Rand, depth, kind int, word string, one func(*rand.Rand, int) (api.Cond, string)) (api.Cond, string) {
	c := api.Cond{Kind: kind}
	var texts []string
	for range max(1, r.Intn(4)-1) {
		kid, s := one(r, depth)
		c.Kids, texts = append(c.Kids, kid), append(texts, s)
	}
	if len(texts) == 1 {
		return c.Kids[0], texts[0]
	}
	return c, strings.Join(texts, word)
}

func someFactor(r *rand.Rand, depth int) (api.Cond, string) {
	if depth < 8 && r.Intn(3) == 0 {
		c, s := someFactor(r, depth+1)
		return not(c), "not " + s
	}
	if depth < 8 && r.Intn(3) == 0 {
		c, s := someOr(r, depth+1)
		return c, "(" + s + ")"
	}
	c := test(r.Intn(6), []string{"==", "!=", "<", "<=", ">", ">="}[r.Intn(6)], r.Uint64()>>r.Intn(64))
	s := "arg" + strconv.Itoa(c.Arg)
	if r.Intn(3) == 0 {
		c.Mask = r.Uint64()
		s += " & 0x" + strconv.FormatUint(c.Mask, 16)
	}
	return c, s + " " + c.Sign + " " + strconv.FormatUint(c.Value, 10)
}

// P15.1, P15.2: random policies; blanks, remarks and empty lines change nothing.
func TestRandomPolicies(t *testing.T) {
	r := rand.New(rand.NewSource(1))
	for range 3000 {
		want := api.Policy{Arch: "aarch64", Default: "errno", Data: uint64(r.Intn(100))}
		lines := []string{"arch aarch64", "default errno " + strconv.FormatUint(want.Data, 10)}
		for range r.Intn(4) {
			x := api.Rule{Action: "trap", Data: uint64(r.Intn(2)), Names: slices.Repeat([]string{"read", "write"}, 1+r.Intn(2))}
			s := "trap " + strconv.FormatUint(x.Data, 10) + " " + strings.Join(x.Names, " ")
			if r.Intn(3) > 0 {
				c, text := some(r, 0)
				x.If = c
				s += " if " + text
			}
			want.Rules, lines = append(want.Rules, x), append(lines, s)
		}
		plain := strings.Join(lines, "\n")
		wide := strings.ReplaceAll(strings.ReplaceAll("\n"+plain, " ", " \t "), "\n", " # remark if (\n\n\r\n")
		for _, s := range []string{plain, plain + "\n", wide} {
			if p, e, at := parse.Parse(s); len(s) <= 2000 && (!same(p, want) || e != api.OK || at != 0) {
				t.Fatalf("%q: %v, %d, %d; not %v", s, p, e, at, want)
			}
		}
	}
}

// P1: whatever tokens stand there, nothing panics; a place is that of a token, or the end.
func TestNothingPanics(t *testing.T) {
	r := rand.New(rand.NewSource(2))
	words := []string{"arch", "default", "allow", "read", "if", "and", "or", "not", "arg0", "5", "==", "<", "&", "(", ")", "\n", "\n", "arch a\ndefault b\n", "allow read if arg0 == 1"}
	for range 30000 {
		s := ""
		for range r.Intn(14) {
			s += words[r.Intn(len(words))] + " "
		}
		p, e, at := parse.Parse(s)
		if e == api.OK && (at != 0 || p.Arch == "" || p.Default == "") || e != api.OK && (e != api.ErrParse || !same(p, api.Policy{}) || at < 0 || at > len(s) || at < len(s) && s[at] == ' ') {
			t.Fatalf("%q: %v, %d, %d", s, p, e, at)
		}
	}
}

// P15.2: without a line for the architecture, or for the default action, there is no policy.
func TestLinesThatMustBe(t *testing.T) {
	refused(t, "default kill/allow read/", api.ErrParse, 0)
	refused(t, "arch x86_64/allow read/", api.ErrParse, 12)
	refused(t, "arch x86_64/", api.ErrParse, 12)
	refused(t, "default kill/arch x86_64/", api.ErrParse, 0)
}

// The chapter's examples.
func TestExamples(t *testing.T) {
	parsed(t, head+"allow read write/", of(rule("read", "write")))
	masked := test(1, "!=", 0)
	masked.Mask = 3
	condition(t, "arg0 == 1 and not arg1 & 3 != 0", and(test(0, "==", 1), not(masked)))
	refused(t, "default kill/", api.ErrParse, 0)
}
