package tree_test

import (
	"math"
	"math/rand"
	"slices"
	"testing"

	"doorward/api"
	"doorward/call"
	"doorward/mean"
	"doorward/tree"
	"doorward/types"
	"doorward/word"
)

const (
	all = math.MaxUint64
	x86 = 0xc000003e
	arm = 0xc00000b7
)

func test(arg int, sign string, value uint64) api.Cond {
	return api.Cond{Kind: api.CTest, Arg: arg, Mask: all, Sign: sign, Value: value}
}

func and(l ...api.Cond) api.Cond { return api.Cond{Kind: api.CAnd, Kids: l} }
func not(c api.Cond) api.Cond    { return api.Cond{Kind: api.CNot, Kids: []api.Cond{c}} }

func match(action uint32, c api.Cond, nrs ...uint32) api.Match {
	return api.Match{Nrs: nrs, If: c, Action: action}
}

func policy(rules ...api.Match) api.Typed {
	return api.Typed{Arch: x86, Default: 9, Rules: rules}
}

// from are n numbers, so far from one another.
func from(first uint32, n int, far uint32) []uint32 {
	var l []uint32
	for i := range n {
		l = append(l, first+uint32(i)*far)
	}
	return l
}

func conds(c api.Cond) int {
	n := 1
	for _, kid := range c.Kids {
		n += conds(kid)
	}
	return n
}

// zero tells whether a condition that is zero or may be is zero.
func zero(c api.Cond) bool { return c.Kind == 0 }

// numbers are those of all rules.
func numbers(t api.Typed) []uint32 {
	seen := map[uint32]bool{}
	for _, m := range t.Rules {
		for _, nr := range m.Nrs {
			seen[nr] = true
		}
	}
	l := []uint32{}
	for nr := range seen {
		l = append(l, nr)
	}
	slices.Sort(l)
	return l
}

// most is how many steps there may be.
func most(t api.Typed) int {
	n := 16
	for _, nr := range numbers(t) {
		n += 5
		for _, m := range t.Rules {
			if slices.Contains(m.Nrs, nr) {
				n += 4
				if !zero(m.If) {
					n += 9*types.Tests(m.If) + conds(m.If)
				}
			}
		}
	}
	return n
}

// deep is how many numbers may be told apart on the way to one.
func deep(n int) int {
	if n < 1 {
		return 0
	}
	d := 0
	for 1<<d < n {
		d++
	}
	return d + 1
}

// asked is the greatest number, on any way, of tests that come behind an OLoad of the word at 0, ahead of any other one.
func asked(l []api.Op) int {
	place := map[int]int{}
	for i, o := range l {
		if o.Kind == api.OLabel {
			place[o.T] = i
		}
	}
	counted, other := make([]int, len(l)+1), make([]int, len(l)+1)
	for i := len(l) - 1; i >= 0; i-- {
		switch o := l[i]; o.Kind {
		case api.OLoad:
			other[i] = other[i+1]
			if o.K == 0 {
				other[i] = counted[i+1]
			}
			counted[i] = other[i]
		case api.OEq, api.OGt, api.OGe:
			counted[i] = 1 + max(counted[place[o.T]], counted[place[o.F]])
			other[i] = max(other[place[o.T]], other[place[o.F]])
		case api.OGoto:
			counted[i], other[i] = counted[place[o.T]], other[place[o.T]]
		case api.ORet:
		default:
			counted[i], other[i] = counted[i+1], other[i+1]
		}
	}
	return other[0]
}

// made asks for a policy's steps, and holds them to what is promised of them but what they mean.
func made(t *testing.T, p api.Typed) []api.Op {
	t.Helper()
	l, e := tree.Steps(p)
	if e != api.OK || len(l) == 0 || l[len(l)-1].Kind != api.ORet || len(l) > most(p) {
		t.Fatalf("%v: %d steps of %d, %d", p, len(l), most(p), e)
	}
	place := map[int]int{}
	for i, o := range l {
		if o.Kind < 1 || o.Kind > 8 || o.Kind == api.OLoad && (o.K%4 != 0 || o.K > 60) {
			t.Fatalf("%v: %v", p, o)
		}
		if o.Kind == api.OLabel {
			if _, twice := place[o.T]; twice || o.T <= -1<<60 || o.T >= 1<<60 {
				t.Fatalf("%v: label %d", p, o.T)
			}
			place[o.T] = i
		}
	}
	for i, o := range l {
		goals := []int{o.T, o.F}
		if o.Kind == api.OGoto {
			goals = goals[:1]
		} else if o.Kind < api.OEq || o.Kind > api.OGe {
			continue
		}
		for _, to := range goals {
			if at, found := place[to]; !found || at <= i {
				t.Fatalf("%v: step %d goes to %d", p, i, to)
			}
		}
	}
	if n := asked(l); n > deep(len(numbers(p)))+1 {
		t.Fatalf("%v: the number is asked %d times, of %d numbers", p, n, len(numbers(p)))
	}
	return l
}

// meant holds steps to what the policy answers a call.
func meant(t *testing.T, p api.Typed, l []api.Op, x api.Call) {
	t.Helper()
	want := api.End{Answer: mean.Eval(p, x), Told: true}
	if got := word.Walk(l, call.Pack(x)); got != want {
		t.Fatalf("%v of %v: %v, not %v", p, x, got, want)
	}
}

// near are numbers at and beside those of a policy.
func near(p api.Typed) []uint32 {
	l := []uint32{0, 1, math.MaxUint32, 1 << 31}
	for _, nr := range numbers(p) {
		l = append(l, nr-1, nr, nr+1)
	}
	return l
}

func right() []api.Typed {
	var l []api.Typed
	l = append(l, policy(), api.Typed{}, api.Typed{Arch: math.MaxUint32, Default: math.MaxUint32}, policy(match(1, api.Cond{}, 0)), policy(match(1, api.Cond{}, math.MaxUint32)), policy(match(1, api.Cond{}, 5, 5, 5)),
		policy(match(1, api.Cond{}, 9, 3, 7, 3)), policy(match(1, api.Cond{Kids: []api.Cond{}}, 1)), policy(match(1, api.Cond{}, 4, 5), match(2, api.Cond{}, 5, 6), match(3, api.Cond{}, 4, 5, 6, 7)),
		policy(match(1, test(0, "==", 1), 4, 5), match(2, test(1, "<", 1), 5, 6), match(3, test(0, "!=", 1), 4, 5, 6)), policy(match(1, test(0, "==", 1), 4), match(2, api.Cond{}, 4), match(3, test(0, "!=", 1), 4)),
		policy(match(1, and(test(0, "==", 1), not(test(1, "==", 1))), 4), match(2, not(and(test(0, "==", 1), test(1, "==", 1))), 4, 0)))
	for n := 1; n <= 40; n++ {
		l = append(l, policy(match(1, api.Cond{}, from(10, n, 3)...)))
	}
	var rules []api.Match
	for i := range 24 {
		rules = append(rules, match(uint32(i), test(i%6, "<", uint64(i)), from(uint32(1000*i), 40, 7)...))
		if i%5 == 0 {
			l = append(l, policy(slices.Clone(rules)...))
		}
	}
	l = append(l, policy(rules...), policy(slices.Repeat([]api.Match{match(1, test(0, "==", 1), from(0, 40, 1)...)}, 24)...))
	var wide []api.Cond
	for i := range 99 {
		wide = append(wide, test(i%6, ">=", uint64(i)<<32))
	}
	return append(l, policy(match(1, and(wide...), from(0, 40, 1)...), match(2, and(wide...), from(20, 40, 1)...)))
}

func wrong() []api.Typed {
	return []api.Typed{
		policy(api.Match{}), policy(match(1, api.Cond{})), policy(match(1, api.Cond{}, 1), match(1, api.Cond{}, []uint32{}...)), policy(match(1, api.Cond{}, from(0, 41, 1)...)), policy(match(1, api.Cond{}, make([]uint32, 41)...)),
		policy(slices.Repeat([]api.Match{match(1, api.Cond{}, 1)}, 25)...), policy(make([]api.Match, 25)...),
		policy(match(1, api.Cond{Arg: 1}, 1)), policy(match(1, api.Cond{Sign: "=="}, 1)), policy(match(1, api.Cond{Mask: 1}, 1)), policy(match(1, api.Cond{Value: 1}, 1)), policy(match(1, api.Cond{Kids: []api.Cond{{}}}, 1)),
		policy(match(1, and(), 1)), policy(match(1, api.Cond{}, 1), match(1, and(test(0, "==", 1)), 1)), policy(match(1, test(0, "", 1), 1)), policy(match(1, test(6, "==", 1), 1)), policy(match(1, and(slices.Repeat([]api.Cond{test(0, "==", 1)}, 100)...), 1)),
	}
}

// P20.1: Numbers.
func TestNumbers(t *testing.T) {
	for _, p := range append(right(), wrong()...) {
		if got := tree.Numbers(p); !slices.Equal(got, numbers(p)) {
			t.Errorf("%v: %v", p, got)
		}
	}
	p := policy(match(1, api.Cond{}, 9, 3, 7), match(2, api.Cond{}, 8, 3, math.MaxUint32, 0))
	if got := tree.Numbers(p); !slices.Equal(got, []uint32{0, 3, 7, 8, 9, math.MaxUint32}) || !slices.Equal(p.Rules[0].Nrs, []uint32{9, 3, 7}) {
		t.Errorf("%v of %v", got, p)
	}
}

// P20.1: Deep.
func TestDeep(t *testing.T) {
	for n := -3; n <= 5000; n++ {
		if got := tree.Deep(n); got != deep(n) {
			t.Errorf("Deep(%d) = %d", n, got)
		}
	}
	for n, want := range map[int]int{math.MinInt: 0, math.MaxInt: 64, 1 << 62: 63, 1<<62 + 1: 64, 1 << 40: 41, 1<<40 + 1: 42, 1<<40 - 1: 41} {
		if got := tree.Deep(n); got != want {
			t.Errorf("Deep(%d) = %d", n, got)
		}
	}
}

// P20.2: policies that may not be.
func TestStepsRefuses(t *testing.T) {
	for i, p := range wrong() {
		if l, e := tree.Steps(p); len(l) != 0 || e != api.ErrArg {
			t.Errorf("policy %d: %d steps, %d", i, len(l), e)
		}
	}
}

// P20.2, P20.3: what steps are, how many, and what they answer.
func TestSteps(t *testing.T) {
	for _, p := range right() {
		l := made(t, p)
		for _, nr := range near(p) {
			for arg := range uint64(3) {
				x := api.Call{Nr: nr, Arch: p.Arch, Args: [6]uint64{arg, 1, arg << 32, 1 << 40, 5, all}}
				meant(t, p, l, x)
				x.Arch++
				meant(t, p, l, x)
			}
		}
	}
}

// some is a random condition that may be.
func some(r *rand.Rand, deep int) api.Cond {
	if deep == 0 || r.Intn(3) == 0 {
		c := test(r.Intn(2), []string{"==", "!=", "<", "<=", ">", ">="}[r.Intn(6)], []uint64{0, 1, 2, 1 << 32}[r.Intn(4)])
		c.Mask = []uint64{all, 3, 1 << 32}[r.Intn(3)]
		return c
	}
	if r.Intn(4) == 0 {
		return not(some(r, deep-1))
	}
	return api.Cond{Kind: []int{api.CAnd, api.COr}[r.Intn(2)], Kids: []api.Cond{some(r, deep-1), some(r, deep-1), some(r, deep-1)}[:2+r.Intn(2)]}
}

// P20.2 to P20.4: random policies: what they answer; another architecture is killed, whatever rules there are; with all rules taken away all others are answered the default.
func TestRandomPolicies(t *testing.T) {
	r := rand.New(rand.NewSource(1))
	for range 1500 {
		p := api.Typed{Arch: []uint32{x86, arm, 7}[r.Intn(3)], Default: r.Uint32()}
		for range r.Intn(6) {
			m := match(r.Uint32(), api.Cond{}, uint32(r.Intn(12)))
			for range r.Intn(8) {
				m.Nrs = append(m.Nrs, uint32(r.Intn(12)))
			}
			if r.Intn(3) > 0 {
				m.If = some(r, 2)
			}
			p.Rules = append(p.Rules, m)
		}
		l := made(t, p)
		bare := p
		bare.Rules = nil
		none := made(t, bare)
		for range 30 {
			x := api.Call{Nr: uint32(r.Intn(14)), Arch: p.Arch, IP: r.Uint64(), Args: [6]uint64{uint64(r.Intn(4)), uint64(r.Intn(3)) << 32}}
			meant(t, p, l, x)
			if got := word.Walk(none, call.Pack(x)); got != (api.End{Answer: p.Default, Told: true}) {
				t.Fatalf("without rules: %v", got)
			}
			x.Arch = []uint32{0, p.Arch + 1, p.Arch ^ 1<<31, ^p.Arch}[r.Intn(4)]
			if got := word.Walk(l, call.Pack(x)); got != (api.End{Answer: api.KillProcess, Told: true}) {
				t.Fatalf("another architecture: %v", got)
			}
		}
	}
}

// The chapter's example.
func TestExample(t *testing.T) {
	l, _ := tree.Steps(api.Typed{Arch: x86, Default: api.Allow})
	for arch, want := range map[uint32]uint32{x86: 0x7fff0000, arm: 0x80000000} {
		if got := word.Walk(l, call.Pack(api.Call{Nr: 1, Arch: arch})); got != (api.End{Answer: want, Told: true}) {
			t.Errorf("%x: %v", arch, got)
		}
	}
}
