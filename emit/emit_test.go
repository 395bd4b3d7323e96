package emit_test

import (
	"math"
	"math/rand"
	"slices"
	"strings"
	"testing"

	"doorward/api"
	"doorward/emit"
	"doorward/vm"
	"doorward/word"
)

func op(kind int, k uint32) api.Op             { return api.Op{Kind: kind, K: k} }
func label(t int) api.Op                       { return api.Op{Kind: api.OLabel, T: t} }
func goTo(t int) api.Op                        { return api.Op{Kind: api.OGoto, T: t} }
func jump(kind int, k uint32, t, f int) api.Op { return api.Op{Kind: kind, K: k, T: t, F: f} }

func insn(code int, k uint32) api.Insn { return api.Insn{Code: code, K: k} }
func ask(code int, k uint32) api.Insn  { return api.Insn{Code: code, K: k, Jf: 1} }

// size is how many instructions a step becomes.
func size(o api.Op) int {
	switch o.Kind {
	case api.OLoad, api.OAnd, api.OGoto, api.ORet:
		return 1
	case api.OEq, api.OGt, api.OGe:
		return 3
	}
	return 0
}

func total(l []api.Op) int {
	n := 0
	for _, o := range l {
		n += size(o)
	}
	return n
}

// assembled is what the chapter's words say, each way looked for from its step on.
func assembled(l []api.Op) ([]api.Insn, api.Errno) {
	var prog []api.Insn
	way := func(at, ahead int, to int) bool {
		n := -ahead
		for _, o := range l[at:] {
			if o.Kind == api.OLabel && o.T == to {
				prog = append(prog, insn(api.Ja, uint32(n)))
				return true
			}
			n += size(o)
		}
		return false
	}
	fine := true
	for at, o := range l {
		switch o.Kind {
		case api.OLoad:
			prog = append(prog, insn(api.LdAbs, o.K))
		case api.OAnd:
			prog = append(prog, insn(api.AndK, o.K))
		case api.ORet:
			prog = append(prog, insn(api.RetK, o.K))
		case api.OEq, api.OGt, api.OGe:
			prog = append(prog, ask([]int{api.JeqK, api.JgtK, api.JgeK}[o.Kind-api.OEq], o.K))
			fine = way(at, 2, o.T) && way(at, 3, o.F) && fine
		case api.OGoto:
			fine = way(at, 1, o.T) && fine
		case api.OLabel:
		default:
			fine = false
		}
	}
	switch {
	case !fine:
		return nil, api.ErrArg
	case total(l) > 4096:
		return nil, api.ErrBig
	}
	return prog, api.OK
}

func check(t *testing.T, l []api.Op, want []api.Insn, e api.Errno) {
	t.Helper()
	was := slices.Clone(l)
	if got, f := emit.Assemble(l); !slices.Equal(got, want) || f != e {
		t.Errorf("%v: %v, %d; not %v, %d", l, got, f, want, e)
	}
	if !slices.Equal(l, was) {
		t.Errorf("%v is changed", was)
	}
}

// P21.1: Size, of any steps.
func TestSize(t *testing.T) {
	for kind := -3; kind < 20; kind++ {
		o := api.Op{Kind: kind, K: 9, T: 1, F: 2}
		if n := emit.Size([]api.Op{o}); n != size(o) {
			t.Errorf("Size of kind %d: %d", kind, n)
		}
	}
	for n, l := range map[int][]api.Op{
		0: {}, 8: {op(api.OLoad, 0), jump(api.OEq, 1, 1, 2), label(1), label(2), jump(api.OGe, 1, 9, 9), op(api.ORet, 7), {Kind: 99}},
		6000: slices.Repeat([]api.Op{jump(api.OGt, 0, 1, 1)}, 2000),
	} {
		if got := emit.Size(l); got != n {
			t.Errorf("%d, not %d", got, n)
		}
	}
	if n := emit.Size(nil) + emit.Size([]api.Op{{Kind: math.MinInt}, {Kind: math.MaxInt}}); n != 0 {
		t.Error(n)
	}
}

// P21.2: each step, by itself.
func TestSteps(t *testing.T) {
	check(t, nil, nil, api.OK)
	check(t, []api.Op{label(3)}, nil, api.OK)
	check(t, []api.Op{{Kind: api.OLoad, K: 60, T: 5, F: 6}}, []api.Insn{insn(0x20, 60)}, api.OK)
	check(t, []api.Op{{Kind: api.OLoad, K: math.MaxUint32}}, []api.Insn{insn(0x20, math.MaxUint32)}, api.OK)
	check(t, []api.Op{{Kind: api.OAnd, K: 7, T: 5, F: 6}}, []api.Insn{insn(0x54, 7)}, api.OK)
	check(t, []api.Op{{Kind: api.ORet, K: 0x7fff0000, T: 5, F: 6}}, []api.Insn{insn(0x06, 0x7fff0000)}, api.OK)
	for kind, code := range map[int]int{api.OEq: 0x15, api.OGt: 0x25, api.OGe: 0x35} {
		check(t, []api.Op{jump(kind, 5, 1, 2), label(1), op(api.ORet, 7), label(2), op(api.ORet, 8)}, []api.Insn{ask(code, 5), insn(0x05, 1), insn(0x05, 1), insn(0x06, 7), insn(0x06, 8)}, api.OK)
		check(t, []api.Op{jump(kind, 5, 2, 1), label(1), op(api.ORet, 7), label(2), op(api.ORet, 8)}, []api.Insn{ask(code, 5), insn(0x05, 2), insn(0x05, 0), insn(0x06, 7), insn(0x06, 8)}, api.OK)
		check(t, []api.Op{jump(kind, 5, 1, 1), label(1)}, []api.Insn{ask(code, 5), insn(0x05, 1), insn(0x05, 0)}, api.OK)
	}
	check(t, []api.Op{{Kind: api.OGoto, K: 9, T: 1, F: 99}, label(1)}, []api.Insn{insn(0x05, 0)}, api.OK)
	check(t, []api.Op{goTo(-7), op(api.ORet, 1), label(5), op(api.OLoad, 4), label(-7), op(api.ORet, 2)}, []api.Insn{insn(0x05, 2), insn(0x06, 1), insn(0x20, 4), insn(0x06, 2)}, api.OK)
}

// P21.2: of labels that stand there twice the first one behind the step counts.
func TestLabelsThatStandTwice(t *testing.T) {
	a, b, c := op(api.ORet, 1), op(api.ORet, 2), op(api.ORet, 3)
	check(t, []api.Op{goTo(1), a, label(1), b, label(1), c}, []api.Insn{insn(0x05, 1), insn(0x06, 1), insn(0x06, 2), insn(0x06, 3)}, api.OK)
	check(t, []api.Op{label(1), goTo(1), a, label(1), b}, []api.Insn{insn(0x05, 1), insn(0x06, 1), insn(0x06, 2)}, api.OK)
	check(t, []api.Op{goTo(1), label(1), goTo(1), a, label(1), b}, []api.Insn{insn(0x05, 0), insn(0x05, 1), insn(0x06, 1), insn(0x06, 2)}, api.OK)
}

// P21.2: ErrArg, ahead of ErrBig.
func TestAssembleRefuses(t *testing.T) {
	big := slices.Repeat([]api.Op{op(api.ORet, 1)}, 4096)
	for _, l := range [][]api.Op{
		{{}}, {{Kind: 9}}, {{Kind: -1}}, {{Kind: math.MaxInt}}, {{Kind: math.MinInt}}, {op(api.ORet, 1), {}}, {goTo(1)}, {label(1), goTo(1)}, {goTo(1), label(2)}, {goTo(0)}, {goTo(0), {Kind: api.OLabel, T: 1, F: 0}},
		{jump(api.OEq, 1, 1, 2), label(1)}, {jump(api.OEq, 1, 1, 2), label(2)}, {jump(api.OGt, 1, 1, 2)}, {label(2), jump(api.OGe, 1, 1, 2), label(1)}, {label(1), jump(api.OGe, 1, 1, 2), label(2)}, {jump(api.OEq, 0, 0, 0)},
		{goTo(1), {Kind: api.OGoto, T: 1}, {Kind: api.ORet, T: 1}},
	} {
		check(t, l, nil, api.ErrArg)
		check(t, slices.Concat(l, big, big), nil, api.ErrArg)
		check(t, slices.Concat(big, big, l), nil, api.ErrArg)
	}
	check(t, append(slices.Clone(big), op(api.OAnd, 1)), nil, api.ErrBig)
	check(t, slices.Concat(big[1:], []api.Op{jump(api.OEq, 0, 1, 1), label(1)}), nil, api.ErrBig)
	check(t, slices.Concat(big[2:], []api.Op{jump(api.OEq, 0, 1, 1), label(1)}), nil, api.ErrBig)
	if l, e := emit.Assemble(big); len(l) != 4096 || e != api.OK {
		t.Error(len(l), e)
	}
	if l, e := emit.Assemble(slices.Concat(big[3:], []api.Op{jump(api.OEq, 0, 1, 1), label(1)})); len(l) != 4096 || e != api.OK {
		t.Error(len(l), e)
	}
	far := slices.Concat([]api.Op{goTo(1)}, big[1:], []api.Op{label(1)})
	if l, e := emit.Assemble(far); len(l) != 4096 || l[0] != insn(0x05, 4095) || e != api.OK {
		t.Error(len(l), e)
	}
}

// some are random steps, whose labels mostly stand behind.
func some(r *rand.Rand) []api.Op {
	l := make([]api.Op, r.Intn(25))
	for i := range l {
		l[i] = api.Op{Kind: 1 + r.Intn(7), K: uint32(4 * r.Intn(16)), T: r.Intn(4), F: r.Intn(4)}
		switch r.Intn(40) {
		case 0:
			l[i].K = r.Uint32()
		case 1, 2:
			l[i].Kind = api.ORet
		case 3:
			l[i].Kind = r.Intn(11) - 1
		}
	}
	if r.Intn(8) == 0 {
		return l
	}
	l = append(l, op(api.OAnd, 3))
	for i := range 4 {
		l = append(l, label(i))
		if r.Intn(4) > 0 {
			l = append(l, op(api.ORet, uint32(i)))
		}
	}
	return l
}

// P21.2, P21.3: random steps: their instructions, and what these return: the same answer, or they go wrong where the steps do, or end.
func TestRandomSteps(t *testing.T) {
	r := rand.New(rand.NewSource(1))
	told, went := 0, 0
	for range 20000 {
		l := some(r)
		want, e := assembled(l)
		check(t, l, want, e)
		if emit.Size(l) != total(l) {
			t.Fatalf("%v: %d", l, emit.Size(l))
		}
		if e != api.OK {
			continue
		}
		b := make([]byte, 64)
		r.Read(b)
		rec := string(b)
		if r.Intn(3) > 0 {
			rec = strings.Repeat(string([]byte{byte(4 * r.Intn(4)), 0, 0, 0}), 16)
		}
		end := word.Walk(l, rec)
		answer, _, f := vm.Run(want, rec)
		if end.Told && (f != api.OK || answer != end.Answer) || !end.Told && (f != api.ErrProg || answer != 0) {
			t.Fatalf("%v ends %v; %d, %d", l, end, answer, f)
		}
		if end.Told {
			told++
		} else {
			went++
		}
	}
	if told < 3000 || went < 1000 {
		t.Error(told, went)
	}
}

// The chapter's example.
func TestExample(t *testing.T) {
	check(t, []api.Op{op(api.OLoad, 0), jump(api.OEq, 5, 1, 2), label(1), op(api.ORet, 7), label(2), op(api.ORet, 8)},
		[]api.Insn{insn(api.LdAbs, 0), ask(api.JeqK, 5), insn(api.Ja, 1), insn(api.Ja, 1), insn(api.RetK, 7), insn(api.RetK, 8)}, api.OK)
}
