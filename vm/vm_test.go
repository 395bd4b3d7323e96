package vm_test

import (
	"math"
	"math/rand"
	"slices"
	"strings"
	"testing"

	"doorward/api"
	"doorward/vm"
)

// record is one of words 1000, 1004, 1008 and so on, but its first.
func record(first uint32) string {
	b := make([]byte, 64)
	for i := 0; i < 64; i += 4 {
		n := uint32(1000 + i)
		if i == 0 {
			n = first
		}
		b[i], b[i+1], b[i+2], b[i+3] = byte(n), byte(n>>8), byte(n>>16), byte(n>>24)
	}
	return string(b)
}

func k(code int, k uint32) api.Insn { return api.Insn{Code: code, K: k} }

func jump(code int, k uint32, jt, jf int) api.Insn { return api.Insn{Code: code, K: k, Jt: jt, Jf: jf} }

var (
	retA = k(api.RetA, 0)
	ret  = k(api.RetK, 7)
)

func check(t *testing.T, prog []api.Insn, rec string, answer uint32, steps int, e api.Errno) {
	t.Helper()
	was := slices.Clone(prog)
	if a, n, f := vm.Run(prog, rec); a != answer || n != steps || f != e {
		t.Errorf("%v: %x in %d, %d; not %x in %d, %d", prog, a, n, f, answer, steps, e)
	}
	if !slices.Equal(prog, was) {
		t.Errorf("%v is changed", was)
	}
}

// P11.1: Word.
func TestWord(t *testing.T) {
	b := make([]byte, 64)
	for i := range b {
		b[i] = byte(i + 200)
	}
	for at := -70; at < 140; at++ {
		want, e := uint32(0), api.ErrProg
		if at >= 0 && at <= 60 && at%4 == 0 {
			want, e = uint32(b[at])|uint32(b[at+1])<<8|uint32(b[at+2])<<16|uint32(b[at+3])<<24, api.OK
		}
		if n, f := vm.Word(string(b), at); n != want || f != e {
			t.Errorf("Word(%d) = %x, %d", at, n, f)
		}
	}
	for _, at := range []int{math.MinInt, math.MaxInt, 1 << 32, -4} {
		if n, e := vm.Word(string(b), at); n != 0 || e != api.ErrProg {
			t.Errorf("Word(%d) = %x, %d", at, n, e)
		}
	}
	for _, n := range []int{0, 1, 60, 63, 65, 128} {
		for _, at := range []int{0, 60, 1, -1, 64} {
			if w, e := vm.Word(strings.Repeat("\x01", n), at); w != 0 || e != api.ErrRecord {
				t.Errorf("Word of %d bytes: %x, %d", n, w, e)
			}
		}
	}
}

// P11.2: a record that has not 64 bytes is refused first.
func TestRecords(t *testing.T) {
	for _, n := range []int{0, 63, 65, 1} {
		for _, prog := range [][]api.Insn{nil, {ret}, {k(8, 0)}} {
			check(t, prog, strings.Repeat("\x01", n), 0, 0, api.ErrRecord)
		}
	}
}

// P11.2: loads and stores.
func TestMoves(t *testing.T) {
	r := record(42)
	check(t, []api.Insn{retA}, r, 0, 1, api.OK)
	check(t, []api.Insn{k(api.Txa, 0), retA}, r, 0, 2, api.OK)
	check(t, []api.Insn{k(api.LdAbs, 0), retA}, r, 42, 2, api.OK)
	for at := uint32(4); at <= 60; at += 4 {
		check(t, []api.Insn{k(api.LdAbs, at), retA}, r, 1000+at, 2, api.OK)
	}
	for _, at := range []uint32{1, 2, 3, 59, 61, 62, 63, 64, 68, math.MaxUint32, math.MaxUint32 - 3, 1 << 31} {
		check(t, []api.Insn{k(api.LdAbs, at), retA}, r, 0, 0, api.ErrProg)
	}
	check(t, []api.Insn{k(api.LdLen, 9), retA}, r, 64, 2, api.OK)
	check(t, []api.Insn{k(api.LxLen, 9), retA}, r, 0, 2, api.OK)
	check(t, []api.Insn{k(api.LxLen, 9), k(api.Txa, 0), retA}, r, 64, 3, api.OK)
	check(t, []api.Insn{k(api.LdImm, 9), retA}, r, 9, 2, api.OK)
	check(t, []api.Insn{k(api.LxImm, 9), retA}, r, 0, 2, api.OK)
	check(t, []api.Insn{k(api.LxImm, 9), k(api.Txa, 3), retA}, r, 9, 3, api.OK)
	check(t, []api.Insn{k(api.LdImm, 8), k(api.Tax, 3), k(api.LdImm, 1), k(api.Txa, 5), retA}, r, 8, 5, api.OK)
	for cell := range uint32(16) {
		check(t, []api.Insn{k(api.LdMem, cell), retA}, r, 0, 2, api.OK)
		check(t, []api.Insn{k(api.LdImm, 5), k(api.St, cell), k(api.LdImm, 6), k(api.LdMem, cell), retA}, r, 5, 5, api.OK)
		check(t, []api.Insn{k(api.LxImm, 5), k(api.Stx, cell), k(api.LdMem, cell), retA}, r, 5, 4, api.OK)
		check(t, []api.Insn{k(api.LdImm, 5), k(api.St, cell), k(api.LxMem, cell), k(api.LdImm, 6), k(api.Txa, 0), retA}, r, 5, 6, api.OK)
		check(t, []api.Insn{k(api.LdImm, 5), k(api.St, cell), k(api.LdMem, (cell+1)%16), retA}, r, 0, 4, api.OK)
	}
	for _, code := range []int{api.LdMem, api.LxMem, api.St, api.Stx} {
		for _, cell := range []uint32{16, 17, 255, 1 << 31, math.MaxUint32} {
			check(t, []api.Insn{k(code, cell), ret}, r, 0, 0, api.ErrProg)
			check(t, []api.Insn{k(api.Ja, 1), k(code, cell), ret}, r, 7, 2, api.OK)
		}
	}
}

// P11.2: sums, with K and with X.
func TestSums(t *testing.T) {
	r := record(42)
	const top = math.MaxUint32
	for _, c := range []struct {
		withK, withX int
		a, n, want   uint32
	}{
		{api.AddK, api.AddX, 3, 4, 7}, {api.AddK, api.AddX, top, 2, 1}, {api.SubK, api.SubX, 9, 4, 5}, {api.SubK, api.SubX, 3, 4, top},
		{api.MulK, api.MulX, 3, 4, 12}, {api.MulK, api.MulX, 1 << 31, 2, 0}, {api.MulK, api.MulX, top, top, 1}, {api.DivK, api.DivX, 13, 4, 3}, {api.DivK, api.DivX, top, 1, top},
		{api.DivK, api.DivX, 3, 4, 0}, {api.DivK, api.DivX, top, top, 1}, {api.OrK, api.OrX, 12, 10, 14}, {api.AndK, api.AndX, 12, 10, 8}, {api.XorK, api.XorX, 12, 10, 6},
		{api.LshK, api.LshX, 3, 4, 48}, {api.LshK, api.LshX, 3, 31, 1 << 31}, {api.LshK, api.LshX, 3, 32, 3}, {api.LshK, api.LshX, 3, 33, 6}, {api.LshK, api.LshX, 3, top, 1 << 31}, {api.LshK, api.LshX, 3, 64, 3},
		{api.RshK, api.RshX, 48, 4, 3}, {api.RshK, api.RshX, top, 31, 1}, {api.RshK, api.RshX, 48, 32, 48}, {api.RshK, api.RshX, 48, 33, 24}, {api.RshK, api.RshX, top, top, 1}, {api.RshK, api.RshX, 7, 0, 7},
	} {
		check(t, []api.Insn{k(api.LdImm, c.a), k(api.LxImm, 100), k(c.withK, c.n), retA}, r, c.want, 4, api.OK)
		check(t, []api.Insn{k(api.LdImm, c.a), k(api.LxImm, c.n), k(c.withX, 100), retA}, r, c.want, 4, api.OK)
		check(t, []api.Insn{k(api.LdImm, c.a), k(api.LxImm, c.n), k(c.withX, 100), k(api.Txa, 0), retA}, r, c.n, 5, api.OK)
	}
	for _, c := range [][2]uint32{{0, 0}, {1, top}, {top, 1}, {1 << 31, 1 << 31}, {5, top - 4}} {
		check(t, []api.Insn{k(api.LdImm, c[0]), k(api.LxImm, 3), k(api.Neg, 9), retA}, r, c[1], 4, api.OK)
	}
	check(t, []api.Insn{k(api.LdImm, 9), k(api.DivK, 0), ret}, r, 0, 2, api.OK)
	check(t, []api.Insn{k(api.LdImm, 9), k(api.DivX, 5), ret}, r, 0, 2, api.OK)
	check(t, []api.Insn{k(api.DivK, 0)}, r, 0, 1, api.OK)
}

// P11.2: jumps, with K and with X.
func TestJumps(t *testing.T) {
	r := record(42)
	const top = math.MaxUint32
	for _, c := range []struct {
		withK, withX int
		a, n         uint32
		ok           bool
	}{
		{api.JeqK, api.JeqX, 4, 4, true}, {api.JeqK, api.JeqX, 4, 5, false}, {api.JgtK, api.JgtX, 5, 4, true}, {api.JgtK, api.JgtX, 4, 4, false}, {api.JgtK, api.JgtX, 3, 4, false}, {api.JgtK, api.JgtX, top, 1, true},
		{api.JgeK, api.JgeX, 5, 4, true}, {api.JgeK, api.JgeX, 4, 4, true}, {api.JgeK, api.JgeX, 3, 4, false}, {api.JgeK, api.JgeX, 1, top, false}, {api.JsetK, api.JsetX, 6, 2, true}, {api.JsetK, api.JsetX, 6, 1, false},
		{api.JsetK, api.JsetX, 0, top, false}, {api.JsetK, api.JsetX, 1 << 31, top, true},
	} {
		for _, way := range [][2]int{{0, 1}, {1, 0}, {2, 0}, {0, 2}, {-1, 1}, {1, -1}, {math.MinInt, 2}, {2, math.MinInt}} {
			skip := way[1]
			if c.ok {
				skip = way[0]
			}
			want := []uint32{7, 8, 9}[max(skip, 0)]
			tail := []api.Insn{k(api.RetK, 7), k(api.RetK, 8), k(api.RetK, 9)}
			check(t, slices.Concat([]api.Insn{k(api.LdImm, c.a), k(api.LxImm, 100), jump(c.withK, c.n, way[0], way[1])}, tail), r, want, 4, api.OK)
			check(t, slices.Concat([]api.Insn{k(api.LdImm, c.a), k(api.LxImm, c.n), jump(c.withX, 100, way[0], way[1])}, tail), r, want, 4, api.OK)
		}
		for _, far := range []int{1, 2, 255, 256, 1 << 32, math.MaxInt, math.MaxInt - 3} {
			check(t, []api.Insn{k(api.LdImm, c.a), jump(c.withK, c.n, far, far), ret}, r, 0, 0, api.ErrProg)
		}
	}
	long := slices.Concat([]api.Insn{jump(api.JeqK, 0, 300, 0)}, slices.Repeat([]api.Insn{k(api.RetK, 1)}, 300), []api.Insn{k(api.RetK, 2)})
	check(t, long, r, 2, 2, api.OK)
	check(t, []api.Insn{k(api.Ja, 0), ret}, r, 7, 2, api.OK)
	check(t, []api.Insn{k(api.Ja, 1), k(api.RetK, 1), ret}, r, 7, 2, api.OK)
	check(t, []api.Insn{api.Insn{Code: api.Ja, K: 1, Jt: 5, Jf: 5}, k(api.RetK, 1), ret}, r, 7, 2, api.OK)
	for _, far := range []uint32{1, 2, 1 << 31, math.MaxUint32} {
		check(t, []api.Insn{k(api.Ja, far), ret}, r, 0, 0, api.ErrProg)
	}
}

// P11.2: what goes wrong, and only as it is done.
func TestWrong(t *testing.T) {
	r := record(42)
	check(t, nil, r, 0, 0, api.ErrProg)
	check(t, []api.Insn{}, r, 0, 0, api.ErrProg)
	check(t, []api.Insn{k(api.LdImm, 1)}, r, 0, 0, api.ErrProg)
	known := []int{
		0x20, 0x80, 0x00, 0x60, 0x01, 0x61, 0x81, 0x02, 0x03, 0x04, 0x14, 0x24, 0x34, 0x44, 0x54, 0x64, 0x74, 0x84, 0xa4,
		0x0c, 0x1c, 0x2c, 0x3c, 0x4c, 0x5c, 0x6c, 0x7c, 0xac, 0x05, 0x15, 0x25, 0x35, 0x45, 0x1d, 0x2d, 0x3d, 0x4d, 0x06, 0x16, 0x07, 0x87,
	}
	for code := -20; code < 700; code++ {
		_, _, e := vm.Run([]api.Insn{k(code, 0), ret, ret}, r)
		if (e == api.OK) != slices.Contains(known, code) {
			t.Errorf("code %x: %d", code, e)
		}
		check(t, []api.Insn{ret, k(code, 0)}, r, 7, 1, api.OK)
	}
	for _, code := range []int{math.MinInt, math.MaxInt, 1 << 32, 1<<32 + 6, 256 + 6, -250} {
		check(t, []api.Insn{k(code, 0), ret}, r, 0, 0, api.ErrProg)
	}
	check(t, []api.Insn{{Code: api.RetK, K: 0x7fff0000, Jt: -1, Jf: 999}}, r, 0x7fff0000, 1, api.OK)
}

// plain is the machine as the chapter's words tell it, all in one.
func plain(prog []api.Insn, rec string) (uint32, int, api.Errno) {
	var a, x uint32
	var cells [16]uint32
	at, steps := uint64(0), 0
	for at < uint64(len(prog)) {
		i := prog[at]
		at++
		steps++
		n := i.K
		if i.Code&8 != 0 {
			n = x
		}
		yes := false
		switch i.Code {
		case api.LdAbs:
			if i.K%4 != 0 || i.K > 60 {
				return 0, 0, api.ErrProg
			}
			a = uint32(rec[i.K]) | uint32(rec[i.K+1])<<8 | uint32(rec[i.K+2])<<16 | uint32(rec[i.K+3])<<24
		case api.LdLen:
			a = 64
		case api.LxLen:
			x = 64
		case api.LdImm:
			a = i.K
		case api.LxImm:
			x = i.K
		case api.LdMem, api.LxMem, api.St, api.Stx:
			if i.K > 15 {
				return 0, 0, api.ErrProg
			}
			switch i.Code {
			case api.LdMem:
				a = cells[i.K]
			case api.LxMem:
				x = cells[i.K]
			case api.St:
				cells[i.K] = a
			case api.Stx:
				cells[i.K] = x
			}
		case api.Tax:
			x = a
		case api.Txa:
			a = x
		case api.AddK, api.AddX:
			a += n
		case api.SubK, api.SubX:
			a -= n
		case api.MulK, api.MulX:
			a *= n
		case api.DivK, api.DivX:
			if n == 0 {
				return 0, steps, api.OK
			}
			a /= n
		case api.OrK, api.OrX:
			a |= n
		case api.AndK, api.AndX:
			a &= n
		case api.XorK, api.XorX:
			a ^= n
		case api.LshK, api.LshX:
			a <<= n & 31
		case api.RshK, api.RshX:
			a >>= n & 31
		case api.Neg:
			a = 0 - a
		case api.Ja:
			at += uint64(i.K)
		case api.JeqK, api.JeqX:
			yes = a == n
		case api.JgtK, api.JgtX:
			yes = a > n
		case api.JgeK, api.JgeX:
			yes = a >= n
		case api.JsetK, api.JsetX:
			yes = a&n > 0
		case api.RetK:
			return i.K, steps, api.OK
		case api.RetA:
			return a, steps, api.OK
		default:
			return 0, 0, api.ErrProg
		}
		if i.Code&7 == 5 && i.Code != api.Ja {
			if yes {
				at += uint64(max(i.Jt, 0))
			} else {
				at += uint64(max(i.Jf, 0))
			}
		}
	}
	return 0, 0, api.ErrProg
}

// some is a random filter, most of whose instructions are well.
func some(r *rand.Rand) []api.Insn {
	codes := []int{
		0x20, 0x80, 0x00, 0x60, 0x01, 0x61, 0x81, 0x02, 0x03, 0x04, 0x14, 0x24, 0x34, 0x44, 0x54, 0x64, 0x74, 0x84, 0xa4,
		0x0c, 0x1c, 0x2c, 0x3c, 0x4c, 0x5c, 0x6c, 0x7c, 0xac, 0x05, 0x15, 0x25, 0x35, 0x45, 0x1d, 0x2d, 0x3d, 0x4d, 0x07, 0x87,
	}
	prog := make([]api.Insn, 1+r.Intn(40))
	for i := range prog {
		prog[i] = api.Insn{Code: codes[r.Intn(len(codes))], Jt: r.Intn(4), Jf: r.Intn(4), K: uint32(4 * r.Intn(4))}
		switch r.Intn(30) {
		case 0:
			prog[i].Code = []int{api.RetA, api.RetK, 0x08, 0x1c}[r.Intn(4)]
		case 1:
			prog[i].K = r.Uint32()
		}
		if prog[i].Code&7 >= 4 && prog[i].Code&7 < 6 && r.Intn(2) == 0 && prog[i].Code != api.Ja {
			prog[i].K = r.Uint32() >> r.Intn(32)
		}
	}
	if r.Intn(4) > 0 {
		prog = append(prog, retA, retA, retA, retA)
	}
	return prog
}

// P11.2, P11.3: random filters do as the words say, each instruction at most once; what stands behind the last one done does not matter.
func TestRandomFilters(t *testing.T) {
	r := rand.New(rand.NewSource(1))
	went := 0
	for range 30000 {
		prog := some(r)
		b := make([]byte, 64)
		r.Read(b)
		answer, steps, e := plain(prog, string(b))
		got, n, f := vm.Run(prog, string(b))
		if got != answer || n != steps || f != e || n > len(prog) {
			t.Fatalf("%v: %x in %d, %d; not %x in %d, %d", prog, got, n, f, answer, steps, e)
		}
		if e == api.OK {
			went++
			more := append(slices.Clone(prog), some(r)...)
			if again, m, f := vm.Run(more, string(b)); prog[len(prog)-1] == retA && (again != got || m != n || f != api.OK) {
				t.Fatalf("%v: %x in %d", more, again, m)
			}
		}
	}
	if went < 10000 {
		t.Errorf("only %d went well", went)
	}
}

// P11.3: what stands behind the last instruction done may be anything.
func TestWhatStandsBehindDoesNotMatter(t *testing.T) {
	r := record(1)
	for _, tail := range [][]api.Insn{nil, {k(8, 1)}, {k(api.LdAbs, 99)}, {k(api.Ja, math.MaxUint32)}, {jump(-1, 0, -1, 999)}} {
		check(t, append([]api.Insn{k(api.LdAbs, 0), k(api.AddK, 1), retA}, tail...), r, 2, 3, api.OK)
	}
}

// The chapter's examples.
func TestExamples(t *testing.T) {
	check(t, []api.Insn{k(api.RetK, 0x7fff0000)}, record(5), 0x7fff0000, 1, api.OK)
	check(t, []api.Insn{k(api.LdAbs, 0), jump(api.JeqK, 5, 0, 1), k(api.RetK, 1), k(api.RetK, 2)}, record(5), 1, 3, api.OK)
	check(t, []api.Insn{k(api.LdAbs, 0), jump(api.JeqK, 5, 0, 1), k(api.RetK, 1), k(api.RetK, 2)}, record(6), 2, 3, api.OK)
	check(t, nil, record(5), 0, 0, api.ErrProg)
}
