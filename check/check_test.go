package check_test

import (
	"math"
	"math/rand"
	"slices"
	"testing"

	"doorward/api"
	"doorward/check"
	"doorward/vm"
)

var codes = []int{
	0x20, 0x80, 0x00, 0x60, 0x01, 0x61, 0x81, 0x02, 0x03, 0x04, 0x14, 0x24, 0x34, 0x44, 0x54, 0x64, 0x74, 0x84, 0xa4,
	0x0c, 0x1c, 0x2c, 0x3c, 0x4c, 0x5c, 0x6c, 0x7c, 0xac, 0x05, 0x15, 0x25, 0x35, 0x45, 0x1d, 0x2d, 0x3d, 0x4d, 0x06, 0x16, 0x07, 0x87,
}

func k(code int, k uint32) api.Insn { return api.Insn{Code: code, K: k} }

func jump(code, jt, jf int) api.Insn { return api.Insn{Code: code, Jt: jt, Jf: jf, K: 1} }

var ret = k(api.RetK, 7)

// next are the followers of an instruction that is well.
func next(prog []api.Insn, at int) []int {
	i := prog[at]
	switch {
	case i.Code == api.RetK || i.Code == api.RetA:
		return nil
	case i.Code == api.Ja:
		return []int{at + 1 + int(i.K)}
	case i.Code&7 == 5:
		return []int{at + 1 + i.Jt, at + 1 + i.Jf}
	}
	return []int{at + 1}
}

// well is the chapter's word, of one instruction.
func well(prog []api.Insn, at int) bool {
	i, n := prog[at], uint64(len(prog))
	behind := uint64(at) + 1
	if !slices.Contains(codes, i.Code) || i.Jt < 0 || i.Jt > 255 || i.Jf < 0 || i.Jf > 255 {
		return false
	}
	if at == len(prog)-1 && i.Code != api.RetK && i.Code != api.RetA {
		return false
	}
	switch i.Code {
	case api.LdAbs:
		return i.K%4 == 0 && i.K <= 60
	case api.LdMem, api.LxMem, api.St, api.Stx:
		return i.K <= 15
	case api.DivK:
		return i.K != 0
	case api.LshK, api.RshK:
		return i.K <= 31
	case api.Ja:
		return behind+uint64(i.K) < n
	case api.JeqK, api.JgtK, api.JgeK, api.JsetK, api.JeqX, api.JgtX, api.JgeX, api.JsetX:
		return behind+uint64(i.Jt) < n && behind+uint64(i.Jf) < n
	}
	return true
}

// cells goes all ways, one by one, of a filter that is well.
func cells(prog []api.Insn) [][]bool {
	all := make([][]bool, len(prog))
	var walk func(at int, written [16]bool)
	walk = func(at int, written [16]bool) {
		if all[at] == nil {
			all[at] = slices.Clone(written[:])
		}
		for i := range written {
			all[at][i] = all[at][i] && written[i]
		}
		if c := prog[at].Code; c == api.St || c == api.Stx {
			written[prog[at].K] = true
		}
		for _, n := range next(prog, at) {
			walk(n, written)
		}
	}
	walk(0, [16]bool{})
	return all
}

// plain is what Check tells, of a filter that is not too long.
func plain(prog []api.Insn) (int, api.Errno) {
	for at := range prog {
		if !well(prog, at) {
			return at, api.ErrProg
		}
	}
	if len(prog) == 0 {
		return 0, api.ErrProg
	}
	for at, written := range cells(prog) {
		if c := prog[at].Code; (c == api.LdMem || c == api.LxMem) && written != nil && !written[prog[at].K] {
			return at, api.ErrProg
		}
	}
	return 0, api.OK
}

func sameRows(a, b [][]bool) bool {
	return slices.EqualFunc(a, b, func(x, y []bool) bool { return slices.Equal(x, y) })
}

func told(t *testing.T, prog []api.Insn, at int, e api.Errno) {
	t.Helper()
	was := slices.Clone(prog)
	if got, f := check.Check(prog); got != at || f != e {
		t.Errorf("%v: %d, %d; not %d, %d", prog, got, f, at, e)
	}
	if !slices.Equal(prog, was) {
		t.Errorf("%v is changed", was)
	}
}

// P12.1, P12.2: an empty filter, and one too long, whatever stands in it.
func TestLengths(t *testing.T) {
	for _, prog := range [][]api.Insn{nil, {}} {
		told(t, prog, 0, api.ErrProg)
		if rows, e := check.Cells(prog); len(rows) != 0 || e != api.ErrProg {
			t.Errorf("%v, %d", rows, e)
		}
	}
	long := slices.Repeat([]api.Insn{ret}, 4096)
	told(t, long, 0, api.OK)
	if rows, e := check.Cells(long); len(rows) != 4096 || len(rows[0]) != 16 || len(rows[1]) != 0 || e != api.OK {
		t.Errorf("%d, %d", len(rows), e)
	}
	for _, prog := range [][]api.Insn{append(slices.Clone(long), ret), append(slices.Clone(long), k(8, 0)), slices.Repeat([]api.Insn{k(8, 0)}, 5000)} {
		told(t, prog, 0, api.ErrLong)
		if rows, e := check.Cells(prog); len(rows) != 0 || e != api.ErrLong {
			t.Errorf("%d, %d", len(rows), e)
		}
	}
	long[4095] = k(api.LdLen, 0)
	told(t, long, 4095, api.ErrProg)
}

// P12.1: what is well, instruction by instruction.
func TestWell(t *testing.T) {
	var all []api.Insn
	for code := -10; code < 300; code++ {
		all = append(all, k(code, 1), k(code, 0))
	}
	for _, code := range []int{math.MinInt, math.MaxInt, 1 << 32, 65536 + 6, -250} {
		all = append(all, k(code, 0))
	}
	for _, code := range codes {
		for _, n := range []uint32{0, 1, 2, 3, 4, 5, 15, 16, 31, 32, 56, 59, 60, 61, 64, 255, 256, 1 << 31, math.MaxUint32, math.MaxUint32 - 1, math.MaxUint32 - 3} {
			all = append(all, k(code, n))
		}
		for _, n := range []int{0, 1, 2, 3, 4, 255, 256, -1, 1 << 32, math.MinInt, math.MaxInt} {
			all = append(all, api.Insn{Code: code, Jt: n, K: 1}, api.Insn{Code: code, Jf: n, K: 1}, api.Insn{Code: code, Jt: n, Jf: n, K: 1})
		}
	}
	for _, i := range all {
		for _, prog := range [][]api.Insn{{i}, {i, ret}, {ret, i}, {ret, i, ret, ret}, {ret, i, ret, ret, ret}, slices.Concat([]api.Insn{ret, i}, slices.Repeat([]api.Insn{ret}, 256)), slices.Concat([]api.Insn{ret, i}, slices.Repeat([]api.Insn{ret}, 255))} {
			at, e := plain(prog)
			told(t, prog, at, e)
			rows, f := check.Cells(prog)
			if e == api.OK && (f != api.OK || !sameRows(rows, cells(prog))) || e != api.OK && !well(prog, at) && (f != api.ErrProg || len(rows) != 0) {
				t.Errorf("Cells(%v) = %v, %d", prog, rows, f)
			}
		}
	}
}

// P12.1: the first one that is not well is told, ahead of any cell that is not written.
func TestTheFirstIsTold(t *testing.T) {
	told(t, []api.Insn{ret, k(8, 0), k(8, 0), ret}, 1, api.ErrProg)
	told(t, []api.Insn{k(api.LdMem, 0), k(8, 0), ret}, 1, api.ErrProg)
	told(t, []api.Insn{k(api.LdMem, 0), ret, ret, k(api.LdLen, 0)}, 3, api.ErrProg)
	told(t, []api.Insn{k(api.LdMem, 0), k(api.LdMem, 1), ret}, 0, api.ErrProg)
	told(t, []api.Insn{k(api.St, 0), k(api.LdMem, 0), k(api.LxMem, 1), k(api.LdMem, 2), ret}, 2, api.ErrProg)
	told(t, []api.Insn{k(api.DivX, 0), k(api.LshX, 99), ret}, 0, api.OK)
}

// P12.1: cells that are read, on ways and where no way goes.
func TestCellsThatAreRead(t *testing.T) {
	for _, read := range []int{api.LdMem, api.LxMem} {
		for _, write := range []int{api.St, api.Stx} {
			for cell := range uint32(16) {
				other := (cell + 1) % 16
				told(t, []api.Insn{k(read, cell), ret}, 0, api.ErrProg)
				told(t, []api.Insn{k(write, cell), k(read, cell), ret}, 0, api.OK)
				told(t, []api.Insn{k(write, other), k(read, cell), ret}, 1, api.ErrProg)
				told(t, []api.Insn{k(read, cell), k(write, cell), ret}, 0, api.ErrProg)
				told(t, []api.Insn{ret, k(read, cell), ret}, 0, api.OK)
				told(t, []api.Insn{k(api.Ja, 1), k(read, cell), ret}, 0, api.OK)
				told(t, []api.Insn{jump(api.JeqK, 0, 1), k(write, cell), k(read, cell), ret}, 2, api.ErrProg)
				told(t, []api.Insn{jump(api.JeqK, 1, 0), k(write, cell), k(read, cell), ret}, 2, api.ErrProg)
				told(t, []api.Insn{jump(api.JeqK, 0, 2), k(write, cell), k(api.Ja, 1), k(write, cell), k(read, cell), ret}, 0, api.OK)
				told(t, []api.Insn{jump(api.JeqK, 0, 2), k(write, cell), k(api.Ja, 1), k(write, other), k(read, cell), ret}, 4, api.ErrProg)
				told(t, []api.Insn{jump(api.JgtX, 0, 1), ret, k(write, cell), k(read, cell), ret}, 0, api.OK)
				told(t, []api.Insn{k(api.Ja, 1), k(write, cell), k(read, cell), ret}, 2, api.ErrProg)
				told(t, []api.Insn{k(write, cell), jump(api.JsetX, 1, 1), k(read, other), k(read, cell), ret}, 0, api.OK)
			}
		}
	}
}

// P12.2: Cells.
func TestCells(t *testing.T) {
	row := func(l ...int) []bool {
		r := make([]bool, 16)
		for _, i := range l {
			r[i] = true
		}
		return r
	}
	prog := []api.Insn{k(api.St, 3), jump(api.JeqK, 0, 2), k(api.Stx, 15), k(api.Ja, 1), k(api.St, 0), jump(api.JgeX, 1, 1), k(api.St, 9), k(api.LdMem, 9), ret, ret}
	want := [][]bool{row(), row(3), row(3), row(3, 15), row(3), row(3), nil, row(3), row(3), nil}
	if got, e := check.Cells(prog); !sameRows(got, want) || e != api.OK {
		t.Errorf("%v, %d", got, e)
	}
	got, _ := check.Cells(prog)
	_ = append(got[0], true, true, true) // what is put behind one row must not be in the next one
	if !sameRows(got, want) {
		t.Error("rows run into one another")
	}
}

// some is a random filter, whose instructions are mostly well.
func some(r *rand.Rand, most int) []api.Insn {
	prog := make([]api.Insn, 1+r.Intn(most))
	for at := range prog {
		i := api.Insn{Code: codes[r.Intn(len(codes))], K: uint32(r.Intn(4))}
		if r.Intn(2) == 0 {
			i.Code = []int{api.St, api.Stx, api.LdMem, api.LxMem, api.JeqK, api.JgtX, api.Ja}[r.Intn(7)]
		}
		if i.Code == api.RetK && at < len(prog)-2 {
			i.Code = api.Tax
		}
		if i.Code == api.LdAbs {
			i.K *= 4
		}
		left := len(prog) - at - 2
		if i.Code&7 == 5 && left >= 0 {
			i.Jt, i.Jf = r.Intn(min(left, 3)+1), r.Intn(min(left, 3)+1)
			if i.Code == api.Ja {
				i.K = uint32(i.Jt)
			}
		}
		if r.Intn(200) == 0 {
			i.K = r.Uint32()
		}
		if i.Code == api.DivK && r.Intn(5) > 0 {
			i.K++
		}
		prog[at] = i
	}
	if r.Intn(20) > 0 {
		prog[len(prog)-1] = k([]int{api.RetK, api.RetA}[r.Intn(2)], 1)
	}
	return prog
}

// P12.1, P12.2: random filters, all ways gone one by one.
func TestRandomFilters(t *testing.T) {
	r := rand.New(rand.NewSource(1))
	fine, unwritten := 0, 0
	for range 20000 {
		prog := some(r, 16)
		at, e := plain(prog)
		told(t, prog, at, e)
		rows, f := check.Cells(prog)
		bad := -1
		for j := range prog {
			if bad < 0 && !well(prog, j) {
				bad = j
			}
		}
		if bad < 0 && (f != api.OK || !sameRows(rows, cells(prog))) || bad >= 0 && (f != api.ErrProg || len(rows) != 0) {
			t.Fatalf("Cells(%v) = %v, %d", prog, rows, f)
		}
		if e == api.OK {
			fine++
		} else if bad < 0 {
			unwritten++
		}
	}
	if fine < 2000 || unwritten < 2000 {
		t.Errorf("%d may be, of %d cells are not written", fine, unwritten)
	}
}

// P12.3: a filter that may be never goes wrong.
func TestWhatMayBeNeverGoesWrong(t *testing.T) {
	r := rand.New(rand.NewSource(2))
	for range 20000 {
		prog := some(r, 60)
		if _, e := check.Check(prog); e != api.OK {
			continue
		}
		b := make([]byte, 64)
		r.Read(b)
		if _, steps, e := vm.Run(prog, string(b)); e != api.OK || steps > len(prog) {
			t.Fatalf("%v: %d, %d", prog, steps, e)
		}
	}
}

// P1: many ways through a long filter end soon.
func TestManyWays(t *testing.T) {
	prog := append(slices.Repeat([]api.Insn{jump(api.JeqK, 0, 1)}, 4094), ret, ret)
	told(t, prog, 0, api.OK)
	prog[4094] = k(api.LdMem, 3)
	told(t, prog, 4094, api.ErrProg)
}

// The chapter's examples.
func TestExamples(t *testing.T) {
	told(t, []api.Insn{ret}, 0, api.OK)
	told(t, []api.Insn{k(api.LdMem, 0), k(api.RetA, 0)}, 0, api.ErrProg)
	told(t, []api.Insn{k(api.St, 0), k(api.LdMem, 0), k(api.RetA, 0)}, 0, api.OK)
}
