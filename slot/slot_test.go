package slot_test

import (
	"hash/crc32"
	"math"
	"math/rand"
	"slices"
	"strings"
	"testing"

	"doorward/api"
	"doorward/slot"
)

// bytes are a number's, as many as size.
func bytes(n, size int) string {
	b := make([]byte, size)
	for i := range b {
		b[i] = byte(uint64(n) >> (8 * i))
	}
	return string(b)
}

func untrimmed(s string) string { return s + bytes(int(crc32.ChecksumIEEE([]byte(s))), 4) }

func seal(s string) string { return strings.TrimRight(untrimmed(s), "\x00") }

func super(epoch int) string { return bytes(1, 1) + bytes(epoch, 6) }

func commit(epoch, seq int) string { return bytes(3, 1) + bytes(epoch, 6) + bytes(seq, 1) }

func head(h api.Head) string {
	s := bytes(2, 1) + bytes(h.Epoch, 6) + bytes(h.Seq, 1) + bytes(len(h.Targets), 1)
	for _, t := range h.Targets {
		s += bytes(t, 2)
	}
	return s
}

func sameHead(a, b api.Head) bool {
	return a.Epoch == b.Epoch && a.Seq == b.Seq && slices.Equal(a.Targets, b.Targets)
}

// from are n targets from a sector on.
func from(sector, n int) []int {
	var l []int
	for i := range n {
		l = append(l, sector+i)
	}
	return l
}

var (
	epochs      = []int{1, 2, 3, 255, 256, 65536, 1<<32 - 1, 1 << 32, 1<<40 - 1, 1 << 40}
	wrongEpochs = []int{0, -1, 1<<40 + 1, 1 << 48, 1<<48 + 1, math.MinInt, math.MaxInt}
	wrongPlaces = []int{-1, 6, 7, 256, math.MinInt, math.MaxInt}
)

func rightHeads() []api.Head {
	var l []api.Head
	for _, epoch := range epochs {
		l = append(l, api.Head{Epoch: epoch, Targets: []int{53}})
	}
	for seq := range 6 {
		l = append(l, api.Head{Epoch: 5, Seq: seq, Targets: []int{255, 53, 100}})
	}
	for n := 1; n <= 40; n++ {
		l = append(l, api.Head{Epoch: 9, Seq: 1, Targets: from(53, n)}, api.Head{Epoch: 9, Seq: 5, Targets: from(256-n, n)})
	}
	return l
}

func wrongHeads() []api.Head {
	var l []api.Head
	for _, epoch := range wrongEpochs {
		l = append(l, api.Head{Epoch: epoch, Targets: []int{53}})
	}
	for _, seq := range wrongPlaces {
		l = append(l, api.Head{Epoch: 1, Seq: seq, Targets: []int{53}})
	}
	for _, targets := range [][]int{nil, {}, from(53, 41), from(53, 203), {52}, {0}, {-1}, {256}, {53 + 256}, {53 + 65536}, {math.MinInt}, {math.MaxInt},
		{53, 53}, {60, 61, 60}, {53, 54, 256}, {54, 52, 53}, append(from(60, 39), 98)} {
		l = append(l, api.Head{Epoch: 1, Targets: targets})
	}
	return l
}

// P4.1, P4.3: the super, written and read again.
func TestSuper(t *testing.T) {
	for _, epoch := range epochs {
		s, e := slot.Super(api.Super{Epoch: epoch})
		if s != seal(super(epoch)) || e != api.OK {
			t.Errorf("Super(%d) = %q, %d", epoch, s, e)
		}
		if got, e := slot.ReadSuper(s); got.Epoch != epoch || e != api.OK {
			t.Errorf("ReadSuper(%q) = %v, %d", s, got, e)
		}
	}
	for _, epoch := range wrongEpochs {
		if s, e := slot.Super(api.Super{Epoch: epoch}); s != "" || e != api.ErrArg {
			t.Errorf("Super(%d) = %q, %d", epoch, s, e)
		}
	}
}

// P4.1, P4.3: commits, written and read again.
func TestCommit(t *testing.T) {
	for _, epoch := range epochs {
		for seq := range 6 {
			s, e := slot.Commit(epoch, seq)
			if s != seal(commit(epoch, seq)) || e != api.OK {
				t.Errorf("Commit(%d, %d) = %q, %d", epoch, seq, s, e)
			}
			if n, at, e := slot.ReadCommit(s); n != epoch || at != seq || e != api.OK {
				t.Errorf("ReadCommit(%q) = %d, %d, %d", s, n, at, e)
			}
		}
		for _, seq := range wrongPlaces {
			if s, e := slot.Commit(epoch, seq); s != "" || e != api.ErrArg {
				t.Errorf("Commit(%d, %d) = %q, %d", epoch, seq, s, e)
			}
		}
	}
	for _, epoch := range wrongEpochs {
		if s, e := slot.Commit(epoch, 0); s != "" || e != api.ErrArg {
			t.Errorf("Commit(%d, 0) = %q, %d", epoch, s, e)
		}
	}
}

// P4.1, P4.3: heads, written and read again; at most 512 bytes.
func TestHead(t *testing.T) {
	for _, h := range rightHeads() {
		was := slices.Clone(h.Targets)
		s, e := slot.Head(h)
		if s != seal(head(h)) || e != api.OK || len(s) > 512 {
			t.Errorf("Head(%v) = %q, %d", h, s, e)
		}
		if got, e := slot.ReadHead(s); !sameHead(got, h) || e != api.OK {
			t.Errorf("ReadHead(%q) = %v, %d", s, got, e)
		}
		if !slices.Equal(h.Targets, was) {
			t.Errorf("%v was %v", h.Targets, was)
		}
	}
	for _, h := range wrongHeads() {
		if s, e := slot.Head(h); s != "" || e != api.ErrArg {
			t.Errorf("Head(%v) = %q, %d", h, s, e)
		}
	}
}

// refused asks all three readers, which tell ErrForm and zero values alone.
func refused(t *testing.T, s string) {
	t.Helper()
	if got, e := slot.ReadSuper(s); got.Epoch != 0 || e != api.ErrForm {
		t.Errorf("ReadSuper(%q) = %v, %d", s, got, e)
	}
	if got, e := slot.ReadHead(s); !sameHead(got, api.Head{}) || e != api.ErrForm {
		t.Errorf("ReadHead(%q) = %v, %d", s, got, e)
	}
	if n, at, e := slot.ReadCommit(s); n != 0 || at != 0 || e != api.ErrForm {
		t.Errorf("ReadCommit(%q) = %d, %d, %d", s, n, at, e)
	}
}

// P4.2: what would be such a sector, but of an epoch, a place or targets that may not be.
func TestSealedSectorsThatMayNotBe(t *testing.T) {
	for _, epoch := range []int{0, 1<<40 + 1, 1<<47 + 1, 1<<48 - 1} {
		refused(t, seal(super(epoch)))
		refused(t, seal(commit(epoch, 0)))
		refused(t, seal(head(api.Head{Epoch: epoch, Targets: []int{53}})))
	}
	for _, seq := range []int{6, 7, 8, 128, 255} {
		refused(t, seal(commit(1, seq)))
		refused(t, seal(head(api.Head{Epoch: 1, Seq: seq, Targets: []int{53}})))
	}
	for _, h := range wrongHeads() {
		written := h.Epoch == 1 && h.Seq == 0
		for _, sector := range h.Targets {
			written = written && sector >= 0 && sector < 65536
		}
		if written {
			refused(t, seal(head(h)))
		}
	}
	for kind := range 256 {
		for _, s := range []string{bytes(kind, 1) + bytes(1, 6), bytes(kind, 1) + bytes(1, 6) + bytes(1, 1), bytes(kind, 1) + head(api.Head{Epoch: 1, Targets: []int{53}})[1:]} {
			if kind < 1 || kind > 3 {
				refused(t, seal(s))
			}
		}
	}
}

// P4.2: bytes that are none: broken, cut, with something behind, or not trimmed.
func TestBytesThatAreNone(t *testing.T) {
	for _, s := range []string{"", "\x00", "\x01", "\x02", "\x03", "abc", strings.Repeat("\x00", 512), strings.Repeat("\xff", 600), seal("")} {
		refused(t, s)
	}
	good := []string{super(1), super(1 << 40), commit(1, 0), commit(77, 5), head(api.Head{Epoch: 1, Targets: []int{53}}), head(api.Head{Epoch: 1 << 33, Seq: 3, Targets: from(60, 40)})}
	for _, inner := range good {
		s := seal(inner)
		refused(t, s+"\x00")
		refused(t, s+"x")
		refused(t, "\x00"+s)
		refused(t, s+strings.Repeat("\x00", 600))
		refused(t, inner)
		refused(t, seal(inner+"\x00"))
		refused(t, seal(inner+"x"))
		refused(t, seal(inner[:len(inner)-1]))
		for i := range s {
			refused(t, s[:i])
			for bit := range 8 {
				refused(t, s[:i]+string([]byte{s[i] ^ 1<<bit})+s[i+1:])
			}
		}
	}
	long := head(api.Head{Epoch: 1, Targets: []int{60, 61}})
	refused(t, seal(long[:8]+"\x01"+long[9:]))
	refused(t, seal(long[:8]+"\x03"+long[9:]))
	refused(t, seal(long[:8]+"\xff"+long[9:]))
}

// P4.2: where the sum ends in zero bytes they are trimmed off, and only so are the bytes right.
func TestSumsThatEndInZeros(t *testing.T) {
	found := 0
	for epoch := 1; epoch <= 3000; epoch++ {
		h := api.Head{Epoch: epoch, Seq: epoch % 6, Targets: []int{53 + epoch%200}}
		for _, inner := range []string{super(epoch), commit(epoch, epoch%6), head(h)} {
			s := untrimmed(inner)
			if s[len(s)-1] != 0 {
				continue
			}
			found++
			refused(t, s)
			if again, _ := slot.Super(api.Super{Epoch: epoch}); inner[0] == 1 && again != seal(inner) {
				t.Errorf("Super(%d) = %q", epoch, again)
			}
			if again, _ := slot.Head(h); inner[0] == 2 && again != seal(inner) {
				t.Errorf("Head(%v) = %q", h, again)
			}
			if again, _ := slot.Commit(epoch, epoch%6); inner[0] == 3 && again != seal(inner) {
				t.Errorf("Commit(%d) = %q", epoch, again)
			}
		}
		if got, e := slot.ReadSuper(seal(super(epoch))); got.Epoch != epoch || e != api.OK {
			t.Fatalf("ReadSuper of %d: %v, %d", epoch, got, e)
		}
		if got, e := slot.ReadHead(seal(head(h))); !sameHead(got, h) || e != api.OK {
			t.Fatalf("ReadHead of %v: %v, %d", h, got, e)
		}
		if n, at, e := slot.ReadCommit(seal(commit(epoch, epoch%6))); n != epoch || at != epoch%6 || e != api.OK {
			t.Fatalf("ReadCommit of %d: %d, %d, %d", epoch, n, at, e)
		}
	}
	if found == 0 {
		t.Error("no such sum")
	}
}

// P4.3: no bytes are two kinds; what is read, written, is the bytes; whatever random bytes are, nothing panics.
func TestKindsArePartedAndNothingPanics(t *testing.T) {
	r := rand.New(rand.NewSource(1))
	for range 20000 {
		b := make([]byte, r.Intn(30))
		r.Read(b)
		for i := range b {
			if r.Intn(2) == 0 {
				b[i] = byte(r.Intn(4))
			}
		}
		s := string(b)
		if r.Intn(2) == 0 {
			s = seal(s)
		}
		kinds := 0
		if x, e := slot.ReadSuper(s); e == api.OK {
			kinds++
			if again, _ := slot.Super(x); again != s {
				t.Fatalf("%q is %q", s, again)
			}
		}
		if x, e := slot.ReadHead(s); e == api.OK {
			kinds++
			if again, _ := slot.Head(x); again != s {
				t.Fatalf("%q is %q", s, again)
			}
		}
		if n, at, e := slot.ReadCommit(s); e == api.OK {
			kinds++
			if again, _ := slot.Commit(n, at); again != s {
				t.Fatalf("%q is %q", s, again)
			}
		}
		if kinds > 1 {
			t.Fatalf("%q is of %d kinds", s, kinds)
		}
	}
	for _, kind := range []string{super(3), commit(3, 1), head(api.Head{Epoch: 3, Seq: 1, Targets: []int{60}})} {
		kinds := 0
		s := seal(kind)
		if _, e := slot.ReadSuper(s); e == api.OK {
			kinds++
		}
		if _, e := slot.ReadHead(s); e == api.OK {
			kinds++
		}
		if _, _, e := slot.ReadCommit(s); e == api.OK {
			kinds++
		}
		if kinds != 1 {
			t.Errorf("%q is of %d kinds", s, kinds)
		}
	}
}

// The chapter's examples.
func TestExamples(t *testing.T) {
	s, _ := slot.Commit(3, 1)
	if epoch, seq, e := slot.ReadCommit(s); epoch != 3 || seq != 1 || e != api.OK {
		t.Error(epoch, seq, e)
	}
	if h, e := slot.ReadHead(s); e != api.ErrForm || !sameHead(h, api.Head{}) {
		t.Error(h, e)
	}
}
