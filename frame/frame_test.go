package frame_test

import (
	"hash/crc32"
	"math"
	"math/rand"
	"slices"
	"strings"
	"testing"

	"doorward/api"
	"doorward/call"
	"doorward/daemon"
	"doorward/frame"
	"doorward/shelf"
)

const head = "arch x86_64\ndefault allow\n"

func sameReply(a, b api.Reply) bool {
	return a.Why == b.Why && a.At == b.At && a.No == b.No && a.Source == b.Source && a.Insns == b.Insns && a.Action == b.Action &&
		slices.EqualFunc(a.Lines, b.Lines, func(x, y api.Line) bool {
			return x.Name == y.Name && x.Current == y.Current && slices.Equal(x.Nos, y.Nos)
		})
}

func sameShelf(a, b api.Shelf) bool {
	return slices.Equal(a.Sectors, b.Sectors) && slices.Equal(a.Pending, b.Pending) && a.Left == b.Left && a.Epoch == b.Epoch && a.Seq == b.Seq && a.Used == b.Used && slices.Equal(a.Dirty, b.Dirty) &&
		slices.Equal(a.Taken, b.Taken) && a.List == b.List && slices.EqualFunc(a.Entries, b.Entries, func(x, y api.Entry) bool {
		return x.Name == y.Name && x.Current == y.Current && x.Next == y.Next && slices.Equal(x.Vers, y.Vers)
	})
}

func le(n, size int) string {
	b := make([]byte, size)
	for i := range b {
		b[i] = byte(uint64(n) >> (8 * i))
	}
	return string(b)
}

func text(s string) string { return le(len(s), 2) + s }

func seal(s string) string { return s + le(int(crc32.ChecksumIEEE([]byte(s))), 4) }

// asked are a request's bytes, whether it may be or not.
func asked(q api.Ask) string {
	return seal(le(q.Kind, 1) + text(q.Name) + le(q.No, 8) + text(q.Source) + text(q.Record))
}

// answered are an answer's bytes, whether it may be written or not.
func answered(r api.Reply) string {
	s := le(int(r.Why), 2) + le(r.At, 2) + le(r.No, 2) + text(r.Source) + le(r.Insns, 2) + le(int(r.Action), 4) + le(len(r.Lines), 1)
	for _, line := range r.Lines {
		s += text(line.Name) + le(line.Current, 2) + le(len(line.Nos), 1)
		for _, no := range line.Nos {
			s += le(no, 2)
		}
	}
	return seal(s)
}

func rightAsks() []api.Ask {
	l := []api.Ask{{Kind: api.QList}, {Kind: api.QCollect}, {Kind: api.QSettle}, {Kind: api.QPublish, Name: "a"}, {Kind: api.QPublish, Name: "123456789012", Source: strings.Repeat("s", 2000)}, {Kind: api.QPublish, Name: "\x00", Source: "\x00\xff"}, {Kind: api.QDelete, Name: "web"}}
	for _, kind := range []int{api.QRollback, api.QGet, api.QEval} {
		for _, no := range []int{0, 1, 255, 256, 65536, 1 << 40, math.MaxInt} {
			l = append(l, api.Ask{Kind: kind, Name: "web", No: no})
		}
	}
	return append(l, api.Ask{Kind: api.QEval, Name: "web", Record: strings.Repeat("r", 64)}, api.Ask{Kind: api.QEval, Name: "web", No: 3, Record: strings.Repeat("r", 100)}, api.Ask{Kind: api.QEval, Name: "w", Record: "\x00"})
}

func wrongAsks() []api.Ask {
	return []api.Ask{
		{}, {Kind: 9}, {Kind: -1}, {Kind: 257}, {Kind: 255}, {Kind: math.MaxInt}, {Kind: api.QPublish}, {Kind: api.QPublish, Name: "1234567890123"}, {Kind: api.QPublish, Name: "a", Source: strings.Repeat("s", 2001)}, {Kind: api.QPublish, Name: "a", No: 1}, {Kind: api.QPublish, Name: "a", Record: "r"},
		{Kind: api.QGet, Name: "a", No: -1}, {Kind: api.QGet, Name: "a", No: math.MinInt}, {Kind: api.QGet, Name: "a", Source: "s"}, {Kind: api.QGet, Name: "a", Record: "r"}, {Kind: api.QGet}, {Kind: api.QEval, Name: "a", Record: strings.Repeat("r", 101)}, {Kind: api.QEval, Name: "a", Record: strings.Repeat("r", 70000)},
		{Kind: api.QEval, Name: "a", Source: "s"}, {Kind: api.QList, Name: "a"}, {Kind: api.QList, No: 1}, {Kind: api.QSettle, Source: "s"}, {Kind: api.QCollect, Record: "r"}, {Kind: api.QDelete, Name: "a", No: 1}, {Kind: api.QDelete}, {Kind: api.QRollback, Name: "a", No: -1},
		{Kind: api.QPublish, Name: strings.Repeat("n", 70000)}, {Kind: api.QPublish, Name: "a", Source: strings.Repeat("s", 70000)},
	}
}

// P24.1, P24.4: requests, written and read again.
func TestAsk(t *testing.T) {
	for _, q := range rightAsks() {
		s, e := frame.Ask(q)
		if s != asked(q) || e != api.OK {
			t.Errorf("Ask(%v) = %q, %d", q, s, e)
		}
		if got, e := frame.ReadAsk(s); got != q || e != api.OK {
			t.Errorf("ReadAsk(%q) = %v, %d", s, got, e)
		}
	}
	for _, q := range wrongAsks() {
		if s, e := frame.Ask(q); s != "" || e != api.ErrArg {
			t.Errorf("Ask(%v) = %q, %d", q, s, e)
		}
		if len(q.Name) < 65536 && len(q.Source) < 65536 && len(q.Record) < 65536 && q.Kind >= 0 && q.Kind < 256 {
			noAsk(t, asked(q))
		}
	}
}

func noAsk(t *testing.T, s string) {
	t.Helper()
	if q, e := frame.ReadAsk(s); q != (api.Ask{}) || e != api.ErrFrame {
		t.Errorf("ReadAsk(%q) = %v, %d", s, q, e)
	}
}

// inner is what is sealed in bytes.
func inner(s string) string { return s[:len(s)-4] }

// P24.1: bytes that are no request's.
func TestReadAskRefuses(t *testing.T) {
	for _, s := range []string{"", "a", "abc", "abcd", seal(""), seal("\x05"), seal("\x05\x00\x00"), strings.Repeat("\x00", 15), strings.Repeat("\xff", 100)} {
		noAsk(t, s)
	}
	for _, q := range rightAsks() {
		if len(q.Source) > 100 {
			continue
		}
		s := asked(q)
		noAsk(t, s+"\x00")
		noAsk(t, "\x00"+s)
		noAsk(t, inner(s))
		noAsk(t, seal(inner(s)+"\x00"))
		noAsk(t, seal(inner(s)+"a"))
		noAsk(t, seal(s))
		for i := range s {
			noAsk(t, s[:i])
			if i < len(s)-4 {
				noAsk(t, seal(s[:i]))
			}
		}
	}
	get := le(api.QGet, 1) + text("web")
	noAsk(t, seal(get+"\x00\x00\x00\x00\x00\x00\x00\x80"+text("")+text(""))) // a number below 0
	noAsk(t, seal(get+"\xff\xff\xff\xff\xff\xff\xff\xff"+text("")+text("")))
	noAsk(t, seal(get+le(1, 8)+"\xff\xff"))
	noAsk(t, seal(get+le(1, 8)+text("")+"\x01\x00"))
}

func rightReplies() []api.Reply {
	most := api.Reply{Why: 65535, At: 65535, No: 65535, Source: strings.Repeat("s", 2000), Insns: 65535, Action: math.MaxUint32}
	most.Lines = slices.Repeat([]api.Line{{Name: strings.Repeat("n", 40), Current: 65535, Nos: []int{65535, 0, 1, 2, 3, 65535}}}, 8)
	return []api.Reply{
		{}, {Why: api.ErrLine}, {Why: api.ErrParse, At: 17}, {No: 3, Insns: 9}, {No: 1, Source: head, Insns: 4096}, {No: 7, Action: 0x7fff0000}, {Action: 1}, {Source: "\x00"},
		{Lines: []api.Line{{}}}, {Lines: []api.Line{{Name: "web", Current: 2, Nos: []int{1, 2}}, {Name: "", Nos: []int{0}}, {Name: "\x00"}}}, {Lines: []api.Line{}}, {Lines: []api.Line{{Name: "a", Nos: []int{}}}}, most,
	}
}

func wrongReplies() []api.Reply {
	var l []api.Reply
	for _, n := range []int{-1, 65536, 65536 + 7, 1 << 32, math.MinInt, math.MaxInt} {
		l = append(l, api.Reply{Why: api.Errno(n)}, api.Reply{At: n}, api.Reply{No: n}, api.Reply{Insns: n}, api.Reply{Lines: []api.Line{{Current: n}}}, api.Reply{Lines: []api.Line{{}, {Nos: []int{1, n}}}})
	}
	return append(l, api.Reply{Source: strings.Repeat("s", 2001)}, api.Reply{Source: strings.Repeat("s", 70000)}, api.Reply{Lines: make([]api.Line, 9)}, api.Reply{Lines: make([]api.Line, 300)}, api.Reply{Lines: []api.Line{{Nos: make([]int, 7)}}}, api.Reply{Lines: []api.Line{{}, {Nos: make([]int, 300)}}},
		api.Reply{Lines: []api.Line{{Name: strings.Repeat("n", 41)}}}, api.Reply{Lines: []api.Line{{}, {Name: strings.Repeat("n", 70000)}}})
}

// P24.2, P24.4: answers, written and read again.
func TestReply(t *testing.T) {
	for _, r := range rightReplies() {
		s, e := frame.Reply(r)
		if s != answered(r) || e != api.OK {
			t.Errorf("Reply(%v) = %q, %d", r, s, e)
		}
		if got, e := frame.ReadReply(s); !sameReply(got, r) || e != api.OK {
			t.Errorf("ReadReply(%q) = %v, %d", s, got, e)
		}
	}
	for i, r := range wrongReplies() {
		if s, e := frame.Reply(r); s != "" || e != api.ErrArg {
			t.Errorf("Reply %d: %d bytes, %d", i, len(s), e)
		}
	}
}

func noReply(t *testing.T, s string) {
	t.Helper()
	if r, e := frame.ReadReply(s); !sameReply(r, api.Reply{}) || e != api.ErrFrame {
		t.Errorf("ReadReply(%q) = %v, %d", s, r, e)
	}
}

// P24.2: bytes that are no answer's.
func TestReadReplyRefuses(t *testing.T) {
	for _, s := range []string{"", "a", "abc", "abcd", seal(""), seal("\x00"), strings.Repeat("\x00", 19), strings.Repeat("\xff", 100)} {
		noReply(t, s)
	}
	for _, r := range rightReplies() {
		if len(r.Source) > 100 {
			continue
		}
		s := answered(r)
		noReply(t, s+"\x00")
		noReply(t, "\x00"+s)
		noReply(t, inner(s))
		noReply(t, seal(inner(s)+"\x00"))
		noReply(t, seal(s))
		for i := range s {
			noReply(t, s[:i])
			if i < len(s)-4 {
				noReply(t, seal(s[:i]))
			}
		}
	}
	for _, r := range []api.Reply{{Source: strings.Repeat("s", 2001)}, {Lines: make([]api.Line, 9)}, {Lines: make([]api.Line, 255)}, {Lines: []api.Line{{Nos: make([]int, 7)}}}, {Lines: []api.Line{{Nos: make([]int, 255)}}}, {Lines: []api.Line{{Name: strings.Repeat("n", 41)}}}} {
		noReply(t, answered(r))
	}
}

// turn turns the bits of pattern in s, the lowest one at the bit at.
func turn(s string, at int, pattern uint32) string {
	b := []byte(s)
	for i := range 32 {
		if pattern>>i&1 == 1 && at+i < 8*len(b) {
			b[(at+i)/8] ^= 1 << ((at + i) % 8)
		}
	}
	return string(b)
}

// P24.4: bits that are turned, all within 32, leave no request, and no answer.
func TestTurnedBits(t *testing.T) {
	r := rand.New(rand.NewSource(1))
	s := start(t)
	none, _ := frame.Reply(api.Reply{Why: api.ErrFrame})
	for _, q := range rightAsks() {
		if len(q.Source) > 100 {
			continue
		}
		bytes := asked(q)
		for at := range 8 * len(bytes) {
			for _, pattern := range []uint32{1, 0xffffffff, 0x80000001, r.Uint32() | 1} {
				if broken := turn(bytes, at, pattern); broken != bytes {
					noAsk(t, broken)
				}
			}
		}
		broken := turn(bytes, r.Intn(8*len(bytes)), 1)
		if x, answer := frame.Serve(s, broken); !sameShelf(x, s) || answer != none {
			t.Errorf("Serve(%q): %q", broken, answer)
		}
	}
	for _, a := range rightReplies()[:10] {
		bytes := answered(a)
		for at := range 8 * len(bytes) {
			noReply(t, turn(bytes, at, 1))
			noReply(t, turn(bytes, at, r.Uint32()|1))
		}
	}
}

func start(t *testing.T) api.Shelf {
	t.Helper()
	s, e := shelf.New(100)
	if e != api.OK {
		t.Fatal(e)
	}
	return s
}

// P24.3: Serve does what daemon.Do does.
func TestServe(t *testing.T) {
	s := start(t)
	record := call.Pack(api.Call{Nr: 1, Arch: 0xc000003e})
	for _, q := range []api.Ask{
		{Kind: api.QPublish, Name: "web", Source: head + "errno 13 write\n"}, {Kind: api.QPublish, Name: "db", Source: head}, {Kind: api.QPublish, Name: "web", Source: head + "allow if"}, {Kind: api.QPublish, Name: "web", Source: head},
		{Kind: api.QList}, {Kind: api.QGet, Name: "web"}, {Kind: api.QGet, Name: "none"}, {Kind: api.QGet, Name: "web", No: math.MaxInt}, {Kind: api.QEval, Name: "web", No: 1, Record: record}, {Kind: api.QEval, Name: "web", Record: record[1:]}, {Kind: api.QRollback, Name: "web", No: 1},
		{Kind: api.QEval, Name: "web", Record: record}, {Kind: api.QDelete, Name: "db"}, {Kind: api.QCollect}, {Kind: api.QSettle}, {Kind: api.QList},
	} {
		bytes, _ := frame.Ask(q)
		for _, left := range []int{-1, 0, 3} {
			s.Left = left
			want, answer := daemon.Do(s, q)
			written, _ := frame.Reply(answer)
			x, got := frame.Serve(s, bytes)
			if !sameShelf(x, want) || got != written || got != answered(answer) {
				t.Errorf("Serve(%v), Left %d: %q, not %v", q, left, got, answer)
			}
		}
		s.Left = -1
		s, _ = frame.Serve(s, bytes)
	}
	if len(s.Entries) != 1 {
		t.Error(s.Entries)
	}
}

// P24.3: bytes that are no request's leave the shelf as it is, whether it may be or not.
func TestServeOfNoRequest(t *testing.T) {
	want := answered(api.Reply{Why: api.ErrFrame})
	odd := start(t)
	odd.Taken = nil
	for _, s := range []api.Shelf{start(t), {}, odd} {
		for _, bytes := range []string{"", "abc", asked(api.Ask{}), asked(api.Ask{Kind: api.QGet}), asked(api.Ask{Kind: api.QEval, Name: "web", Record: strings.Repeat("r", 101)}), asked(api.Ask{Kind: api.QList}) + "\x00"} {
			if x, answer := frame.Serve(s, bytes); !sameShelf(x, s) || answer != want {
				t.Errorf("Serve(%q): %q", bytes, answer)
			}
		}
		if x, answer := frame.Serve(s, asked(api.Ask{Kind: api.QList})); !sameShelf(x, s) || s.Taken == nil && answer != answered(api.Reply{Why: api.ErrArg}) {
			t.Errorf("Serve of a list: %q", answer)
		}
	}
}

// P24.4 and P1: random bytes: what is read, written, is the bytes; nothing panics.
func TestRandomBytes(t *testing.T) {
	r := rand.New(rand.NewSource(2))
	asks, replies := 0, 0
	for range 20000 {
		s := inner(asked(rightAsks()[6]))
		if r.Intn(2) == 0 {
			s = inner(answered(rightReplies()[9]))
		}
		b := []byte(s)
		for range r.Intn(3) {
			b[r.Intn(len(b))] = byte(r.Intn(256) * r.Intn(2))
		}
		if r.Intn(4) == 0 {
			b = b[:r.Intn(len(b))]
		}
		s = seal(string(b))
		if q, e := frame.ReadAsk(s); e == api.OK {
			asks++
			if asked(q) != s || !daemon.Right(q) {
				t.Fatalf("%q: %v", s, q)
			}
		} else if q != (api.Ask{}) || e != api.ErrFrame {
			t.Fatalf("%q: %v, %d", s, q, e)
		}
		if a, e := frame.ReadReply(s); e == api.OK {
			replies++
			if again, f := frame.Reply(a); again != s || f != api.OK {
				t.Fatalf("%q: %v", s, a)
			}
		} else if !sameReply(a, api.Reply{}) || e != api.ErrFrame {
			t.Fatalf("%q: %v, %d", s, a, e)
		}
	}
	if asks < 100 || replies < 100 {
		t.Error(asks, replies)
	}
}

// The chapter's example.
func TestExample(t *testing.T) {
	s := start(t)
	x, answer := frame.Serve(s, "")
	if r, e := frame.ReadReply(answer); !sameShelf(x, s) || !sameReply(r, api.Reply{Why: api.ErrFrame}) || e != api.OK {
		t.Error(r, e)
	}
}
