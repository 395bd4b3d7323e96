package daemon

import (
	"slices"
	"strings"

	"doorward/api"
	"doorward/maker"
)

// Note does a request to what is remembered, if the answer says that it was done.
func Note(l []api.Book, q api.Ask, why api.Errno) ([]api.Book, api.Reply) {
	m := memory{books: copied(l), ask: q}
	switch {
	case !Right(q):
		m.fail(api.ErrArg)
	case why != api.OK && changes(q.Kind):
		m.fail(why)
	default:
		notes()[q.Kind](&m)
	}
	return m.books, m.reply
}

func notes() map[int]func(*memory) {
	return map[int]func(*memory){
		api.QPublish:  (*memory).publish,
		api.QRollback: (*memory).rollback,
		api.QDelete:   (*memory).delete,
		api.QGet:      (*memory).get,
		api.QList:     (*memory).list,
		api.QEval:     (*memory).eval,
		api.QCollect:  (*memory).stay,
		api.QSettle:   (*memory).stay,
	}
}

func changes(kind int) bool {
	return kind != api.QGet && kind != api.QList && kind != api.QEval
}

// copied are books of their own, pages and all.
func copied(l []api.Book) []api.Book {
	l = slices.Clone(l)
	for i := range l {
		l[i].Pages = slices.Clone(l[i].Pages)
	}
	return l
}

// memory is where a request is done to what is remembered.
type memory struct {
	books []api.Book
	ask   api.Ask
	reply api.Reply
}

func (m *memory) fail(why api.Errno) { m.reply = api.Reply{Why: why} }

func (m *memory) stay() {}

func (m *memory) find() (int, bool) {
	return slices.BinarySearchFunc(m.books, m.ask.Name, func(b api.Book, name string) int { return strings.Compare(b.Name, name) })
}

// page is the one that is asked for, of its book: with an error there is none, and the answer says why.
func (m *memory) page() (*api.Book, api.Page, bool) {
	at, found := m.find()
	if !found {
		m.fail(api.ErrName)
		return nil, api.Page{}, false
	}
	b := &m.books[at]
	no := m.ask.No
	if no == 0 && m.ask.Kind != api.QRollback {
		no = b.Current
	}
	i := slices.IndexFunc(b.Pages, func(p api.Page) bool { return p.No == no })
	if no == 0 || i < 0 {
		m.fail(api.ErrVersion)
		return nil, api.Page{}, false
	}
	return b, b.Pages[i], true
}

func (m *memory) publish() {
	prog, why, place := maker.Make(m.ask.Source)
	if why != api.OK {
		m.reply = api.Reply{Why: why, At: place}
		return
	}
	at, found := m.find()
	if !found {
		m.books = slices.Insert(m.books, at, api.Book{Name: m.ask.Name, Next: 1})
	}
	b := &m.books[at]
	no := b.Next
	b.Pages = append(b.Pages, api.Page{No: no, Source: m.ask.Source, Insns: len(prog)})
	b.Current, b.Next = no, no+1
	m.reply = api.Reply{No: no, Insns: len(prog)}
}

func (m *memory) rollback() {
	if b, p, found := m.page(); found {
		b.Current = p.No
		m.reply.No = p.No
	}
}

func (m *memory) get() {
	if _, p, found := m.page(); found {
		m.reply = api.Reply{No: p.No, Source: p.Source, Insns: p.Insns}
	}
}

func (m *memory) eval() {
	_, p, found := m.page()
	if !found {
		return
	}
	if len(m.ask.Record) != api.Record {
		m.fail(api.ErrRecord)
		return
	}
	action, why := maker.Mean(p.Source, m.ask.Record)
	if why != api.OK {
		m.fail(why)
		return
	}
	m.reply = api.Reply{No: p.No, Action: action}
}

func (m *memory) delete() {
	at, found := m.find()
	if !found {
		m.fail(api.ErrName)
		return
	}
	m.books = slices.Delete(m.books, at, at+1)
}

func (m *memory) list() {
	for _, b := range m.books {
		line := api.Line{Name: b.Name, Current: b.Current}
		for _, p := range b.Pages {
			line.Nos = append(line.Nos, p.No)
		}
		m.reply.Lines = append(m.reply.Lines, line)
	}
}
