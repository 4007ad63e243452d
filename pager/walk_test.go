package pager

import (
	"maps"
	"slices"
	"testing"

	"arboretum/api"
	"arboretum/dev"
	"arboretum/free"
)

const room = 24 // pages of the device of a walk

// plain is a pager, its device and its Free by another hand: of each number what it is.
type plain struct {
	there, pages  int
	now           [room]string // "made", "dropped", "spare", "back", or "" of what was not touched
	memory, disk  [room]api.Page
	loose, waits  []int // what is free, what waits
	grown, writes int
}

// all tells the numbers that are something, rising.
func (m *plain) all(what string) []int {
	var l []int
	for id, w := range m.now {
		if w == what {
			l = append(l, id)
		}
	}
	return l
}

func (m *plain) back(l ...int) {
	m.loose = append(m.loose, l...)
	slices.Sort(m.loose)
}

func (m *plain) read(id int) (api.Page, api.Errno) {
	switch {
	case id < 2 || id >= m.pages:
		return api.Page{}, api.ErrIndex
	case m.now[id] == "made":
		return m.memory[id], api.OK
	case m.now[id] != "":
		return api.Page{}, api.ErrNone
	case m.disk[id].Kind == 0: // bytes 0, never written
		return api.Page{}, api.ErrSum
	}
	return m.disk[id], api.OK
}

func (m *plain) fresh(x api.Page) (int, api.Errno) {
	id := m.pages
	if spare := m.all("spare"); len(spare) > 0 {
		id = spare[0]
	} else if len(m.loose) > 0 {
		id, m.loose = m.loose[0], m.loose[1:]
	} else if id == room {
		return 0, api.ErrFull
	}
	m.pages = max(m.pages, id+1)
	m.grown = max(m.grown, m.pages)
	m.now[id], m.memory[id] = "made", x
	return id, api.OK
}

func (m *plain) drop(id int) api.Errno {
	_, e := m.read(id)
	switch {
	case e != api.OK:
		return e
	case m.now[id] == "":
		m.now[id] = "dropped"
	case id < m.there:
		m.now[id] = "back"
		m.back(id)
	default:
		m.now[id] = "spare"
	}
	return api.OK
}

func (m *plain) flush() {
	for _, id := range m.all("made") {
		m.disk[id] = m.memory[id]
		m.writes++
	}
	m.waits = append(m.waits, m.all("dropped")...)
	m.back(m.all("spare")...)
	m.there, m.now = m.pages, [room]string{}
}

func (m *plain) undo() {
	for _, id := range m.all("made") {
		if id < m.there {
			m.back(id)
		}
	}
	m.pages, m.now = m.there, [room]string{}
}

// alike holds a pager, its device and its Free against the plain ones.
func (m *plain) alike(t *testing.T, d *dev.Dev, f *free.Free, p *Pager) {
	t.Helper()
	holds(t, p, m.pages, m.all("made"), m.all("dropped"), m.all("spare"))
	all := slices.Concat(m.loose, m.waits)
	slices.Sort(all)
	lists(t, f, m.loose, all)
	if d.Unsynced() != m.writes || d.Len() != m.grown {
		t.Errorf("%d writes on %d pages, not %d on %d", d.Unsynced(), d.Len(), m.writes, m.grown)
	}
	for id := range room + 2 {
		want, e := m.read(id)
		if x, g := p.Read(id); x != want || g != e {
			t.Errorf("Read(%d): %v, %d, not %v, %d", id, x, g, want, e)
		}
	}
}

// step does one thing that dice choose, with a pager and the plain one.
func (m *plain) step(t *testing.T, r *dice, f *free.Free, p *Pager) {
	id := r.roll(room + 2)
	switch r.roll(40) {
	default:
		x := r.content()
		want, e := m.fresh(x)
		if id, g := p.Make(x); id != want || g != e {
			t.Errorf("Make: %d, %d, not %d, %d", id, g, want, e)
		}
	case 0, 1, 2, 3, 4, 5, 6, 7, 8, 9, 10, 11, 12, 13, 14, 15, 16, 17:
		if !slices.Contains(f.All(), id) {
			drops(t, p, id, m.drop(id))
		}
	case 18, 19, 20, 21, 22, 23, 24, 25:
		x, want := r.content(), api.ErrState
		if slices.Contains(m.all("made"), id) {
			m.memory[id], want = x, api.OK
		}
		puts(t, p, id, x, want)
	case 26:
		m.flush()
		flushes(t, p, api.OK)
	case 27:
		m.undo()
		p.Undo()
	case 28:
		m.back(m.waits...)
		m.waits = nil
		f.Release()
	}
}

func TestP702Walk(t *testing.T) {
	for seed := range 40 {
		r := dice(seed)
		pages := 2 + r.roll(9)
		d, f, p := begun(t, room, pages)
		m := &plain{there: pages, pages: pages, grown: pages}
		for id := range pages {
			m.disk[id] = was(id)
		}
		for i := range 400 {
			m.step(t, &r, f, p)
			m.alike(t, d, f, p)
			if t.Failed() {
				t.Fatal("seed", seed, "step", i)
			}
		}
	}
}

// changed makes, changes and drops some pages of a state: the next one.
func changed(t *testing.T, r *dice, p *Pager, state map[int]api.Page) map[int]api.Page {
	t.Helper()
	next := maps.Clone(state)
	for range r.roll(30) {
		ids := slices.Sorted(maps.Keys(next))
		if len(ids) > 0 && r.roll(2) == 0 {
			id := ids[r.roll(len(ids))]
			if p.Own(id) && r.roll(2) == 0 {
				x := r.content()
				puts(t, p, id, x, api.OK)
				next[id] = x
				continue
			}
			drops(t, p, id, api.OK)
			delete(next, id)
			continue
		}
		x := r.content()
		if id, e := p.Make(x); e == api.OK {
			if _, twice := next[id]; twice {
				t.Errorf("page %d is made, and used", id)
			}
			next[id] = x
		}
	}
	return next
}

// there looks at all pages of some states as the device has them.
func there(t *testing.T, d *dev.Dev, states []map[int]api.Page, txns ...int) {
	t.Helper()
	for _, txn := range txns {
		for id, x := range states[txn] {
			lies(t, d, id, x)
		}
	}
}

// cut tells a device as it is where its power fails now, and comes back.
func cut(r *dice, d *dev.Dev) *dev.Dev {
	twin, keep := d.Twin(), make([]int, d.Unsynced())
	for i := range keep {
		keep[i] = r.roll(256) | r.roll(256)
	}
	twin.Crash(keep...)
	twin.Restore()
	return twin
}

// Whatever a transaction does, wherever its power fails, whatever sectors stay: the pages of the state ahead are there, and those of open views.
func TestP704NoPageOfTheStateAhead(t *testing.T) {
	var r dice = 704
	d, f := file(t, 120, 2), free.New()
	states, pages, failed := []map[int]api.Page{{}}, 2, 0
	var views []int
	for len(states) < 400 && !t.Failed() {
		txn := len(states)
		p, e := New(d, f, pages, txn)
		if e != api.OK {
			t.Fatal("no pager", e)
		}
		ahead := append(slices.Clone(views), txn-1)
		next := changed(t, &r, p, states[txn-1])
		there(t, d, states, ahead...)
		d.Fuse(r.roll(30))
		e = p.Flush()
		d.Fuse(-1)
		d.Restore()
		there(t, d, states, ahead...)
		there(t, cut(&r, d), states, ahead...)
		if e != api.OK || r.roll(9) == 0 {
			if e == api.OK { // all is written, and yet it is not the state: f is as a writer left it that was thrown away
				d, f = cut(&r, d), free.New(loose(pages, states[txn-1])...)
				views = nil
			} else {
				p.Undo()
				failed++
			}
			continue
		}
		d.Sync()
		pages, states = p.Pages(), append(states, next)
		there(t, cut(&r, d), states, append(ahead, txn)...)
		views = seen(&r, f, views, txn)
	}
	if failed < 20 {
		t.Errorf("the power failed %d times", failed)
	}
}

// loose tells the pages that a state has not.
func loose(pages int, state map[int]api.Page) []int {
	var l []int
	for id := 2; id < pages; id++ {
		if _, used := state[id]; !used {
			l = append(l, id)
		}
	}
	return l
}

// seen opens and closes views, and frees what none reads.
func seen(r *dice, f *free.Free, views []int, txn int) []int {
	if r.roll(3) == 0 {
		views = append(views, txn)
		f.Pin(txn)
	}
	if r.roll(2) == 0 && len(views) > 0 {
		f.Unpin(views[0])
		views = views[1:]
	}
	f.Release()
	return views
}
