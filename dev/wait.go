package dev

const firstRoom = 16 // most commits write fewer pages

// write is a write that waits for a Sync.
type write struct {
	page int
	data string
}

// line is the writes that wait, the eldest one in front. A zero line has none.
type line struct{ waits chan write }

func (l *line) count() int { return len(l.waits) }

// put lets a write wait behind all others.
func (l *line) put(w write) {
	for {
		select {
		case l.waits <- w:
			return
		default: // full, or not made yet
			l.widen()
		}
	}
}

// take takes out the eldest write, if there is one.
func (l *line) take() (write, bool) {
	select {
	case w := <-l.waits:
		return w, true
	default:
		return write{}, false
	}
}

// widen makes room for as many more writes.
func (l *line) widen() {
	wide := line{make(chan write, max(2*cap(l.waits), firstRoom))}
	for w, ok := l.take(); ok; w, ok = l.take() {
		wide.put(w)
	}
	*l = wide
}

// twin makes another line of the same writes.
func (l *line) twin() line {
	var t line
	for range l.count() { // once round: each one goes to the end of its own line too
		w, _ := l.take()
		l.put(w)
		t.put(w)
	}
	return t
}
