package serve

// ticket is by what an upload or a download that is under way is known.
type ticket struct {
	number int
	asked  int // what time it was when something was asked of it last
}

// session is an upload or a download that is under way.
type session[T any] struct {
	ticket
	of T
}

// sessions are a tenant's uploads, or its downloads, in the order in which they were opened.
type sessions[T any] struct {
	opened int // how many there ever were
	list   []session[T]
}

// open puts one more under way, and answers its number.
func (s *sessions[T]) open(of T, now int) int {
	s.opened++
	s.list = append(s.list, session[T]{ticket: ticket{number: s.opened, asked: now}, of: of})
	return s.opened
}

// ask finds the one of a number; that something is asked of it counts, whatever is answered.
func (s *sessions[T]) ask(number, now int) (T, bool) {
	for i := range s.list {
		x := &s.list[i]
		if x.number == number {
			x.asked = now
			return x.of, true
		}
	}
	var none T
	return none, false
}

// leave takes out those that are no more, and answers them.
func (s *sessions[T]) leave(gone func(ticket) bool) []T {
	var ended []T
	var rest []session[T]
	for _, x := range s.list {
		if gone(x.ticket) {
			ended = append(ended, x.of)
		} else {
			rest = append(rest, x)
		}
	}
	s.list = rest
	return ended
}

// numbered is those that have a number.
func numbered(number int) func(ticket) bool {
	return func(x ticket) bool { return x.number == number }
}
