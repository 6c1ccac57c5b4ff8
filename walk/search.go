package walk

// state is how a search stands to a router.
type state int

const (
	unknown state = iota
	onTheWay
	leftBehind
)

// search goes all ways that a packet may go, over each router once.
type search struct {
	packet
	states []state
	loops  bool
}

// visit goes on from the router i over each of its hops.
func (s *search) visit(i int) {
	s.states[i] = onTheWay
	hops, _ := s.routeAt(i)
	for _, h := range hops {
		next, leads := s.over(i, h)
		switch {
		case !leads:
		case s.states[next] == onTheWay:
			s.loops = true
		case s.states[next] == unknown:
			s.visit(next)
		}
	}
	s.states[i] = leftBehind
}
