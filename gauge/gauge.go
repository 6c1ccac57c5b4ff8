// Package gauge is layer 2: measures in floating point.
package gauge

import (
	"cmp"
	"math"

	"waymark/api"
)

// The kinds of numbers, in the order that Order puts them in.
const (
	notNumber = iota
	minusInfinity
	belowNought
	minusNought
	plusNought
	aboveNought
	plusInfinity
)

const (
	mostTicks = 1000000000
	mostLoads = 64
	whole     = 1000 // what is shared out
)

// Kind answers which kind of number x is.
func Kind(x float64) int {
	switch {
	case math.IsNaN(x):
		return notNumber
	case math.IsInf(x, -1):
		return minusInfinity
	case x < 0:
		return belowNought
	case x == 0 && math.Signbit(x):
		return minusNought
	case x == 0:
		return plusNought
	case math.IsInf(x, 1):
		return plusInfinity
	}
	return aboveNought
}

// Order answers -1, 0 or 1: how a stands to b, all numbers (NaN and the two noughts, too) being in one order.
func Order(a, b float64) int {
	if order := cmp.Compare(Kind(a), Kind(b)); order != 0 {
		return order
	}
	return cmp.Compare(a, b)
}

// Cost answers the metric of a link of that bandwidth.
func Cost(reference, bandwidth float64) uint32 {
	q := reference / bandwidth
	switch {
	case math.IsNaN(q):
		return api.MaxLink
	case q <= 1:
		return 1
	case q > api.MaxLink-1:
		return api.MaxLink - 1
	}
	return uint32(math.Ceil(q))
}

// Span answers how long a timer of so many ticks runs: up to a quarter less, by the draw.
func Span(ticks int, draw float64) int {
	ticks = min(max(ticks, 1), mostTicks)
	switch {
	case math.IsNaN(draw) || draw < 0:
		draw = 0
	case draw > 1:
		draw = 1
	}
	less := math.Floor(float64(ticks) * draw / 4)
	return max(ticks-int(less), 1)
}

// Shares answers how much of 1000 goes to each of the ways.
func Shares(loads []float64) ([]uint32, api.Errno) {
	if len(loads) > mostLoads {
		return nil, api.ErrLong
	}
	counts := counted(loads)
	total := sum(counts)
	for math.IsInf(total, 1) {
		halve(counts)
		total = sum(counts)
	}
	shares := make([]uint32, len(loads))
	if total == 0 {
		return shares, api.OK
	}
	for i, load := range counts {
		shares[i] = uint32(math.Floor(whole * (load / total)))
	}
	return shares, api.OK
}

// counted answers what each load counts as: finite, and not below nought.
func counted(loads []float64) []float64 {
	most := notNumber
	for _, load := range loads {
		most = max(most, Kind(load))
	}
	counts := make([]float64, len(loads))
	for i, load := range loads {
		switch kind := Kind(load); {
		case kind != most:
			// Beside infinite loads finite ones count as nothing.
		case kind == plusInfinity:
			counts[i] = 1
		case kind == aboveNought:
			counts[i] = load
		}
	}
	return counts
}

// sum adds from the first to the last: in another order it may be rounded otherwise.
func sum(list []float64) float64 {
	total := 0.0
	for _, x := range list {
		total += x
	}
	return total
}

// halve makes each one half as much.
func halve(list []float64) {
	for i := range list {
		list[i] /= 2
	}
}
