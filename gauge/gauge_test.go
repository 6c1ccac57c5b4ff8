package gauge_test

import (
	"math"
	"math/big"
	"math/rand"
	"slices"
	"testing"

	"waymark/api"
	"waymark/gauge"
)

const (
	least = math.SmallestNonzeroFloat64
	most  = math.MaxFloat64
)

var (
	nan   = math.NaN()
	inf   = math.Inf(1)
	below = math.Inf(-1)
	minus = math.Copysign(0, -1)
)

// odd answers numbers of all kinds, in Order's order, no two of them equal but the NaNs.
func odd() []float64 {
	return []float64{nan, math.Float64frombits(0xfff8000000000001), below, -most, -1e300, -2, -1, -0.5, -1e-308, -least, minus, 0, least, 1e-308, 0.25, 0.5, 1, math.Nextafter(1, 2), 2, 16777214, 16777215, 1e9, 1e300, most, inf}
}

// P2.1

func TestKind(t *testing.T) {
	for _, c := range []struct {
		x    float64
		want int
	}{
		{nan, 0}, {-nan, 0}, {math.Float64frombits(0x7ff0000000000001), 0}, {math.Float64frombits(0xffffffffffffffff), 0},
		{below, 1},
		{-most, 2}, {-1, 2}, {-least, 2},
		{minus, 3},
		{0, 4},
		{least, 5}, {1, 5}, {most, 5},
		{inf, 6},
	} {
		if k := gauge.Kind(c.x); k != c.want {
			t.Errorf("Kind(%v) = %d; want %d", c.x, k, c.want)
		}
	}
}

func TestOrder(t *testing.T) {
	numbers := odd()
	for i, a := range numbers {
		for j, b := range numbers {
			want := 0
			switch {
			case i < 2 && j < 2: // both NaN
			case i < j:
				want = -1
			case i > j:
				want = 1
			}
			if n := gauge.Order(a, b); n != want {
				t.Errorf("Order(%v, %v) = %d; want %d", a, b, n, want)
			}
		}
	}
}

func TestOrderSorts(t *testing.T) {
	list := []float64{inf, 0, 1, nan, minus, -1, below, 0, minus}
	slices.SortFunc(list, gauge.Order)
	for i, want := range []int{0, 1, 2, 3, 3, 4, 4, 5, 6} {
		if gauge.Kind(list[i]) != want {
			t.Fatal(list)
		}
	}
}

// P2.2

func TestCost(t *testing.T) {
	for _, c := range []struct {
		reference, bandwidth float64
		want                 uint32
	}{
		{100, 10, 10}, {100, 30, 4}, {100, 0, 16777214}, {100, minus, 1}, {0, 0, 16777215}, {1, inf, 1},
		{nan, 1, 16777215}, {1, nan, 16777215}, {nan, nan, 16777215}, {inf, inf, 16777215}, {below, inf, 16777215}, {0, minus, 16777215}, {nan, 0, 16777215},
		{inf, 1, 16777214}, {inf, 0, 16777214}, {inf, minus, 1}, {below, 1, 1}, {below, -1, 16777214}, {-100, 0, 1}, {-100, minus, 16777214},
		{0, 5, 1}, {minus, 5, 1}, {-5, 1, 1}, {5, -1, 1}, {-8, -2, 4}, {1, 2, 1}, {1, 1, 1}, {7, 7, 1}, {least, 1, 1}, {-least, 1, 1},
		{math.Nextafter(1, 2), 1, 2}, {math.Nextafter(1, 0), 1, 1}, {1.5, 1, 2}, {2, 1, 2}, {math.Nextafter(2, 3), 1, 3}, {2.5, 1, 3}, {3, 2, 2},
		{16777212.5, 1, 16777213}, {16777213, 1, 16777213}, {math.Nextafter(16777213, 16777214), 1, 16777214}, {16777213.5, 1, 16777214},
		{16777214, 1, 16777214}, {math.Nextafter(16777214, 16777215), 1, 16777214}, {16777214.5, 1, 16777214}, {16777215, 1, 16777214}, {16777216, 1, 16777214},
		{4294967295, 1, 16777214}, {4294967297, 1, 16777214}, {1e19, 1, 16777214}, {most, 1, 16777214}, {most, least, 16777214}, {1, least, 16777214}, {1, most, 1},
		// The quotient counts as it is rounded: the exact one is above 10, the rounded one is 10.
		{1, 0.1, 10},
	} {
		if n := gauge.Cost(c.reference, c.bandwidth); n != c.want {
			t.Errorf("Cost(%v, %v) = %d; want %d", c.reference, c.bandwidth, n, c.want)
		}
	}
}

func TestCostIsTheLeastThatIsNoLess(t *testing.T) {
	r := rand.New(rand.NewSource(2))
	for range 2000 {
		reference, bandwidth := r.Float64()*1e6, r.Float64()*100
		q := reference / bandwidth
		if q <= 1 || q > 16777214 {
			continue
		}
		n := float64(gauge.Cost(reference, bandwidth))
		if n < q || n-1 >= q {
			t.Fatal(reference, bandwidth, n)
		}
	}
}

// P2.3

func TestSpan(t *testing.T) {
	for _, c := range []struct {
		ticks int
		draw  float64
		want  int
	}{
		{100, 1, 75}, {3, 1, 3}, {8, 0.5, 7}, {0, nan, 1},
		{100, 0, 100}, {100, minus, 100}, {100, -1, 100}, {100, -least, 100}, {100, below, 100}, {100, nan, 100}, {100, least, 100},
		{100, 2, 75}, {100, math.Nextafter(1, 2), 75}, {100, inf, 75}, {100, most, 75}, {100, math.Nextafter(1, 0), 76},
		{1, 1, 1}, {0, 1, 1}, {-1, 1, 1}, {math.MinInt, 1, 1}, {math.MinInt, nan, 1}, {2, 1, 2}, {4, 1, 3}, {4, 0.99, 4}, {5, 1, 4}, {7, 1, 6}, {8, 1, 6},
		{1000000000, 0, 1000000000}, {1000000000, 1, 750000000}, {1000000001, 0, 1000000000}, {1000000001, 1, 750000000}, {math.MaxInt, 0, 1000000000}, {math.MaxInt, 1, 750000000},
		{999999999, 0, 999999999}, {999999999, 1, 750000000},
		{10, 0.4, 9}, {10, 0.39, 10},
		// The product counts as it is rounded: 40 times the double next to 0.3 is below 12, and rounded it is 12.
		{40, 0.3, 37},
	} {
		if n := gauge.Span(c.ticks, c.draw); n != c.want {
			t.Errorf("Span(%d, %v) = %d; want %d", c.ticks, c.draw, n, c.want)
		}
	}
}

// rounded answers a number as a double, once rounded to the nearest, ties to even.
func rounded(x *big.Float) float64 {
	f, _ := x.Float64()
	return f
}

func exact(x float64) *big.Float {
	return new(big.Float).SetPrec(400).SetFloat64(x)
}

func TestSpanRoundsEachOperation(t *testing.T) {
	r := rand.New(rand.NewSource(3))
	for range 5000 {
		ticks := 1 + r.Intn(2000)
		draw := float64(r.Intn(1001)) / 1000
		product := rounded(new(big.Float).Mul(exact(float64(ticks)), exact(draw)))
		quotient := rounded(new(big.Float).Quo(exact(product), exact(4)))
		want := max(1, ticks-int(math.Floor(quotient)))
		if n := gauge.Span(ticks, draw); n != want {
			t.Fatalf("Span(%d, %v) = %d; want %d", ticks, draw, n, want)
		}
	}
}

// P2.4

func TestShares(t *testing.T) {
	for _, c := range []struct {
		loads []float64
		want  []uint32
	}{
		{[]float64{1, 1, 2}, []uint32{250, 250, 500}},
		{[]float64{inf, 5, inf}, []uint32{500, 0, 500}},
		{[]float64{nan, -1}, []uint32{0, 0}},
		{[]float64{1, 2}, []uint32{333, 666}},
		{nil, nil},
		{[]float64{}, nil},
		{[]float64{7}, []uint32{1000}},
		{[]float64{least}, []uint32{1000}},
		{[]float64{most}, []uint32{1000}},
		{[]float64{inf}, []uint32{1000}},
		{[]float64{0}, []uint32{0}},
		{[]float64{minus}, []uint32{0}},
		{[]float64{nan}, []uint32{0}},
		{[]float64{below}, []uint32{0}},
		{[]float64{-most}, []uint32{0}},
		{[]float64{0, minus, nan, below, -3}, []uint32{0, 0, 0, 0, 0}},
		{[]float64{0, minus, 3, nan, below, -3, 1}, []uint32{0, 0, 750, 0, 0, 0, 250}},
		{[]float64{below, inf, nan, inf, -1, inf, most}, []uint32{0, 333, 0, 333, 0, 333, 0}},
		{[]float64{below, 1}, []uint32{0, 1000}},
		{[]float64{least, least}, []uint32{500, 500}},
		{[]float64{least, 1}, []uint32{0, 1000}},
		{[]float64{1, 999}, []uint32{1, 999}},
		{[]float64{1, 1000}, []uint32{0, 999}},
		{[]float64{most, most}, []uint32{500, 500}},
		{[]float64{most, most, 1}, []uint32{500, 500, 0}},
		{[]float64{most, most, most, most, most}, []uint32{200, 200, 200, 200, 200}},
		{[]float64{most, most / 2}, []uint32{666, 333}},
		{[]float64{most, most / 4, most / 4, most / 2}, []uint32{500, 125, 125, 250}},
		// The quotient is rounded ahead of the product: the double next to 0.3 by 0.4 is below 0.75.
		{[]float64{0.3, 0.1}, []uint32{749, 250}},
		// From the first to the last: small ones behind a great one are lost, ahead of it they aren't.
		{[]float64{1, math.Ldexp(1, -53), math.Ldexp(1, -53)}, []uint32{1000, 0, 0}},
		{[]float64{math.Ldexp(1, -53), math.Ldexp(1, -53), 1}, []uint32{0, 0, 999}},
		// The sum of what isn't infinite isn't looked at.
		{[]float64{most, most, inf}, []uint32{0, 0, 1000}},
	} {
		got, e := gauge.Shares(c.loads)
		if !slices.Equal(got, c.want) || e != api.OK {
			t.Errorf("Shares(%v) = %v, %d; want %v", c.loads, got, e, c.want)
		}
	}
}

func TestSharesOfManyLoads(t *testing.T) {
	loads := make([]float64, 64)
	for _, x := range []float64{1, most, least, inf} {
		for i := range loads {
			loads[i] = x
		}
		got, e := gauge.Shares(loads)
		if len(got) != 64 || e != api.OK || slices.Min(got) != 15 || slices.Max(got) != 15 {
			t.Fatal(x, got, e)
		}
	}
	for _, count := range []int{65, 66, 1000} {
		if got, e := gauge.Shares(make([]float64, count)); got != nil || e != api.ErrLong {
			t.Fatal(count, got, e)
		}
	}
}

// shared is Shares with exact numbers that are rounded behind each operation.
func shared(loads []float64) []uint32 {
	sum := 0.0
	for _, x := range loads {
		sum = rounded(new(big.Float).Add(exact(sum), exact(x)))
	}
	var out []uint32
	for _, x := range loads {
		part := rounded(new(big.Float).Quo(exact(x), exact(sum)))
		out = append(out, uint32(rounded(new(big.Float).Mul(exact(1000), exact(part)))))
	}
	return out
}

func TestSharesRoundsEachOperation(t *testing.T) {
	r := rand.New(rand.NewSource(4))
	for range 3000 {
		loads := make([]float64, 1+r.Intn(64))
		for i := range loads {
			loads[i] = float64(1+r.Intn(1000)) / 10
		}
		got, e := gauge.Shares(loads)
		if want := shared(loads); !slices.Equal(got, want) || e != api.OK {
			t.Fatalf("Shares(%v) = %v, %d; want %v", loads, got, e, want)
		}
	}
}

func TestSharesHalvesWhatIsTooMuch(t *testing.T) {
	r := rand.New(rand.NewSource(5))
	for range 3000 {
		loads := make([]float64, 20+r.Intn(45))
		great := make([]float64, len(loads))
		for i := range loads {
			loads[i] = 50 + float64(r.Intn(500))/10
			great[i] = math.Ldexp(loads[i], 1017)
		}
		got, e := gauge.Shares(great)
		if want := shared(loads); !slices.Equal(got, want) || e != api.OK {
			t.Fatalf("Shares(%v) = %v, %d; want %v", great, got, e, want)
		}
	}
}

// What holds everywhere: memory, P1, P2.

func TestHandedInIsLeft(t *testing.T) {
	for _, x := range []float64{most, inf, 3} {
		room := []float64{x, x, -1, x, 7, 8}
		before := slices.Clone(room)
		gauge.Shares(room[:4])
		if !slices.Equal(room, before) {
			t.Fatal("what was handed in has changed")
		}
	}
}

func TestSharesAnswersNewMemory(t *testing.T) {
	loads := []float64{1, 1, 2}
	one, _ := gauge.Shares(loads)
	two, _ := gauge.Shares(loads)
	one = one[:cap(one)]
	for i := range one {
		one[i] = 77
	}
	loads[0] = 5
	three, _ := gauge.Shares([]float64{1, 1, 2})
	if want := []uint32{250, 250, 500}; !slices.Equal(two, want) || !slices.Equal(three, want) {
		t.Fatal("an answer shares memory with an earlier one")
	}
}

func TestNothingPanics(t *testing.T) {
	for _, a := range odd() {
		for _, b := range odd() {
			if n := gauge.Cost(a, b); n < 1 || n > api.MaxLink || n != gauge.Cost(a, b) {
				t.Fatal(a, b, n)
			}
			if n := gauge.Order(a, b); n != -gauge.Order(b, a) {
				t.Fatal(a, b, n)
			}
			for _, c := range odd() {
				loads := []float64{a, b, c}
				got, e := gauge.Shares(loads)
				again, _ := gauge.Shares(loads)
				if len(got) != 3 || e != api.OK || !slices.Equal(got, again) || got[0]+got[1]+got[2] > 1000 {
					t.Fatal(loads, got, e)
				}
			}
		}
		for _, ticks := range []int{math.MinInt, -1, 0, 1, 2, 3, 4, 5, 999999999, 1000000000, 1000000001, math.MaxInt} {
			n := gauge.Span(ticks, a)
			if n < 1 || n > 1000000000 || n != gauge.Span(ticks, a) {
				t.Fatal(ticks, a, n)
			}
		}
	}
}
