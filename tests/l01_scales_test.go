package tests

import (
	"fmt"
	"math"
	"reflect"
	"slices"
	"strings"
	"testing"

	"loop.example/g01281/impl"
)

// found is what trying all placings tells of one mass.
type found struct {
	ways  int64
	used  int64
	first impl.Placing
}

// tryAll tries all placings, in their order as lists, so that the first one with the fewest weights stays.
func tryAll(w impl.Weights, both bool) map[int64]found {
	seen := map[int64]found{}
	p := make(impl.Placing, len(w))
	var place func(i int, mass, used int64)
	place = func(i int, mass, used int64) {
		if i == len(w) {
			f := seen[mass]
			if f.ways == 0 || used < f.used {
				f.used, f.first = used, slices.Clone(p)
			}
			f.ways++
			seen[mass] = f
			return
		}
		for sign := int64(-1); sign <= 1; sign++ {
			if sign < 0 && !both {
				continue
			}
			p[i] = int8(sign)
			place(i+1, mass+sign*int64(w[i]), used+sign*sign)
		}
	}
	place(0, 0, 0)
	return seen
}

// lists gives out all valid weights of so many numbers that are at most top.
func lists(count int, top int16) []impl.Weights {
	if count == 0 {
		return []impl.Weights{nil}
	}
	var out []impl.Weights
	for _, w := range lists(count-1, top) {
		low := int16(1)
		if len(w) > 0 {
			low = w[len(w)-1]
		}
		for last := low; last <= top; last++ {
			out = append(out, append(slices.Clone(w), last))
		}
	}
	return out
}

func someWeights() []impl.Weights {
	out := []impl.Weights{
		{7, 7, 7, 7, 7, 7}, {1, 1, 1, 1, 1, 1, 1}, {1, 3, 9, 27, 81, 243}, {1, 2, 4, 8, 16, 32},
		{2, 4, 6, 8, 10}, {5, 6, 8, 9, 9, 14}, {1, 1, 3, 3, 9, 9}, {2000}, {1, 1999}, {600, 601, 799},
		{10, 11, 12, 13, 14, 15, 16, 17},
	}
	for count := 1; count <= 3; count++ {
		out = append(out, lists(count, 7)...)
	}
	return append(out, lists(4, 5)...)
}

var badWeights = []impl.Weights{
	nil, {}, {0}, {-1}, {0, 1}, {-3, 1}, {2, 1}, {1, 3, 2}, {2001}, {1000, 1001}, {math.MaxInt16, math.MaxInt16},
	{1, 1, 1, 1, 1, 1, 1, 1, 1, 1, 1, 1, 1, 1, 1, 1, 1}, {math.MinInt16, math.MaxInt16},
	{32767, 32767, 2}, make(impl.Weights, 1000000),
}

var badNumbers = []int64{-1, -2, 2001, 1000001, math.MinInt64, math.MaxInt64, 1 << 32, 1<<32 + 1}

func TestCodeNames(t *testing.T) {
	names := []string{"ok", "invalid", "range", "limit", "state", "syntax", "notfound", "budget", "proof"}
	codes := []int64{impl.OK, impl.ErrInvalid, impl.ErrRange, impl.ErrLimit, impl.ErrState, impl.ErrSyntax, impl.ErrNotFound, impl.ErrBudget, impl.ErrProof}
	for i, code := range codes {
		want(t, "code", code, int64(i))
		want(t, "name", impl.CodeName(code), names[i])
	}
	for _, code := range []int64{-1, 9, 10, 256, 1 << 32, math.MinInt64, math.MaxInt64} {
		want(t, fmt.Sprint("name of ", code), impl.CodeName(code), "")
	}
	want(t, "limits", []int{impl.MaxWeights, impl.MaxSum, impl.MaxArm}, []int{16, 2000, 100})
}

func TestScalesExample(t *testing.T) {
	w := impl.Weights{1, 3, 9}
	five, code := impl.PlacingFor(w, 5, true)
	want(t, "5", all(impl.PlacingText(five), code), all("--+", int64(0)))
	two, code := impl.PlacingFor(w, 2, true)
	want(t, "2", all(impl.PlacingText(two), code), all("-+0", int64(0)))
	want(t, "up to", all(impl.AllUpTo(w, true)), all(int64(13), int64(0)))
	want(t, "one pan", all(impl.CanWeigh(w, 2, false)), all(false, int64(0)))
	want(t, "least on both", all(impl.LeastWeights(10, true)), all(impl.Weights{1, 3, 6}, int64(0)))
	want(t, "least on one", all(impl.LeastWeights(10, false)), all(impl.Weights{1, 2, 3, 4}, int64(0)))
	want(t, "digits", all(impl.BalancedDigits(5)), all([]int8{-1, -1, 1}, int64(0)))
	want(t, "mass", all(impl.MassByTwo(4, 9)), all(int64(6), int64(0)))
	want(t, "arms", all(impl.ArmsFrom(4, 9)), all(int64(2), int64(3), int64(0)))
}

func TestValidWeights(t *testing.T) {
	full := slices.Repeat(impl.Weights{125}, impl.MaxWeights)
	for _, w := range append(someWeights(), full, impl.Weights{1}, impl.Weights{1000, 1000}) {
		sum := int64(0)
		for _, one := range w {
			sum += int64(one)
		}
		want(t, fmt.Sprint("valid ", w), impl.ValidWeights(w), true)
		want(t, fmt.Sprint("sum of ", w), all(impl.SumOfWeights(w)), all(sum, int64(0)))
	}
	for i, w := range badWeights {
		want(t, fmt.Sprint("invalid ", i), impl.ValidWeights(w), false)
		wantZero(t, fmt.Sprint("sum of invalid ", i), impl.ErrInvalid, all(impl.SumOfWeights(w)))
		want(t, fmt.Sprint("text of invalid ", i), impl.WeightsText(w), "")
	}
}

func TestInvalidWeightsComeFirst(t *testing.T) {
	for i, w := range badWeights {
		p := make(impl.Placing, len(w))
		name := fmt.Sprint("weights ", i)
		want(t, name, impl.ValidPlacing(w, p), false)
		wantZero(t, name, impl.ErrInvalid, all(impl.MassOf(w, p)))
		wantZero(t, name, impl.ErrInvalid, all(impl.UsedIn(w, p)))
		for _, n := range append(badNumbers, 1) {
			wantZero(t, name, impl.ErrInvalid, all(impl.Tilt(w, p, n)))
			wantZero(t, name, impl.ErrInvalid, all(impl.TiltOfArms(w, p, n, n, n)))
			for _, both := range []bool{false, true} {
				wantZero(t, name, impl.ErrInvalid, all(impl.CanWeigh(w, n, both)))
				wantZero(t, name, impl.ErrInvalid, all(impl.PlacingFor(w, n, both)))
				wantZero(t, name, impl.ErrInvalid, all(impl.WaysToWeigh(w, n, both)))
				wantZero(t, name, impl.ErrInvalid, all(impl.NeedlessWeight(w, n, both)))
				wantZero(t, name, impl.ErrInvalid, all(impl.NotWeighed(w, both)))
				wantZero(t, name, impl.ErrInvalid, all(impl.AllUpTo(w, both)))
			}
		}
	}
}

func TestInvalidPlacings(t *testing.T) {
	w := impl.Weights{1, 3, 9}
	for _, p := range []impl.Placing{nil, {}, {0, 0}, {0, 0, 0, 0}, {0, 0, 2}, {-2, 0, 0}, {0, 127, 0}, {0, 0, -128}, make(impl.Placing, 1000000)} {
		want(t, "placing", impl.ValidPlacing(w, p), false)
		wantZero(t, "mass", impl.ErrInvalid, all(impl.MassOf(w, p)))
		wantZero(t, "tilt", impl.ErrInvalid, all(impl.Tilt(w, p, -1)))
		wantZero(t, "used", impl.ErrInvalid, all(impl.UsedIn(w, p)))
		wantZero(t, "arms", impl.ErrInvalid, all(impl.TiltOfArms(w, p, -1, 0, 0)))
	}
	want(t, "placing", impl.ValidPlacing(w, impl.Placing{-1, 0, 1}), true)
}

func TestMassesAreInRange(t *testing.T) {
	w, p := impl.Weights{1, 3, 9}, impl.Placing{-1, 0, 1}
	for _, both := range []bool{false, true} {
		for _, mass := range badNumbers {
			wantZero(t, "can", impl.ErrRange, all(impl.CanWeigh(w, mass, both)))
			wantZero(t, "placing", impl.ErrRange, all(impl.PlacingFor(w, mass, both)))
			wantZero(t, "ways", impl.ErrRange, all(impl.WaysToWeigh(w, mass, both)))
		}
		want(t, "can", all(impl.CanWeigh(w, impl.MaxSum, both)), all(false, int64(0)))
		wantZero(t, "placing", impl.ErrNotFound, all(impl.PlacingFor(w, impl.MaxSum, both)))
		want(t, "ways", all(impl.WaysToWeigh(w, impl.MaxSum, both)), all(int64(0), int64(0)))
		want(t, "can", all(impl.CanWeigh(impl.Weights{1000, 1000}, impl.MaxSum, both)), all(true, int64(0)))
		want(t, "placing", all(impl.PlacingFor(impl.Weights{1000, 1000}, impl.MaxSum, both)), all(impl.Placing{1, 1}, int64(0)))
		want(t, "placing of 0", all(impl.PlacingFor(w, 0, both)), all(impl.Placing{0, 0, 0}, int64(0)))
	}
	for _, mass := range []int64{-1, 1000001, math.MinInt64, math.MaxInt64} {
		wantZero(t, "tilt", impl.ErrRange, all(impl.Tilt(w, p, mass)))
		wantZero(t, "arms", impl.ErrRange, all(impl.TiltOfArms(w, p, mass, 1, 1)))
	}
	for _, length := range []int64{0, -1, 101, math.MinInt64, math.MaxInt64, 1<<32 + 1} {
		wantZero(t, "left", impl.ErrRange, all(impl.TiltOfArms(w, p, 1, length, 1)))
		wantZero(t, "right", impl.ErrRange, all(impl.TiltOfArms(w, p, 1, 1, length)))
	}
	want(t, "tilt", all(impl.Tilt(w, p, 1000000)), all(int64(-1), int64(0)))
	want(t, "tilt", all(impl.Tilt(w, p, 0)), all(int64(1), int64(0)))
	want(t, "arms", all(impl.TiltOfArms(w, p, 1000000, 100, 100)), all(int64(-1), int64(0)))
}

// TestPlacings is for promise 2: what is found is held against all placings.
func TestPlacings(t *testing.T) {
	for _, w := range someWeights() {
		sum, _ := impl.SumOfWeights(w)
		for _, both := range []bool{false, true} {
			seen := tryAll(w, both)
			for mass := int64(0); mass <= min(sum+3, impl.MaxSum); mass++ {
				checkPlacing(t, w, mass, both, seen[mass])
			}
		}
	}
}

func checkPlacing(t *testing.T, w impl.Weights, mass int64, both bool, f found) {
	t.Helper()
	name := fmt.Sprint(w, " ", mass, " ", both)
	want(t, "can "+name, all(impl.CanWeigh(w, mass, both)), all(f.ways > 0, int64(0)))
	want(t, "ways "+name, all(impl.WaysToWeigh(w, mass, both)), all(f.ways, int64(0)))
	if f.ways == 0 {
		wantZero(t, "placing "+name, impl.ErrNotFound, all(impl.PlacingFor(w, mass, both)))
		return
	}
	p, code := impl.PlacingFor(w, mass, both)
	want(t, "placing "+name, all(p, code), all(f.first, int64(0)))
	want(t, "valid "+name, impl.ValidPlacing(w, p), true)
	want(t, "mass "+name, all(impl.MassOf(w, p)), all(mass, int64(0)))
	want(t, "tilt "+name, all(impl.Tilt(w, p, mass)), all(int64(0), int64(0)))
	want(t, "used "+name, all(impl.UsedIn(w, p)), all(f.used, int64(0)))
	want(t, "heavier "+name, all(impl.Tilt(w, p, mass+1)), all(int64(-1), int64(0)))
	if mass > 0 {
		want(t, "lighter "+name, all(impl.Tilt(w, p, mass-1)), all(int64(1), int64(0)))
	}
}

// TestFewestBeforeFirst has weights with which a placing that comes first as a list uses more of them.
func TestFewestBeforeFirst(t *testing.T) {
	for _, c := range []struct {
		w    impl.Weights
		mass int64
		both bool
		text string
	}{
		{impl.Weights{1, 2, 3}, 2, true, "0+0"},
		{impl.Weights{1, 2, 3}, 3, false, "00+"},
		{impl.Weights{1, 1, 2}, 1, true, "0+0"},
		{impl.Weights{2, 2, 4}, 2, false, "0+0"},
		{impl.Weights{1, 3, 4, 5}, 4, true, "00+0"},
		{impl.Weights{1, 4, 5, 6}, 2, true, "0-0+"},
		{impl.Weights{1, 2, 4, 5}, 6, false, "0++0"},
	} {
		p, code := impl.PlacingFor(c.w, c.mass, c.both)
		want(t, fmt.Sprint(c), all(impl.PlacingText(p), code), all(c.text, int64(0)))
	}
}

func TestManyWeights(t *testing.T) {
	ones := slices.Repeat(impl.Weights{1}, impl.MaxWeights)
	want(t, "ways", all(impl.WaysToWeigh(ones, 0, true)), all(int64(5196627), int64(0)))
	want(t, "ways on one", all(impl.WaysToWeigh(ones, 8, false)), all(int64(12870), int64(0)))
	p, code := impl.PlacingFor(ones, 5, true)
	want(t, "placing", all(impl.PlacingText(p), code), all("00000000000+++++", int64(0)))
	full := slices.Repeat(impl.Weights{125}, impl.MaxWeights)
	want(t, "up to", all(impl.AllUpTo(full, true)), all(int64(0), int64(0)))
	missing, code := impl.NotWeighed(full, true)
	want(t, "missing", all(len(missing), code), all(impl.MaxSum-impl.MaxWeights, int64(0)))
	want(t, "needless", all(impl.NeedlessWeight(ones, 15, true)), all(int64(0), int64(0)))
	wantZero(t, "needless", impl.ErrNotFound, all(impl.NeedlessWeight(ones, 16, true)))
}

func TestNotWeighed(t *testing.T) {
	for _, w := range someWeights() {
		sum, _ := impl.SumOfWeights(w)
		for _, both := range []bool{false, true} {
			seen := tryAll(w, both)
			missing := []int64{}
			for mass := int64(1); mass <= sum; mass++ {
				if seen[mass].ways == 0 {
					missing = append(missing, mass)
				}
			}
			upTo := sum
			if len(missing) > 0 {
				upTo = missing[0] - 1
			}
			got, code := impl.NotWeighed(w, both)
			want(t, fmt.Sprint("missing ", w, both), all(append([]int64{}, got...), code), all(missing, int64(0)))
			want(t, fmt.Sprint("up to ", w, both), all(impl.AllUpTo(w, both)), all(upTo, int64(0)))
		}
	}
	want(t, "none up to", all(impl.AllUpTo(impl.Weights{2}, true)), all(int64(0), int64(0)))
	want(t, "missing", all(impl.NotWeighed(impl.Weights{1, 3, 9}, false)), all([]int64{2, 5, 6, 7, 8, 11}, int64(0)))
}

func TestNeedlessWeight(t *testing.T) {
	upTo := func(w impl.Weights, both bool) int64 {
		seen, mass := tryAll(w, both), int64(0)
		for seen[mass+1].ways > 0 {
			mass++
		}
		return mass
	}
	for _, w := range someWeights() {
		for _, both := range []bool{false, true} {
			most := upTo(w, both)
			for _, n := range badNumbers {
				wantZero(t, "needless", impl.ErrRange, all(impl.NeedlessWeight(w, n, both)))
			}
			wantZero(t, "needless", impl.ErrRange, all(impl.NeedlessWeight(w, 0, both)))
			wantZero(t, fmt.Sprint("needless ", w), impl.ErrState, all(impl.NeedlessWeight(w, most+1, both)))
			less := make([]int64, len(w))
			for i := range w {
				less[i] = upTo(slices.Concat(w[:i], w[i+1:]), both)
			}
			for n := int64(1); n <= most; n++ {
				i := slices.IndexFunc(less, func(up int64) bool { return up >= n })
				if i < 0 {
					wantZero(t, fmt.Sprint("needless ", w, n), impl.ErrNotFound, all(impl.NeedlessWeight(w, n, both)))
				} else {
					want(t, fmt.Sprint("needless ", w, n), all(impl.NeedlessWeight(w, n, both)), all(int64(i), int64(0)))
				}
			}
		}
	}
	wantZero(t, "one alone", impl.ErrNotFound, all(impl.NeedlessWeight(impl.Weights{1}, 1, true)))
	wantZero(t, "one alone", impl.ErrState, all(impl.NeedlessWeight(impl.Weights{2}, 1, true)))
	wantZero(t, "greatest", impl.ErrState, all(impl.NeedlessWeight(impl.Weights{1}, impl.MaxSum, false)))
}

// TestLeastWeights is for promise 3.
func TestLeastWeights(t *testing.T) {
	for _, both := range []bool{false, true} {
		base := int64(2)
		if both {
			base = 3
		}
		for most := int64(1); most <= impl.MaxSum; most++ {
			w, code := impl.LeastWeights(most, both)
			name := fmt.Sprint("least ", most, both)
			want(t, name, all(w, code), all(leastAsTold(most, base, both), int64(0)))
			want(t, name, impl.ValidWeights(w), true)
			want(t, name+" weigh", all(impl.AllUpTo(w, both)), all(most, int64(0)))
			// One weight fewer has that many placings at most, of which some of both pans come in opposite pairs.
			placings := int64(1)
			for range len(w) - 1 {
				placings *= base
			}
			if (placings-1)/(base-1) >= most {
				t.Errorf("%s: %d weights are more than needed", name, len(w))
			}
		}
		for _, most := range append(badNumbers, 0) {
			wantZero(t, "least", impl.ErrRange, all(impl.LeastWeights(most, both)))
		}
	}
}

func leastAsTold(most, base int64, both bool) impl.Weights {
	bound := most
	if both {
		bound = 2 * most
	}
	powers := []int64{1}
	for powers[len(powers)-1] <= bound {
		powers = append(powers, powers[len(powers)-1]*base)
	}
	w, rest := impl.Weights{}, most
	for _, power := range powers[:len(powers)-2] {
		w = append(w, int16(power))
		rest -= power
	}
	w = append(w, int16(rest))
	slices.Sort(w)
	return w
}

// TestNoFewerWeights is for promise 3, too: it tries all lists with one weight fewer.
func TestNoFewerWeights(t *testing.T) {
	for _, both := range []bool{false, true} {
		for most := int64(1); most <= 20; most++ {
			w, _ := impl.LeastWeights(most, both)
			if len(w) == 1 {
				continue
			}
			for _, fewer := range lists(len(w)-1, int16(most)) {
				if up, _ := impl.AllUpTo(fewer, both); up >= most {
					t.Errorf("%v weigh all up to %d as well as %v", fewer, most, w)
				}
			}
		}
	}
}

func TestBalancedDigits(t *testing.T) {
	numbers := []int64{0, 1, -1, 2, -2, 3, 4, 5, -5, 13, 14, 1000000000, -1000000000, 999999999, -999999999, 871696100, 871696101}
	for n := int64(-3000); n <= 3000; n++ {
		numbers = append(numbers, n)
	}
	for _, n := range numbers {
		digits, code := impl.BalancedDigits(n)
		want(t, "code", code, int64(impl.OK))
		sum, power := int64(0), int64(1)
		for _, digit := range digits {
			if digit < -1 || digit > 1 {
				t.Fatalf("the digits of %d are %v", n, digits)
			}
			sum += int64(digit) * power
			power *= 3
		}
		want(t, fmt.Sprint("sum for ", n), sum, n)
		want(t, fmt.Sprint("last for ", n), len(digits) > 0 && digits[len(digits)-1] == 0, false)
		want(t, "back", all(impl.FromBalanced(digits)), all(n, int64(0)))
	}
	none, code := impl.BalancedDigits(0)
	want(t, "digits of 0", all(len(none), code), all(0, int64(0)))
	for _, n := range []int64{1000000001, -1000000001, math.MinInt64, math.MaxInt64, 1 << 32} {
		wantZero(t, "digits", impl.ErrRange, all(impl.BalancedDigits(n)))
	}
}

func TestFromBalanced(t *testing.T) {
	want(t, "no digits", all(impl.FromBalanced(nil)), all(int64(0), int64(0)))
	want(t, "zeros at the end", all(impl.FromBalanced([]int8{1, 0, 0})), all(int64(1), int64(0)))
	most := slices.Repeat([]int8{1}, 30)
	want(t, "most digits", all(impl.FromBalanced(most)), all(int64(102945566047324), int64(0)))
	wantZero(t, "too many", impl.ErrLimit, all(impl.FromBalanced(append(most, 0))))
	wantZero(t, "far too many", impl.ErrLimit, all(impl.FromBalanced(make([]int8, 1000000))))
	wantZero(t, "too many, with a bad one", impl.ErrRange, all(impl.FromBalanced(append(make([]int8, 999999), 2))))
	for _, digit := range []int8{2, -2, 3, 127, -128} {
		wantZero(t, "bad digit", impl.ErrRange, all(impl.FromBalanced([]int8{0, digit})))
	}
}

func TestTiltOfArms(t *testing.T) {
	w := impl.Weights{1, 3, 9}
	for _, p := range []impl.Placing{{0, 0, 0}, {0, 1, 0}, {-1, 0, 1}, {1, 1, -1}, {-1, -1, -1}} {
		left, right := int64(0), int64(0)
		for i, place := range p {
			if place < 0 {
				left += int64(w[i])
			} else if place > 0 {
				right += int64(w[i])
			}
		}
		for _, mass := range []int64{0, 1, 2, 3, 8, 12, 1000000} {
			for _, arms := range [][2]int64{{1, 1}, {3, 2}, {2, 3}, {1, 100}, {100, 1}, {100, 99}} {
				tilt := int64(0)
				if l, r := (mass+left)*arms[0], right*arms[1]; l > r {
					tilt = -1
				} else if l < r {
					tilt = 1
				}
				want(t, fmt.Sprint(p, mass, arms), all(impl.TiltOfArms(w, p, mass, arms[0], arms[1])), all(tilt, int64(0)))
			}
		}
	}
}

// TestFalseScale is for promise 4: things are weighed on both sides of scales with all pairs of arms.
func TestFalseScale(t *testing.T) {
	for left := int64(1); left <= impl.MaxArm; left++ {
		for right := int64(1); right <= impl.MaxArm; right++ {
			mass := left * right
			first, second := mass*left/right, mass*right/left
			name := fmt.Sprint("arms ", left, right)
			want(t, name, all(impl.MassByTwo(first, second)), all(mass, int64(0)))
			short, long, code := impl.ArmsFrom(first, second)
			if code != impl.OK || short*right != long*left || reducible(short, long) {
				t.Errorf("%s: told %d and %d, code %d", name, short, long, code)
			}
			weighOnFalseScale(t, mass, first, left, right)
			weighOnFalseScale(t, mass, second, right, left)
		}
	}
}

func reducible(a, b int64) bool {
	for n := int64(2); n <= min(a, b); n++ {
		if a%n == 0 && b%n == 0 {
			return true
		}
	}
	return a < 1 || b < 1
}

func weighOnFalseScale(t *testing.T, mass, balance, left, right int64) {
	t.Helper()
	if balance > impl.MaxSum {
		return
	}
	w, p := impl.Weights{int16(balance)}, impl.Placing{1}
	want(t, "balance", all(impl.TiltOfArms(w, p, mass, left, right)), all(int64(0), int64(0)))
}

func TestMassByTwo(t *testing.T) {
	for first := int64(1); first <= 150; first++ {
		for second := int64(1); second <= 150; second++ {
			checkMass(t, first, second)
		}
	}
	for _, pair := range [][2]int64{{1000000, 1000000}, {999999, 1000000}, {999999, 999999}, {1, 1000000}, {1000000, 999998}, {250000, 490000}} {
		checkMass(t, pair[0], pair[1])
		checkMass(t, pair[1], pair[0])
	}
	want(t, "arms", all(impl.ArmsFrom(1, 1000000)), all(int64(1), int64(1000), int64(0)))
	want(t, "arms", all(impl.ArmsFrom(9, 4)), all(int64(3), int64(2), int64(0)))
	want(t, "arms", all(impl.ArmsFrom(7, 7)), all(int64(1), int64(1), int64(0)))
	for _, bad := range []int64{0, -1, -4, 1000001, math.MinInt64, math.MaxInt64, 1 << 32} {
		wantZero(t, "mass", impl.ErrRange, all(impl.MassByTwo(bad, 1)))
		wantZero(t, "mass", impl.ErrRange, all(impl.MassByTwo(1, bad)))
		wantZero(t, "mass", impl.ErrRange, all(impl.MassByTwo(bad, bad)))
		wantZero(t, "arms", impl.ErrRange, all(impl.ArmsFrom(bad, 2)))
		wantZero(t, "arms", impl.ErrRange, all(impl.ArmsFrom(2, bad)))
	}
}

func checkMass(t *testing.T, first, second int64) {
	t.Helper()
	root := int64(math.Round(math.Sqrt(float64(first * second))))
	if root*root == first*second {
		want(t, fmt.Sprint("mass ", first, second), all(impl.MassByTwo(first, second)), all(root, int64(0)))
		return
	}
	wantZero(t, fmt.Sprint("mass ", first, second), impl.ErrNotFound, all(impl.MassByTwo(first, second)))
	wantZero(t, fmt.Sprint("arms ", first, second), impl.ErrNotFound, all(impl.ArmsFrom(first, second)))
}

func TestWeightsTexts(t *testing.T) {
	for _, w := range append(someWeights(), slices.Repeat(impl.Weights{125}, impl.MaxWeights)) {
		text := strings.Trim(fmt.Sprint([]int16(w)), "[]")
		want(t, "text", impl.WeightsText(w), text)
		want(t, "read "+text, all(impl.ReadWeights(text)), all(w, int64(0)))
	}
	for _, text := range []string{
		"", " ", "1 ", " 1", "1  3", "1\n3", "1,3", "3 1", "0", "0 1", "-1", "+1", "01", "1 03", "1 3\n", "1\t3", "x", "1 x",
		"2001", "1000 1001", "32768", "65537", "4294967297", "18446744073709551617", "1_0", "0x1", "1.0", "1e1", "1\x00", "\u0661",
		strings.TrimSpace(strings.Repeat("1 ", 17)), strings.Repeat("1 ", 16), strings.Repeat("1", 1000000), strings.Repeat(" ", 1000000),
		strings.Repeat("1 ", 500000),
	} {
		wantZero(t, fmt.Sprintf("read %.20q", text), impl.ErrSyntax, all(impl.ReadWeights(text)))
	}
}

func TestPlacingTexts(t *testing.T) {
	for _, p := range []impl.Placing{{0}, {1}, {-1}, {-1, 0, 1}, {1, 0, -1}, slices.Repeat(impl.Placing{-1}, 16)} {
		text := ""
		for _, place := range p {
			text += map[int8]string{-1: "-", 0: "0", 1: "+"}[place]
		}
		want(t, "text", impl.PlacingText(p), text)
		want(t, "read "+text, all(impl.ReadPlacing(text)), all(p, int64(0)))
	}
	for _, p := range []impl.Placing{nil, {}, {2}, {-2}, {0, 127}, {-128, 0}, make(impl.Placing, 17), make(impl.Placing, 1000000)} {
		want(t, "no text", impl.PlacingText(p), "")
	}
	for _, text := range []string{"", "x", "+x", "1", "+ -", " ", "+\n", "\x00", "\xff", "\u2212", strings.Repeat("0", 17), strings.Repeat("+", 1000000)} {
		wantZero(t, fmt.Sprintf("read %.20q", text), impl.ErrSyntax, all(impl.ReadPlacing(text)))
	}
}

// callScales makes all calls of the chapter whose arguments or results are lists.
func callScales(w impl.Weights, p impl.Placing, n int64, both bool) []any {
	digits := []int8(p)
	return []any{
		impl.ValidWeights(w), all(impl.SumOfWeights(w)), impl.ValidPlacing(w, p), all(impl.MassOf(w, p)),
		all(impl.Tilt(w, p, n)), all(impl.UsedIn(w, p)), all(impl.CanWeigh(w, n, both)), all(impl.PlacingFor(w, n, both)),
		all(impl.NotWeighed(w, both)), all(impl.AllUpTo(w, both)), all(impl.WaysToWeigh(w, n, both)),
		all(impl.NeedlessWeight(w, n, both)), all(impl.LeastWeights(n, both)), all(impl.BalancedDigits(n)),
		all(impl.FromBalanced(digits)), all(impl.TiltOfArms(w, p, n, n, 3)), all(impl.MassByTwo(n, n+3)),
		all(impl.ArmsFrom(n, 4*n)), impl.WeightsText(w), impl.PlacingText(p), impl.CodeName(n),
		all(impl.ReadWeights(impl.WeightsText(w))), all(impl.ReadPlacing(impl.PlacingText(p))),
	}
}

// TestScalesArePure is for promise 1: arguments lie between other elements, none of which may change.
func TestScalesArePure(t *testing.T) {
	weights := append(badWeights[:len(badWeights)-1:len(badWeights)-1], impl.Weights{1}, impl.Weights{1, 1, 3}, impl.Weights{1, 3, 9}, impl.Weights{2, 5, 5, 7}, impl.Weights{1, 2, 3, 4})
	for _, w := range weights {
		placings := []impl.Placing{nil, {2}, {-1, 0, 1}, make(impl.Placing, len(w)), slices.Repeat(impl.Placing{1}, len(w))}
		for _, p := range placings {
			for _, n := range append([]int64{0, 1, 2, 4, 5, 10, 13, 100}, badNumbers...) {
				for _, both := range []bool{false, true} {
					checkPure(t, w, p, n, both)
				}
			}
		}
	}
}

func checkPure(t *testing.T, w impl.Weights, p impl.Placing, n int64, both bool) {
	t.Helper()
	wholeW, partW := spare(w, 77)
	wholeP, partP := spare(p, 7)
	keptW, keptP := slices.Clone(wholeW), slices.Clone(wholeP)
	first := callScales(partW, partP, n, both)
	second := callScales(partW, partP, n, both)
	want(t, "called again", second, first)
	want(t, "called with copies", callScales(slices.Clone(w), slices.Clone(p), n, both), first)
	overwrite(reflect.ValueOf(second))
	want(t, "called after results have been changed", callScales(partW, partP, n, both), first)
	want(t, "weights", wholeW, keptW)
	want(t, "placing", wholeP, keptP)
}

// overwrite changes all numbers in lists that have been returned.
func overwrite(v reflect.Value) {
	switch v.Kind() {
	case reflect.Interface:
		overwrite(v.Elem())
	case reflect.Slice:
		for i := range v.Len() {
			e := v.Index(i)
			if e.CanInt() {
				e.SetInt(99)
			} else {
				overwrite(e)
			}
		}
	}
}
