package impl

import (
	"cmp"
	"iter"
	"slices"
	"sort"
	"strconv"
	"strings"
)

// Codes of errors.
const (
	OK          = 0
	ErrInvalid  = 1
	ErrRange    = 2
	ErrLimit    = 3
	ErrState    = 4
	ErrSyntax   = 5
	ErrNotFound = 6
	ErrBudget   = 7
	ErrProof    = 8
)

// Limits of scales.
const (
	MaxWeights = 16
	MaxSum     = 2000
	MaxArm     = 100
)

// Limits that the document states where they apply, without a name.
const (
	maxMass     = 1000000
	maxBalanced = 1000000000
	maxDigits   = 30
)

// placingSigns has the byte of the place n at the index n + 1.
const placingSigns = "-0+"

// Weights are a list of whole numbers.
type Weights []int16

// Placing tells where each weight is.
type Placing []int8

// CodeName returns the name of an error code.
func CodeName(code int64) string {
	switch code {
	case OK:
		return "ok"
	case ErrInvalid:
		return "invalid"
	case ErrRange:
		return "range"
	case ErrLimit:
		return "limit"
	case ErrState:
		return "state"
	case ErrSyntax:
		return "syntax"
	case ErrNotFound:
		return "notfound"
	case ErrBudget:
		return "budget"
	case ErrProof:
		return "proof"
	}
	return ""
}

func within(n, low, high int64) bool { return low <= n && n <= high }

func divisor(a, b int64) int64 {
	for b != 0 {
		a, b = b, a%b
	}
	return a
}

// ValidWeights reports whether weights are valid.
func ValidWeights(w Weights) bool {
	if len(w) < 1 || len(w) > MaxWeights || w[0] < 1 {
		return false
	}
	return slices.IsSorted(w) && w.sum() <= MaxSum
}

func (w Weights) sum() int64 {
	sum := int64(0)
	for _, weight := range w {
		sum += int64(weight)
	}
	return sum
}

// SumOfWeights returns the sum of weights.
func SumOfWeights(w Weights) (int64, int64) {
	if !ValidWeights(w) {
		return 0, ErrInvalid
	}
	return w.sum(), OK
}

// ValidPlacing reports whether a placing is valid.
func ValidPlacing(w Weights, p Placing) bool {
	return ValidWeights(w) && len(p) == len(w) && signsOnly(p)
}

func signsOnly(list []int8) bool {
	for _, sign := range list {
		if sign < -1 || sign > 1 {
			return false
		}
	}
	return true
}

func (p Placing) loadAt(w Weights, wanted int8) int64 {
	load := int64(0)
	for i, place := range p {
		if place == wanted {
			load += int64(w[i])
		}
	}
	return load
}

func (p Placing) leftLoad(w Weights) int64 { return p.loadAt(w, -1) }

func (p Placing) rightLoad(w Weights) int64 { return p.loadAt(w, 1) }

// panLoads has the left pan first and the right one second.
func panLoads() [2]func(Placing, Weights) int64 {
	return [2]func(Placing, Weights) int64{Placing.leftLoad, Placing.rightLoad}
}

// MassOf returns the mass that a placing balances.
func MassOf(w Weights, p Placing) (int64, int64) {
	if !ValidPlacing(w, p) {
		return 0, ErrInvalid
	}
	loads := panLoads()
	return loads[1](p, w) - loads[0](p, w), OK
}

// Tilt tells what is seen with a mass on the left pan.
func Tilt(w Weights, p Placing, mass int64) (int64, int64) {
	return TiltOfArms(w, p, mass, 1, 1)
}

// UsedIn returns how many weights are not aside.
func UsedIn(w Weights, p Placing) (int64, int64) {
	if !ValidPlacing(w, p) {
		return 0, ErrInvalid
	}
	used := int64(0)
	for _, place := range p {
		used += usedAt(place)
	}
	return used, OK
}

func usedAt(place int8) int64 {
	if place == 0 {
		return 0
	}
	return 1
}

// places are in ascending order, so that the first one that does is the first one as a list, too.
func places(both bool) []int8 {
	if both {
		return []int8{-1, 0, 1}
	}
	return []int8{0, 1}
}

// waysBySum tells for each sum that can be reached how many placings have it.
func waysBySum(w Weights, both bool) map[int64]int64 {
	ways := map[int64]int64{0: 1}
	list := places(both)
	for _, weight := range w {
		next := make(map[int64]int64, len(list)*len(ways))
		for sum, count := range ways {
			for _, place := range list {
				next[sum+int64(place)*int64(weight)] += count
			}
		}
		ways = next
	}
	return ways
}

// fewestBySum tells for each i, and each sum that the weights from i on can reach, how few of them do.
func fewestBySum(w Weights, both bool) []map[int64]int64 {
	tails := make([]map[int64]int64, len(w)+1)
	tails[len(w)] = map[int64]int64{0: 0}
	list := places(both)
	for i := len(w) - 1; i >= 0; i-- {
		tail := make(map[int64]int64, len(list)*len(tails[i+1]))
		for sum, count := range tails[i+1] {
			for _, place := range list {
				reached := sum + int64(place)*int64(w[i])
				used := count + usedAt(place)
				if old, known := tail[reached]; !known || used < old {
					tail[reached] = used
				}
			}
		}
		tails[i] = tail
	}
	return tails
}

func codeOfWeighing(w Weights, mass int64) int64 {
	if !ValidWeights(w) {
		return ErrInvalid
	}
	if !within(mass, 0, MaxSum) {
		return ErrRange
	}
	return OK
}

// CanWeigh reports whether a mass can be weighed.
func CanWeigh(w Weights, mass int64, both bool) (bool, int64) {
	if code := codeOfWeighing(w, mass); code != OK {
		return false, code
	}
	return waysBySum(w, both)[mass] > 0, OK
}

// PlacingFor returns the placing that weighs a mass.
func PlacingFor(w Weights, mass int64, both bool) (Placing, int64) {
	if code := codeOfWeighing(w, mass); code != OK {
		return nil, code
	}
	tails := fewestBySum(w, both)
	if _, known := tails[0][mass]; !known {
		return nil, ErrNotFound
	}
	p := make(Placing, len(w))
	rest := mass
	for i, weight := range w {
		fewest := tails[i][rest]
		for _, place := range places(both) {
			behind := rest - int64(place)*int64(weight)
			if count, known := tails[i+1][behind]; known && count+usedAt(place) == fewest {
				p[i], rest = place, behind
				break
			}
		}
	}
	return p, OK
}

// NotWeighed returns all masses that cannot be weighed.
func NotWeighed(w Weights, both bool) ([]int64, int64) {
	if !ValidWeights(w) {
		return nil, ErrInvalid
	}
	ways := waysBySum(w, both)
	var missing []int64
	for mass := int64(1); mass <= w.sum(); mass++ {
		if ways[mass] == 0 {
			missing = append(missing, mass)
		}
	}
	return missing, OK
}

// AllUpTo returns up to which mass all can be weighed.
func AllUpTo(w Weights, both bool) (int64, int64) {
	if !ValidWeights(w) {
		return 0, ErrInvalid
	}
	return runOfMasses(w, both), OK
}

func runOfMasses(w Weights, both bool) int64 {
	ways := waysBySum(w, both)
	run := int64(0)
	for ways[run+1] > 0 {
		run++
	}
	return run
}

// WaysToWeigh returns how many placings balance a mass.
func WaysToWeigh(w Weights, mass int64, both bool) (int64, int64) {
	if code := codeOfWeighing(w, mass); code != OK {
		return 0, code
	}
	return waysBySum(w, both)[mass], OK
}

// NeedlessWeight returns the index of the first weight that is not needed.
func NeedlessWeight(w Weights, most int64, both bool) (int64, int64) {
	if !ValidWeights(w) {
		return 0, ErrInvalid
	}
	if !within(most, 1, MaxSum) {
		return 0, ErrRange
	}
	if runOfMasses(w, both) < most {
		return 0, ErrState
	}
	for i := range w {
		if runOfMasses(without(w, i), both) >= most {
			return int64(i), OK
		}
	}
	return 0, ErrNotFound
}

// without cuts the capacity of the first part, so that append leaves w as it is.
func without(w Weights, i int) Weights {
	return append(w[:i:i], w[i+1:]...)
}

// LeastWeights returns the fewest weights for all masses.
func LeastWeights(most int64, both bool) (Weights, int64) {
	if !within(most, 1, MaxSum) {
		return nil, ErrRange
	}
	base, bound := int64(2), most
	if both {
		base, bound = 3, 2*most
	}
	var w Weights
	rest, power := most, int64(1)
	for ; power*base <= bound; power *= base {
		w = append(w, int16(power))
		rest -= power
	}
	w = append(w, int16(rest))
	slices.Sort(w)
	return w, OK
}

// balanced gives out the digits of a number, the one that is worth least first.
func balanced(n int64) iter.Seq[int8] {
	return func(yield func(int8) bool) {
		for n := n; n != 0; {
			digit := (n%3+4)%3 - 1
			if !yield(int8(digit)) {
				return
			}
			n = (n - digit) / 3
		}
	}
}

// BalancedDigits returns the digits -1, 0 and 1 of a number.
func BalancedDigits(n int64) ([]int8, int64) {
	if !within(n, -maxBalanced, maxBalanced) {
		return nil, ErrRange
	}
	var digits []int8
	for digit := range balanced(n) {
		digits = append(digits, digit)
	}
	return digits, OK
}

// FromBalanced returns the number with such digits.
func FromBalanced(digits []int8) (int64, int64) {
	if !signsOnly(digits) {
		return 0, ErrRange
	}
	if len(digits) > maxDigits {
		return 0, ErrLimit
	}
	sum, power := int64(0), int64(1)
	for _, digit := range digits {
		sum += int64(digit) * power
		power *= 3
	}
	return sum, OK
}

func arm(length int64) func(int64) int64 {
	return func(load int64) int64 { return load * length }
}

// TiltOfArms tells what is seen with arms of different lengths.
func TiltOfArms(w Weights, p Placing, mass, left, right int64) (int64, int64) {
	if !ValidPlacing(w, p) {
		return 0, ErrInvalid
	}
	if !within(mass, 0, maxMass) || !within(left, 1, MaxArm) || !within(right, 1, MaxArm) {
		return 0, ErrRange
	}
	loads := panLoads()
	leftArm, rightArm := arm(left), arm(right)
	return int64(cmp.Compare(rightArm(loads[1](p, w)), leftArm(mass+loads[0](p, w)))), OK
}

// MassByTwo returns the true mass of a thing that is weighed twice.
func MassByTwo(first, second int64) (int64, int64) {
	if !within(first, 1, maxMass) || !within(second, 1, maxMass) {
		return 0, ErrRange
	}
	square := first * second
	root := int64(sort.Search(maxMass, func(n int) bool { return int64(n)*int64(n) >= square }))
	if root*root != square {
		return 0, ErrNotFound
	}
	return root, OK
}

// ArmsFrom returns the lengths of the arms.
func ArmsFrom(first, second int64) (int64, int64, int64) {
	mass, code := MassByTwo(first, second)
	if code != OK {
		return 0, 0, code
	}
	common := divisor(first, mass)
	return first / common, mass / common, OK
}

// WeightsText returns the text of weights.
func WeightsText(w Weights) string {
	if !ValidWeights(w) {
		return ""
	}
	words := make([]string, len(w))
	for i, weight := range w {
		words[i] = strconv.Itoa(int(weight))
	}
	return strings.Join(words, " ")
}

// ReadWeights returns the weights with a text.
func ReadWeights(text string) (Weights, int64) {
	words := strings.SplitN(text, " ", MaxWeights+1)
	w := make(Weights, len(words))
	for i, word := range words {
		n, err := strconv.ParseInt(word, 10, 16)
		if err != nil {
			return nil, ErrSyntax
		}
		w[i] = int16(n)
	}
	// Numbers can be read from more texts than their own one: with signs, or with zeros in front.
	// Weights that are not valid have the empty text, from which no number is read.
	if WeightsText(w) != text {
		return nil, ErrSyntax
	}
	return w, OK
}

// PlacingText returns the text of a placing.
func PlacingText(p Placing) string {
	if len(p) > MaxWeights || !signsOnly(p) {
		return ""
	}
	text := make([]byte, len(p))
	for i, place := range p {
		text[i] = placingSigns[place+1]
	}
	return string(text)
}

// ReadPlacing returns the placing with a text.
func ReadPlacing(text string) (Placing, int64) {
	if len(text) < 1 || len(text) > MaxWeights {
		return nil, ErrSyntax
	}
	p := make(Placing, len(text))
	for i := range p {
		at := strings.IndexByte(placingSigns, text[i])
		if at < 0 {
			return nil, ErrSyntax
		}
		p[i] = int8(at - 1)
	}
	return p, OK
}
