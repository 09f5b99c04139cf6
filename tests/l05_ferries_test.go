package tests

import (
	"fmt"
	"math"
	"slices"
	"strings"
	"testing"

	"loop.example/g01281/impl"
)

// The model of these tests has sets as texts, of the letters of their things.

func lettersOf(set uint16) string {
	text := ""
	for i := range 16 {
		if set&(1<<i) != 0 {
			text += string(rune('a' + i))
		}
	}
	return text
}

func setOf(letters string) uint16 {
	set := uint16(0)
	for _, letter := range letters {
		set += 1 << (letter - 'a')
	}
	return set
}

// subsets are ordered by their numbers: the first thing is worth least.
func subsets(letters string) []string {
	if letters == "" {
		return []string{""}
	}
	last := len(letters) - 1
	list := subsets(letters[:last])
	for _, set := range subsets(letters[:last]) {
		list = append(list, set+letters[last:])
	}
	return list
}

// without returns the letters that are not in the others.
func without(letters, others string) string {
	return strings.Map(func(letter rune) rune {
		if strings.ContainsRune(others, letter) {
			return -1
		}
		return letter
	}, letters)
}

// bank is a model of a bank: what is on both sides, and on which of them the rower is.
type bank struct {
	near, far string
	over      bool
}

func (b bank) given() impl.Bank { return impl.Bank{Near: setOf(b.near), Far: b.over} }

// river is a model of a ferry: all banks in the order of their numbers, also those that are not valid, and the crossings from valid ones.
type river struct {
	ferry     impl.Ferry
	things    string
	rules     []string
	banks     []bank
	number    map[bank]int
	crossings [][]crossing
}

type crossing struct {
	load string
	to   int
}

func riverOf(f impl.Ferry) river {
	r := river{ferry: f, things: "abcdefgh"[:f.Things], number: map[bank]int{}}
	for _, rule := range f.Rules {
		r.rules = append(r.rules, lettersOf(rule))
	}
	for _, over := range []bool{false, true} {
		for _, near := range subsets(r.things) {
			b := bank{near, without(r.things, near), over}
			r.number[b] = len(r.banks)
			r.banks = append(r.banks, b)
		}
	}
	for _, b := range r.banks {
		r.crossings = append(r.crossings, r.crossingsFrom(b))
	}
	return r
}

func (r river) name() string { return impl.FerryText(r.ferry) + ": " }

func (r river) safe(letters string) bool {
	for _, rule := range r.rules {
		if without(rule, letters) == "" {
			return false
		}
	}
	return true
}

func (r river) valid(b bank) bool {
	if b.over {
		return r.safe(b.near)
	}
	return r.safe(b.far)
}

// cross tells the error of a load, or the bank behind the crossing.
func (r river) cross(b bank, load string) (bank, int64) {
	from, to := b.near, b.far
	if b.over {
		from, to = to, from
	}
	if without(load, from) != "" {
		return bank{}, impl.ErrRange
	}
	if len(load) > int(r.ferry.Boat) {
		return bank{}, impl.ErrLimit
	}
	from, to = without(from, load), without(r.things, without(from, load))
	if !r.safe(from) {
		return bank{}, impl.ErrState
	}
	if b.over {
		return bank{near: to, far: from}, impl.OK
	}
	return bank{near: from, far: to, over: true}, impl.OK
}

func (r river) crossingsFrom(b bank) []crossing {
	var list []crossing
	if !r.valid(b) {
		return nil
	}
	from := b.near
	if b.over {
		from = b.far
	}
	for _, load := range subsets(from) {
		if next, code := r.cross(b, load); code == impl.OK {
			list = append(list, crossing{load, r.number[next]})
		}
	}
	return list
}

func (r river) first() int { return len(r.banks)/2 - 1 }

func (r river) last() int { return len(r.banks) / 2 }

// steps relaxes all crossings until nothing changes; backwards, it tells the crossings that lead to a bank.
func (r river) steps(start int, backwards bool) []int16 {
	dist := slices.Repeat([]int16{-1}, len(r.banks))
	dist[start] = 0
	for changed := true; changed; {
		changed = false
		for i, list := range r.crossings {
			for _, c := range list {
				a, b := i, c.to
				if backwards {
					a, b = b, a
				}
				if dist[a] >= 0 && (dist[b] < 0 || dist[b] > dist[a]+1) {
					dist[b] = dist[a] + 1
					changed = true
				}
			}
		}
	}
	return dist
}

// firstLoads goes from the first bank to the last one by the first load that comes nearer to it.
func (r river) firstLoads() ([]uint16, bool) {
	left := r.steps(r.last(), true)
	at := r.first()
	if left[at] < 0 {
		return nil, false
	}
	var list []uint16
	for left[at] > 0 {
		k := slices.IndexFunc(r.crossings[at], func(c crossing) bool { return left[c.to] == left[at]-1 })
		list = append(list, setOf(r.crossings[at][k].load))
		at = r.crossings[at][k].to
	}
	return list, true
}

// ways counts all lists of so many loads that lead to the last bank.
func (r river) ways(length int) int64 {
	counts := make([]int64, len(r.banks))
	counts[r.first()] = 1
	for range length {
		next := make([]int64, len(r.banks))
		for i, list := range r.crossings {
			for _, c := range list {
				next[c.to] += counts[i]
			}
		}
		counts = next
	}
	return counts[r.last()]
}

func ferry(t *testing.T, text string) impl.Ferry {
	t.Helper()
	f, code := impl.ReadFerry(text)
	want(t, "code of "+text, code, int64(impl.OK))
	return f
}

var ferryTexts = []string{
	"1 0", "1 1", "2 0 ab", "2 1", "2 1 ab", "2 2 ab", "3 0 ab", "3 1 ab bc", "3 2 ab bc", "3 1 abc", "3 0", "3 1 ab bc ac", "3 2 ab ab bc ac abc",
	"4 1 ab bc cd", "4 1 abc bcd", "4 2 ab bc cd ad", "4 2 ab cd", "4 1 ab cd", "4 1 ad bd cd", "5 2 ab bc cd de ae", "5 1 abcde", "5 1 ab ac ad ae", "5 3 ab ac ad ae bc bd be cd ce de",
	"6 2 ab cd ef", "6 3 abc def ace bdf", "7 3 ab bc cd de ef fg ag", "7 1 fg", "8 1", "8 2", "8 8 abcdefgh", "8 1 abcdefgh", "8 0 gh", "8 4 ab cd ef gh", "8 3 ab cd ef gh",
	"8 2 ab bc cd de ef fg gh ah", "8 4 ab bc cd de ef fg gh ah", "8 2 ah bh ch dh eh fh gh ag bg cg dg eg fg", "8 7 ab ac ad ae af ag ah bc bd be bf bg bh cd ce cf cg ch de df",
}

// anyFerry has rules of few things, so that there are crossings.
func anyFerry(n *numbers, things, count int) impl.Ferry {
	f := impl.Ferry{Things: int8(things), Boat: int8(n.below(things + 1))}
	for range count {
		rule := uint16(0)
		for size := min(things, 2+n.below(3)); len(lettersOf(rule)) < size; {
			rule |= 1 << n.below(things)
		}
		f.Rules = append(f.Rules, rule)
	}
	return f
}

// someFerries has all ferries of at most 3 things without two equal rules, those of the texts, and others.
func someFerries(t *testing.T) []impl.Ferry {
	t.Helper()
	var list []impl.Ferry
	for things := 1; things <= 3; things++ {
		var rules []string
		for _, set := range subsets("abc"[:things]) {
			if len(set) >= 2 {
				rules = append(rules, set)
			}
		}
		for _, chosen := range subsets("abcd"[:len(rules)]) {
			for boat := range things + 1 {
				f := impl.Ferry{Things: int8(things), Boat: int8(boat)}
				for _, letter := range chosen {
					f.Rules = append(f.Rules, setOf(rules[letter-'a']))
				}
				list = append(list, f)
			}
		}
	}
	for _, text := range ferryTexts {
		list = append(list, ferry(t, text))
	}
	n := numbers(5)
	for things := 4; things <= impl.MaxThings; things++ {
		for range 6 {
			list = append(list, anyFerry(&n, things, n.below(2*things)))
		}
	}
	return append(list, anyFerry(&n, 8, impl.MaxRules), anyFerry(&n, 5, impl.MaxRules))
}

func badFerries() []impl.Ferry {
	list := []impl.Ferry{{}, {Things: 0, Boat: 0, Rules: []uint16{3}}, {Things: 2, Rules: make([]uint16, 1000000)}}
	for _, things := range []int8{0, -1, 9, 16, 127, -128} {
		list = append(list, impl.Ferry{Things: things}, impl.Ferry{Things: things, Boat: things}, impl.Ferry{Things: things, Boat: 1, Rules: []uint16{3}})
	}
	for _, boat := range []int8{-1, 4, 5, 8, 127, -128} {
		list = append(list, impl.Ferry{Things: 3, Boat: boat}, impl.Ferry{Things: 3, Boat: boat, Rules: []uint16{3, 6}})
	}
	for _, rule := range []uint16{0, 1, 2, 4, 8, 9, 11, 15, 24, 256, 257, 1 << 15, math.MaxUint16} {
		list = append(list, impl.Ferry{Things: 3, Boat: 1, Rules: []uint16{rule}}, impl.Ferry{Things: 3, Boat: 1, Rules: []uint16{3, rule}}, impl.Ferry{Things: 3, Boat: 1, Rules: []uint16{rule, 6}})
	}
	return append(list,
		impl.Ferry{Things: 1, Boat: 2}, impl.Ferry{Things: 1, Boat: 1, Rules: []uint16{1}}, impl.Ferry{Things: 8, Boat: 9}, impl.Ferry{Things: 8, Boat: 8, Rules: []uint16{256 + 3}},
		impl.Ferry{Things: 2, Boat: 1, Rules: slices.Repeat([]uint16{3}, 21)}, impl.Ferry{Things: 8, Boat: 8, Rules: slices.Repeat([]uint16{255}, 1000000)})
}

func TestFerriesExample(t *testing.T) {
	f, code := impl.ReadFerry("3 1 ab bc")
	want(t, "read", all(f, code), all(impl.Ferry{Things: 3, Boat: 1, Rules: []uint16{3, 6}}, int64(0)))
	list, code := impl.ShortestCrossing(f)
	var texts []string
	for _, load := range list {
		texts = append(texts, impl.ThingsText(load))
	}
	want(t, "loads", all(texts, code), all([]string{"b", "-", "a", "b", "c", "-", "b"}, int64(0)))
	want(t, "ways", all(impl.WaysAcross(f)), all(int64(2), int64(0)))
	want(t, "cover", all(impl.LeastCover(f)), all(setOf("b"), int64(0)))
	want(t, "boat", all(impl.LeastBoat(f)), all(int64(1), int64(0)))
	want(t, "safe sets", all(impl.SafeSets(f)), all(int64(5), int64(0)))
	f.Boat = 0
	wantZero(t, "no boat", impl.ErrNotFound, all(impl.ShortestCrossing(f)))
	wantZero(t, "no boat", impl.ErrNotFound, all(impl.WaysAcross(f)))
	want(t, "limits", []int{impl.MaxThings, impl.MaxRules}, []int{8, 20})
}

func TestValidFerries(t *testing.T) {
	for _, f := range append(someFerries(t),
		impl.Ferry{Things: 1}, impl.Ferry{Things: 1, Boat: 1, Rules: []uint16{}}, impl.Ferry{Things: 8, Boat: 8, Rules: slices.Repeat([]uint16{255}, 20)},
		impl.Ferry{Things: 8, Rules: []uint16{1<<7 + 1}}, impl.Ferry{Things: 2, Boat: 2, Rules: slices.Repeat([]uint16{3}, 20)},
	) {
		want(t, fmt.Sprint("valid ", f), impl.ValidFerry(f), true)
	}
}

// TestInvalidFerriesComeFirst calls every function with other arguments that have errors, too.
func TestInvalidFerriesComeFirst(t *testing.T) {
	for i, f := range badFerries() {
		name := fmt.Sprint("ferry ", i)
		want(t, name, impl.ValidFerry(f), false)
		want(t, name, impl.FerryText(f), "")
		for _, set := range []uint16{0, 1, 7, 8, 256, math.MaxUint16} {
			wantZero(t, name, impl.ErrInvalid, all(impl.IsSafe(f, set)))
			wantZero(t, name, impl.ErrInvalid, all(impl.IsCover(f, set)))
			for _, b := range []impl.Bank{{}, {Far: true}, {Near: set}, {Near: set, Far: true}} {
				want(t, name, impl.ValidBank(f, b), false)
				wantZero(t, name, impl.ErrInvalid, all(impl.CrossWith(f, b, set)))
				wantZero(t, name, impl.ErrInvalid, all(impl.LoadsFrom(f, b)))
			}
		}
		for _, list := range [][]uint16{nil, {0}, {2, 0}, {math.MaxUint16}, make([]uint16, 1001)} {
			wantZero(t, name, impl.ErrInvalid, all(impl.CrossAll(f, list)))
		}
		for _, table := range [][]int16{nil, {0}, {-2}, {0, 0}, make([]int16, 4), make([]int16, 16), make([]int16, 1024), slices.Repeat([]int16{-1}, 16)} {
			wantZero(t, name, impl.ErrInvalid, all(impl.CheckCrossings(f, table)))
			wantZero(t, name, impl.ErrInvalid, all(impl.LeastCrossings(f, table)))
		}
		for _, thing := range append([]int64{0, 1}, badNumbers...) {
			wantZero(t, name, impl.ErrInvalid, all(impl.WithoutThing(f, thing)))
		}
		wantZero(t, name, impl.ErrInvalid, all(impl.CrossingsTable(f)))
		wantZero(t, name, impl.ErrInvalid, all(impl.ShortestCrossing(f)))
		wantZero(t, name, impl.ErrInvalid, all(impl.WaysAcross(f)))
		wantZero(t, name, impl.ErrInvalid, all(impl.LeastBoat(f)))
		wantZero(t, name, impl.ErrInvalid, all(impl.LeastCover(f)))
		wantZero(t, name, impl.ErrInvalid, all(impl.SafeSets(f)))
	}
}

// highSets have things that no ferry has.
func highSets() []uint16 { return []uint16{256, 257, 1 << 9, 1 << 15, 1<<15 + 1, math.MaxUint16} }

// TestSets is for promise 10: a set that has all things of a rule must not be left alone, however many others it has.
func TestSets(t *testing.T) {
	for _, f := range someFerries(t) {
		r := riverOf(f)
		count := int64(0)
		least := r.things
		for _, set := range subsets(r.things) {
			name := r.name() + set
			want(t, name+" is safe", all(impl.IsSafe(f, setOf(set))), all(r.safe(set), int64(0)))
			if r.safe(set) {
				count++
			}
			cover := !slices.ContainsFunc(r.rules, func(rule string) bool { return !strings.ContainsAny(rule, set) })
			want(t, name+" is a cover", all(impl.IsCover(f, setOf(set))), all(cover, int64(0)))
			// A set is a cover if the things that it has not are safe.
			want(t, name+" leaves things safe", cover, r.safe(without(r.things, set)))
			if cover && len(set) < len(least) {
				least = set
			}
		}
		want(t, r.name()+"safe sets", all(impl.SafeSets(f)), all(count, int64(0)))
		want(t, r.name()+"least cover", all(impl.LeastCover(f)), all(setOf(least), int64(0)))
		for _, set := range append(highSets(), 1<<f.Things, 1<<f.Things+1) {
			wantZero(t, r.name()+"set of others", impl.ErrRange, all(impl.IsSafe(f, set)))
			wantZero(t, r.name()+"set of others", impl.ErrRange, all(impl.IsCover(f, set)))
		}
	}
	want(t, "no rules", all(impl.LeastCover(ferry(t, "4 0"))), all(uint16(0), int64(0)))
	want(t, "least of several", all(impl.LeastCover(ferry(t, "5 0 de cd"))), all(setOf("d"), int64(0)))
	want(t, "fewest before least", all(impl.LeastCover(ferry(t, "4 0 ad bd"))), all(setOf("d"), int64(0)))
	want(t, "least of several", all(impl.LeastCover(ferry(t, "4 0 ad bc"))), all(setOf("ab"), int64(0)))
	want(t, "all safe", all(impl.SafeSets(ferry(t, "8 0"))), all(int64(256), int64(0)))
}

// checkInvalidBank calls functions with loads that have errors, too.
func checkInvalidBank(t *testing.T, f impl.Ferry, b impl.Bank) {
	t.Helper()
	name := fmt.Sprint(impl.FerryText(f), ": ", b)
	want(t, name, impl.ValidBank(f, b), false)
	wantZero(t, name, impl.ErrInvalid, all(impl.LoadsFrom(f, b)))
	for _, load := range append(highSets(), 0, 1, 2, 3, b.Near, 255) {
		wantZero(t, name, impl.ErrInvalid, all(impl.CrossWith(f, b, load)))
	}
}

func TestBanks(t *testing.T) {
	for _, f := range someFerries(t) {
		r := riverOf(f)
		for _, b := range r.banks {
			if !r.valid(b) {
				checkInvalidBank(t, f, b.given())
				continue
			}
			want(t, fmt.Sprint(r.name(), b), impl.ValidBank(f, b.given()), true)
		}
		for _, set := range append(highSets(), 1<<f.Things, 1<<f.Things+1) {
			checkInvalidBank(t, f, impl.Bank{Near: set})
			checkInvalidBank(t, f, impl.Bank{Near: set, Far: true})
		}
	}
	f := ferry(t, "3 1 ab bc")
	want(t, "with the rower", impl.ValidBank(f, impl.Bank{Near: setOf("ab")}), true)
	want(t, "without the rower", impl.ValidBank(f, impl.Bank{Near: setOf("ab"), Far: true}), false)
	want(t, "over without the rower", impl.ValidBank(f, impl.Bank{Near: setOf("c")}), false)
	want(t, "over with the rower", impl.ValidBank(f, impl.Bank{Near: setOf("c"), Far: true}), true)
}

// TestCrossings makes all crossings with all loads, also those that are none.
func TestCrossings(t *testing.T) {
	for _, f := range someFerries(t) {
		r := riverOf(f)
		for i, b := range r.banks {
			if !r.valid(b) || f.Things > 5 && i%7 > 0 {
				continue
			}
			list := []uint16{}
			for _, load := range subsets(r.things) {
				name := fmt.Sprint(r.name(), b, " with ", load)
				next, code := r.cross(b, load)
				if code != impl.OK {
					wantZero(t, name, code, all(impl.CrossWith(f, b.given(), setOf(load))))
					continue
				}
				want(t, name, all(impl.CrossWith(f, b.given(), setOf(load))), all(next.given(), int64(0)))
				want(t, name+" and back", all(impl.CrossWith(f, next.given(), setOf(load))), all(b.given(), int64(0)))
				list = append(list, setOf(load))
			}
			got, code := impl.LoadsFrom(f, b.given())
			want(t, fmt.Sprint(r.name(), b, " loads"), fmt.Sprint(got, code), fmt.Sprint(list, 0))
			for _, load := range append(highSets(), 1<<f.Things, 1<<f.Things+1) {
				wantZero(t, fmt.Sprint(r.name(), b, " with ", load), impl.ErrRange, all(impl.CrossWith(f, b.given(), load)))
			}
		}
	}
}

func TestErrorsOfLoadsInOrder(t *testing.T) {
	f := ferry(t, "4 1 ab cd")
	near, far := impl.Bank{Near: setOf("abc")}, impl.Bank{Near: setOf("ac"), Far: true}
	wantZero(t, "on the other side, too many, and not safe", impl.ErrRange, all(impl.CrossWith(f, near, setOf("cd"))))
	wantZero(t, "on the other side, and not safe", impl.ErrRange, all(impl.CrossWith(f, near, setOf("d"))))
	wantZero(t, "too many, and not safe", impl.ErrLimit, all(impl.CrossWith(f, impl.Bank{Near: 15}, setOf("cd"))))
	wantZero(t, "too many", impl.ErrLimit, all(impl.CrossWith(f, near, setOf("ab"))))
	wantZero(t, "not safe", impl.ErrState, all(impl.CrossWith(f, near, setOf("c"))))
	wantZero(t, "not safe", impl.ErrState, all(impl.CrossWith(f, near, 0)))
	want(t, "safe", all(impl.CrossWith(f, near, setOf("a"))), all(impl.Bank{Near: setOf("bc"), Far: true}, int64(0)))
	wantZero(t, "on the near side", impl.ErrRange, all(impl.CrossWith(f, far, setOf("a"))))
	wantZero(t, "too many", impl.ErrLimit, all(impl.CrossWith(f, far, setOf("bd"))))
	want(t, "back", all(impl.CrossWith(f, far, setOf("d"))), all(impl.Bank{Near: setOf("acd")}, int64(0)))
	want(t, "back alone", all(impl.CrossWith(f, far, 0)), all(impl.Bank{Near: setOf("ac")}, int64(0)))
	wantZero(t, "left alone on the far side", impl.ErrState, all(impl.CrossWith(ferry(t, "4 1 ab bd"), far, 0)))
	wantZero(t, "one too many for no boat", impl.ErrLimit, all(impl.CrossWith(ferry(t, "1 0"), impl.Bank{Near: 1}, 1)))
}

func TestListsOfLoads(t *testing.T) {
	f := ferry(t, "3 1 ab bc")
	none := uint16(0)
	a, b, c := setOf("a"), setOf("b"), setOf("c")
	for _, row := range []struct {
		loads []uint16
		end   impl.Bank
	}{
		{nil, impl.Bank{Near: 7}}, {[]uint16{}, impl.Bank{Near: 7}}, {[]uint16{b}, impl.Bank{Near: 5, Far: true}}, {[]uint16{b, none}, impl.Bank{Near: 5}},
		{[]uint16{b, none, a, b, c, none, b}, impl.Bank{Far: true}}, {[]uint16{b, none, c, b, a, none, b, b}, impl.Bank{Near: b}},
		{slices.Repeat([]uint16{b}, 1000), impl.Bank{Near: 7}}, {slices.Repeat([]uint16{b}, 999), impl.Bank{Near: 5, Far: true}},
	} {
		want(t, fmt.Sprint(row.loads), all(impl.CrossAll(f, row.loads)), all(row.end, int64(0)))
	}
	for _, row := range []struct {
		loads []uint16
		code  int64
	}{
		{[]uint16{a}, impl.ErrState}, {[]uint16{none}, impl.ErrState}, {[]uint16{8}, impl.ErrRange}, {[]uint16{a | b}, impl.ErrLimit}, {[]uint16{8 | a}, impl.ErrRange},
		{[]uint16{b, a}, impl.ErrRange}, {[]uint16{b, none, a, none}, impl.ErrState}, {[]uint16{b, none, a, a | b}, impl.ErrLimit}, {[]uint16{math.MaxUint16, a}, impl.ErrRange},
		{[]uint16{a, 8, a | b}, impl.ErrState}, {[]uint16{8, a | b, a}, impl.ErrRange}, {[]uint16{a | b, a, 8}, impl.ErrLimit},
		{append(slices.Repeat([]uint16{b}, 999), a), impl.ErrRange}, {append(slices.Repeat([]uint16{b}, 998), a), impl.ErrState}, {append([]uint16{a}, slices.Repeat([]uint16{8}, 999)...), impl.ErrState},
		{slices.Repeat([]uint16{b}, 1001), impl.ErrRange}, {slices.Repeat([]uint16{a}, 1001), impl.ErrRange}, {slices.Repeat([]uint16{a | b}, 1000), impl.ErrLimit},
		{slices.Repeat([]uint16{a | b}, 1001), impl.ErrRange}, {slices.Repeat([]uint16{a}, 1000000), impl.ErrRange},
	} {
		wantZero(t, fmt.Sprint(row.loads[:min(4, len(row.loads))]), row.code, all(impl.CrossAll(f, row.loads)))
	}
}

// TestShortestCrossings is for promise 10.
func TestShortestCrossings(t *testing.T) {
	for _, f := range someFerries(t) {
		r := riverOf(f)
		dist := r.steps(r.first(), false)
		table, code := impl.CrossingsTable(f)
		want(t, r.name()+"table", all(table, code), all(dist, int64(0)))
		list, known := r.firstLoads()
		if !known {
			wantZero(t, r.name()+"loads", impl.ErrNotFound, all(impl.ShortestCrossing(f)))
			wantZero(t, r.name()+"ways", impl.ErrNotFound, all(impl.WaysAcross(f)))
			wantZero(t, r.name()+"least", impl.ErrNotFound, all(impl.LeastCrossings(f, table)))
			continue
		}
		want(t, r.name()+"loads", all(impl.ShortestCrossing(f)), all(list, int64(0)))
		want(t, r.name()+"ways", all(impl.WaysAcross(f)), all(r.ways(len(list)), int64(0)))
		want(t, r.name()+"least", all(impl.LeastCrossings(f, table)), all(int64(len(list)), int64(0)))
		for length := range len(list) {
			want(t, r.name()+"no shorter ways", r.ways(length), int64(0))
		}
		checkVoyage(t, r, list)
	}
}

// checkVoyage looks at both sides before and behind each crossing.
func checkVoyage(t *testing.T, r river, list []uint16) {
	t.Helper()
	near, far := r.things, ""
	for i, load := range list {
		name := fmt.Sprint(r.name(), "crossing ", i)
		letters := lettersOf(load)
		want(t, name+" fits into the boat", len(letters) <= int(r.ferry.Boat), true)
		if i%2 == 0 {
			want(t, name+" takes what is there", without(letters, near), "")
			near, far = without(near, letters), far+letters
			want(t, name+" leaves safe things", r.safe(near), true)
		} else {
			want(t, name+" takes what is there", without(letters, far), "")
			near, far = near+letters, without(far, letters)
			want(t, name+" leaves safe things", r.safe(far), true)
		}
		end, code := impl.CrossAll(r.ferry, list[:i+1])
		want(t, name, all(end, code), all(impl.Bank{Near: setOf(near), Far: i%2 == 0}, int64(0)))
	}
	want(t, r.name()+"all is over", all(near, len(far), len(list)%2), all("", len(r.things), 1))
}

func TestKnownCrossings(t *testing.T) {
	for _, row := range []struct {
		text            string
		crossings, ways int64
	}{
		{"1 1", 1, 1}, {"8 8", 1, 1}, {"8 1", 15, 40320}, {"8 2", 7, 2520}, {"3 1", 5, 6}, {"2 2 ab", 1, 1}, {"8 8 abcdefgh", 1, 1}, {"3 1 ab bc", 7, 2}, {"2 1 ab", 3, 2},
	} {
		f := ferry(t, row.text)
		list, code := impl.ShortestCrossing(f)
		want(t, row.text, all(int64(len(list)), code), all(row.crossings, int64(0)))
		want(t, row.text, all(impl.WaysAcross(f)), all(row.ways, int64(0)))
	}
	list, code := impl.ShortestCrossing(ferry(t, "3 2"))
	want(t, "first as a list", all(list, code), all([]uint16{1, 0, 6}, int64(0)))
	want(t, "table", all(impl.CrossingsTable(ferry(t, "1 0"))), all([]int16{-1, 0, -1, 1}, int64(0)))
	want(t, "table", all(impl.CrossingsTable(ferry(t, "1 1"))), all([]int16{2, 0, 1, 1}, int64(0)))
	want(t, "table", all(impl.CrossingsTable(ferry(t, "2 1 ab"))), all([]int16{-1, 2, 2, 0, 3, 1, 1, -1}, int64(0)))
}

// proves tells by the document's words whether a table is a proof.
func (r river) proves(table []int16) bool {
	for i, list := range r.crossings {
		told := int(table[i])
		if told < -1 || i == r.first() && told != 0 {
			return false
		}
		for _, c := range list {
			if behind := int(table[c.to]); told != -1 && (behind == -1 || behind > told+1) {
				return false
			}
		}
	}
	return true
}

// checkCrossingsTable also checks that nothing is reached with fewer crossings than a proof says.
func checkCrossingsTable(t *testing.T, r river, dist, table []int16) bool {
	t.Helper()
	name := fmt.Sprint(r.name(), table[:min(len(table), 32)])
	proof := r.proves(table)
	want(t, "proof "+name, all(impl.CheckCrossings(r.ferry, table)), all(proof, int64(0)))
	told := table[r.last()]
	switch {
	case !proof:
		wantZero(t, "least "+name, impl.ErrProof, all(impl.LeastCrossings(r.ferry, table)))
		return false
	case told == -1:
		wantZero(t, "least "+name, impl.ErrNotFound, all(impl.LeastCrossings(r.ferry, table)))
	default:
		want(t, "least "+name, all(impl.LeastCrossings(r.ferry, table)), all(int64(told), int64(0)))
	}
	for i, crossings := range dist {
		if crossings >= 0 && (table[i] < 0 || table[i] > crossings) {
			t.Errorf("%s says %d of %v, to which %d crossings lead", name, table[i], r.banks[i], crossings)
		}
	}
	return true
}

// TestCrossingsTables is for promise 10: the table of a ferry is a proof, and one that says less may be, but none that says more.
func TestCrossingsTables(t *testing.T) {
	for _, f := range someFerries(t) {
		r := riverOf(f)
		dist := r.steps(r.first(), false)
		want(t, r.name()+"own table", checkCrossingsTable(t, r, dist, dist), true)
		want(t, r.name()+"zeros", checkCrossingsTable(t, r, dist, make([]int16, len(dist))), true)
		for _, change := range []func(int16) int16{
			func(n int16) int16 { return min(n, 1) }, func(n int16) int16 { return min(n, 3) }, func(n int16) int16 { return n / 2 }, func(n int16) int16 { return n / 3 },
			func(n int16) int16 { return max(n, 0) }, func(n int16) int16 { return n - 1 }, func(n int16) int16 { return n + 1 }, func(n int16) int16 { return -n },
			func(n int16) int16 { return 2 * n }, func(int16) int16 { return -1 }, func(int16) int16 { return -2 }, func(int16) int16 { return math.MaxInt16 },
		} {
			other := slices.Clone(dist)
			for i, n := range other {
				other[i] = change(n)
			}
			checkCrossingsTable(t, r, dist, other)
		}
		for i := 0; i < len(dist); i += 1 + len(dist)/24 {
			for _, n := range []int16{-1, -2, 0, 1, 2, 9, dist[i] + 1, dist[i] + 2, dist[i] - 1, math.MaxInt16, math.MinInt16} {
				other := slices.Clone(dist)
				other[i] = n
				checkCrossingsTable(t, r, dist, other)
			}
		}
	}
}

// TestBanksThatAreNotReached may have any numbers of at least -1, if they are not valid, and large ones, if they are.
func TestBanksThatAreNotReached(t *testing.T) {
	f := ferry(t, "3 1 ab bc")
	table, _ := impl.CrossingsTable(f)
	invalid := []int{3 + 8, 6 + 8, 7 + 8, 4, 1, 0} // ab, bc or abc alone on the near side, and then on the far one
	for _, i := range invalid {
		want(t, "not valid", table[i], int16(-1))
		for _, n := range []int16{0, 1, 9, math.MaxInt16} {
			other := slices.Clone(table)
			other[i] = n
			want(t, fmt.Sprint(i, " has ", n), all(impl.CheckCrossings(f, other)), all(true, int64(0)))
		}
		for _, n := range []int16{-2, -3, math.MinInt16} {
			other := slices.Clone(table)
			other[i] = n
			want(t, fmt.Sprint(i, " has ", n), all(impl.CheckCrossings(f, other)), all(false, int64(0)))
			wantZero(t, fmt.Sprint(i, " has ", n), impl.ErrProof, all(impl.LeastCrossings(f, other)))
		}
	}
	stuck := ferry(t, "3 0 ab")
	other := slices.Repeat([]int16{math.MaxInt16}, 16)
	other[7] = 0
	want(t, "greatest numbers", all(impl.CheckCrossings(stuck, other)), all(true, int64(0)))
	want(t, "greatest numbers", all(impl.LeastCrossings(stuck, other)), all(int64(math.MaxInt16), int64(0)))
	other[7] = -1
	want(t, "the first bank has -1", all(impl.CheckCrossings(stuck, other)), all(false, int64(0)))
	other[7] = 1
	want(t, "the first bank has 1", all(impl.CheckCrossings(stuck, other)), all(false, int64(0)))
	one := ferry(t, "1 0")
	want(t, "alone there and back", all(impl.CheckCrossings(one, []int16{-1, 0, -1, 1})), all(true, int64(0)))
	wantZero(t, "never over", impl.ErrNotFound, all(impl.LeastCrossings(one, []int16{-1, 0, -1, 1})))
	want(t, "never back", all(impl.CheckCrossings(one, []int16{-1, 0, -1, -1})), all(false, int64(0)))
	want(t, "2 more", all(impl.CheckCrossings(one, []int16{-1, 0, -1, 2})), all(false, int64(0)))
	want(t, "over, but not back", all(impl.CheckCrossings(one, []int16{-1, 0, 0, 1})), all(false, int64(0)))
	want(t, "over and back", all(impl.CheckCrossings(one, []int16{5, 0, 4, 1})), all(true, int64(0)))
}

func TestCrossingsTablesOfOtherLengths(t *testing.T) {
	f := ferry(t, "3 1 ab bc")
	for _, length := range []int{0, 1, 8, 15, 17, 32, 512, 1000000} {
		for _, n := range []int16{0, -1, -5} {
			table := slices.Repeat([]int16{n}, length)
			wantZero(t, fmt.Sprint(length), impl.ErrRange, all(impl.CheckCrossings(f, table)))
			wantZero(t, fmt.Sprint(length), impl.ErrRange, all(impl.LeastCrossings(f, table)))
		}
	}
	for things := 1; things <= impl.MaxThings; things++ {
		table, code := impl.CrossingsTable(impl.Ferry{Things: int8(things), Boat: 1})
		want(t, fmt.Sprint(things, " things"), all(len(table), code), all(2<<things, int64(0)))
	}
}

// TestLeastBoats is for promise 11.
func TestLeastBoats(t *testing.T) {
	for _, f := range someFerries(t) {
		least := int64(0)
		other := f
		for other.Boat = 0; ; other.Boat++ {
			r := riverOf(other)
			if r.steps(r.first(), false)[r.last()] >= 0 {
				break
			}
			least++
		}
		name := impl.FerryText(f)
		want(t, name+": least boat", all(impl.LeastBoat(f)), all(least, int64(0)))
		cover, code := impl.LeastCover(f)
		size := int64(len(lettersOf(cover)))
		want(t, name+": least cover", code, int64(0))
		want(t, fmt.Sprint(name, ": ", least, " for a cover of ", size), least == size || least == size+1, true)
	}
	for _, row := range []struct {
		text  string
		cover string
		boat  int64
	}{
		{"1 0", "", 1}, {"8 8", "", 1}, {"3 0 ab bc", "b", 1}, {"4 0 ab ac ad", "a", 2}, {"8 0 abcdefgh", "a", 1}, {"2 2 ab", "a", 1}, {"3 0 abc", "a", 1}, {"4 0 abcd", "a", 1}, {"4 4 ab cd", "ac", 2},
	} {
		want(t, row.text, all(impl.LeastBoat(ferry(t, row.text))), all(row.boat, int64(0)))
		want(t, row.text, all(impl.LeastCover(ferry(t, row.text))), all(setOf(row.cover), int64(0)))
	}
}

// lessThing tells the text of a ferry without a thing by renaming letters.
func lessThing(r river, thing int) string {
	things := len(r.things) - 1
	words := []string{fmt.Sprint(things), fmt.Sprint(min(int(r.ferry.Boat), things))}
	gone := r.things[thing]
	for _, rule := range r.rules {
		if strings.IndexByte(rule, gone) >= 0 {
			continue
		}
		words = append(words, strings.Map(func(letter rune) rune {
			if letter > rune(gone) {
				return letter - 1
			}
			return letter
		}, rule))
	}
	return strings.Join(words, " ")
}

func TestFerriesWithoutThings(t *testing.T) {
	for _, f := range someFerries(t) {
		r := riverOf(f)
		for _, thing := range append([]int64{int64(f.Things), int64(f.Things) + 1, 1 << 8, 1 << 16, 64}, badNumbers...) {
			wantZero(t, fmt.Sprint(r.name(), "without ", thing), impl.ErrRange, all(impl.WithoutThing(f, thing)))
		}
		if f.Things == 1 {
			wantZero(t, r.name()+"the only one", impl.ErrState, all(impl.WithoutThing(f, 0)))
			continue
		}
		for thing := range r.things {
			less, code := impl.WithoutThing(f, int64(thing))
			want(t, fmt.Sprint(r.name(), "without ", thing), all(impl.FerryText(less), code), all(lessThing(r, thing), int64(0)))
		}
	}
	less, code := impl.WithoutThing(ferry(t, "4 4 ab cd ad bcd bd"), 2)
	want(t, "without c", all(impl.FerryText(less), code), all("3 3 ab ac bc", int64(0)))
}

func TestSameFerries(t *testing.T) {
	list := []impl.Ferry{
		{}, {Things: 3}, {Boat: 3}, {Things: 3, Boat: 1, Rules: []uint16{3, 6}}, {Things: 3, Boat: 1, Rules: []uint16{6, 3}}, {Things: 3, Boat: 1, Rules: []uint16{3}},
		{Things: 3, Boat: 1, Rules: []uint16{3, 6, 6}}, {Things: 3, Boat: 2, Rules: []uint16{3, 6}}, {Things: 4, Boat: 1, Rules: []uint16{3, 6}}, {Things: -128, Boat: 127, Rules: []uint16{math.MaxUint16}},
	}
	for i, a := range list {
		for k, b := range list {
			b.Rules = append([]uint16{}, b.Rules...)
			want(t, fmt.Sprint("same ", i, k), impl.SameFerry(a, b), i == k)
		}
	}
	long := impl.Ferry{Rules: make([]uint16, 500000)}
	other := impl.Ferry{Rules: make([]uint16, 500000)}
	want(t, "long", impl.SameFerry(long, other), true)
	other.Rules[499999] = 1
	want(t, "long", impl.SameFerry(long, other), false)
	want(t, "nil and empty", impl.SameFerry(impl.Ferry{Rules: []uint16{}}, impl.Ferry{}), true)
}

func TestTextsOfThings(t *testing.T) {
	for _, letters := range subsets("abcdefgh") {
		text := letters
		if letters == "" {
			text = "-"
		}
		want(t, "text", impl.ThingsText(setOf(letters)), text)
		want(t, "set", all(impl.ReadThings(text)), all(setOf(letters), int64(0)))
	}
	for _, set := range highSets() {
		want(t, fmt.Sprint("text of ", set), impl.ThingsText(set), "")
	}
	for _, text := range []string{
		"", "i", "ba", "aa", "a-", "-a", "--", "a b", " a", "a ", " ", "A", "aB", "abcdefghi", "hgfedcba", "acb", "a\n", "a\x00", "`", "0", "1", "ä", "a,b", "abcdefghh", "\xff",
		strings.Repeat("a", 1000000), strings.Repeat("abcdefgh", 100000), strings.Repeat("-", 1000000), "a" + strings.Repeat(" ", 1000000),
	} {
		wantZero(t, fmt.Sprintf("text %.40q", text), impl.ErrSyntax, all(impl.ReadThings(text)))
	}
}

func TestTextsOfFerries(t *testing.T) {
	for _, f := range someFerries(t) {
		words := []string{fmt.Sprint(f.Things), fmt.Sprint(f.Boat)}
		for _, rule := range f.Rules {
			words = append(words, lettersOf(rule))
		}
		text := strings.Join(words, " ")
		want(t, "text", impl.FerryText(f), text)
		read, code := impl.ReadFerry(text)
		want(t, "read "+text, all(impl.SameFerry(read, f), code), all(true, int64(0)))
	}
	most := "8 8" + strings.Repeat(" abcdefgh", 20)
	f, code := impl.ReadFerry(most)
	want(t, "20 rules", all(len(f.Rules), impl.FerryText(f), code), all(20, most, int64(0)))
	for _, text := range []string{
		"", " ", "3", "3 ", " 3 1", "3  1", "3 1 ", "3 1  ab", "3 1 ab ", "3 1 ab  bc", "3 1\tab", "3 1 ab\n", "3\n1", "-", "ab bc", "3 ab bc", "a 1", "3 b",
		"0 0", "9 1", "3 4", "3 -1", "-3 1", "+3 1", "3 +1", "03 1", "3 01", "3 1.0", "0x3 1", "3 1_0", "259 1", "3 257", "3 -255", "99999999999999999999 1", "3 99999999999999999999",
		"3 1 a", "3 1 -", "3 1 ab -", "3 1 ba", "3 1 aab", "3 1 abd", "3 1 d", "3 1 AB", "3 1 ab,bc", "3 1 3", "3 1 ab b", "1 1 ab", "8 8 abi", "8 8 ih", "3 1 ab 1",
		most + " ab", most + " ", most + " x", "8 8" + strings.Repeat(" ab", 21), "8 8" + strings.Repeat(" ab", 300000),
		strings.Repeat(" ", 1000000), strings.Repeat("3", 1000000), "3 " + strings.Repeat("1", 1000000), "3 1 " + strings.Repeat("ab", 500000), strings.Repeat("3 1 ", 250000),
	} {
		wantZero(t, fmt.Sprintf("text %.40q", text), impl.ErrSyntax, all(impl.ReadFerry(text)))
	}
}

// TestFerriesArePure is for promise 1: arguments stay as they are, with the rest of their memory, and results are the same again.
func TestFerriesArePure(t *testing.T) {
	for _, text := range []string{"3 1 ab bc", "4 2 ab cd abc", "5 3 ab bc cd de ae", "8 4 ab cd ef gh"} {
		f := ferry(t, text)
		table, _ := impl.CrossingsTable(f)
		list, code := impl.ShortestCrossing(f)
		want(t, "crossed "+text, code, int64(0))
		bad := append(slices.Clone(list), 1<<8)
		wholeRules, rules := spare(f.Rules, 777)
		f.Rules = rules
		wholeTable, table := spare(table, 777)
		wholeList, list := spare(list, 777)
		wholeBad, bad := spare(bad, 777)
		b := impl.Bank{Near: 1<<f.Things - 1}
		call := func() []any {
			return []any{
				impl.ValidFerry(f), impl.SameFerry(f, f), all(impl.IsSafe(f, 3)), impl.ValidBank(f, b), all(impl.CrossWith(f, b, list[0])), all(impl.CrossWith(f, b, 1<<8)),
				all(impl.LoadsFrom(f, b)), all(impl.CrossAll(f, list)), all(impl.CrossAll(f, bad)), all(impl.CrossingsTable(f)), all(impl.CheckCrossings(f, table)),
				all(impl.LeastCrossings(f, table)), all(impl.ShortestCrossing(f)), all(impl.WaysAcross(f)), all(impl.LeastBoat(f)), all(impl.LeastCover(f)), all(impl.IsCover(f, 5)),
				all(impl.SafeSets(f)), all(impl.WithoutThing(f, 1)), impl.ThingsText(5), all(impl.ReadThings("ac")), impl.FerryText(f), all(impl.ReadFerry(text)),
			}
		}
		before := fmt.Sprint(wholeRules, wholeTable, wholeList, wholeBad)
		first := call()
		for range 3 {
			want(t, "again "+text, call(), first)
		}
		want(t, "arguments", fmt.Sprint(wholeRules, wholeTable, wholeList, wholeBad), before)
	}
}

// TestFerriesAreNew changes results, which must change neither later ones nor arguments.
func TestFerriesAreNew(t *testing.T) {
	f := ferry(t, "4 2 ab bc cd")
	kept := slices.Clone(f.Rules)
	results := func() string {
		loads, _ := impl.LoadsFrom(f, impl.Bank{Near: 15})
		table, _ := impl.CrossingsTable(f)
		list, _ := impl.ShortestCrossing(f)
		last, _ := impl.WithoutThing(f, 3)
		first, _ := impl.WithoutThing(f, 0)
		read, _ := impl.ReadFerry("4 2 ab bc cd")
		shown := fmt.Sprint(loads, table, list, last, first, read)
		clear(loads[:cap(loads)])
		clear(table[:cap(table)])
		clear(list[:cap(list)])
		clear(last.Rules[:cap(last.Rules)])
		clear(first.Rules[:cap(first.Rules)])
		clear(read.Rules[:cap(read.Rules)])
		want(t, "argument", f.Rules, kept)
		return shown
	}
	want(t, "results share memory with later ones", results(), results())
}
