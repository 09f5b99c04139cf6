package tests

import (
	"fmt"
	"slices"
	"strings"
	"testing"

	"loop.example/g01281/impl"
)

// The model of these tests has words as texts, of the signs "-", "0" and "+".

var kinds = []string{"heavy", "light", "either"}

// textsOf has all words of so many letters, in the order of their numbers.
func textsOf(letters int) []string {
	if letters == 0 {
		return []string{""}
	}
	var list []string
	for _, first := range []string{"-", "0", "+"} {
		for _, rest := range textsOf(letters - 1) {
			list = append(list, first+rest)
		}
	}
	return list
}

func wordOf(text string) impl.Word {
	var w impl.Word
	for i, sign := range text {
		switch sign {
		case '-':
			w[i] = -1
		case '+':
			w[i] = 1
		}
	}
	return w
}

var (
	oppositeSigns = strings.NewReplacer("-", "+", "+", "-")
	nextSigns     = strings.NewReplacer("-", "0", "0", "+", "+", "-")
)

// badWords are none of so many letters.
func badWords(letters int) []impl.Word {
	var list []impl.Word
	for i := range impl.MaxLetters {
		for _, letter := range []int8{2, -2, 3, 127, -128, 64} {
			var w impl.Word
			w[i] = letter
			list = append(list, w)
		}
		if i >= letters {
			var w impl.Word
			w[i] = 1
			list = append(list, w)
			w[i] = -1
			w[0] = 1
			list = append(list, w)
		}
	}
	return list
}

// fixedOf makes a fixed plan of texts of words, as its text has them.
func fixedOf(kind string, words ...string) impl.Fixed {
	f := impl.Fixed{Letters: int8(len(words[0])), Kind: int8(slices.Index(kinds, kind))}
	for _, text := range words {
		f.Words = append(f.Words, wordOf(text))
	}
	return f
}

func repeated(kind, word string, count int) impl.Fixed {
	return fixedOf(kind, slices.Repeat([]string{word}, count)...)
}

// badFixed has the fixed plans that are not valid.
func badFixed() []impl.Fixed {
	good := fixedOf("either", "-0", "0+", "+-")
	list := []impl.Fixed{{}, {Letters: 2}, {Letters: 2, Words: []impl.Word{}}, repeated("heavy", "-0", 81), repeated("either", "0000", 1000000)}
	for _, letters := range []int8{0, 1, 5, -1, -2, 127, -128} {
		f := good
		f.Letters = letters
		list = append(list, f)
	}
	for _, kind := range []int8{-1, 3, 127, -128} {
		f := good
		f.Kind = kind
		list = append(list, f)
	}
	for _, w := range badWords(2) {
		for i := range good.Words {
			f := good
			f.Words = slices.Clone(good.Words)
			f.Words[i] = w
			list = append(list, f)
		}
	}
	return list
}

func TestFixedExample(t *testing.T) {
	f, code := impl.ReadFixed("either -0 0+ +-")
	want(t, "read", all(f, code), all(impl.Fixed{Letters: 2, Kind: impl.TkEither, Words: []impl.Word{{-1, 0}, {0, 1}, {1, -1}}}, int64(0)))
	want(t, "clear", all(impl.IsClear(f)), all(true, int64(0)))
	want(t, "balanced", all(impl.IsBalanced(f)), all(true, int64(0)))
	want(t, "first weighing", all(impl.PanOf(f, 0)), all([]int64{0}, []int64{2}, int64(0)))
	want(t, "-0", all(impl.Decode(f, wordOf("-0"))), all(heavy(0), int64(0)))
	want(t, "0-", all(impl.Decode(f, wordOf("0-"))), all(light(1), int64(0)))
	want(t, "made", all(impl.MakeFixed(2, impl.TkEither, 3)), all(f, int64(0)))
	want(t, "coins of 3 letters", all(impl.MostCoins(3, impl.TkEither)), all(int64(12), int64(0)))
	want(t, "distance", all(impl.LeastDistance(f)), all(int64(1), int64(0)))
	want(t, "limits", []int{impl.MaxLetters, impl.MaxWords}, []int{4, 80})
}

func TestWords(t *testing.T) {
	for letters := 1; letters <= impl.MaxLetters; letters++ {
		n := int64(letters)
		list := textsOf(letters)
		for number, text := range list {
			w := wordOf(text)
			want(t, "valid "+text, impl.ValidWord(n, w), true)
			want(t, "number of "+text, all(impl.NumberOfWord(n, w)), all(int64(number), int64(0)))
			want(t, "word of "+text, all(impl.WordAt(n, int64(number))), all(w, int64(0)))
			want(t, "next of "+text, all(impl.NextWord(n, w)), all(wordOf(nextSigns.Replace(text)), int64(0)))
			want(t, "opposite of "+text, impl.OppositeWord(w), wordOf(oppositeSigns.Replace(text)))
		}
		for _, number := range append([]int64{int64(len(list)), int64(len(list)) + 1, 81, 1 << 62}, badNumbers...) {
			wantZero(t, fmt.Sprint("no number ", number), impl.ErrRange, all(impl.WordAt(n, number)))
		}
		for _, w := range badWords(letters) {
			name := fmt.Sprint(letters, " letters, ", w)
			want(t, name, impl.ValidWord(n, w), false)
			wantZero(t, name, impl.ErrInvalid, all(impl.NumberOfWord(n, w)))
			wantZero(t, name, impl.ErrInvalid, all(impl.NextWord(n, w)))
		}
	}
}

func TestLettersAreInRange(t *testing.T) {
	for _, letters := range append([]int64{0, 5, 6, 1<<32 + 2, 1<<8 + 2}, badNumbers...) {
		name := fmt.Sprint(letters, " letters")
		for _, w := range append(badWords(1), impl.Word{}, wordOf("-"), wordOf("+0-+")) {
			want(t, name, impl.ValidWord(letters, w), false)
			wantZero(t, name, impl.ErrRange, all(impl.NumberOfWord(letters, w)))
			wantZero(t, name, impl.ErrRange, all(impl.NextWord(letters, w)))
		}
		for _, n := range append([]int64{0, 1, 2, 3, 4, 5, 81}, badNumbers...) {
			wantZero(t, name, impl.ErrRange, all(impl.WordAt(letters, n)))
			wantZero(t, name, impl.ErrRange, all(impl.MostCoins(letters, n)))
			wantZero(t, name, impl.ErrRange, all(impl.MakeFixed(letters, n, 3)))
			wantZero(t, name, impl.ErrRange, all(impl.MakeFixed(letters, n, 4)))
		}
	}
}

// TestOppositeOfAnyWord has words of no number of letters, too.
func TestOppositeOfAnyWord(t *testing.T) {
	for _, pair := range [][2]impl.Word{
		{{}, {}}, {{1, -1, 0, 1}, {-1, 1, 0, -1}}, {{0, 0, 0, 1}, {0, 0, 0, -1}}, {{2, -2}, {-2, 2}},
		{{127, -127, 5, 0}, {-127, 127, -5, 0}}, {{-128, 0, 0, 1}, {-128, 0, 0, -1}},
	} {
		want(t, fmt.Sprint(pair[0]), impl.OppositeWord(pair[0]), pair[1])
		want(t, fmt.Sprint(pair[1]), impl.OppositeWord(pair[1]), pair[0])
	}
}

// model is a fixed plan with its seen words as texts, by the order of its cases.
type model struct {
	plan    impl.Fixed
	letters int
	words   []string
	cases   []impl.Case
	seen    []string
}

func modelOf(f impl.Fixed) model {
	m := model{plan: f, letters: int(f.Letters)}
	for _, w := range f.Words {
		text := ""
		for _, letter := range w[:m.letters] {
			text += string("-0+"[letter+1])
		}
		m.words = append(m.words, text)
	}
	m.cases = casesInOrder(impl.Task{Coins: int8(len(f.Words)), Kind: f.Kind, None: true})
	for _, c := range m.cases {
		switch {
		case c == none:
			m.seen = append(m.seen, strings.Repeat("0", m.letters))
		case c.Heavy:
			m.seen = append(m.seen, m.words[c.Coin])
		default:
			m.seen = append(m.seen, oppositeSigns.Replace(m.words[c.Coin]))
		}
	}
	return m
}

func (m model) text() string {
	return kinds[m.plan.Kind] + " " + strings.Join(m.words, " ")
}

// pan has the coins with a sign in a weighing.
func (m model) pan(letter int, sign byte) []int64 {
	var coins []int64
	for coin, text := range m.words {
		if text[letter] == sign {
			coins = append(coins, int64(coin))
		}
	}
	return coins
}

func (m model) balanced() bool {
	for letter := range m.letters {
		if len(m.pan(letter, '-')) != len(m.pan(letter, '+')) {
			return false
		}
	}
	return true
}

// onScale weighs coins of 10, 9 and 11; it tells what is seen if the plan is balanced.
func (m model) onScale(c impl.Case) string {
	text := ""
	for letter := range m.letters {
		load := 0
		for coin, word := range m.words {
			mass := 10
			switch c {
			case heavy(int8(coin)):
				mass = 11
			case light(int8(coin)):
				mass = 9
			}
			load += mass * (strings.IndexByte("-0+", word[letter]) - 1)
		}
		text += map[int]string{-1: "-", 0: "0", 1: "+"}[load]
	}
	return text
}

func differing(a, b string) int64 {
	count := int64(0)
	for i := range a {
		if a[i] != b[i] {
			count++
		}
	}
	return count
}

// near has the cases that are seen with at most so many wrong results.
func (m model) near(seen string, wrong int64) []impl.Case {
	var list []impl.Case
	for i, c := range m.cases {
		if differing(m.seen[i], seen) <= wrong {
			list = append(list, c)
		}
	}
	return list
}

// checkFixed holds all that is told about a fixed plan against the model.
func checkFixed(t *testing.T, f impl.Fixed) {
	t.Helper()
	m := modelOf(f)
	name := m.text() + ": "
	want(t, name+"valid", impl.ValidFixed(f), true)
	want(t, name+"text", impl.FixedText(f), m.text())
	want(t, name+"read", all(impl.ReadFixed(m.text())), all(f, int64(0)))
	want(t, name+"balanced", all(impl.IsBalanced(f)), all(m.balanced(), int64(0)))
	for letter := range m.letters {
		left, right, code := impl.PanOf(f, int64(letter))
		want(t, name+"pans", fmt.Sprint(left, right, code), fmt.Sprint(m.pan(letter, '-'), m.pan(letter, '+'), 0))
	}
	for i, c := range m.cases {
		want(t, fmt.Sprint(name, "seen in ", c), all(impl.SeenOf(f, c)), all(wordOf(m.seen[i]), int64(0)))
		if m.balanced() {
			want(t, fmt.Sprint(name, "on a scale ", c), m.onScale(c), m.seen[i])
		}
	}
	for _, c := range append(someCases(), heavy(int8(len(f.Words))), light(int8(len(f.Words))), light(79), heavy(79), light(80), heavy(80)) {
		if !slices.Contains(m.cases, c) {
			wantZero(t, fmt.Sprint(name, "seen in ", c), impl.ErrRange, all(impl.SeenOf(f, c)))
		}
	}
	checkDecoded(t, name, m)
	checkConfused(t, name, m)
	checkNear(t, name, m)
	checkTree(t, name, m)
}

func checkDecoded(t *testing.T, name string, m model) {
	t.Helper()
	for _, text := range textsOf(m.letters) {
		if at := slices.Index(m.seen, text); at >= 0 {
			want(t, name+"decoded "+text, all(impl.Decode(m.plan, wordOf(text))), all(m.cases[at], int64(0)))
		} else {
			wantZero(t, name+"decoded "+text, impl.ErrNotFound, all(impl.Decode(m.plan, wordOf(text))))
		}
	}
}

// checkConfused is for promise 8, too: a clear plan tells each case.
func checkConfused(t *testing.T, name string, m model) {
	t.Helper()
	for second := range m.cases {
		for first := range second {
			if m.seen[first] == m.seen[second] {
				want(t, name+"confused", all(impl.Confused(m.plan)), all(m.cases[first], m.cases[second], int64(0)))
				want(t, name+"clear", all(impl.IsClear(m.plan)), all(false, int64(0)))
				return
			}
		}
	}
	wantZero(t, name+"confused", impl.ErrNotFound, all(impl.Confused(m.plan)))
	want(t, name+"clear", all(impl.IsClear(m.plan)), all(true, int64(0)))
	for _, c := range m.cases {
		seen, _ := impl.SeenOf(m.plan, c)
		want(t, fmt.Sprint(name, "told ", c), all(impl.Decode(m.plan, seen)), all(c, int64(0)))
	}
}

// checkNear is for promise 9, too: with a distance of more than twice as many wrong results, each case is told.
func checkNear(t *testing.T, name string, m model) {
	t.Helper()
	least := int64(impl.MaxLetters)
	for second := range m.cases {
		for first := range second {
			least = min(least, differing(m.seen[first], m.seen[second]))
		}
	}
	want(t, name+"distance", all(impl.LeastDistance(m.plan)), all(least, int64(0)))
	for wrong := range int64(impl.MaxLetters + 1) {
		for _, text := range textsOf(m.letters) {
			what := fmt.Sprint(name, text, " with ", wrong, " wrong results")
			near := m.near(text, wrong)
			switch len(near) {
			case 0:
				wantZero(t, what, impl.ErrNotFound, all(impl.DecodeNear(m.plan, wordOf(text), wrong)))
			case 1:
				want(t, what, all(impl.DecodeNear(m.plan, wordOf(text), wrong)), all(near[0], int64(0)))
			default:
				wantZero(t, what, impl.ErrProof, all(impl.DecodeNear(m.plan, wordOf(text), wrong)))
			}
			if least > 2*wrong && len(near) > 1 {
				t.Errorf("%s: several cases in spite of the distance %d", what, least)
			}
		}
	}
	for wrong := int64(0); 2*wrong < least; wrong++ {
		checkWrong(t, name, m, wrong)
	}
}

func checkWrong(t *testing.T, name string, m model, wrong int64) {
	t.Helper()
	for i, c := range m.cases {
		for _, text := range textsOf(m.letters) {
			if differing(text, m.seen[i]) <= wrong {
				want(t, fmt.Sprint(name, c, " is told by ", text), all(impl.DecodeNear(m.plan, wordOf(text), wrong)), all(c, int64(0)))
			}
		}
	}
}

// checkTree goes through a tree for each seen word, which tells the nodes that must be there.
func checkTree(t *testing.T, name string, m model) {
	t.Helper()
	if len(m.words) > impl.MaxCoins {
		wantZero(t, name+"tree", impl.ErrRange, all(impl.TreeOf(m.plan)))
		return
	}
	for letter := range m.letters {
		if len(m.pan(letter, '0')) == len(m.words) || !m.balanced() {
			wantZero(t, name+"tree", impl.ErrState, all(impl.TreeOf(m.plan)))
			return
		}
	}
	var nodes []impl.Node
	for letter := range m.letters {
		first := len(nodes)
		behind := first + len(textsOf(letter))
		for i := range textsOf(letter) {
			node := impl.Node{Next: [3]int16{int16(behind + 3*i), int16(behind + 3*i + 1), int16(behind + 3*i + 2)}}
			for coin, word := range m.words {
				node.Pans[coin] = wordOf(word)[letter]
			}
			nodes = append(nodes, node)
		}
	}
	for _, text := range textsOf(m.letters) {
		tell := none
		if at := slices.Index(m.seen, text); at >= 0 {
			tell = m.cases[at]
		}
		nodes = append(nodes, leaf(tell))
	}
	tree, code := impl.TreeOf(m.plan)
	want(t, name+"tree", all(tree, code), all(nodes, int64(0)))
	task := impl.Task{Coins: int8(len(m.words)), Kind: m.plan.Kind, None: true}
	want(t, name+"tree", impl.ValidPlan(task, tree), true)
	for i, c := range m.cases {
		decoded, _ := impl.Decode(m.plan, wordOf(m.seen[i]))
		got, count := told(tree, c)
		want(t, fmt.Sprint(name, "told by the tree ", c), all(got, count), all(decoded, int64(m.letters)))
		want(t, fmt.Sprint(name, "told by the tree ", c), all(impl.FollowPlan(task, tree, c)), all(decoded, int64(m.letters), int64(0)))
	}
	if clear, _ := impl.IsClear(m.plan); clear {
		wantZero(t, name+"untold", impl.ErrNotFound, all(impl.FirstUntold(task, tree)))
	}
}

// TestFewWords has all fixed plans of few letters and words.
func TestFewWords(t *testing.T) {
	for _, kind := range kinds {
		for _, sizes := range [][2]int{{1, 1}, {1, 2}, {1, 3}, {1, 4}, {2, 1}, {2, 2}, {2, 3}, {3, 1}, {3, 2}, {4, 1}} {
			lists := [][]string{nil}
			for range sizes[1] {
				var longer [][]string
				for _, list := range lists {
					for _, text := range textsOf(sizes[0]) {
						longer = append(longer, append(slices.Clone(list), text))
					}
				}
				lists = longer
			}
			for _, list := range lists {
				checkFixed(t, fixedOf(kind, list...))
			}
		}
	}
}

// anyFixed has fixed plans with words of all letters, some of them by groups, which balance them.
func anyFixed(n *numbers, letters, count int, grouped bool) impl.Fixed {
	list := textsOf(letters)
	var words []string
	for len(words) < count {
		text := list[n.below(len(list))]
		words = append(words, text)
		if grouped {
			next := nextSigns.Replace(text)
			words = append(words, next, nextSigns.Replace(next))
		}
	}
	return fixedOf(kinds[n.below(3)], words[:min(len(words), impl.MaxWords)]...)
}

func TestAnyFixed(t *testing.T) {
	n := numbers(4)
	for letters := 1; letters <= impl.MaxLetters; letters++ {
		for _, count := range []int{2, 3, 4, 6, 9, 12, 13, 14, 15, 40, 79, 80} {
			for range 4 {
				checkFixed(t, anyFixed(&n, letters, count, false))
				checkFixed(t, anyFixed(&n, letters, count, true))
			}
		}
	}
}

// farWords are 3 letters from each other, the opposite ones and the word of all 0 being some of them.
var farWords = []string{"0+++", "+0+-", "++-0", "+-0+"}

func TestFarWords(t *testing.T) {
	var both []string
	for _, text := range farWords {
		both = append(both, text, oppositeSigns.Replace(text))
	}
	for _, f := range []impl.Fixed{
		fixedOf("either", farWords...), fixedOf("heavy", both...), fixedOf("light", both...), fixedOf("either", "+++"), fixedOf("light", "+++"),
		fixedOf("heavy", "++++"), fixedOf("heavy", "+++", "---"), fixedOf("light", "++", "--"), fixedOf("heavy", "++++", "----"), fixedOf("either", "----"),
	} {
		checkFixed(t, f)
	}
	f := fixedOf("either", farWords...)
	want(t, "distance", all(impl.LeastDistance(f)), all(int64(3), int64(0)))
	want(t, "one wrong result", all(impl.DecodeNear(f, wordOf("0+-+"), 1)), all(heavy(0), int64(0)))
	want(t, "one wrong result", all(impl.DecodeNear(f, wordOf("--00"), 1)), all(light(2), int64(0)))
	want(t, "one wrong result of none", all(impl.DecodeNear(f, wordOf("00-0"), 1)), all(none, int64(0)))
	wantZero(t, "a wrong result that is not allowed", impl.ErrNotFound, all(impl.DecodeNear(f, wordOf("0+-+"), 0)))
	wantZero(t, "too many", impl.ErrProof, all(impl.DecodeNear(f, wordOf("0+-+"), 2)))
	want(t, "heavier only", all(impl.LeastDistance(fixedOf("heavy", "++++"))), all(int64(4), int64(0)))
}

// TestOppositesAreConfused has words whose opposite ones are words of other coins.
func TestOppositesAreConfused(t *testing.T) {
	for _, kind := range kinds {
		f := fixedOf(kind, "-0", "0+", "+-", "0-", "+0")
		checkFixed(t, f)
		if kind == "either" {
			want(t, "first pair", all(impl.Confused(f)), all(light(1), heavy(3), int64(0)))
			want(t, "heavier one of coin 3", all(impl.Decode(f, wordOf("0-"))), all(light(1), int64(0)))
			continue
		}
		wantZero(t, "one way", impl.ErrNotFound, all(impl.Confused(f)))
	}
	late := fixedOf("either", "--", "+0", "-0", "++")
	want(t, "second case first", all(impl.Confused(late)), all(light(1), heavy(2), int64(0)))
	want(t, "none first", all(impl.Confused(fixedOf("either", "-0", "00", "+0"))), all(none, heavy(1), int64(0)))
	want(t, "none and lighter", all(impl.Confused(fixedOf("light", "-0", "00", "-0"))), all(none, light(1), int64(0)))
	want(t, "heavier before lighter", all(impl.Decode(fixedOf("either", "+0", "0+", "+0"), wordOf("-0"))), all(light(0), int64(0)))
	want(t, "none is the least", all(impl.Decode(fixedOf("heavy", "00"), wordOf("00"))), all(none, int64(0)))
	want(t, "the one coin there is", all(impl.SeenOf(fixedOf("light", "+-0+"), light(0))), all(wordOf("-+0-"), int64(0)))
	wantZero(t, "heavier one of lighter ones", impl.ErrNotFound, all(impl.Decode(fixedOf("light", "+-"), wordOf("+-"))))
	wantZero(t, "lighter one of heavier ones", impl.ErrNotFound, all(impl.Decode(fixedOf("heavy", "+-"), wordOf("-+"))))
}

// groupStarts has the words that the document tells for a kind.
func groupStarts(letters int, kind string) []string {
	return slices.DeleteFunc(textsOf(letters), func(text string) bool {
		if text[0] != '-' {
			return true
		}
		if kind != "either" {
			return text == strings.Repeat("-", letters)
		}
		for i := 1; i < letters; i++ {
			if text[i] != text[i-1] {
				return text[i:i+1] != nextSigns.Replace(text[i-1:i])
			}
		}
		return true
	})
}

// TestMadeFixed is for promise 8: what is made is clear and balanced.
func TestMadeFixed(t *testing.T) {
	for letters := 1; letters <= impl.MaxLetters; letters++ {
		for kind, word := range kinds {
			starts := groupStarts(letters, word)
			for coins := 1; coins <= impl.MaxWords; coins++ {
				name := fmt.Sprint(letters, word, coins)
				made := all(impl.MakeFixed(int64(letters), int64(kind), int64(coins)))
				switch {
				case coins%3 != 0:
					wantZero(t, name, impl.ErrState, made)
				case coins > 3*len(starts):
					wantZero(t, name, impl.ErrNotFound, made)
				default:
					var words []string
					for _, text := range starts[:coins/3] {
						next := nextSigns.Replace(text)
						words = append(words, text, next, nextSigns.Replace(next))
					}
					f := fixedOf(word, words...)
					want(t, name, made, all(f, int64(0)))
					want(t, name+" clear", all(impl.IsClear(f)), all(true, int64(0)))
					want(t, name+" balanced", all(impl.IsBalanced(f)), all(true, int64(0)))
					checkFixed(t, f)
				}
			}
			for _, coins := range append([]int64{0, 81, 82, 84, 1<<32 + 3, -3}, badNumbers...) {
				wantZero(t, fmt.Sprint(letters, word, coins), impl.ErrRange, all(impl.MakeFixed(int64(letters), int64(kind), coins)))
			}
		}
		for _, kind := range append([]int64{3, 4, 1 << 8, 1<<32 + 2}, badNumbers...) {
			wantZero(t, fmt.Sprint("kind ", kind), impl.ErrRange, all(impl.MostCoins(int64(letters), kind)))
			wantZero(t, fmt.Sprint("kind ", kind), impl.ErrRange, all(impl.MakeFixed(int64(letters), kind, 3)))
			wantZero(t, fmt.Sprint("kind ", kind), impl.ErrRange, all(impl.MakeFixed(int64(letters), kind, 1)))
		}
	}
	want(t, "3 letters", all(impl.MakeFixed(3, impl.TkEither, 12)),
		all(fixedOf("either", "--0", "00+", "++-", "-0-", "0+0", "+-+", "-00", "0++", "+--", "-0+", "0+-", "+-0"), int64(0)))
	want(t, "2 letters", all(impl.MakeFixed(2, impl.TkLight, 6)), all(fixedOf("light", "-0", "0+", "+-", "-+", "0-", "+0"), int64(0)))
	wantZero(t, "no words of 1 letter", impl.ErrNotFound, all(impl.MakeFixed(1, impl.TkHeavy, 3)))
	wantZero(t, "no words of 1 letter", impl.ErrNotFound, all(impl.MakeFixed(1, impl.TkEither, 3)))
}

// mostBalanced takes words, each of them or its opposite one at most if either is set, and counts how many have the sum 0 in each letter.
func mostBalanced(letters int, either bool) int64 {
	most := map[[3]int]int64{{}: 0}
	for _, text := range textsOf(letters) {
		signs := []int{0, 1}
		if text <= oppositeSigns.Replace(text) && either {
			signs = []int{-1, 0, 1}
		} else if either {
			continue
		}
		if strings.Trim(text, "0") == "" {
			continue
		}
		next := map[[3]int]int64{}
		for sum, count := range most {
			for _, sign := range signs {
				reached := sum
				for i := range letters {
					reached[i] += sign * int(wordOf(text)[i])
				}
				next[reached] = max(next[reached], count+int64(sign*sign))
			}
		}
		most = next
	}
	return most[[3]int{}]
}

func TestMostCoinsOfFixed(t *testing.T) {
	for letters := 1; letters <= 3; letters++ {
		n := int64(letters)
		want(t, fmt.Sprint("either ", letters), all(impl.MostCoins(n, impl.TkEither)), all(mostBalanced(letters, true), int64(0)))
		for _, kind := range []int64{impl.TkHeavy, impl.TkLight} {
			want(t, fmt.Sprint("one way ", letters), all(impl.MostCoins(n, kind)), all(mostBalanced(letters, false), int64(0)))
		}
	}
	want(t, "4 letters", all(impl.MostCoins(4, impl.TkEither)), all(int64(39), int64(0)))
	want(t, "4 letters", all(impl.MostCoins(4, impl.TkHeavy)), all(int64(80), int64(0)))
	want(t, "4 letters", all(impl.MostCoins(4, impl.TkLight)), all(int64(80), int64(0)))
	for letters := 1; letters <= impl.MaxLetters; letters++ {
		list := slices.DeleteFunc(textsOf(letters), func(text string) bool { return strings.Trim(text, "0") == "" })
		for _, kind := range kinds[:2] {
			f := fixedOf(kind, list...)
			most, _ := impl.MostCoins(int64(letters), int64(f.Kind))
			want(t, "all words but one", all(impl.IsClear(f)), all(true, int64(0)))
			want(t, "all words but one", all(impl.IsBalanced(f)), all(true, int64(0)))
			want(t, "all words but one", most, int64(len(list)))
		}
	}
	for letters := int64(2); letters <= impl.MaxLetters; letters++ {
		most, _ := impl.MostCoins(letters, impl.TkEither)
		made, code := impl.MakeFixed(letters, impl.TkEither, most)
		want(t, "as many can be made", all(int64(len(made.Words)), code), all(most, int64(0)))
	}
}

func TestInvalidFixedComesFirst(t *testing.T) {
	for i, f := range badFixed() {
		name := fmt.Sprint("fixed plan ", i)
		want(t, name, impl.ValidFixed(f), false)
		want(t, name, impl.FixedText(f), "")
		wantZero(t, name, impl.ErrInvalid, all(impl.IsBalanced(f)))
		wantZero(t, name, impl.ErrInvalid, all(impl.IsClear(f)))
		wantZero(t, name, impl.ErrInvalid, all(impl.Confused(f)))
		wantZero(t, name, impl.ErrInvalid, all(impl.LeastDistance(f)))
		wantZero(t, name, impl.ErrInvalid, all(impl.TreeOf(f)))
		for _, c := range someCases() {
			wantZero(t, name, impl.ErrInvalid, all(impl.SeenOf(f, c)))
		}
		for _, w := range append(badWords(2), impl.Word{}, wordOf("-0"), wordOf("-")) {
			wantZero(t, name, impl.ErrInvalid, all(impl.Decode(f, w)))
			wantZero(t, name, impl.ErrInvalid, all(impl.DecodeNear(f, w, 1)))
			wantZero(t, name, impl.ErrInvalid, all(impl.DecodeNear(f, w, 5)))
			wantZero(t, name, impl.ErrInvalid, all(impl.AddWord(f, w)))
		}
		for _, n := range append([]int64{0, 1}, badNumbers...) {
			wantZero(t, name, impl.ErrInvalid, all(impl.PanOf(f, n)))
			wantZero(t, name, impl.ErrInvalid, all(impl.DropWord(f, n)))
		}
	}
}

// TestInvalidSeenWords has words of other numbers of letters with plans that are valid.
func TestInvalidSeenWords(t *testing.T) {
	for letters := 1; letters <= impl.MaxLetters; letters++ {
		for _, count := range []int{1, 2, 79, 80} {
			f := repeated("either", strings.Repeat("+", letters), count)
			for _, w := range badWords(letters) {
				name := fmt.Sprint(letters, " letters, ", count, " words, ", w)
				wantZero(t, name, impl.ErrInvalid, all(impl.Decode(f, w)))
				for _, wrong := range append([]int64{0, 4, 5}, badNumbers...) {
					wantZero(t, name, impl.ErrInvalid, all(impl.DecodeNear(f, w, wrong)))
				}
				wantZero(t, name, impl.ErrInvalid, all(impl.AddWord(f, w)))
			}
		}
	}
}

func TestFixedNumbersAreInRange(t *testing.T) {
	f := fixedOf("either", "-0", "0+", "+-")
	for _, n := range append([]int64{5, 6, 1 << 8, 1<<8 + 1}, badNumbers...) {
		wantZero(t, fmt.Sprint("wrong ", n), impl.ErrRange, all(impl.DecodeNear(f, wordOf("-0"), n)))
		wantZero(t, fmt.Sprint("wrong ", n), impl.ErrRange, all(impl.DecodeNear(f, wordOf("++"), n)))
		wantZero(t, fmt.Sprint("coin ", n), impl.ErrRange, all(impl.DropWord(f, n)))
	}
	for _, n := range append([]int64{2, 3, 1 << 8}, badNumbers...) {
		wantZero(t, fmt.Sprint("letter ", n), impl.ErrRange, all(impl.PanOf(f, n)))
	}
	wantZero(t, "coin 3", impl.ErrRange, all(impl.DropWord(f, 3)))
	wantZero(t, "none with Heavy", impl.ErrRange, all(impl.SeenOf(f, heavy(-1))))
	want(t, "none", all(impl.SeenOf(f, none)), all(impl.Word{}, int64(0)))
	want(t, "4 wrong results of 2", all(impl.DecodeNear(fixedOf("heavy", "-0"), wordOf("-0"), 0)), all(heavy(0), int64(0)))
	wantZero(t, "4 wrong results of 2", impl.ErrProof, all(impl.DecodeNear(f, wordOf("-0"), 4)))
}

func TestAddedAndDroppedWords(t *testing.T) {
	f := fixedOf("light", "-0+", "000", "0+-")
	want(t, "added", all(impl.AddWord(f, wordOf("+++"))), all(fixedOf("light", "-0+", "000", "0+-", "+++"), int64(0)))
	want(t, "added once more", all(impl.AddWord(f, wordOf("000"))), all(fixedOf("light", "-0+", "000", "0+-", "000"), int64(0)))
	want(t, "first", all(impl.DropWord(f, 0)), all(fixedOf("light", "000", "0+-"), int64(0)))
	want(t, "second", all(impl.DropWord(f, 1)), all(fixedOf("light", "-0+", "0+-"), int64(0)))
	want(t, "last", all(impl.DropWord(f, 2)), all(fixedOf("light", "-0+", "000"), int64(0)))
	one := fixedOf("heavy", "-")
	wantZero(t, "the only one", impl.ErrState, all(impl.DropWord(one, 0)))
	for _, n := range append([]int64{1}, badNumbers...) {
		wantZero(t, "none of one", impl.ErrRange, all(impl.DropWord(one, n)))
	}
	most := repeated("either", "0+-0", 79)
	full, code := impl.AddWord(most, wordOf("++++"))
	want(t, "the last one of all", all(len(full.Words), full.Words[79], code), all(80, wordOf("++++"), int64(0)))
	wantZero(t, "one too many", impl.ErrLimit, all(impl.AddWord(full, wordOf("++++"))))
	wantZero(t, "one too many", impl.ErrLimit, all(impl.AddWord(full, impl.Word{})))
	less, code := impl.DropWord(full, 79)
	want(t, "dropped again", all(impl.SameFixed(less, most), code), all(true, int64(0)))
}

func TestTreesOfFixed(t *testing.T) {
	three := impl.Task{Coins: 3, Kind: impl.TkEither, None: true}
	tree, code := impl.TreeOf(fixedOf("either", "-0", "0+", "+-"))
	want(t, "tree", all(impl.NodesText(three, tree), code), all(
		"-0+ 1 2 3\n0+- 4 5 6\n0+- 7 8 9\n0+- 10 11 12\ntell none\ntell 0 heavy\ntell 2 light\n"+
			"tell 1 light\ntell none\ntell 1 heavy\ntell 2 heavy\ntell 0 light\ntell none\n", int64(0)))
	thirteen := fixedOf("heavy", slices.Repeat([]string{"-+0-", "+-0+", "00-0", "00+0", "0000"}, 3)[:13]...)
	want(t, "balanced by opposite words", all(impl.IsBalanced(thirteen)), all(false, int64(0)))
	wantZero(t, "13 that are not balanced", impl.ErrState, all(impl.TreeOf(thirteen)))
	thirteen.Words[12] = impl.Word{}
	want(t, "balanced by opposite words", all(impl.IsBalanced(thirteen)), all(true, int64(0)))
	checkFixed(t, thirteen)
	tree, code = impl.TreeOf(thirteen)
	want(t, "13 coins", all(len(tree), code), all(121, int64(0)))
	fourteen, _ := impl.AddWord(thirteen, impl.Word{})
	wantZero(t, "14 coins", impl.ErrRange, all(impl.TreeOf(fourteen)))
	wantZero(t, "14 coins that are not balanced", impl.ErrRange, all(impl.TreeOf(repeated("heavy", "-", 14))))
	wantZero(t, "not balanced", impl.ErrState, all(impl.TreeOf(fixedOf("either", "-0", "0+"))))
	wantZero(t, "an empty weighing", impl.ErrState, all(impl.TreeOf(fixedOf("either", "-0", "+0"))))
	wantZero(t, "an empty weighing", impl.ErrState, all(impl.TreeOf(fixedOf("either", "0-", "0+"))))
	wantZero(t, "empty weighings", impl.ErrState, all(impl.TreeOf(fixedOf("light", "0"))))
	tree, code = impl.TreeOf(fixedOf("light", "-", "+"))
	want(t, "two of one letter", all(tree, code), all([]impl.Node{fork("-+", 1, 2, 3), leaf(light(1)), leaf(none), leaf(light(0))}, int64(0)))
	tree, _ = impl.TreeOf(fixedOf("either", "-", "+"))
	checkPlan(t, impl.Task{Coins: 2, Kind: impl.TkEither, None: true}, tree)
	want(t, "two that are confused", tree, []impl.Node{fork("-+", 1, 2, 3), leaf(heavy(0)), leaf(none), leaf(light(0))})
}

func TestSameFixed(t *testing.T) {
	list := append([]impl.Fixed{
		fixedOf("either", "-0", "0+"), fixedOf("light", "-0", "0+"), fixedOf("either", "-0", "0-"), fixedOf("either", "0+", "-0"),
		fixedOf("either", "-0"), fixedOf("either", "-0", "0+", "0+"), fixedOf("either", "-00", "0+0"),
	}, impl.Fixed{}, impl.Fixed{Letters: 9}, impl.Fixed{Kind: -1}, impl.Fixed{Words: []impl.Word{{9}}}, impl.Fixed{Words: []impl.Word{{0, 0, 0, -128}}})
	for i, a := range list {
		for k, b := range list {
			want(t, fmt.Sprint("same ", i, k), impl.SameFixed(a, b), i == k)
			b.Words = append([]impl.Word{}, b.Words...)
			want(t, fmt.Sprint("same as the copy ", i, k), impl.SameFixed(a, b), i == k)
		}
	}
	long := repeated("either", "0000", 1000000)
	other := repeated("either", "0000", 1000000)
	want(t, "long", impl.SameFixed(long, other), true)
	other.Words[999999][3] = 1
	want(t, "long", impl.SameFixed(long, other), false)
	want(t, "nil and empty", impl.SameFixed(impl.Fixed{Words: []impl.Word{}}, impl.Fixed{}), true)
}

func TestTextsOfFixed(t *testing.T) {
	want(t, "text", impl.FixedText(fixedOf("heavy", "-0+-", "0000")), "heavy -0+- 0000")
	want(t, "text", impl.FixedText(fixedOf("light", "+")), "light +")
	most := "light" + strings.Repeat(" +0-0", 80)
	f, code := impl.ReadFixed(most)
	want(t, "80 words", all(len(f.Words), impl.FixedText(f), code), all(80, most, int64(0)))
	for _, text := range []string{
		"", " ", "either", "either ", "either  ", " either -0", "either  -0", "either -0 ", "either -0  0+", "either -0 0+\n", "either\t-0", "either -0\t0+",
		"either -0 +", "either + -0", "either -0 0+ +-0", "Either -0", "HEAVY -", "heavi -", "heavy", "heavyy -", "-0 either", "-0", "- 0", "tell -0",
		"heavy light -", "heavy -0 light", "either -00+-", "either 00000", "either -0 00000", "either x", "either 1", "either -1", "either −0", "either \x00\x00",
		"either -0\x00", "2 -0", "0 -0", most + " ", most + " +0-0", most + " x", "light" + strings.Repeat(" +0-0", 81), "light" + strings.Repeat(" 0", 90000),
		strings.Repeat(" ", 1000000), strings.Repeat("-", 1000000), "heavy " + strings.Repeat("0", 1000000), strings.Repeat("heavy ", 100000),
	} {
		wantZero(t, fmt.Sprintf("text %.40q", text), impl.ErrSyntax, all(impl.ReadFixed(text)))
	}
}

// TestFixedIsPure is for promise 1: arguments stay as they are, with the rest of their memory, and results are the same again.
func TestFixedIsPure(t *testing.T) {
	for _, f := range []impl.Fixed{fixedOf("either", "-0", "0+", "+-"), fixedOf("light", "-0+", "000", "-0+", "+++"), fixedOf("heavy", "-+0-", "+-0+", "00-0", "00+0")} {
		whole, words := spare(f.Words, impl.Word{77, 77, 77, 77})
		f.Words = words
		letters, w := int64(f.Letters), words[1]
		call := func() []any {
			return []any{
				impl.ValidWord(letters, w), all(impl.WordAt(letters, 5)), all(impl.NumberOfWord(letters, w)), impl.OppositeWord(w), all(impl.NextWord(letters, w)),
				impl.ValidFixed(f), impl.SameFixed(f, f), all(impl.IsBalanced(f)), all(impl.MostCoins(letters, int64(f.Kind))), all(impl.SeenOf(f, none)),
				all(impl.Decode(f, w)), all(impl.IsClear(f)), all(impl.Confused(f)), all(impl.LeastDistance(f)), all(impl.DecodeNear(f, w, 1)),
				all(impl.MakeFixed(letters, int64(f.Kind), 3)), all(impl.PanOf(f, 1)), all(impl.AddWord(f, w)), all(impl.DropWord(f, 1)), all(impl.TreeOf(f)),
				impl.FixedText(f), all(impl.ReadFixed(impl.FixedText(f))),
			}
		}
		before := slices.Clone(whole)
		first := call()
		for range 3 {
			want(t, "again "+impl.FixedText(f), call(), first)
		}
		want(t, "arguments", whole, before)
	}
}

// TestFixedIsNew changes results, which must change neither later ones nor arguments.
func TestFixedIsNew(t *testing.T) {
	results := func() []any {
		f, _ := impl.MakeFixed(3, impl.TkEither, 6)
		kept := slices.Clone(f.Words)
		more, _ := impl.AddWord(f, f.Words[0])
		first, _ := impl.DropWord(f, 0)
		last, _ := impl.DropWord(f, 5)
		left, right, _ := impl.PanOf(f, 0)
		tree, _ := impl.TreeOf(f)
		read, _ := impl.ReadFixed(impl.FixedText(f))
		shown := fmt.Sprint(more, first, last, left, right, tree, read, f)
		clear(more.Words[:cap(more.Words)])
		clear(first.Words[:cap(first.Words)])
		clear(last.Words[:cap(last.Words)])
		clear(read.Words[:cap(read.Words)])
		clear(left[:cap(left)])
		want(t, "the other pan", right, []int64{2, 5})
		clear(right[:cap(right)])
		clear(tree[:cap(tree)])
		want(t, "argument", f.Words, kept)
		clear(f.Words[:cap(f.Words)])
		return []any{shown}
	}
	want(t, "results share memory with later ones", results(), results())
}
