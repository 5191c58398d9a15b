package coffer_test

import (
	"math/rand"
	"slices"
	"strings"
	"testing"

	"coffer/api"
	"coffer/coffer"
)

func checkCompose(t *testing.T, first, second, want []api.Op) {
	t.Helper()
	if got, e, at := coffer.Compose(first, second); !slices.Equal(got, want) || e != api.OK || at != 0 {
		t.Errorf("P4: Compose(%s, %s) = %s, %d, %d, want %s", short(first), short(second), short(got), e, at, short(want))
	}
}

func checkComposeFault(t *testing.T, first, second []api.Op, want int) {
	t.Helper()
	if got, e, at := coffer.Compose(first, second); len(got) != 0 || e != api.ErrOp || at != want {
		t.Errorf("P4: Compose(%s, %s) = %s, %d, %d, want ErrOp, %d", short(first), short(second), short(got), e, at, want)
	}
}

func TestP4ComposeOrdinary(t *testing.T) {
	checkCompose(t, []api.Op{part(0, 6), text("there")}, []api.Op{part(3, 5)}, []api.Op{part(3, 3), text("th")})
	checkCompose(t, []api.Op{part(10, 5)}, []api.Op{part(1, 3)}, []api.Op{part(11, 3)})
	checkCompose(t, []api.Op{text("abcdef")}, []api.Op{part(1, 3)}, []api.Op{text("bcd")})
	checkCompose(t, []api.Op{text("a"), part(9, 4), text("b")}, []api.Op{part(0, 6)}, []api.Op{text("a"), part(9, 4), text("b")})
	// the whole of the middle, and a piece of what stands at either side
	checkCompose(t, []api.Op{text("abc"), part(9, 4), text("def")}, []api.Op{part(2, 6)}, []api.Op{text("c"), part(9, 4), text("d")})
	// the same bytes more than once, and from back to front
	checkCompose(t, []api.Op{part(5, 3), text("xy")}, []api.Op{part(3, 2), part(0, 3), text("-"), part(0, 4)}, []api.Op{text("xy"), part(5, 3), text("-"), part(5, 3), text("x")})
}

func TestP4ComposeOfNothing(t *testing.T) {
	checkCompose(t, nil, nil, nil)
	checkCompose(t, []api.Op{part(0, 6), text("there")}, nil, nil)
	checkCompose(t, nil, []api.Op{text("there")}, []api.Op{text("there")})
	checkCompose(t, []api.Op{part(0, 6)}, []api.Op{text("there")}, []api.Op{text("there")})
}

func TestP4ComposeMakesTextsOne(t *testing.T) {
	checkCompose(t, []api.Op{text("ab"), part(0, 2), text("cd")}, []api.Op{part(0, 2), part(4, 2)}, []api.Op{text("abcd")})
	checkCompose(t, []api.Op{text("ab")}, []api.Op{text("x"), part(0, 1), text("y"), part(1, 1), text("z")}, []api.Op{text("xaybz")})
	checkCompose(t, []api.Op{text("ab")}, []api.Op{part(1, 1), part(1, 1), part(0, 1)}, []api.Op{text("bba")})
}

func TestP4ComposeMakesCopiesThatGoOnOne(t *testing.T) {
	// what stood between them is gone
	checkCompose(t, []api.Op{part(0, 2), text("x"), part(2, 2)}, []api.Op{part(0, 2), part(3, 2)}, []api.Op{part(0, 4)})
	checkCompose(t, []api.Op{part(4, 2), part(0, 4)}, []api.Op{part(2, 4), part(0, 2)}, []api.Op{part(0, 6)})
	// three in a row
	checkCompose(t, []api.Op{part(2, 1), part(1, 1), part(0, 1)}, []api.Op{part(2, 1), part(1, 1), part(0, 1)}, []api.Op{part(0, 3)})
	// side by side, but ahead of where the first one ends, or behind
	checkCompose(t, []api.Op{part(5, 9)}, []api.Op{part(0, 3), part(2, 3)}, []api.Op{part(5, 3), part(7, 3)})
	checkCompose(t, []api.Op{part(5, 9)}, []api.Op{part(0, 3), part(4, 3)}, []api.Op{part(5, 3), part(9, 3)})
	// they would go on, but for the TEXT between
	checkCompose(t, []api.Op{part(0, 4)}, []api.Op{part(0, 2), text("x"), part(2, 2)}, []api.Op{part(0, 2), text("x"), part(2, 2)})
}

func TestP4ComposeAtTheBounds(t *testing.T) {
	full := strings.Repeat("x", api.MaxText)
	checkCompose(t, []api.Op{part(0, api.MaxText)}, []api.Op{part(0, api.MaxText)}, []api.Op{part(0, api.MaxText)})
	checkCompose(t, []api.Op{text(full)}, []api.Op{part(0, api.MaxText)}, []api.Op{text(full)})
	checkCompose(t, []api.Op{part(api.MaxText-1, 1)}, []api.Op{part(0, 1)}, []api.Op{part(api.MaxText-1, 1)})
	checkComposeFault(t, []api.Op{part(0, api.MaxText+1)}, nil, 0)
	checkComposeFault(t, []api.Op{part(api.MaxText, 1)}, nil, 0)
	checkComposeFault(t, []api.Op{text(full + "x")}, nil, 0)
	checkComposeFault(t, []api.Op{part(0, api.MaxText), text("x")}, nil, 1)
	checkComposeFault(t, []api.Op{part(0, api.MaxText)}, []api.Op{part(0, api.MaxText), text("x")}, 2)
	checkComposeFault(t, []api.Op{part(0, api.MaxText)}, []api.Op{text(full + "x")}, 1)
}

func TestP4ComposeOfNoOp(t *testing.T) {
	good := []api.Op{part(0, 6), text("there")}
	for _, op := range []api.Op{
		{}, {From: 1}, {From: -1}, {Len: -1}, {From: 1, Len: -1},
		{Len: 1, Text: "x"}, {From: 1, Text: "x"}, {From: -1, Text: "x"}, {Len: -1, Text: "x"},
		{From: -1, Len: 1}, {From: least, Len: 1}, {From: least, Len: greatest},
		{Len: greatest}, {From: greatest, Len: 1}, {From: 1, Len: greatest}, {From: greatest, Len: greatest},
	} {
		checkComposeFault(t, []api.Op{op}, nil, 0)
		checkComposeFault(t, []api.Op{part(7, 1), op, {}}, []api.Op{{}}, 1)
		checkComposeFault(t, nil, []api.Op{op}, 0)
		checkComposeFault(t, good, []api.Op{op}, 2)
		checkComposeFault(t, good, []api.Op{part(7, 1), op, {}}, 3)
	}
}

func TestP4ComposeOfOpsThatAreNoDelta(t *testing.T) {
	good := []api.Op{part(0, 6), text("there")}
	for _, c := range []struct {
		ops []api.Op
		at  int
	}{
		{[]api.Op{text("x"), text("y")}, 1},
		{[]api.Op{part(4, 1), text("x"), text("y"), {}}, 2},
		{[]api.Op{part(0, 3), part(3, 3)}, 1},
		{[]api.Op{part(4, 1), part(0, 3), part(3, 1), {}}, 2},
		{slices.Repeat([]api.Op{part(0, 1)}, api.MaxOps+1), api.MaxOps},
		{slices.Repeat([]api.Op{part(0, 1)}, 3*api.MaxOps), api.MaxOps},
	} {
		checkComposeFault(t, c.ops, nil, c.at)
		checkComposeFault(t, c.ops, []api.Op{{}}, c.at)
		checkComposeFault(t, good, c.ops, 2+c.at)
	}
}

func TestP4ComposeReachesBeyondWhatTheFirstMakes(t *testing.T) {
	checkComposeFault(t, nil, []api.Op{part(0, 1)}, 0)
	checkCompose(t, []api.Op{text("abc")}, []api.Op{part(0, 3)}, []api.Op{text("abc")})
	checkComposeFault(t, []api.Op{text("abc")}, []api.Op{part(0, 4)}, 1)
	checkComposeFault(t, []api.Op{text("abc")}, []api.Op{part(3, 1)}, 1)
	// far within the base, but not within what is made of it
	checkComposeFault(t, []api.Op{part(100, 50), text("x")}, []api.Op{part(0, 51), text("y"), part(50, 2), {}}, 4)
}

func TestP4ComposeManyOps(t *testing.T) {
	first := slices.Repeat([]api.Op{text("x"), part(0, 2)}, api.MaxOps/2)
	all := []api.Op{part(0, 3*api.MaxOps/2)}
	checkCompose(t, first, all, first)
	// the TEXT behind them is one op more, the one ahead becomes one with the first
	checkComposeFault(t, first, append(slices.Clone(all), text("y")), api.MaxOps+2)
	joined := slices.Clone(first)
	joined[0] = text("yx")
	checkCompose(t, first, append([]api.Op{text("y")}, all...), joined)
	// many ops of the second one that become few
	oneByOne := slices.Repeat([]api.Op{part(1, 1)}, api.MaxOps)
	checkCompose(t, []api.Op{text("ab")}, oneByOne, []api.Op{text(strings.Repeat("b", api.MaxOps))})
	checkComposeFault(t, first, slices.Repeat([]api.Op{part(0, 9)}, 67), api.MaxOps+67)
}

// plainCompose goes byte by byte: each is a byte of the base, by its number, or a byte of its own.
func plainCompose(first, second []api.Op) []api.Op {
	type origin struct {
		from int
		own  string
	}
	spread := func(ops []api.Op, base func(int) origin) []origin {
		var all []origin
		for _, op := range ops {
			for i := range op.Len {
				all = append(all, base(op.From+i))
			}
			for i := range len(op.Text) {
				all = append(all, origin{own: op.Text[i : i+1]})
			}
		}
		return all
	}
	middle := spread(first, func(i int) origin { return origin{from: i} })
	var ops []api.Op
	for _, b := range spread(second, func(i int) origin { return middle[i] }) {
		last := len(ops) - 1
		switch {
		case last >= 0 && b.own != "" && ops[last].Text != "":
			ops[last].Text += b.own
		case last >= 0 && b.own == "" && ops[last].Text == "" && ops[last].From+ops[last].Len == b.from:
			ops[last].Len++
		case b.own != "":
			ops = append(ops, text(b.own))
		default:
			ops = append(ops, part(b.from, 1))
		}
	}
	return ops
}

// someDelta is one for a base of that many bytes.
func someDelta(r *rand.Rand, baseSize int) []api.Op {
	var ops []api.Op
	for range r.Intn(25) {
		op := text(someText(r, 1+r.Intn(5), 3))
		if baseSize > 0 && r.Intn(3) > 0 {
			from := r.Intn(baseSize)
			op = part(from, 1+r.Intn(min(baseSize-from, 12)))
		}
		with := append(slices.Clone(ops), op)
		if _, e, _ := coffer.Encode(with); e == api.OK {
			ops = with
		}
	}
	return ops
}

func TestP4ComposeIsWhatTheWordsSay(t *testing.T) {
	r := rand.New(rand.NewSource(4))
	tooMany := 0
	for range 5000 {
		base := someText(r, r.Intn(100), 26)
		first := someDelta(r, len(base))
		middle, e, _ := coffer.Apply(base, first)
		if e != api.OK {
			t.Fatalf("P4: Apply(%q, %v) = %d", base, first, e)
		}
		second := someDelta(r, len(middle))
		want := plainCompose(first, second)
		if len(want) > api.MaxOps {
			tooMany++
			checkComposeFault(t, first, second, len(first)+len(second))
			continue
		}
		checkCompose(t, first, second, want)
		end, _, _ := coffer.Apply(middle, second)
		checkApply(t, base, want, end, api.OK, 0)
	}
	if tooMany == 5000 {
		t.Error("P4: each pair made too many ops: nothing was tested")
	}
}
