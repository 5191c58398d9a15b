package history

import (
	"slices"
	"testing"
)

// standing has that one version alone.
func standing(t *testing.T, version int, text string) *Versions {
	t.Helper()
	v := &Versions{}
	if !v.Begin(version, text) {
		t.Fatalf("P9: Begin(%d, %q) = false", version, text)
	}
	return v
}

func check(t *testing.T, v *Versions, first int, texts ...string) {
	t.Helper()
	last := first + len(texts) - 1
	if len(texts) == 0 {
		first, last = 0, 0
	}
	if v.First() != first || v.Last() != last || v.Count() != len(texts) {
		t.Errorf("P7: the versions are %d to %d, %d of them, want %d to %d", v.First(), v.Last(), v.Count(), first, last)
	}
	for i, text := range texts {
		if !v.Has(first+i) || v.Text(first+i) != text {
			t.Errorf("P7: version %d is not %q", first+i, text)
		}
	}
	for _, version := range []int{-1, 0, first - 1, last + 1} {
		if version != first && v.Has(version) {
			t.Errorf("P7: version %d is there", version)
		}
	}
}

func TestNone(t *testing.T) {
	v := &Versions{}
	check(t, v, 0)
	for _, version := range []int{-1, 0, 1, MaxVersion} {
		if v.DropAhead(version) {
			t.Errorf("P7: DropAhead(%d) of none = true", version)
		}
	}
	check(t, v, 0)
}

func TestBegin(t *testing.T) {
	for _, version := range []int{1, 2, 100, MaxVersion - 1, MaxVersion} {
		v := standing(t, version, "a")
		check(t, v, version, "a")
		for _, other := range []int{1, version, MaxVersion} {
			if v.Begin(other, "b") {
				t.Errorf("P9: Begin(%d) behind version %d = true", other, version)
			}
		}
		check(t, v, version, "a")
	}
}

func TestAddUpToTheGreatestNumber(t *testing.T) {
	v := standing(t, MaxVersion-1, "a")
	if !v.Add("b") {
		t.Error("P7: Add behind the last number but one = false")
	}
	if v.Add("c") {
		t.Error("P7: Add behind the last number = true")
	}
	check(t, v, MaxVersion-1, "a", "b")
	if !v.DropAhead(MaxVersion) || v.Add("c") {
		t.Error("P7: the greatest number is not the last one")
	}
	check(t, v, MaxVersion, "b")
}

func TestDropAhead(t *testing.T) {
	v := standing(t, 5, "a")
	v.Add("b")
	v.Add("c")
	for _, version := range []int{-1, 0, 4, 8} {
		if v.DropAhead(version) {
			t.Errorf("P7: DropAhead(%d) = true", version)
		}
	}
	check(t, v, 5, "a", "b", "c")
	for _, version := range []int{5, 6, 6} {
		if !v.DropAhead(version) {
			t.Errorf("P7: DropAhead(%d) = false", version)
		}
	}
	check(t, v, 6, "b", "c")
}

func TestNothingOfWhatIsGoneIsKept(t *testing.T) {
	v := &Versions{}
	for _, text := range []string{"a", "b", "c", "d"} {
		v.Add(text)
	}
	whole := v.texts
	v.DropAhead(3)
	// if the memory in which the first ones stand were still held, this would show
	whole[2] = "other"
	if !slices.Equal(v.texts, []string{"c", "d"}) {
		t.Errorf("P7: kept are %q", v.texts)
	}
}
