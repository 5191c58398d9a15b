package coffer_test

import (
	"fmt"
	"math/rand"
	"slices"
	"strings"
	"testing"

	"coffer/api"
	"coffer/coffer"
)

const (
	greatest = int(^uint(0) >> 1)
	least    = -greatest - 1
)

func text(s string) api.Op { return api.Op{Text: s} }

func part(from, length int) api.Op { return api.Op{From: from, Len: length} }

// short shows ops, or as much of them as one line may have.
func short(ops []api.Op) string { return fmt.Sprintf("%.100s", fmt.Sprint(ops)) }

// oddTexts: the empty one, all kinds of bytes, and lengths around each bound.
func oddTexts() []string {
	every := make([]byte, 256)
	for i := range every {
		every[i] = byte(i)
	}
	texts := []string{"", "a", "\x00", "\xff\xfe", "123456789", string(every)}
	for _, n := range []int{api.MinCopy, api.MaxText, api.MaxLog} {
		for _, length := range []int{n - 1, n, n + 1} {
			texts = append(texts, strings.Repeat("x", length))
		}
	}
	return append(texts, strings.Repeat("x", 1000000))
}

// oddNumbers: around 0, around each bound, and the ends of what an int can be.
func oddNumbers() []int {
	return []int{least, least + 1, -1, 0, 1, 2, api.MaxChains - 1, api.MaxChains, api.MinCopy, api.MaxText, api.MaxText + 1, 1<<31 - 1, 1 << 31, greatest - 1, greatest}
}

func oddLists() [][]api.Op {
	lists := [][]api.Op{nil, {}, slices.Repeat([]api.Op{part(0, 1)}, 100000)}
	for _, from := range oddNumbers() {
		for _, length := range oddNumbers() {
			for _, s := range []string{"", "x", strings.Repeat("x", api.MaxText+1)} {
				op := api.Op{From: from, Len: length, Text: s}
				lists = append(lists, []api.Op{op}, []api.Op{part(0, 1), op}, []api.Op{text("y"), op, op})
			}
		}
	}
	return lists
}

func TestP1NoCallPanicsOnTexts(t *testing.T) {
	for _, a := range oddTexts() {
		coffer.Sum(a)
		if v, e, n := coffer.Open(a); e != api.OK && (v != nil || n != 0) || e == api.OK && (v == nil || n > len(a)) {
			t.Errorf("P1: Open(%.20q), %d bytes = %t, %d, %d", a, len(a), v != nil, e, n)
		}
		ops, e, at := coffer.Decode(a)
		if e != api.OK && len(ops) != 0 || e == api.OK && at != 0 {
			t.Errorf("P1: Decode(%.20q) = %s, %d, %d", a, short(ops), e, at)
		}
		for _, b := range oddTexts() {
			if ops, e := coffer.Diff(a, b); e != api.OK && len(ops) != 0 {
				t.Errorf("P1: Diff(%.20q, %.20q) tells %d ops beside the error %d", a, b, len(ops), e)
			}
		}
	}
}

func TestP1NoCallPanicsOnLists(t *testing.T) {
	for _, ops := range oddLists() {
		code, e, at := coffer.Encode(ops)
		if e != api.OK && code != "" || e == api.OK && at != 0 {
			t.Errorf("P1: Encode(%s) = %.20x, %d, %d", short(ops), code, e, at)
		}
		for _, second := range [][]api.Op{nil, {part(0, 1)}, ops} {
			made, e, at := coffer.Compose(ops, second)
			if e != api.OK && len(made) != 0 || e == api.OK && at != 0 {
				t.Errorf("P1: Compose(%s, %s) = %s, %d, %d", short(ops), short(second), short(made), e, at)
			}
		}
		for _, base := range oddTexts() {
			made, e, at := coffer.Apply(base, ops)
			if e != api.OK && made != "" {
				t.Errorf("P1: Apply(%.20q, %s) tells a text beside the error %d", base, short(ops), e)
			}
			if e == api.OK && at != 0 {
				t.Errorf("P1: Apply(%.20q, %s) tells the place %d beside OK", base, short(ops), at)
			}
		}
	}
}

// checkMethods makes every call of a Vault, and looks at what stands beside the errors.
func checkMethods(t *testing.T, v *coffer.Vault, chain int) {
	t.Helper()
	if first, last, e := v.Versions(chain); e != api.OK && (first != 0 || last != 0) {
		t.Errorf("P1: Versions(%d) = %d, %d beside the error %d", chain, first, last, e)
	}
	for _, s := range oddTexts() {
		if version, e := v.Backup(chain, s); e != api.OK && version != 0 {
			t.Errorf("P1: Backup(%d, %.20q) = %d beside the error %d", chain, s, version, e)
		}
	}
	for _, version := range oddNumbers() {
		if s, e := v.Restore(chain, version); e != api.OK && s != "" {
			t.Errorf("P1: Restore(%d, %d) = %.20q beside the error %d", chain, version, s, e)
		}
		v.Prune(chain, version)
	}
	v.Squash()
	v.Log()
}

// oddVaults: new ones, full ones, and ones of logs that are whole, cut off, or none.
func oddVaults(t *testing.T) []*coffer.Vault {
	vaults := []*coffer.Vault{coffer.New(), filled(t, 0), filled(t, 100)}
	full := filled(t, 0).Log()
	for _, log := range []string{"", "x", ahead(), ahead()[:len(ahead())-1], ahead() + "x", full, full[1:], full[:len(full)/2]} {
		v, e, _ := coffer.Open(log)
		if e != api.OK {
			t.Fatalf("P9: Open of %d bytes = %d", len(log), e)
		}
		vaults = append(vaults, v)
	}
	return vaults
}

func TestP1NoMethodPanics(t *testing.T) {
	for _, v := range oddVaults(t) {
		for _, chain := range oddNumbers() {
			checkMethods(t, v, chain)
		}
	}
}

func TestP1OpenOfAnyBytes(t *testing.T) {
	r := rand.New(rand.NewSource(1))
	for range 3000 {
		bytes := make([]byte, r.Intn(200))
		r.Read(bytes)
		log := string(bytes)
		if r.Intn(2) == 0 {
			// with a sum that is good, so that what stands in the body is looked at
			log = plainRecord(string("FDBP"[r.Intn(4)]) + log)
		}
		v, e, n := coffer.Open(log)
		if v == nil || e != api.OK || n > len(log) || v.Log() != log[:n] {
			t.Fatalf("P1: Open(%x) = %t, %d, %d", log, v != nil, e, n)
		}
		v.Squash()
	}
}

func TestP1SquashOfManyVersionsEnds(t *testing.T) {
	// no stretch of it stands again, so that the map of them is as great as can be
	full := someText(rand.New(rand.NewSource(11)), api.MaxText, 100)
	log := plainFull(0, full)
	by := plainDifference(0, []api.Op{part(0, len(full))})
	for len(log)+len(by) <= api.MaxLog {
		log += by
	}
	v := checkOpen(t, log, len(log))
	checkSquash(t, v, log)
}

func TestP1TheErrorNamedFirst(t *testing.T) {
	long := strings.Repeat("x", api.MaxText+1)
	for _, ops := range [][]api.Op{nil, {{}}, {text("x"), {}}, {part(0, len(long))}} {
		if s, e, at := coffer.Apply(long, ops); s != "" || e != api.ErrLong || at != 0 {
			t.Errorf("P1: Apply of a long base and %v = %.20q, %d, %d", ops, s, e, at)
		}
	}
}
