package ltl_test

import (
	"fmt"
	"math/rand"
	"reflect"
	"slices"
	"strings"
	"sync"
	"testing"
	"unsafe"

	"sextant/api"
	"sextant/ltl"
)

// span is the memory of a list.
type span struct{ from, to uintptr }

// spans are those of all lists of a tree.
func spans(tree any) []span {
	var out []span
	var walk func(v reflect.Value)
	walk = func(v reflect.Value) {
		switch v.Kind() {
		case reflect.Slice:
			if v.Cap() > 0 {
				out = append(out, span{v.Pointer(), v.Pointer() + uintptr(v.Cap())*v.Type().Elem().Size()})
			}
			for i := range v.Len() {
				walk(v.Index(i))
			}
		case reflect.Struct:
			for i := range v.NumField() {
				walk(v.Field(i))
			}
		}
	}
	walk(reflect.ValueOf(tree))
	return out
}

// apart tells whether no two lists share memory.
func apart(l []span) bool {
	slices.SortFunc(l, func(a, b span) int { return int(a.from) - int(b.from) })
	for i := 1; i < len(l); i++ {
		if l[i].from < l[i-1].to {
			return false
		}
	}
	return true
}

// busy has all kinds of parts, and kids that stand twice in its normal form, and in what that is rewritten as.
const busy = "[](p -> <> q) && ((p <-> X r) W (q U (p V true))) || !(r W (p <-> !false)) && ((p && q) U r) || (q U X q V r)"

// R3, R4: answers share nothing with what was handed in, with themselves, or with one another; nothing that is handed in is written
func TestMemory(t *testing.T) {
	f, kept := read(t, busy), read(t, busy)
	n, _ := ltl.Normal(f)
	again, _ := ltl.Normal(f)
	m, _ := ltl.Rewrite(f)
	other, _ := ltl.Rewrite(f)
	p, _ := ltl.Normal(n)
	if l := slices.Concat(spans(f), spans(kept), spans(n), spans(again), spans(m), spans(other), spans(p), spans(ltl.Names(f)), spans(ltl.Names(f))); len(l) < 100 || !apart(l) {
		t.Error("answers share memory")
	}
	if !reflect.DeepEqual(f, kept) || !reflect.DeepEqual(n, again) || !reflect.DeepEqual(m, other) || !reflect.DeepEqual(n, p) {
		t.Error("what was handed in was written, or equal calls have other answers")
	}
	text := strings.Repeat("long && ", 9) + "name"
	begin := uintptr(unsafe.Pointer(unsafe.StringData(text)))
	for _, s := range ltl.Names(read(t, text)) {
		if at := uintptr(unsafe.Pointer(unsafe.StringData(s))); at >= begin && at < begin+uintptr(len(text)) {
			t.Error("a name is a piece of the text that was read")
		}
	}
	// A formula whose kids stand in several places has a normal form, and one that it is rewritten as, of kids of their own.
	twice := doubled(5, api.LtlUntil, part(api.LtlAnd, name("p"), part(api.LtlNext, name("q"))))
	twice = part(api.LtlAnd, twice, part(api.LtlNext, twice))
	n, _ = ltl.Normal(twice)
	m, _ = ltl.Rewrite(read(t, "(p U q && r) && X (p U q || r) && <> (X (p U q) && r && s U p U q)"))
	if len(spans(n)) < 50 || len(spans(m)) < 10 || !apart(spans(n)) || !apart(spans(m)) || apart(spans(twice)) {
		t.Error("kids are shared")
	}
}

// R4: calls hang on nothing that was ahead of them, and may come from several hands
func TestManyHands(t *testing.T) {
	texts := []string{busy, "p q", "p U", strings.Repeat("!", 200) + "p", "[] [] p && true || X q", "#", "p <-> q <-> r <-> p <-> q"}
	tell := func() string {
		var b strings.Builder
		for _, s := range texts {
			f, wrong := ltl.Parse(s)
			n, code := ltl.Normal(f)
			m, _ := ltl.Rewrite(f)
			text, _ := ltl.Print(n)
			fmt.Fprint(&b, f, wrong, code, m, text, ltl.Check(f), ltl.Names(f), ltl.Size(n), ltl.Same(n, m), ltl.Plain(f), ltl.HasNext(f))
		}
		return b.String()
	}
	want := tell()
	var hands sync.WaitGroup
	told := make([]string, 8)
	for i := range told {
		hands.Go(func() {
			for range 30 {
				told[i] = tell()
			}
		})
	}
	hands.Wait()
	for _, s := range told {
		if s != want {
			t.Error(s)
		}
	}
}

// strange is a tree of any shape.
func strange(r *rand.Rand, deep int) api.Ltl {
	f := api.Ltl{Kind: r.Intn(17) - 1}
	if r.Intn(20) == 0 {
		f.Kind = int(r.Uint64())
	}
	kids, _, _ := kidsOf(f.Kind)
	if kids < 0 || r.Intn(8) == 0 {
		kids = r.Intn(4)
	}
	if f.Kind == api.LtlProp || r.Intn(12) == 0 {
		f.Name = []string{"p", "q", "p", "q", "p", "q", "", "X", "1", "a b"}[r.Intn(10)]
	}
	if deep == 0 {
		return f
	}
	for range kids {
		f.Kids = append(f.Kids, strange(r, deep-1-r.Intn(deep)))
	}
	return f
}

// mayBe is a second reading of Check.
func mayBe(f api.Ltl) api.Errno {
	for _, p := range all(f) {
		kids, _, _ := kidsOf(p.Kind)
		if kids != len(p.Kids) || p.Kind == api.LtlProp && p.Name != "p" && p.Name != "q" || p.Kind != api.LtlProp && p.Name != "" {
			return api.ErrLtl
		}
	}
	if depth(f) > 100 {
		return api.ErrDeep
	}
	return api.OK
}

// P0, P9.2, P9.3, P9.4, P9.5: trees of any shape
func TestStrangeTrees(t *testing.T) {
	told := map[api.Errno]int{}
	for seed := range 40000 {
		r := rand.New(rand.NewSource(int64(seed)))
		f, g := strange(r, r.Intn(6)), strange(r, r.Intn(3))
		want := mayBe(f)
		told[want]++
		_, printing := ltl.Print(f)
		_, norming := ltl.Normal(f)
		_, rewriting := ltl.Rewrite(f)
		if ltl.Check(f) != want || printing != want || norming != want || rewriting != want {
			t.Fatalf("%v: %v, %v, %v, %v", f, ltl.Check(f), printing, norming, rewriting)
		}
		if ltl.Size(f) != len(all(f)) || fmt.Sprint(ltl.Names(f)) != fmt.Sprint(namesOf(f)) || ltl.HasNext(f) != hasKind(f, api.LtlNext) || ltl.Plain(f) != (want == api.OK && isPlain(f)) {
			t.Fatalf("%v", f)
		}
		if ltl.Same(f, g) != (fmt.Sprintf("%#v", f) == fmt.Sprintf("%#v", g)) || !ltl.Same(f, f) {
			t.Fatalf("%v, %v", f, g)
		}
	}
	if told[api.OK] < 1000 || told[api.ErrLtl] < 1000 {
		t.Error(told)
	}
}

// P0, P9.2: formulas whose kids are the same in many places have more parts than could be gone over
func TestDoubledTrees(t *testing.T) {
	f, g := doubled(100, api.LtlAnd, name("p")), doubled(100, api.LtlAnd, name("p"))
	if ltl.Check(f) != api.OK || ltl.Size(f) != api.MaxParts+1 || !ltl.Same(f, g) || ltl.HasNext(f) || !ltl.Plain(f) || fmt.Sprint(ltl.Names(f)) != "[p]" {
		t.Error("100 deep")
	}
	if _, code := ltl.Print(f); code != api.ErrLong {
		t.Error(code)
	}
	if _, code := ltl.Normal(f); code != api.ErrLong {
		t.Error(code)
	}
	if _, code := ltl.Rewrite(part(api.LtlNot, f.Kids[0])); code != api.ErrLong {
		t.Error(code)
	}
	if f = part(api.LtlAnd, f, name("p")); ltl.Check(f) != api.ErrDeep {
		t.Error("101 deep")
	}
	wrong := doubled(100, api.LtlAnd, part(api.LtlOr, name("p"), leaf(api.LtlProp)))
	if ltl.Check(wrong) != api.ErrLtl || ltl.Same(wrong, g) || ltl.Plain(wrong) {
		t.Error("a wrong part below")
	}
	if x := doubled(90, api.LtlImplies, part(api.LtlNext, name("q"))); !ltl.HasNext(x) || ltl.Check(x) != api.OK || ltl.Plain(x) || fmt.Sprint(ltl.Names(x)) != "[q]" {
		t.Error("an X below")
	}
	deep := doubled(1<<16, api.LtlOr, name("p"))
	if ltl.Check(deep) != api.ErrDeep || !ltl.Plain(deep) || !ltl.Same(deep, deep) || ltl.Size(deep) != api.MaxParts+1 {
		t.Error("very deep")
	}
}

// P0: trees that have themselves among their parts
func TestEndlessTrees(t *testing.T) {
	one, other, wrong := make([]api.Ltl, 1), make([]api.Ltl, 1), make([]api.Ltl, 2)
	one[0] = part(api.LtlNext, one...)
	one[0].Kids = one
	other[0] = api.Ltl{Kind: api.LtlNext, Kids: []api.Ltl{{Kind: api.LtlNext, Kids: other}}}
	wrong[0], wrong[1] = api.Ltl{Kind: api.LtlAnd, Kids: wrong}, leaf(0)
	for _, c := range []struct {
		f    api.Ltl
		code api.Errno
	}{{one[0], api.ErrDeep}, {other[0], api.ErrDeep}, {wrong[0], api.ErrLtl}} {
		_, printing := ltl.Print(c.f)
		_, norming := ltl.Normal(c.f)
		_, rewriting := ltl.Rewrite(c.f)
		if ltl.Check(c.f) != c.code || printing != c.code || norming != c.code || rewriting != c.code || ltl.Size(c.f) != api.MaxParts+1 {
			t.Errorf("%v, %v, %v, %v; wanted %v", ltl.Check(c.f), printing, norming, rewriting, c.code)
		}
		ltl.Plain(c.f)
		if len(ltl.Names(c.f)) != 0 || ltl.HasNext(c.f) != (c.code == api.ErrDeep) {
			t.Error(c.code)
		}
	}
	if !ltl.Same(one[0], other[0]) || ltl.Same(one[0], wrong[0]) {
		t.Error("endless trees held against each other")
	}
}
