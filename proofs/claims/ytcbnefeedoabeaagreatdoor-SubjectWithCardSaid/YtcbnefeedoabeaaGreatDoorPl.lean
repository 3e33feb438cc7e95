/- Rows read element by element; a row copied by 'append' to nil; the draw's names. slices.Clone and slices.Clip at texts and at attributes. Copies of a value and of an attribute. slices.Clip at contexts. -/
import Derived.Test.YtcbnefeedoabeaaGreatDoorPh
import Derived.Laws.AppendOwnNone
import Derived.Deep.Slices
import Derived.Lib.SliceRun
import Derived.Test.YtcbnefeedoabeaaGreatDoorPc
import Derived.Test.YtcbnefeedoabeaaGreatDoorPi
/- Rows read element by element; a row copied by 'append' to nil; the draw's names. -/
namespace Go.Proofs.YtcbnefeedoabeaaGreatDoor
open Go Go.RowKit

/-- Elements of kind E that lie in memory. -/
structure ElsAt {α : Type} (E : Elt α) (P : Nat → Prop) (p : Option Addr) (c : Nat) (fs : List α) (w : World) : Prop where
  nil : p = none → c = 0
  cap : fs.length ≤ c
  at_ : ∀ i (hi : i < fs.length), ∃ (b off : Nat), p = some ⟨b, off, none⟩ ∧ P b ∧ b < w.heap.size ∧ ∀ j, j < E.k → w.cell? ⟨b, off + i * E.k + j, none⟩ = (E.cells fs[i])[j]?
  ok : ∀ e ∈ fs, E.ok P e w
theorem ElsAt.same {α : Type} {E : Elt α} {P : Nat → Prop} {p : Option Addr} {c : Nat} {fs : List α} {w w' : World} (h : ElsAt E P p c fs w) (s : SameB P w w') : ElsAt E P p c fs w' :=
  ⟨h.nil, h.cap, fun i hi => by
    obtain ⟨b, off, e1, e2, e3, e4⟩ := h.at_ i hi
    exact ⟨b, off, e1, e2, Nat.lt_of_lt_of_le e3 s.1, fun j hj => (s.cell e2 e3).trans (e4 j hj)⟩, fun e he => E.same (h.ok e he) s⟩
theorem ElsAt.keep {α : Type} {E : Elt α} {P : Nat → Prop} {p : Option Addr} {c : Nat} {fs : List α} {w : World} (h : ElsAt E P p c fs w) : ElsAt E (fun b => P b ∧ b < w.heap.size) p c fs w :=
  ⟨h.nil, h.cap, fun i hi => by
    obtain ⟨b, off, e1, e2, e3, e4⟩ := h.at_ i hi
    exact ⟨b, off, e1, ⟨e2, e3⟩, e3, e4⟩, fun e he => E.mono (h.ok e he) fun b hb hp => ⟨hp, hb⟩⟩
theorem AttrsP.els {P : Nat → Prop} {p : Option Addr} {c : Nat} {l : List Attr} {w : World} (h : AttrsP P p c l w) : ∃ fs : List AEl, fs.map AEl.a = l ∧ ElsAt eltA P p c fs w := by
  have each : ∀ i, i < l.length → ∃ e : AEl, l[i]? = some e.a ∧ (∃ (b off : Nat), p = some ⟨b, off, none⟩ ∧ P b ∧ b < w.heap.size ∧ ∀ j, j < 5 → w.cell? ⟨b, off + i * 5 + j, none⟩ = (AEl.cells e)[j]?) ∧ ListP P e.p e.c e.a.val.list w := by
    intro i hi
    obtain ⟨b, off, e1, e2, e3, h0, h1, h2, h3, q, cc, h4, h5⟩ := h.at_ i hi
    refine ⟨⟨l[i], q, cc⟩, List.getElem?_eq_getElem hi, ⟨b, off, e1, e2, e3, fun j hj => ?_⟩, h5⟩
    match j, hj with
    | 0, _ => exact h0
    | 1, _ => exact h1
    | 2, _ => exact h2
    | 3, _ => exact h3
    | 4, _ => exact h4
    | j + 5, h => omega
  haveI : Inhabited AEl := ⟨⟨⟨ByteArray.empty, ⟨0, 0, ByteArray.empty, []⟩⟩, none, 0⟩⟩
  obtain ⟨f, hf⟩ := Deep.choose_lt each
  refine ⟨(List.range l.length).map f, ?_, h.nil, by simpa using h.cap, fun i hi => ?_, fun e he => ?_⟩
  · apply List.ext_getElem?
    intro i
    by_cases hi : i < l.length
    · have := (hf i hi).1
      simp [hi] at this ⊢
      exact this.symm
    · simp [hi]
  · have hi' : i < l.length := by simpa using hi
    obtain ⟨b, off, e1, e2, e3, e4⟩ := (hf i hi').2.1
    rw [show ((List.range l.length).map f)[i] = f i from by simp]
    exact ⟨b, off, e1, e2, e3, e4⟩
  · obtain ⟨i, hi, rfl⟩ := List.mem_map.1 he
    exact (hf i (List.mem_range.1 hi)).2.2
theorem CtxsP.els {P : Nat → Prop} {p : Option Addr} {c : Nat} {l : List Ctx} {w : World} (h : CtxsP P p c l w) : ∃ fs : List CEl, fs.map CEl.x = l ∧ ElsAt eltC P p c fs w := by
  have each : ∀ i, i < l.length → ∃ e : CEl, l[i]? = some e.x ∧ (∃ (b off : Nat), p = some ⟨b, off, none⟩ ∧ P b ∧ b < w.heap.size ∧ ∀ j, j < 3 → w.cell? ⟨b, off + i * 3 + j, none⟩ = (CEl.cells e)[j]?) ∧ AttrsP P e.p e.c e.x.attrs w := by
    intro i hi
    obtain ⟨b, off, e1, e2, e3, h0, h1, q, cc, h4, h5⟩ := h.at_ i hi
    refine ⟨⟨l[i], q, cc⟩, List.getElem?_eq_getElem hi, ⟨b, off, e1, e2, e3, fun j hj => ?_⟩, h5⟩
    match j, hj with
    | 0, _ => exact h0
    | 1, _ => exact h1
    | 2, _ => exact h4
    | j + 3, h => omega
  haveI : Inhabited CEl := ⟨⟨⟨ByteArray.empty, ByteArray.empty, []⟩, none, 0⟩⟩
  obtain ⟨f, hf⟩ := Deep.choose_lt each
  refine ⟨(List.range l.length).map f, ?_, h.nil, by simpa using h.cap, fun i hi => ?_, fun e he => ?_⟩
  · apply List.ext_getElem?
    intro i
    by_cases hi : i < l.length
    · have := (hf i hi).1
      simp [hi] at this ⊢
      exact this.symm
    · simp [hi]
  · have hi' : i < l.length := by simpa using hi
    obtain ⟨b, off, e1, e2, e3, e4⟩ := (hf i hi').2.1
    rw [show ((List.range l.length).map f)[i] = f i from by simp]
    exact ⟨b, off, e1, e2, e3, e4⟩
  · obtain ⟨i, hi, rfl⟩ := List.mem_map.1 he
    exact (hf i (List.mem_range.1 hi)).2.2
theorem ElsAt.news {α : Type} {E : Elt α} {P : Nat → Prop} {b off c : Nat} {fs : List α} {w : World} (h : ElsAt E P (some ⟨b, off, none⟩) c fs w) : ∀ j u, (E.row fs)[j]? = some u → w.cell? ((⟨b, off, none⟩ : Addr).add j) = some u := by
  intro j u hu
  have hlt := (List.getElem?_eq_some_iff.1 hu).1
  rw [E.row_length] at hlt
  have hk := E.pos
  have hi : j / E.k < fs.length := Nat.div_lt_of_lt_mul (by rw [Nat.mul_comm]; exact hlt)
  have hm := Nat.mod_lt j hk
  have hdm : j / E.k * E.k + j % E.k = j := by rw [Nat.mul_comm]; exact Nat.div_add_mod j E.k
  obtain ⟨b', off', e1, _, _, e4⟩ := h.at_ (j / E.k) hi
  cases e1
  have h1 := E.row_at fs (j / E.k) hi (j % E.k) hm
  rw [hdm, hu] at h1
  rw [WideShapes.add_plain, h1, ← e4 _ hm, Nat.add_assoc, hdm]
/-- 'append' of a whole slice to nil: a row of the call's own. -/
theorem wpList_copy {α : Type} (E : Elt α) {P : Nat → Prop} {ops : Array Oper} {rest : List Oper} {o : Oper} {a : Act} {w : World} {Q : Exit → Act → World → Prop} (hgd : o.guard = none) (s x : Operand)
    (ho : o.op = .call { callee := .builtin .append, args := #[s, x], argTypes := #[E.S, E.S] }) (hs : a.eval s = .slice none 0 0)
    {p : Option Addr} {c : Nat} {fs : List α} (hx : a.eval x = .slice p fs.length c) (hf : ElsAt E P p c fs w) (hl : fs.length ≤ 1000)
    (h : ∀ v' w', GRow E P fs w.heap.size v' w' → Below w.heap.size w w' → wpList Tryz.prog ops Q rest (a.put o.dst v') w') : wpList Tryz.prog ops Q (o :: rest) a w := by
  obtain ⟨i0, hi, hz0, hz1, hz2⟩ := info_parts E.info
  have hnil := World.ownsRow_nil w w.heap.size E.T E.k
  cases p with
  | none =>
    have hc0 : c = 0 := hf.nil rfl
    have h0 : fs = [] := by
      cases fs with
      | nil => rfl
      | cons e t => obtain ⟨b, off, he, _⟩ := hf.at_ 0 (by simp); cases he
    subst hc0
    subst h0
    refine wpList_append_own_none hgd s x E.S ho w.heap.size E.T i0 E.k E.under hi (.slice none 0 0) 0 [] hs hnil hx ?_
    exact h _ w (GRow.nil E P _ _) (Below.refl _ _)
  | some ad =>
    have hfit := E.fit
    have hnews : ∀ j u, (E.row fs)[j]? = some u → w.cell? (ad.add j) = some u := by
      intro j u hu
      have hne : 0 < fs.length := by
        cases fs with
        | nil => simp [Elt.row] at hu
        | cons e t => simp
      obtain ⟨b, off, e1, _⟩ := hf.at_ 0 hne
      cases e1
      exact hf.news j u hu
    refine wpList_append_own _ hgd s x E.S ho w.heap.size E.T i0 E.zero E.k E.size E.under hi hz0 hz1 hz2 E.zlen E.pos (.slice none 0 0) 0 [] hs hnil ad fs.length c (E.row fs) hx (E.row_length fs) hnews (E.row_one fs) (by unfold maxLen; omega) (by
      have : (0 + fs.length) * E.size ≤ 1000 * 1000 := Nat.mul_le_mul (by omega) hfit
      omega) (Nat.le_refl _) ?_
    intro v' w' hown hg _
    rw [Nat.zero_add, List.nil_append] at hown
    refine h v' w' ⟨hown, fun e he => ?_⟩ ((Below.refl _ w).grown hg (Nat.le_refl _) (fun k hk => by cases hk))
    have h1 : E.ok (fun b => P b ∧ b < w.heap.size) e w := E.mono (hf.ok e he) fun b hb hp => ⟨hp, hb⟩
    have h2 := E.same h1 (SameB.of_below ((Below.refl w.heap.size w).grown hg (Nat.le_refl _) (fun k hk => by cases hk)))
    refine E.mono h2 fun b _ hb => ⟨hb.1, fun e => ?_⟩
    have := (World.ownsRow.lt hown b e).1
    have := hb.2
    omega
def drawNames : List ByteArray := [⟨#[]⟩, ⟨#[66, 97, 100]⟩, ⟨#[57, 97]⟩, ⟨#[111, 110]⟩, ⟨#[107, 101, 121]⟩, ⟨#[122, 122]⟩, ⟨#[97]⟩, ⟨#[97, 108, 112, 104, 97]⟩, ⟨#[102, 97]⟩, ⟨#[102, 98]⟩, ⟨#[108, 97]⟩, ⟨#[120, 97]⟩, ⟨#[97, 98, 99, 100, 101, 102, 103, 104, 105, 106, 107, 108, 109, 110, 111, 112, 113, 114, 115, 116, 117, 118, 119, 120, 121, 122, 48, 49, 50, 51, 52, 53, 54]⟩, ⟨#[117, 115, 101, 114]⟩, ⟨#[97, 46, 98]⟩]
set_option maxHeartbeats 4000000 in
theorem name_any (l : List UInt8) (a0 : Option Addr) (cap C at_ : Nat) (w : World) (hl : l.length ≤ 1000000) (h : Codes l a0 cap C at_ w) :
    Calls Tryz.prog 31 #[.pointer (some ⟨C, 0, none⟩)] w (fun e w' => (∃ s ∈ drawNames, e = .returned (.string s)) ∧ Kept C w w' ∧ ∃ at2, Codes l a0 cap C at2 w') := by
  have hb9 := (Below.refl w.heap.size w).alloc (Nat.le_refl _) (.cells (drawNames.map Value.string).toArray 9)
  have hrow : ∀ i (hi : i < drawNames.length), (w.alloc (.cells (drawNames.map Value.string).toArray 9)).cell? ⟨w.heap.size, i, none⟩ = some (.string drawNames[i]) := by
    intro i hi
    rw [Lib.cell_of_heap (heap_alloc_new w _)]
    simp [hi]
  have hc0 := h.below hb9
  have hk0 := Kept.of_below (C := C) hb9
  have hgC : w.heap.size ≠ C := by have h1 := h.lt; omega
  have hg9 : w.heap.size < (w.alloc (.cells (drawNames.map Value.string).toArray 9)).heap.size := by simp
  have he : (drawNames.map Value.string).toArray = #[.string ⟨#[]⟩, .string ⟨#[66, 97, 100]⟩, .string ⟨#[57, 97]⟩, .string ⟨#[111, 110]⟩, .string ⟨#[107, 101, 121]⟩, .string ⟨#[122, 122]⟩, .string ⟨#[97]⟩, .string ⟨#[97, 108, 112, 104, 97]⟩, .string ⟨#[102, 97]⟩, .string ⟨#[102, 98]⟩, .string ⟨#[108, 97]⟩, .string ⟨#[120, 97]⟩, .string ⟨#[97, 98, 99, 100, 101, 102, 103, 104, 105, 106, 107, 108, 109, 110, 111, 112, 113, 114, 115, 116, 117, 118, 119, 120, 121, 122, 48, 49, 50, 51, 52, 53, 54]⟩, .string ⟨#[117, 115, 101, 114]⟩, .string ⟨#[97, 46, 98]⟩] := rfl
  rw [he] at hb9 hrow hc0 hk0 hg9
  clear he
  go_enter Tryz.func31, Tryz.ntmps31
  go_upto_region 2 with (fail)
  generalize w.alloc (.cells #[.string ⟨#[]⟩, .string ⟨#[66, 97, 100]⟩, .string ⟨#[57, 97]⟩, .string ⟨#[111, 110]⟩, .string ⟨#[107, 101, 121]⟩, .string ⟨#[122, 122]⟩, .string ⟨#[97]⟩, .string ⟨#[97, 108, 112, 104, 97]⟩, .string ⟨#[102, 97]⟩, .string ⟨#[102, 98]⟩, .string ⟨#[108, 97]⟩, .string ⟨#[120, 97]⟩, .string ⟨#[97, 98, 99, 100, 101, 102, 103, 104, 105, 106, 107, 108, 109, 110, 111, 112, 113, 114, 115, 116, 117, 118, 119, 120, 121, 122, 48, 49, 50, 51, 52, 53, 54]⟩, .string ⟨#[117, 115, 101, 114]⟩, .string ⟨#[97, 46, 98]⟩] 9) = w5 at hc0 hk0 hrow hg9 hb9 ⊢
  generalize w.heap.size = g at hrow hg9 hgC ⊢
  have hn := Lib.hid (next_any l a0 cap C at_ 15 w5 hl (by omega) (by omega) hc0)
  have hr := nextN_lt l at_ 15 (by omega)
  generalize nextN l at_ 15 = r at hn hr
  have hr2 : r < drawNames.length := hr
  have hr' : (r : Int) < 15 := by omega
  obtain ⟨z, hs⟩ : ∃ z, drawNames[r] = z := ⟨_, rfl⟩
  have hmem : z ∈ drawNames := by rw [← hs]; exact List.getElem_mem hr2
  have ht := hrow r hr2
  rw [hs] at ht
  replace hs := Lib.hid hs
  replace hr2 := Lib.hid hr2
  replace hmem := Lib.hid hmem
  clear hrow hb9
  go_wp2_with (go_at_call 15; refine hn.out.mono ?_; rintro e w1 ⟨rfl, hk1, at2, hc1⟩; have ht2 : w1.cell? ⟨g, r, none⟩ = some (.string z) := (by rw [hk1.cell (p := ⟨g, r, none⟩) hg9 hgC]; exact ht))
  go_ret
  exact ⟨⟨z, hmem.out, rfl⟩, hk0.trans hk1, at2, hc1⟩
theorem names_small : ∀ s ∈ drawNames, s.size ≤ 100 := by
  have : drawNames.all (fun s => decide (s.size ≤ 100)) = true := by decide +kernel
  intro s hs
  simpa using List.all_eq_true.1 this s hs
end Go.Proofs.YtcbnefeedoabeaaGreatDoor
/- slices.Clone and slices.Clip at texts and at attributes. -/
namespace Go.Proofs.YtcbnefeedoabeaaGreatDoor
open Go Go.RowKit

theorem infoStr : (Tryz.prog.info? 9).map (fun i => (i.zero, i.size, i.bytes)) = some (some (.string ⟨#[]⟩), 1, 16) := by kernel_rfl
def eltS : Elt ByteArray where
  T := 9
  S := 39
  k := 1
  size := 16
  zero := .string ⟨#[]⟩
  cells s := [.string s]
  ok _ _ _ := True
  len _ := rfl
  one e u hu := by
    simp at hu
    subst hu
    rfl
  pos := by decide
  fit := by decide
  under := Tryz.underlying39
  info := infoStr
  zlen := rfl
  same h _ := h
  mono h _ := h
theorem ListP.els {P : Nat → Prop} {p : Option Addr} {c : Nat} {l : List ByteArray} {w : World} (h : ListP P p c l w) : ElsAt eltS P p c l w :=
  ⟨h.nil, h.cap, fun i hi => by
    obtain ⟨b, off, e1, e2, e3, e4⟩ := h.texts i hi
    refine ⟨b, off, e1, e2, e3, fun j hj => ?_⟩
    have : j = 0 := by have : j < 1 := hj; omega
    subst this
    show w.cell? ⟨b, off + i * 1 + 0, none⟩ = some (.string l[i])
    rw [Nat.mul_one, Nat.add_zero]
    exact e4, fun e he => trivial⟩
set_option maxRecDepth 100000 in
/-- 'append' of a whole slice to an empty one of the call's own. -/
theorem wpList_clone {α : Type} (E : Elt α) {P : Nat → Prop} {ops : Array Oper} {rest : List Oper} {o : Oper} {a : Act} {w : World} {Q : Exit → Act → World → Prop} (hgd : o.guard = none) (s x : Operand)
    (ho : o.op = .call { callee := .builtin .append, args := #[s, x], argTypes := #[E.S, E.S] }) {B g0 : Nat} (hs : a.eval s = .slice (some ⟨g0, 0, none⟩) 0 0) (hown : w.ownsRow B E.T E.k (.slice (some ⟨g0, 0, none⟩) 0 0) 0 [])
    {ad : Addr} {c : Nat} {fs : List α} (hx : a.eval x = .slice (some ad) fs.length c) (hf : ElsAt E P (some ad) c fs w) (hl : fs.length * E.size ≤ 140737488355328) (hlm : fs.length ≤ maxLen) (hPB : ∀ b, P b → b < B) (hB : B ≤ w.heap.size)
    (h : ∀ v' w', GRow E P fs B v' w' → Below B w w' → wpList Tryz.prog ops Q rest (a.put o.dst v') w') : wpList Tryz.prog ops Q (o :: rest) a w := by
  obtain ⟨i0, hi, hz0, hz1, hz2⟩ := info_parts E.info
  have hnews : ∀ j u, (E.row fs)[j]? = some u → w.cell? (ad.add j) = some u := by
    intro j u hu
    have hne : 0 < fs.length := by
      cases fs with
      | nil => simp [Elt.row] at hu
      | cons e t => simp
    obtain ⟨b, off, e1, _⟩ := hf.at_ 0 hne
    cases e1
    exact hf.news j u hu
  refine wpList_append_own _ hgd s x E.S ho B E.T i0 E.zero E.k E.size E.under hi hz0 hz1 hz2 E.zlen E.pos (.slice (some ⟨g0, 0, none⟩) 0 0) 0 [] hs hown ad fs.length c (E.row fs) hx (E.row_length fs) hnews (E.row_one fs) (by rw [Nat.zero_add]; exact hlm) (by rw [Nat.zero_add]; exact hl) hB ?_
  intro v' w' hown' hg _
  rw [Nat.zero_add, List.nil_append] at hown'
  have hBg : B ≤ g0 := by
    rcases hown.2 with ⟨h0, _⟩ | ⟨g', _, _, hv, hb, _⟩
    · cases h0
    · have : g0 = g' := by injection hv with h1; injection h1 with h2; injection h2
      omega
  have hbl := (Below.refl B w).grown hg hB (fun k hk => by have : g0 = k := by injection hk
                                                           omega)
  refine h v' w' ⟨hown', fun e he => ?_⟩ hbl
  have h2 := E.same (hf.ok e he) (⟨hbl.size, fun b hb _ => hbl.block b (hPB b hb)⟩ : SameB P w w')
  refine E.mono h2 fun b _ hb => ⟨hb, fun e => ?_⟩
  have := (World.ownsRow.lt hown' b e).1
  have := hPB b hb
  omega
theorem empty_own {α : Type} (E : Elt α) (w : World) : (w.alloc (.cells #[] E.T)).ownsRow w.heap.size E.T E.k (.slice (some ⟨w.heap.size, 0, none⟩) 0 0) 0 [] :=
  ⟨by simp, .inr ⟨w.heap.size, 0, #[], rfl, Nat.le_refl _, heap_alloc_new w _, Nat.le_refl _, by unfold maxLen; omega, by simp, by simp⟩⟩
set_option linter.unusedSimpArgs false in
set_option linter.unusedVariables false in
set_option maxHeartbeats 4000000 in
set_option maxRecDepth 100000 in
theorem cloneS_any {P : Nat → Prop} (p : Option Addr) (c : Nat) (l : List ByteArray) (w : World) (hL : ListP P p c l w) (hl : l.length ≤ 8796093022207) :
    Calls Tryz.prog 89 #[.slice p (l.length : Nat) c] w fun e w' => (∃ v, e = .returned v ∧ GRow eltS (fun b => P b ∧ b < w.heap.size) l w.heap.size v w') ∧ Below w.heap.size w w' := by
  have heq : ∀ (a : Option Addr) (n c : Nat) (w : World), (binOp .eql 39 (.slice a n c) (.slice none 0 0)).run Tryz.prog w = .ok (.bool a.isNone) w := fun a n c w => Lib.run_eql_slice_nil w _ _ a n c 0 0 Tryz.underlying39
  have hL' : ListP (fun b => P b ∧ b < w.heap.size) p c l w := hL.mono fun b hb h => ⟨h, hb⟩
  cases p with
  | none =>
    have hc0 := hL.nil rfl
    have h0 : l = [] := by
      cases l with
      | nil => rfl
      | cons e t => obtain ⟨b, off, he, _⟩ := hL.texts 0 (by simp); cases he
    subst h0
    subst hc0
    clear hl hL hL'
    go_enter Tryz.func89, Tryz.ntmps89
    go_wp2
    go_ret
    exact ⟨⟨_, rfl, GRow.nil _ _ _ _⟩, Below.refl _ _⟩
  | some ad =>
    have hbA := (Below.refl w.heap.size w).alloc (Nat.le_refl _) (.cells #[] 9)
    have hels := (hL'.same (SameB.of_below hbA)).els
    have hlm : l.length ≤ maxLen := by unfold maxLen; omega
    have hlb : l.length * eltS.size ≤ 140737488355328 := by show l.length * 16 ≤ _; omega
    have hown := empty_own eltS w
    go_enter Tryz.func89, Tryz.ntmps89
    clear hL hL'
    replace hlb := Lib.hid hlb
    replace hlm := Lib.hid hlm
    clear hl
    go_wp2_with (refine wpList_clone eltS rfl (.tmp 5) (.tmp 6) rfl (g0 := w.heap.size) rfl hown rfl hels hlb.out hlm.out (fun b hb => hb.2) (by simp) ?_; intro v1 w1 hrow1 hb1)
    go_ret
    exact ⟨⟨_, rfl, hrow1⟩, hbA.trans hb1⟩
set_option linter.unusedSimpArgs false in
set_option linter.unusedVariables false in
set_option maxHeartbeats 4000000 in
set_option maxRecDepth 100000 in
theorem cloneA_any {P : Nat → Prop} (p : Option Addr) (c : Nat) (l : List AEl) (w : World) (hL : ElsAt eltA P p c l w) (hl : l.length ≤ 1000) :
    Calls Tryz.prog 147 #[.slice p (l.length : Nat) c] w fun e w' => (∃ v, e = .returned v ∧ GRow eltA (fun b => P b ∧ b < w.heap.size) l w.heap.size v w') ∧ Below w.heap.size w w' := by
  have heq : ∀ (a : Option Addr) (n c : Nat) (w : World), (binOp .eql 61 (.slice a n c) (.slice none 0 0)).run Tryz.prog w = .ok (.bool a.isNone) w := fun a n c w => Lib.run_eql_slice_nil w _ _ a n c 0 0 Tryz.underlying61
  have hL' : ElsAt eltA (fun b => P b ∧ b < w.heap.size) p c l w := hL.keep
  cases p with
  | none =>
    have hc0 := hL.nil rfl
    have h0 : l = [] := by
      cases l with
      | nil => rfl
      | cons e t => obtain ⟨b, off, he, _⟩ := hL.at_ 0 (by simp); cases he
    subst h0
    subst hc0
    clear hl hL hL'
    go_enter Tryz.func147, Tryz.ntmps147
    go_wp2
    go_ret
    exact ⟨⟨_, rfl, GRow.nil _ _ _ _⟩, Below.refl _ _⟩
  | some ad =>
    have hbA := (Below.refl w.heap.size w).alloc (Nat.le_refl _) (.cells #[] 72)
    have hels := hL'.same (SameB.of_below hbA)
    have hlm : l.length ≤ maxLen := by unfold maxLen; omega
    have hlb : l.length * eltA.size ≤ 140737488355328 := by show l.length * 72 ≤ _; omega
    have hown := empty_own eltA w
    go_enter Tryz.func147, Tryz.ntmps147
    clear hL hL'
    replace hlb := Lib.hid hlb
    replace hlm := Lib.hid hlm
    clear hl
    go_wp2_with (refine wpList_clone eltA rfl (.tmp 5) (.tmp 6) rfl (g0 := w.heap.size) rfl hown rfl hels hlb.out hlm.out (fun b hb => hb.2) (by simp) ?_; intro v1 w1 hrow1 hb1)
    go_ret
    exact ⟨⟨_, rfl, hrow1⟩, hbA.trans hb1⟩
theorem clipS_any (q : Option Addr) (n cap : Nat) (w : World) (hq : q = none → n = 0 ∧ cap = 0) (hn : n ≤ cap) (hc : cap ≤ 9223372036854775807) :
    Calls Tryz.prog 88 #[.slice q (n : Nat) cap] w fun e w' => e = .returned (.slice q n n) ∧ Below w.heap.size w w' := by
  have h0 : (0 : Int) ≤ (n : Int) := by omega
  have h1 : (n : Int) ≤ (cap : Int) := by omega
  cases q with
  | none =>
    obtain ⟨rfl, rfl⟩ := hq rfl
    go_enter Tryz.func88, Tryz.ntmps88
    go_wp2
    go_ret
    exact ⟨rfl, Below.refl _ _⟩
  | some ad =>
    go_enter Tryz.func88, Tryz.ntmps88
    go_wp2
    go_ret
    exact ⟨rfl, Below.refl _ _⟩
theorem clipA_any (q : Option Addr) (n cap : Nat) (w : World) (hq : q = none → n = 0 ∧ cap = 0) (hn : n ≤ cap) (hc : cap ≤ 9223372036854775807) :
    Calls Tryz.prog 142 #[.slice q (n : Nat) cap] w fun e w' => e = .returned (.slice q n n) ∧ Below w.heap.size w w' := by
  have h0 : (0 : Int) ≤ (n : Int) := by omega
  have h1 : (n : Int) ≤ (cap : Int) := by omega
  cases q with
  | none =>
    obtain ⟨rfl, rfl⟩ := hq rfl
    go_enter Tryz.func142, Tryz.ntmps142
    go_wp2
    go_ret
    exact ⟨rfl, Below.refl _ _⟩
  | some ad =>
    go_enter Tryz.func142, Tryz.ntmps142
    go_wp2
    go_ret
    exact ⟨rfl, Below.refl _ _⟩
end Go.Proofs.YtcbnefeedoabeaaGreatDoor
/- Copies of a value and of an attribute. -/
namespace Go.Proofs.YtcbnefeedoabeaaGreatDoor
open Go Go.RowKit

theorem GRow.forget {P : Nat → Prop} {es : List ByteArray} {B : Nat} {v : Value} {w : World} (h : GRow eltS P es B v w) : GRow eltS (fun _ => False) es B v w := ⟨h.own, fun _ _ => trivial⟩
theorem GRow.list {P : Nat → Prop} {l : List ByteArray} {B n cap : Nat} {q : Option Addr} {w : World} (h : GRow eltS P l B (.slice q n cap) w) : ListP (fun b => B ≤ b) q l.length l w := by
  obtain ⟨a, c, hv, h1, h2, _, h5⟩ := h.form
  injection hv with e1 e2 e3
  subst e1
  refine ⟨fun hq => ?_, Nat.le_refl _, fun i hi => ?_⟩
  · have := h1 hq; omega
  · obtain ⟨g, e1, e2, e3, _, hc⟩ := h5 i hi
    refine ⟨g, 0, e1, e2, e3, ?_⟩
    have := hc 0 (by decide)
    rw [Nat.zero_add]
    show w.cell? ⟨g, i, none⟩ = some (.string l[i])
    have h6 : w.cell? ⟨g, i * 1 + 0, none⟩ = some (.string l[i]) := this
    rwa [Nat.mul_one, Nat.add_zero] at h6
theorem GRow.nilcap {α : Type} {E : Elt α} {P : Nat → Prop} {es : List α} {B n cap : Nat} {q : Option Addr} {w : World} (h : GRow E P es B (.slice q n cap) w) : n = es.length ∧ (q = none → n = 0 ∧ cap = 0) ∧ n ≤ cap ∧ cap ≤ 9223372036854775807 := by
  obtain ⟨a, c, hv, h1, h2, h3, _⟩ := h.form
  injection hv with e1 e2 e3
  have e2' : n = es.length := by omega
  subst e1
  subst e3
  refine ⟨e2', fun hq => ?_, by omega, h3⟩
  have := h1 hq
  omega
set_option linter.unusedSimpArgs false in
set_option linter.unusedVariables false in
set_option maxHeartbeats 4000000 in
set_option maxRecDepth 100000 in
theorem copyValue_any {P : Nat → Prop} (x : Val) (p : Option Addr) (c : Nat) (w : World) (hL : ListP P p c x.list w) (hl : x.list.length ≤ 8796093022207) :
    Calls Tryz.prog 49 #[x.agg p c] w fun e w' => (∃ (q : Option Addr) (m : Nat), e = .returned (x.agg q m) ∧ ListP (fun b => w.heap.size ≤ b) q m x.list w') ∧ Below w.heap.size w w' := by
  obtain ⟨k, n, t, l⟩ := x
  unfold Val.agg
  simp only at hL hl ⊢
  have hbA := (Below.refl w.heap.size w).alloc (Nat.le_refl _) (.cells #[.int .i64 k, .int .i64 n, .string t, .slice p (l.length : Nat) c] 41)
  have hbB := hbA.alloc hbA.size (.cells #[.int .i64 0, .int .i64 0, .string ⟨#[]⟩, .slice none 0 0] 41)
  have hzA : ((w.alloc (.cells #[.int .i64 k, .int .i64 n, .string t, .slice p (l.length : Nat) c] 41)).alloc (.cells #[.int .i64 0, .int .i64 0, .string ⟨#[]⟩, .slice none 0 0] 41)).heap[w.heap.size]? = some (.cells #[.int .i64 k, .int .i64 n, .string t, .slice p (l.length : Nat) c] 41 (0, 0)) := (Lib.alloc_old _ _ _ (by simp)).trans (heap_alloc_new w _)
  have hzB : ((w.alloc (.cells #[.int .i64 k, .int .i64 n, .string t, .slice p (l.length : Nat) c] 41)).alloc (.cells #[.int .i64 0, .int .i64 0, .string ⟨#[]⟩, .slice none 0 0] 41)).heap[w.heap.size + 1]? = some (.cells #[.int .i64 0, .int .i64 0, .string ⟨#[]⟩, .slice none 0 0] 41 (0, 0)) := by
    have := heap_alloc_new (w.alloc (.cells #[.int .i64 k, .int .i64 n, .string t, .slice p (l.length : Nat) c] 41)) (.cells #[.int .i64 0, .int .i64 0, .string ⟨#[]⟩, .slice none 0 0] 41)
    simpa using this
  have hs0 : ((w.alloc (.cells #[.int .i64 k, .int .i64 n, .string t, .slice p (l.length : Nat) c] 41)).alloc (.cells #[.int .i64 0, .int .i64 0, .string ⟨#[]⟩, .slice none 0 0] 41)).heap.size = w.heap.size + 2 := by simp
  go_enter Tryz.func49, Tryz.ntmps49
  go_upto_region 1 with (fail)
  generalize (w.alloc (.cells #[.int .i64 k, .int .i64 n, .string t, .slice p (l.length : Nat) c] 41)).alloc (.cells #[.int .i64 0, .int .i64 0, .string ⟨#[]⟩, .slice none 0 0] 41) = w0 at hbB hzA hzB hs0 ⊢
  have hcl := Lib.hid (cloneS_any p c l w0 (hL.same (SameB.of_below hbB)) hl)
  have c0 : w0.cell? ⟨w.heap.size, 3, none⟩ = some (.slice p l.length c) := by rw [Lib.cell_of_heap hzA]; rfl
  clear hbA hL hl
  go_upto_region 2 with (first
    | (go_at_call 89; refine hcl.out.mono ?_; rintro e w1 ⟨⟨v1, rfl, hrow1⟩, hb1⟩; obtain ⟨q, cap, rfl, -, -, -, -⟩ := hrow1.form; have hnc := hrow1.nilcap; have hcp := Lib.hid (clipS_any q l.length cap w1 hnc.2.1 hnc.2.2.1 hnc.2.2.2))
    | (go_at_call 88; refine hcp.out.mono ?_; rintro e w2 ⟨rfl, hb2⟩; have hb02 := hb1.trans (hb2.mono hb1.size); have zA2 := (hb02.block w.heap.size (by omega)).trans hzA; have zB2 := (hb02.block (w.heap.size + 1) (by omega)).trans hzB; have a0 : w2.cell? ⟨w.heap.size, 0, none⟩ = some (.int .i64 k) := (by rw [Lib.cell_of_heap zA2]; rfl); have a1 : w2.cell? ⟨w.heap.size, 1, none⟩ = some (.int .i64 n) := (by rw [Lib.cell_of_heap zA2]; rfl); have a2 : w2.cell? ⟨w.heap.size, 2, none⟩ = some (.string t) := (by rw [Lib.cell_of_heap zA2]; rfl); have a3 : w2.cell? ⟨w.heap.size, 3, none⟩ = some (.slice p l.length c) := (by rw [Lib.cell_of_heap zA2]; rfl); have af : ∀ i, w2.frozen? ⟨w.heap.size, i, none⟩ = false := Lib.frozen_of_heap zA2))
  have hn1 := hnc.2.1
  have zA3 : (w2.setCell ⟨w.heap.size, 3, none⟩ (.slice q l.length l.length)).heap[w.heap.size]? = some (.cells #[.int .i64 k, .int .i64 n, .string t, .slice q l.length l.length] 41 (0, 0)) := box_put zA2 _
  have zB3 : (w2.setCell ⟨w.heap.size, 3, none⟩ (.slice q l.length l.length)).heap[w.heap.size + 1]? = some (.cells #[.int .i64 0, .int .i64 0, .string ⟨#[]⟩, .slice none 0 0] 41 (0, 0)) := by
    rw [Below.heap_setCell _ _ _ _ (by show w.heap.size + 1 ≠ w.heap.size; omega)]
    exact zB2
  have hb3 := (hbB.trans (hb02.mono (by omega))).setCell (p := ⟨w.heap.size, 3, none⟩) (Nat.le_refl _) (.slice q l.length l.length)
  have hrow3 := ((hrow1.forget.below hb2).set (X := w.heap.size) (by omega) (fun b hb => hb.elim) 3 (.slice q l.length l.length))
  generalize w2.setCell ⟨w.heap.size, 3, none⟩ (.slice q l.length l.length) = w3 at zA3 zB3 hb3 hrow3 ⊢
  clear a0 a1 a2 a3 af zA2 zB2 hzA hzB hb2 hb1 hrow1 hcp hcl hb02 c0 hnc hbB
  have a0 : w3.cell? ⟨w.heap.size, 0, none⟩ = some (.int .i64 k) := by rw [Lib.cell_of_heap zA3]; rfl
  have a1 : w3.cell? ⟨w.heap.size, 1, none⟩ = some (.int .i64 n) := by rw [Lib.cell_of_heap zA3]; rfl
  have a2 : w3.cell? ⟨w.heap.size, 2, none⟩ = some (.string t) := by rw [Lib.cell_of_heap zA3]; rfl
  have a3 : w3.cell? ⟨w.heap.size, 3, none⟩ = some (.slice q l.length l.length) := by rw [Lib.cell_of_heap zA3]; rfl
  have r0 : w3.cell? ⟨w.heap.size + 1, 0, none⟩ = some (.int .i64 0) := by rw [Lib.cell_of_heap zB3]; rfl
  have r1 : w3.cell? ⟨w.heap.size + 1, 1, none⟩ = some (.int .i64 0) := by rw [Lib.cell_of_heap zB3]; rfl
  have r2 : w3.cell? ⟨w.heap.size + 1, 2, none⟩ = some (.string ⟨#[]⟩) := by rw [Lib.cell_of_heap zB3]; rfl
  have r3 : w3.cell? ⟨w.heap.size + 1, 3, none⟩ = some (.slice none 0 0) := by rw [Lib.cell_of_heap zB3]; rfl
  have rf : ∀ i, w3.frozen? ⟨w.heap.size + 1, i, none⟩ = false := Lib.frozen_of_heap zB3
  have zB4 : ((((w3.setCell ⟨w.heap.size + 1, 0, none⟩ (.int .i64 k)).setCell ⟨w.heap.size + 1, 1, none⟩ (.int .i64 n)).setCell ⟨w.heap.size + 1, 2, none⟩ (.string t)).setCell ⟨w.heap.size + 1, 3, none⟩ (.slice q l.length l.length)).heap[w.heap.size + 1]? = some (.cells #[.int .i64 k, .int .i64 n, .string t, .slice q l.length l.length] 41 (0, 0)) := box_put (box_put (box_put (box_put zB3 _) _) _) _
  have hb4 := (((hb3.setCell (p := ⟨w.heap.size + 1, 0, none⟩) (Nat.le_succ _) (.int .i64 k)).setCell (p := ⟨w.heap.size + 1, 1, none⟩) (Nat.le_succ _) (.int .i64 n)).setCell (p := ⟨w.heap.size + 1, 2, none⟩) (Nat.le_succ _) (.string t)).setCell (p := ⟨w.heap.size + 1, 3, none⟩) (Nat.le_succ _) (.slice q l.length l.length)
  have hrow4 := (((hrow3.set (X := w.heap.size + 1) (by omega) (fun b hb => hb.elim) 0 (.int .i64 k)).set (X := w.heap.size + 1) (by omega) (fun b hb => hb.elim) 1 (.int .i64 n)).set (X := w.heap.size + 1) (by omega) (fun b hb => hb.elim) 2 (.string t)).set (X := w.heap.size + 1) (by omega) (fun b hb => hb.elim) 3 (.slice q l.length l.length)
  go_wp2
  generalize World.setCell _ _ _ = w4 at zB4 hb4 hrow4 ⊢
  have s0 : w4.cell? ⟨w.heap.size + 1, 0, none⟩ = some (.int .i64 k) := by rw [Lib.cell_of_heap zB4]; rfl
  have s1 : w4.cell? ⟨w.heap.size + 1, 1, none⟩ = some (.int .i64 n) := by rw [Lib.cell_of_heap zB4]; rfl
  have s2 : w4.cell? ⟨w.heap.size + 1, 2, none⟩ = some (.string t) := by rw [Lib.cell_of_heap zB4]; rfl
  have s3 : w4.cell? ⟨w.heap.size + 1, 3, none⟩ = some (.slice q l.length l.length) := by rw [Lib.cell_of_heap zB4]; rfl
  have hlist := hrow4.list.mono (Q := fun b => w.heap.size ≤ b) (fun b _ hb => by omega)
  refine bodyPost_ret (v := .agg #[.int .i64 k, .int .i64 n, .string t, .slice q l.length l.length]) (by simp [results, Tryz.results49, go_sem, s0, s1, s2, s3]) rfl ⟨⟨q, l.length, rfl, hlist⟩, hb4⟩
set_option linter.unusedSimpArgs false in
set_option linter.unusedVariables false in
set_option maxHeartbeats 4000000 in
set_option maxRecDepth 100000 in
theorem copyAttribute_any {P : Nat → Prop} (x : Attr) (p : Option Addr) (c : Nat) (w : World) (hL : ListP P p c x.val.list w) (hl : x.val.list.length ≤ 8796093022207) :
    Calls Tryz.prog 114 #[.agg #[.string x.name, .int .i64 x.val.kind, .int .i64 x.val.num, .string x.val.text, .slice p (x.val.list.length : Nat) c]] w fun e w' => (∃ (q : Option Addr) (d : Nat), e = .returned (.agg #[.string x.name, .int .i64 x.val.kind, .int .i64 x.val.num, .string x.val.text, .slice q (x.val.list.length : Nat) d]) ∧ ListP (fun b => w.heap.size ≤ b) q d x.val.list w') ∧ Below w.heap.size w w' := by
  obtain ⟨m, k, n, t, l⟩ := x
  simp only at hL hl ⊢
  have hbA := (Below.refl w.heap.size w).alloc (Nat.le_refl _) (.cells #[.string m, .int .i64 k, .int .i64 n, .string t, .slice p (l.length : Nat) c] 72)
  have hbB := hbA.alloc hbA.size (.cells #[.string ⟨#[]⟩, .int .i64 0, .int .i64 0, .string ⟨#[]⟩, .slice none 0 0] 72)
  have hzA : ((w.alloc (.cells #[.string m, .int .i64 k, .int .i64 n, .string t, .slice p (l.length : Nat) c] 72)).alloc (.cells #[.string ⟨#[]⟩, .int .i64 0, .int .i64 0, .string ⟨#[]⟩, .slice none 0 0] 72)).heap[w.heap.size]? = some (.cells #[.string m, .int .i64 k, .int .i64 n, .string t, .slice p (l.length : Nat) c] 72 (0, 0)) := (Lib.alloc_old _ _ _ (by simp)).trans (heap_alloc_new w _)
  have hzB : ((w.alloc (.cells #[.string m, .int .i64 k, .int .i64 n, .string t, .slice p (l.length : Nat) c] 72)).alloc (.cells #[.string ⟨#[]⟩, .int .i64 0, .int .i64 0, .string ⟨#[]⟩, .slice none 0 0] 72)).heap[w.heap.size + 1]? = some (.cells #[.string ⟨#[]⟩, .int .i64 0, .int .i64 0, .string ⟨#[]⟩, .slice none 0 0] 72 (0, 0)) := by
    have := heap_alloc_new (w.alloc (.cells #[.string m, .int .i64 k, .int .i64 n, .string t, .slice p (l.length : Nat) c] 72)) (.cells #[.string ⟨#[]⟩, .int .i64 0, .int .i64 0, .string ⟨#[]⟩, .slice none 0 0] 72)
    simpa using this
  have hs0 : ((w.alloc (.cells #[.string m, .int .i64 k, .int .i64 n, .string t, .slice p (l.length : Nat) c] 72)).alloc (.cells #[.string ⟨#[]⟩, .int .i64 0, .int .i64 0, .string ⟨#[]⟩, .slice none 0 0] 72)).heap.size = w.heap.size + 2 := by simp
  go_enter Tryz.func114, Tryz.ntmps114
  go_upto_region 1 with (fail)
  generalize ((w.alloc (.cells #[.string m, .int .i64 k, .int .i64 n, .string t, .slice p (l.length : Nat) c] 72)).alloc (.cells #[.string ⟨#[]⟩, .int .i64 0, .int .i64 0, .string ⟨#[]⟩, .slice none 0 0] 72)) = w0 at hbB hzA hzB hs0 ⊢
  have hcl := copyValue_any ⟨k, n, t, l⟩ p c w0 (hL.same (SameB.of_below hbB)) hl
  unfold Val.agg at hcl
  simp only at hcl
  replace hcl := Lib.hid hcl
  have c0 : w0.cell? ⟨w.heap.size, 0, none⟩ = some (.string m) := by rw [Lib.cell_of_heap hzA]; rfl
  have c1 : w0.cell? ⟨w.heap.size, 1, none⟩ = some (.int .i64 k) := by rw [Lib.cell_of_heap hzA]; rfl
  have c2 : w0.cell? ⟨w.heap.size, 2, none⟩ = some (.int .i64 n) := by rw [Lib.cell_of_heap hzA]; rfl
  have c3 : w0.cell? ⟨w.heap.size, 3, none⟩ = some (.string t) := by rw [Lib.cell_of_heap hzA]; rfl
  have c4 : w0.cell? ⟨w.heap.size, 4, none⟩ = some (.slice p l.length c) := by rw [Lib.cell_of_heap hzA]; rfl
  clear hbA hL hl
  go_upto_region 2 with (go_at_call 49; refine hcl.out.mono ?_; rintro e w2 ⟨⟨q, d, rfl, hlist⟩, hb2⟩; have zA2 := (hb2.block w.heap.size (by omega)).trans hzA; have zB2 := (hb2.block (w.heap.size + 1) (by omega)).trans hzB; have a0 : w2.cell? ⟨w.heap.size, 0, none⟩ = some (.string m) := (by rw [Lib.cell_of_heap zA2]; rfl); have a1 : w2.cell? ⟨w.heap.size, 1, none⟩ = some (.int .i64 k) := (by rw [Lib.cell_of_heap zA2]; rfl); have a2 : w2.cell? ⟨w.heap.size, 2, none⟩ = some (.int .i64 n) := (by rw [Lib.cell_of_heap zA2]; rfl); have a3 : w2.cell? ⟨w.heap.size, 3, none⟩ = some (.string t) := (by rw [Lib.cell_of_heap zA2]; rfl); have a4 : w2.cell? ⟨w.heap.size, 4, none⟩ = some (.slice p l.length c) := (by rw [Lib.cell_of_heap zA2]; rfl); have af : ∀ i, w2.frozen? ⟨w.heap.size, i, none⟩ = false := Lib.frozen_of_heap zA2)
  have zA3 : ((((w2.setCell ⟨w.heap.size, 1, none⟩ (.int .i64 k)).setCell ⟨w.heap.size, 2, none⟩ (.int .i64 n)).setCell ⟨w.heap.size, 3, none⟩ (.string t)).setCell ⟨w.heap.size, 4, none⟩ (.slice q l.length d)).heap[w.heap.size]? = some (.cells #[.string m, .int .i64 k, .int .i64 n, .string t, .slice q l.length d] 72 (0, 0)) := (box_put (box_put (box_put (box_put zA2 _) _) _) _)
  have zB3 : ((((w2.setCell ⟨w.heap.size, 1, none⟩ (.int .i64 k)).setCell ⟨w.heap.size, 2, none⟩ (.int .i64 n)).setCell ⟨w.heap.size, 3, none⟩ (.string t)).setCell ⟨w.heap.size, 4, none⟩ (.slice q l.length d)).heap[w.heap.size + 1]? = some (.cells #[.string ⟨#[]⟩, .int .i64 0, .int .i64 0, .string ⟨#[]⟩, .slice none 0 0] 72 (0, 0)) := by
    rw [Below.heap_setCell _ _ _ _ (by show w.heap.size + 1 ≠ w.heap.size; omega), Below.heap_setCell _ _ _ _ (by show w.heap.size + 1 ≠ w.heap.size; omega), Below.heap_setCell _ _ _ _ (by show w.heap.size + 1 ≠ w.heap.size; omega), Below.heap_setCell _ _ _ _ (by show w.heap.size + 1 ≠ w.heap.size; omega)]
    exact zB2
  have hXA : ¬ (w0.heap.size ≤ w.heap.size) := by omega
  have hXR : ¬ (w0.heap.size ≤ w.heap.size + 1) := by omega
  have hb3 := (((((hbB.trans (hb2.mono (by omega))).setCell (p := ⟨w.heap.size, 1, none⟩) (Nat.le_refl _) (.int .i64 k)).setCell (p := ⟨w.heap.size, 2, none⟩) (Nat.le_refl _) (.int .i64 n)).setCell (p := ⟨w.heap.size, 3, none⟩) (Nat.le_refl _) (.string t)).setCell (p := ⟨w.heap.size, 4, none⟩) (Nat.le_refl _) (.slice q l.length d))
  have hlist3 : ListP (fun b => w0.heap.size ≤ b) q d l _ := hlist.same ((((((SameB.refl _ _).set (B := w.heap.size) hXA 1 (.int .i64 k)).set (B := w.heap.size) hXA 2 (.int .i64 n)).set (B := w.heap.size) hXA 3 (.string t)).set (B := w.heap.size) hXA 4 (.slice q l.length d)))
  generalize ((((w2.setCell ⟨w.heap.size, 1, none⟩ (.int .i64 k)).setCell ⟨w.heap.size, 2, none⟩ (.int .i64 n)).setCell ⟨w.heap.size, 3, none⟩ (.string t)).setCell ⟨w.heap.size, 4, none⟩ (.slice q l.length d)) = w3 at zA3 zB3 hb3 hlist3 ⊢
  clear a0 a1 a2 a3 a4 af zA2 zB2 hzA hzB hb2 hcl hlist c0 c1 c2 c3 c4 hbB
  have a0 : w3.cell? ⟨w.heap.size, 0, none⟩ = some (.string m) := by rw [Lib.cell_of_heap zA3]; rfl
  have a1 : w3.cell? ⟨w.heap.size, 1, none⟩ = some (.int .i64 k) := by rw [Lib.cell_of_heap zA3]; rfl
  have a2 : w3.cell? ⟨w.heap.size, 2, none⟩ = some (.int .i64 n) := by rw [Lib.cell_of_heap zA3]; rfl
  have a3 : w3.cell? ⟨w.heap.size, 3, none⟩ = some (.string t) := by rw [Lib.cell_of_heap zA3]; rfl
  have a4 : w3.cell? ⟨w.heap.size, 4, none⟩ = some (.slice q l.length d) := by rw [Lib.cell_of_heap zA3]; rfl
  have r0 : w3.cell? ⟨w.heap.size + 1, 0, none⟩ = some (.string ⟨#[]⟩) := by rw [Lib.cell_of_heap zB3]; rfl
  have r1 : w3.cell? ⟨w.heap.size + 1, 1, none⟩ = some (.int .i64 0) := by rw [Lib.cell_of_heap zB3]; rfl
  have r2 : w3.cell? ⟨w.heap.size + 1, 2, none⟩ = some (.int .i64 0) := by rw [Lib.cell_of_heap zB3]; rfl
  have r3 : w3.cell? ⟨w.heap.size + 1, 3, none⟩ = some (.string ⟨#[]⟩) := by rw [Lib.cell_of_heap zB3]; rfl
  have r4 : w3.cell? ⟨w.heap.size + 1, 4, none⟩ = some (.slice none 0 0) := by rw [Lib.cell_of_heap zB3]; rfl
  have rf : ∀ i, w3.frozen? ⟨w.heap.size + 1, i, none⟩ = false := Lib.frozen_of_heap zB3
  have zB4 : (((((w3.setCell ⟨w.heap.size + 1, 0, none⟩ (.string m)).setCell ⟨w.heap.size + 1, 1, none⟩ (.int .i64 k)).setCell ⟨w.heap.size + 1, 2, none⟩ (.int .i64 n)).setCell ⟨w.heap.size + 1, 3, none⟩ (.string t)).setCell ⟨w.heap.size + 1, 4, none⟩ (.slice q l.length d)).heap[w.heap.size + 1]? = some (.cells #[.string m, .int .i64 k, .int .i64 n, .string t, .slice q l.length d] 72 (0, 0)) := (box_put (box_put (box_put (box_put (box_put zB3 _) _) _) _) _)
  have hb4 := (((((hb3.setCell (p := ⟨w.heap.size + 1, 0, none⟩) (Nat.le_succ _) (.string m)).setCell (p := ⟨w.heap.size + 1, 1, none⟩) (Nat.le_succ _) (.int .i64 k)).setCell (p := ⟨w.heap.size + 1, 2, none⟩) (Nat.le_succ _) (.int .i64 n)).setCell (p := ⟨w.heap.size + 1, 3, none⟩) (Nat.le_succ _) (.string t)).setCell (p := ⟨w.heap.size + 1, 4, none⟩) (Nat.le_succ _) (.slice q l.length d))
  have hlist4 : ListP (fun b => w0.heap.size ≤ b) q d l _ := hlist3.same (((((((SameB.refl _ _).set (B := w.heap.size + 1) hXR 0 (.string m)).set (B := w.heap.size + 1) hXR 1 (.int .i64 k)).set (B := w.heap.size + 1) hXR 2 (.int .i64 n)).set (B := w.heap.size + 1) hXR 3 (.string t)).set (B := w.heap.size + 1) hXR 4 (.slice q l.length d)))
  go_wp2
  generalize World.setCell _ _ _ = w4 at zB4 hb4 hlist4 ⊢
  have s0 : w4.cell? ⟨w.heap.size + 1, 0, none⟩ = some (.string m) := by rw [Lib.cell_of_heap zB4]; rfl
  have s1 : w4.cell? ⟨w.heap.size + 1, 1, none⟩ = some (.int .i64 k) := by rw [Lib.cell_of_heap zB4]; rfl
  have s2 : w4.cell? ⟨w.heap.size + 1, 2, none⟩ = some (.int .i64 n) := by rw [Lib.cell_of_heap zB4]; rfl
  have s3 : w4.cell? ⟨w.heap.size + 1, 3, none⟩ = some (.string t) := by rw [Lib.cell_of_heap zB4]; rfl
  have s4 : w4.cell? ⟨w.heap.size + 1, 4, none⟩ = some (.slice q l.length d) := by rw [Lib.cell_of_heap zB4]; rfl
  refine bodyPost_ret (v := .agg #[.string m, .int .i64 k, .int .i64 n, .string t, .slice q l.length d]) (by simp [results, Tryz.results114, go_sem, s0, s1, s2, s3, s4]) rfl ⟨⟨q, d, rfl, hlist4.mono (fun b _ hb => by omega)⟩, hb4⟩
end Go.Proofs.YtcbnefeedoabeaaGreatDoor
/- slices.Clip at contexts. -/
namespace Go.Proofs.YtcbnefeedoabeaaGreatDoor
open Go Go.RowKit

theorem clipC_any (q : Option Addr) (n cap : Nat) (w : World) (hq : q = none → n = 0 ∧ cap = 0) (hn : n ≤ cap) (hc : cap ≤ 9223372036854775807) :
    Calls Tryz.prog 98 #[.slice q (n : Nat) cap] w fun e w' => e = .returned (.slice q n n) ∧ Below w.heap.size w w' := by
  have h0 : (0 : Int) ≤ (n : Int) := by omega
  have h1 : (n : Int) ≤ (cap : Int) := by omega
  cases q with
  | none =>
    obtain ⟨rfl, rfl⟩ := hq rfl
    go_enter Tryz.func98, Tryz.ntmps98
    go_wp2
    go_ret
    exact ⟨rfl, Below.refl _ _⟩
  | some ad =>
    go_enter Tryz.func98, Tryz.ntmps98
    go_wp2
    go_ret
    exact ⟨rfl, Below.refl _ _⟩
end Go.Proofs.YtcbnefeedoabeaaGreatDoor
