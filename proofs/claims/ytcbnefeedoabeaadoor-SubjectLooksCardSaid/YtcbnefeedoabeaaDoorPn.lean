/- The first context of a kind. slices.Clone and slices.Clip at texts and at attributes. Copies of a value and of an attribute. Copies of a list of attributes and of a context. Find: the first context of a kind. -/
import Derived.Test.YtcbnefeedoabeaaDoorPe
import Derived.Test.YtcbnefeedoabeaaDoorPl
import Derived.Lib.SliceRun
import Derived.Test.YtcbnefeedoabeaaDoorPc
import Derived.Test.YtcbnefeedoabeaaDoorPi
/- The first context of a kind. -/
namespace Go.Proofs.YtcbnefeedoabeaaDoor
open Go Go.RowKit

def isKind (kd : ByteArray) (x : Ctx) : Bool := x.kind.toList == kd.toList
/-- The place of the first context of a kind. -/
def findK (kd : ByteArray) (l : List Ctx) : Option Nat := l.findIdx? (isKind kd)
def idxV : Option Nat → Int
  | none => -1
  | some i => i
theorem findK_hit {kd : ByteArray} {l : List Ctx} {n : Nat} (h : n < l.length) (hk : isKind kd l[n] = true) (hb : ∀ j (hj : j < l.length), j < n → isKind kd l[j] = false) : findK kd l = some n := by
  unfold findK
  rw [List.findIdx?_eq_some_iff_getElem]
  exact ⟨h, hk, fun j hj => by rw [hb j (by omega) hj]; simp⟩
theorem findK_miss {kd : ByteArray} {l : List Ctx} (hb : ∀ j (hj : j < l.length), isKind kd l[j] = false) : findK kd l = none := by
  unfold findK
  rw [List.findIdx?_eq_none_iff]
  intro x hx
  obtain ⟨j, hj, rfl⟩ := List.getElem_of_mem hx
  exact hb j hj
theorem findK_lt {kd : ByteArray} {l : List Ctx} {n : Nat} (h : findK kd l = some n) : n < l.length := by
  unfold findK at h
  rw [List.findIdx?_eq_some_iff_getElem] at h
  exact h.1
theorem kindIs_any (x : Ctx) (p : Option Addr) (c K : Nat) (kd : ByteArray) (w : World) (hK : w.cell? ⟨K, 0, none⟩ = some (.string kd)) :
    Calls Tryd.prog 52 #[.agg #[.string x.kind, .string x.key, .slice p (x.attrs.length : Nat) c], .pointer (some ⟨K, 0, none⟩)] w fun e w' => e = .returned (.bool (isKind kd x)) ∧ Below w.heap.size w w' := by
  have hb := (Below.refl w.heap.size w).alloc (Nat.le_refl _) (.cells #[.string x.kind, .string x.key, .slice p (x.attrs.length : Nat) c] 40)
  have hz := heap_alloc_new w (.cells #[.string x.kind, .string x.key, .slice p (x.attrs.length : Nat) c] 40)
  have hlt := block_lt_of_cell hK
  have hK2 := (hb.cell (p := ⟨K, 0, none⟩) hlt).trans hK
  go_enter Tryd.func52, Tryd.ntmps52
  go_upto_region 1 with (fail)
  generalize w.alloc (.cells #[.string x.kind, .string x.key, .slice p (x.attrs.length : Nat) c] 40) = w0 at hb hz hK2 ⊢
  have c0 : w0.cell? ⟨w.heap.size, 0, none⟩ = some (.string x.kind) := by rw [Lib.cell_of_heap hz]; rfl
  go_wp2
  go_ret
  exact ⟨rfl, hb⟩
set_option maxHeartbeats 4000000 in
theorem indexFunc_any {P : Nat → Prop} (a0 : Option Addr) (cp : Nat) (l : List Ctx) (K : Nat) (kd : ByteArray) (w : World) (hA : CtxsP P a0 cp l w) (hK : w.cell? ⟨K, 0, none⟩ = some (.string kd)) (hl : l.length ≤ 9223372036854775000) :
    Calls Tryd.prog 51 #[.slice a0 (l.length : Nat) cp, .func (.func 52) #[] #[.pointer (some ⟨K, 0, none⟩)]] w fun e w' => e = .returned (.int .i64 (idxV (findK kd l))) ∧ Below w.heap.size w w' := by
  have hlt := block_lt_of_cell hK
  go_enter Tryd.func51, Tryd.ntmps51
  go_wp2
  go_loopw [5, 8] (fun _ i wr => ∃ n : Nat, n ≤ l.length ∧ i = .int .i64 n ∧ Below w.heap.size w wr ∧ ∀ j (hj : j < l.length), j < n → isKind kd l[j] = false) (fun _ i _ => l.length - (intOf i).toNat)
  case atStart => exact ⟨0, Nat.zero_le _, rfl, Below.refl _ _, fun j _ hj => by omega⟩
  case round =>
    obtain ⟨n, hn, rfl, hbl, hno⟩ := hrel
    by_cases hlt' : n < l.length
    · obtain ⟨b, off, rfl, hP, hbk, hat⟩ := hA.at_ n hlt'
      obtain ⟨q0, q1, pp, cc, q2, q5⟩ := hat.same (SameB.of_below (P := P) hbl) hP hbk
      have hltI : (n : Int) < (l.length : Int) := by omega
      have h0' : (0 : Int) ≤ (n : Int) := by omega
      have hcl := Lib.hid (kindIs_any l[n] pp cc K kd wr ((hbl.cell (p := ⟨K, 0, none⟩) hlt).trans hK))
      cases hk : isKind kd l[n] with
      | true =>
        rw [hk] at hcl
        have hf := Lib.hid (findK_hit hlt' hk hno)
        obtain ⟨x, hx⟩ : ∃ x, l[n] = x := ⟨_, rfl⟩
        rw [hx] at q0 q1 q2 q5 hcl
        replace hx := Lib.hid hx
        clear hk hat
        go_wp2_with (go_at_call 52; refine hcl.out.mono ?_; rintro e w1 ⟨rfl, hb1⟩)
        go_ret
        exact ⟨by rw [hf.out]; rfl, hbl.trans (hb1.mono hbl.size)⟩
      | false =>
        rw [hk] at hcl
        have hno2 : ∀ j (hj : j < l.length), j < n + 1 → isKind kd l[j] = false := fun j hj hjn => by
          rcases Nat.lt_or_ge j n with h1 | h1
          · exact hno j hj h1
          · have : j = n := by omega
            subst this
            exact hk
        replace hno2 := Lib.hid hno2
        replace hno := Lib.hid hno
        obtain ⟨x, hx⟩ : ∃ x, l[n] = x := ⟨_, rfl⟩
        rw [hx] at q0 q1 q2 q5 hcl
        replace hx := Lib.hid hx
        clear hk hat
        go_wp2_with (go_at_call 52; refine hcl.out.mono ?_; rintro e w1 ⟨rfl, hb1⟩)
        go_roundw
        case rel => exact ⟨n + 1, by omega, by go_num, hbl.trans (hb1.mono hbl.size), hno2.out⟩
        case measure => simp [intOf]; omega
    · obtain rfl : n = l.length := by omega
      have hltI : ¬ (l.length : Int) < (l.length : Int) := by omega
      have hf := Lib.hid (findK_miss (fun j hj => hno j hj hj))
      clear hno
      go_wp2
      go_ret
      exact ⟨by rw [hf.out]; rfl, hbl⟩
theorem contextIndex_any {P : Nat → Prop} (a0 : Option Addr) (cp : Nat) (l : List Ctx) (kd : ByteArray) (w : World) (hA : CtxsP P a0 cp l w) (hl : l.length ≤ 9223372036854775000) :
    Calls Tryd.prog 32 #[.agg #[.slice a0 (l.length : Nat) cp], .string kd] w fun e w' => e = .returned (.int .i64 (idxV (findK kd l))) ∧ Below w.heap.size w w' := by
  have hbA := (Below.refl w.heap.size w).alloc (Nat.le_refl _) (.cells #[.slice a0 (l.length : Nat) cp] 24)
  have hbB := hbA.alloc hbA.size (.cells #[.string kd] 9)
  have hzA : ((w.alloc (.cells #[.slice a0 (l.length : Nat) cp] 24)).alloc (.cells #[.string kd] 9)).heap[w.heap.size]? = some (.cells #[.slice a0 (l.length : Nat) cp] 24 (0, 0)) := (Lib.alloc_old _ _ _ (by simp)).trans (heap_alloc_new w _)
  have hzB : ((w.alloc (.cells #[.slice a0 (l.length : Nat) cp] 24)).alloc (.cells #[.string kd] 9)).heap[w.heap.size + 1]? = some (.cells #[.string kd] 9 (0, 0)) := by
    have := heap_alloc_new (w.alloc (.cells #[.slice a0 (l.length : Nat) cp] 24)) (.cells #[.string kd] 9)
    simpa using this
  have hmf : ∀ (fn : Fn) (first cap : Array Value) (w : World), (Instr.makeFunc fn first cap).run Tryd.prog w = .ok (.func fn first cap) w := fun _ _ _ _ => rfl
  go_enter Tryd.func32, Tryd.ntmps32
  go_upto_region 1 with (fail)
  generalize (w.alloc (.cells #[.slice a0 (l.length : Nat) cp] 24)).alloc (.cells #[.string kd] 9) = w0 at hbB hzA hzB ⊢
  have hix := Lib.hid (indexFunc_any a0 cp l (w.heap.size + 1) kd w0 (hA.same (SameB.of_below hbB)) (by rw [Lib.cell_of_heap hzB]; rfl) hl)
  have c0 : w0.cell? ⟨w.heap.size, 0, none⟩ = some (.slice a0 l.length cp) := by rw [Lib.cell_of_heap hzA]; rfl
  go_wp2_with (go_at_call 51; refine hix.out.mono ?_; rintro e w1 ⟨rfl, hb1⟩)
  go_ret
  exact ⟨rfl, hbB.trans (hb1.mono hbB.size)⟩
end Go.Proofs.YtcbnefeedoabeaaDoor
/- slices.Clone and slices.Clip at texts and at attributes. -/
namespace Go.Proofs.YtcbnefeedoabeaaDoor
open Go Go.RowKit

theorem infoStr : (Tryd.prog.info? 9).map (fun i => (i.zero, i.size, i.bytes)) = some (some (.string ⟨#[]⟩), 1, 16) := by kernel_rfl
def eltS : Elt ByteArray where
  T := 9
  S := 36
  k := 1
  size := 16
  zero := .string ⟨#[]⟩
  cells s := [.string s]
  ok _ _ _ := True
  len _ := rfl
  one e u hu := by
    simp at hu
    subst hu
    rfl
  pos := by decide
  fit := by decide
  under := Tryd.underlying36
  info := infoStr
  zlen := rfl
  same h _ := h
  mono h _ := h
theorem ListP.els {P : Nat → Prop} {p : Option Addr} {c : Nat} {l : List ByteArray} {w : World} (h : ListP P p c l w) : ElsAt eltS P p c l w :=
  ⟨h.nil, h.cap, fun i hi => by
    obtain ⟨b, off, e1, e2, e3, e4⟩ := h.texts i hi
    refine ⟨b, off, e1, e2, e3, fun j hj => ?_⟩
    have : j = 0 := by have : j < 1 := hj; omega
    subst this
    show w.cell? ⟨b, off + i * 1 + 0, none⟩ = some (.string l[i])
    rw [Nat.mul_one, Nat.add_zero]
    exact e4, fun e he => trivial⟩
set_option maxRecDepth 100000 in
/-- 'append' of a whole slice to an empty one of the call's own. -/
theorem wpList_clone {α : Type} (E : Elt α) {P : Nat → Prop} {ops : Array Oper} {rest : List Oper} {o : Oper} {a : Act} {w : World} {Q : Exit → Act → World → Prop} (hgd : o.guard = none) (s x : Operand)
    (ho : o.op = .call { callee := .builtin .append, args := #[s, x], argTypes := #[E.S, E.S] }) {B g0 : Nat} (hs : a.eval s = .slice (some ⟨g0, 0, none⟩) 0 0) (hown : w.ownsRow B E.T E.k (.slice (some ⟨g0, 0, none⟩) 0 0) 0 [])
    {ad : Addr} {c : Nat} {fs : List α} (hx : a.eval x = .slice (some ad) fs.length c) (hf : ElsAt E P (some ad) c fs w) (hl : fs.length * E.size ≤ 140737488355328) (hlm : fs.length ≤ maxLen) (hPB : ∀ b, P b → b < B) (hB : B ≤ w.heap.size)
    (h : ∀ v' w', GRow E P fs B v' w' → Below B w w' → wpList Tryd.prog ops Q rest (a.put o.dst v') w') : wpList Tryd.prog ops Q (o :: rest) a w := by
  obtain ⟨i0, hi, hz0, hz1, hz2⟩ := info_parts E.info
  have hnews : ∀ j u, (E.row fs)[j]? = some u → w.cell? (ad.add j) = some u := by
    intro j u hu
    have hne : 0 < fs.length := by
      cases fs with
      | nil => simp [Elt.row] at hu
      | cons e t => simp
    obtain ⟨b, off, e1, _⟩ := hf.at_ 0 hne
    cases e1
    exact hf.news j u hu
  refine wpList_append_own _ hgd s x E.S ho B E.T i0 E.zero E.k E.size E.under hi hz0 hz1 hz2 E.zlen E.pos (.slice (some ⟨g0, 0, none⟩) 0 0) 0 [] hs hown ad fs.length c (E.row fs) hx (E.row_length fs) hnews (E.row_one fs) (by rw [Nat.zero_add]; exact hlm) (by rw [Nat.zero_add]; exact hl) hB ?_
  intro v' w' hown' hg _
  rw [Nat.zero_add, List.nil_append] at hown'
  have hBg : B ≤ g0 := by
    rcases hown.2 with ⟨h0, _⟩ | ⟨g', _, _, hv, hb, _⟩
    · cases h0
    · have : g0 = g' := by injection hv with h1; injection h1 with h2; injection h2
      omega
  have hbl := (Below.refl B w).grown hg hB (fun k hk => by have : g0 = k := by injection hk
                                                           omega)
  refine h v' w' ⟨hown', fun e he => ?_⟩ hbl
  have h2 := E.same (hf.ok e he) (⟨hbl.size, fun b hb _ => hbl.block b (hPB b hb)⟩ : SameB P w w')
  refine E.mono h2 fun b _ hb => ⟨hb, fun e => ?_⟩
  have := (World.ownsRow.lt hown' b e).1
  have := hPB b hb
  omega
theorem empty_own {α : Type} (E : Elt α) (w : World) : (w.alloc (.cells #[] E.T)).ownsRow w.heap.size E.T E.k (.slice (some ⟨w.heap.size, 0, none⟩) 0 0) 0 [] :=
  ⟨by simp, .inr ⟨w.heap.size, 0, #[], rfl, Nat.le_refl _, heap_alloc_new w _, Nat.le_refl _, by unfold maxLen; omega, by simp, by simp⟩⟩
set_option linter.unusedSimpArgs false in
set_option linter.unusedVariables false in
set_option maxHeartbeats 4000000 in
set_option maxRecDepth 100000 in
theorem cloneS_any {P : Nat → Prop} (p : Option Addr) (c : Nat) (l : List ByteArray) (w : World) (hL : ListP P p c l w) (hl : l.length ≤ 8796093022207) :
    Calls Tryd.prog 56 #[.slice p (l.length : Nat) c] w fun e w' => (∃ v, e = .returned v ∧ GRow eltS (fun b => P b ∧ b < w.heap.size) l w.heap.size v w') ∧ Below w.heap.size w w' := by
  have heq : ∀ (a : Option Addr) (n c : Nat) (w : World), (binOp .eql 36 (.slice a n c) (.slice none 0 0)).run Tryd.prog w = .ok (.bool a.isNone) w := fun a n c w => Lib.run_eql_slice_nil w _ _ a n c 0 0 Tryd.underlying36
  have hL' : ListP (fun b => P b ∧ b < w.heap.size) p c l w := hL.mono fun b hb h => ⟨h, hb⟩
  cases p with
  | none =>
    have hc0 := hL.nil rfl
    have h0 : l = [] := by
      cases l with
      | nil => rfl
      | cons e t => obtain ⟨b, off, he, _⟩ := hL.texts 0 (by simp); cases he
    subst h0
    subst hc0
    clear hl hL hL'
    go_enter Tryd.func56, Tryd.ntmps56
    go_wp2
    go_ret
    exact ⟨⟨_, rfl, GRow.nil _ _ _ _⟩, Below.refl _ _⟩
  | some ad =>
    have hbA := (Below.refl w.heap.size w).alloc (Nat.le_refl _) (.cells #[] 9)
    have hels := (hL'.same (SameB.of_below hbA)).els
    have hlm : l.length ≤ maxLen := by unfold maxLen; omega
    have hlb : l.length * eltS.size ≤ 140737488355328 := by show l.length * 16 ≤ _; omega
    have hown := empty_own eltS w
    go_enter Tryd.func56, Tryd.ntmps56
    clear hL hL'
    replace hlb := Lib.hid hlb
    replace hlm := Lib.hid hlm
    clear hl
    go_wp2_with (refine wpList_clone eltS rfl (.tmp 5) (.tmp 6) rfl (g0 := w.heap.size) rfl hown rfl hels hlb.out hlm.out (fun b hb => hb.2) (by simp) ?_; intro v1 w1 hrow1 hb1)
    go_ret
    exact ⟨⟨_, rfl, hrow1⟩, hbA.trans hb1⟩
set_option linter.unusedSimpArgs false in
set_option linter.unusedVariables false in
set_option maxHeartbeats 4000000 in
set_option maxRecDepth 100000 in
theorem cloneA_any {P : Nat → Prop} (p : Option Addr) (c : Nat) (l : List AEl) (w : World) (hL : ElsAt eltA P p c l w) (hl : l.length ≤ 1000) :
    Calls Tryd.prog 73 #[.slice p (l.length : Nat) c] w fun e w' => (∃ v, e = .returned v ∧ GRow eltA (fun b => P b ∧ b < w.heap.size) l w.heap.size v w') ∧ Below w.heap.size w w' := by
  have heq : ∀ (a : Option Addr) (n c : Nat) (w : World), (binOp .eql 38 (.slice a n c) (.slice none 0 0)).run Tryd.prog w = .ok (.bool a.isNone) w := fun a n c w => Lib.run_eql_slice_nil w _ _ a n c 0 0 Tryd.underlying38
  have hL' : ElsAt eltA (fun b => P b ∧ b < w.heap.size) p c l w := hL.keep
  cases p with
  | none =>
    have hc0 := hL.nil rfl
    have h0 : l = [] := by
      cases l with
      | nil => rfl
      | cons e t => obtain ⟨b, off, he, _⟩ := hL.at_ 0 (by simp); cases he
    subst h0
    subst hc0
    clear hl hL hL'
    go_enter Tryd.func73, Tryd.ntmps73
    go_wp2
    go_ret
    exact ⟨⟨_, rfl, GRow.nil _ _ _ _⟩, Below.refl _ _⟩
  | some ad =>
    have hbA := (Below.refl w.heap.size w).alloc (Nat.le_refl _) (.cells #[] 62)
    have hels := hL'.same (SameB.of_below hbA)
    have hlm : l.length ≤ maxLen := by unfold maxLen; omega
    have hlb : l.length * eltA.size ≤ 140737488355328 := by show l.length * 72 ≤ _; omega
    have hown := empty_own eltA w
    go_enter Tryd.func73, Tryd.ntmps73
    clear hL hL'
    replace hlb := Lib.hid hlb
    replace hlm := Lib.hid hlm
    clear hl
    go_wp2_with (refine wpList_clone eltA rfl (.tmp 5) (.tmp 6) rfl (g0 := w.heap.size) rfl hown rfl hels hlb.out hlm.out (fun b hb => hb.2) (by simp) ?_; intro v1 w1 hrow1 hb1)
    go_ret
    exact ⟨⟨_, rfl, hrow1⟩, hbA.trans hb1⟩
theorem clipS_any (q : Option Addr) (n cap : Nat) (w : World) (hq : q = none → n = 0 ∧ cap = 0) (hn : n ≤ cap) (hc : cap ≤ 9223372036854775807) :
    Calls Tryd.prog 55 #[.slice q (n : Nat) cap] w fun e w' => e = .returned (.slice q n n) ∧ Below w.heap.size w w' := by
  have h0 : (0 : Int) ≤ (n : Int) := by omega
  have h1 : (n : Int) ≤ (cap : Int) := by omega
  cases q with
  | none =>
    obtain ⟨rfl, rfl⟩ := hq rfl
    go_enter Tryd.func55, Tryd.ntmps55
    go_wp2
    go_ret
    exact ⟨rfl, Below.refl _ _⟩
  | some ad =>
    go_enter Tryd.func55, Tryd.ntmps55
    go_wp2
    go_ret
    exact ⟨rfl, Below.refl _ _⟩
theorem clipA_any (q : Option Addr) (n cap : Nat) (w : World) (hq : q = none → n = 0 ∧ cap = 0) (hn : n ≤ cap) (hc : cap ≤ 9223372036854775807) :
    Calls Tryd.prog 72 #[.slice q (n : Nat) cap] w fun e w' => e = .returned (.slice q n n) ∧ Below w.heap.size w w' := by
  have h0 : (0 : Int) ≤ (n : Int) := by omega
  have h1 : (n : Int) ≤ (cap : Int) := by omega
  cases q with
  | none =>
    obtain ⟨rfl, rfl⟩ := hq rfl
    go_enter Tryd.func72, Tryd.ntmps72
    go_wp2
    go_ret
    exact ⟨rfl, Below.refl _ _⟩
  | some ad =>
    go_enter Tryd.func72, Tryd.ntmps72
    go_wp2
    go_ret
    exact ⟨rfl, Below.refl _ _⟩
end Go.Proofs.YtcbnefeedoabeaaDoor
/- Copies of a value and of an attribute. -/
namespace Go.Proofs.YtcbnefeedoabeaaDoor
open Go Go.RowKit

theorem GRow.forget {P : Nat → Prop} {es : List ByteArray} {B : Nat} {v : Value} {w : World} (h : GRow eltS P es B v w) : GRow eltS (fun _ => False) es B v w := ⟨h.own, fun _ _ => trivial⟩
theorem GRow.list {P : Nat → Prop} {l : List ByteArray} {B n cap : Nat} {q : Option Addr} {w : World} (h : GRow eltS P l B (.slice q n cap) w) : ListP (fun b => B ≤ b) q l.length l w := by
  obtain ⟨a, c, hv, h1, h2, _, h5⟩ := h.form
  injection hv with e1 e2 e3
  subst e1
  refine ⟨fun hq => ?_, Nat.le_refl _, fun i hi => ?_⟩
  · have := h1 hq; omega
  · obtain ⟨g, e1, e2, e3, _, hc⟩ := h5 i hi
    refine ⟨g, 0, e1, e2, e3, ?_⟩
    have := hc 0 (by decide)
    rw [Nat.zero_add]
    show w.cell? ⟨g, i, none⟩ = some (.string l[i])
    have h6 : w.cell? ⟨g, i * 1 + 0, none⟩ = some (.string l[i]) := this
    rwa [Nat.mul_one, Nat.add_zero] at h6
theorem GRow.nilcap {α : Type} {E : Elt α} {P : Nat → Prop} {es : List α} {B n cap : Nat} {q : Option Addr} {w : World} (h : GRow E P es B (.slice q n cap) w) : n = es.length ∧ (q = none → n = 0 ∧ cap = 0) ∧ n ≤ cap ∧ cap ≤ 9223372036854775807 := by
  obtain ⟨a, c, hv, h1, h2, h3, _⟩ := h.form
  injection hv with e1 e2 e3
  have e2' : n = es.length := by omega
  subst e1
  subst e3
  refine ⟨e2', fun hq => ?_, by omega, h3⟩
  have := h1 hq
  omega
set_option linter.unusedSimpArgs false in
set_option linter.unusedVariables false in
set_option maxHeartbeats 4000000 in
set_option maxRecDepth 100000 in
theorem copyValue_any {P : Nat → Prop} (x : Val) (p : Option Addr) (c : Nat) (w : World) (hL : ListP P p c x.list w) (hl : x.list.length ≤ 8796093022207) :
    Calls Tryd.prog 34 #[x.agg p c] w fun e w' => (∃ (q : Option Addr) (m : Nat), e = .returned (x.agg q m) ∧ ListP (fun b => w.heap.size ≤ b) q m x.list w') ∧ Below w.heap.size w w' := by
  obtain ⟨k, n, t, l⟩ := x
  unfold Val.agg
  simp only at hL hl ⊢
  have hbA := (Below.refl w.heap.size w).alloc (Nat.le_refl _) (.cells #[.int .i64 k, .int .i64 n, .string t, .slice p (l.length : Nat) c] 45)
  have hbB := hbA.alloc hbA.size (.cells #[.int .i64 0, .int .i64 0, .string ⟨#[]⟩, .slice none 0 0] 45)
  have hzA : ((w.alloc (.cells #[.int .i64 k, .int .i64 n, .string t, .slice p (l.length : Nat) c] 45)).alloc (.cells #[.int .i64 0, .int .i64 0, .string ⟨#[]⟩, .slice none 0 0] 45)).heap[w.heap.size]? = some (.cells #[.int .i64 k, .int .i64 n, .string t, .slice p (l.length : Nat) c] 45 (0, 0)) := (Lib.alloc_old _ _ _ (by simp)).trans (heap_alloc_new w _)
  have hzB : ((w.alloc (.cells #[.int .i64 k, .int .i64 n, .string t, .slice p (l.length : Nat) c] 45)).alloc (.cells #[.int .i64 0, .int .i64 0, .string ⟨#[]⟩, .slice none 0 0] 45)).heap[w.heap.size + 1]? = some (.cells #[.int .i64 0, .int .i64 0, .string ⟨#[]⟩, .slice none 0 0] 45 (0, 0)) := by
    have := heap_alloc_new (w.alloc (.cells #[.int .i64 k, .int .i64 n, .string t, .slice p (l.length : Nat) c] 45)) (.cells #[.int .i64 0, .int .i64 0, .string ⟨#[]⟩, .slice none 0 0] 45)
    simpa using this
  have hs0 : ((w.alloc (.cells #[.int .i64 k, .int .i64 n, .string t, .slice p (l.length : Nat) c] 45)).alloc (.cells #[.int .i64 0, .int .i64 0, .string ⟨#[]⟩, .slice none 0 0] 45)).heap.size = w.heap.size + 2 := by simp
  go_enter Tryd.func34, Tryd.ntmps34
  go_upto_region 1 with (fail)
  generalize (w.alloc (.cells #[.int .i64 k, .int .i64 n, .string t, .slice p (l.length : Nat) c] 45)).alloc (.cells #[.int .i64 0, .int .i64 0, .string ⟨#[]⟩, .slice none 0 0] 45) = w0 at hbB hzA hzB hs0 ⊢
  have hcl := Lib.hid (cloneS_any p c l w0 (hL.same (SameB.of_below hbB)) hl)
  have c0 : w0.cell? ⟨w.heap.size, 3, none⟩ = some (.slice p l.length c) := by rw [Lib.cell_of_heap hzA]; rfl
  clear hbA hL hl
  go_upto_region 2 with (first
    | (go_at_call 56; refine hcl.out.mono ?_; rintro e w1 ⟨⟨v1, rfl, hrow1⟩, hb1⟩; obtain ⟨q, cap, rfl, -, -, -, -⟩ := hrow1.form; have hnc := hrow1.nilcap; have hcp := Lib.hid (clipS_any q l.length cap w1 hnc.2.1 hnc.2.2.1 hnc.2.2.2))
    | (go_at_call 55; refine hcp.out.mono ?_; rintro e w2 ⟨rfl, hb2⟩; have hb02 := hb1.trans (hb2.mono hb1.size); have zA2 := (hb02.block w.heap.size (by omega)).trans hzA; have zB2 := (hb02.block (w.heap.size + 1) (by omega)).trans hzB; have a0 : w2.cell? ⟨w.heap.size, 0, none⟩ = some (.int .i64 k) := (by rw [Lib.cell_of_heap zA2]; rfl); have a1 : w2.cell? ⟨w.heap.size, 1, none⟩ = some (.int .i64 n) := (by rw [Lib.cell_of_heap zA2]; rfl); have a2 : w2.cell? ⟨w.heap.size, 2, none⟩ = some (.string t) := (by rw [Lib.cell_of_heap zA2]; rfl); have a3 : w2.cell? ⟨w.heap.size, 3, none⟩ = some (.slice p l.length c) := (by rw [Lib.cell_of_heap zA2]; rfl); have af : ∀ i, w2.frozen? ⟨w.heap.size, i, none⟩ = false := Lib.frozen_of_heap zA2))
  have hn1 := hnc.2.1
  have zA3 : (w2.setCell ⟨w.heap.size, 3, none⟩ (.slice q l.length l.length)).heap[w.heap.size]? = some (.cells #[.int .i64 k, .int .i64 n, .string t, .slice q l.length l.length] 45 (0, 0)) := box_put zA2 _
  have zB3 : (w2.setCell ⟨w.heap.size, 3, none⟩ (.slice q l.length l.length)).heap[w.heap.size + 1]? = some (.cells #[.int .i64 0, .int .i64 0, .string ⟨#[]⟩, .slice none 0 0] 45 (0, 0)) := by
    rw [Below.heap_setCell _ _ _ _ (by show w.heap.size + 1 ≠ w.heap.size; omega)]
    exact zB2
  have hb3 := (hbB.trans (hb02.mono (by omega))).setCell (p := ⟨w.heap.size, 3, none⟩) (Nat.le_refl _) (.slice q l.length l.length)
  have hrow3 := ((hrow1.forget.below hb2).set (X := w.heap.size) (by omega) (fun b hb => hb.elim) 3 (.slice q l.length l.length))
  generalize w2.setCell ⟨w.heap.size, 3, none⟩ (.slice q l.length l.length) = w3 at zA3 zB3 hb3 hrow3 ⊢
  clear a0 a1 a2 a3 af zA2 zB2 hzA hzB hb2 hb1 hrow1 hcp hcl hb02 c0 hnc hbB
  have a0 : w3.cell? ⟨w.heap.size, 0, none⟩ = some (.int .i64 k) := by rw [Lib.cell_of_heap zA3]; rfl
  have a1 : w3.cell? ⟨w.heap.size, 1, none⟩ = some (.int .i64 n) := by rw [Lib.cell_of_heap zA3]; rfl
  have a2 : w3.cell? ⟨w.heap.size, 2, none⟩ = some (.string t) := by rw [Lib.cell_of_heap zA3]; rfl
  have a3 : w3.cell? ⟨w.heap.size, 3, none⟩ = some (.slice q l.length l.length) := by rw [Lib.cell_of_heap zA3]; rfl
  have r0 : w3.cell? ⟨w.heap.size + 1, 0, none⟩ = some (.int .i64 0) := by rw [Lib.cell_of_heap zB3]; rfl
  have r1 : w3.cell? ⟨w.heap.size + 1, 1, none⟩ = some (.int .i64 0) := by rw [Lib.cell_of_heap zB3]; rfl
  have r2 : w3.cell? ⟨w.heap.size + 1, 2, none⟩ = some (.string ⟨#[]⟩) := by rw [Lib.cell_of_heap zB3]; rfl
  have r3 : w3.cell? ⟨w.heap.size + 1, 3, none⟩ = some (.slice none 0 0) := by rw [Lib.cell_of_heap zB3]; rfl
  have rf : ∀ i, w3.frozen? ⟨w.heap.size + 1, i, none⟩ = false := Lib.frozen_of_heap zB3
  have zB4 : ((((w3.setCell ⟨w.heap.size + 1, 0, none⟩ (.int .i64 k)).setCell ⟨w.heap.size + 1, 1, none⟩ (.int .i64 n)).setCell ⟨w.heap.size + 1, 2, none⟩ (.string t)).setCell ⟨w.heap.size + 1, 3, none⟩ (.slice q l.length l.length)).heap[w.heap.size + 1]? = some (.cells #[.int .i64 k, .int .i64 n, .string t, .slice q l.length l.length] 45 (0, 0)) := box_put (box_put (box_put (box_put zB3 _) _) _) _
  have hb4 := (((hb3.setCell (p := ⟨w.heap.size + 1, 0, none⟩) (Nat.le_succ _) (.int .i64 k)).setCell (p := ⟨w.heap.size + 1, 1, none⟩) (Nat.le_succ _) (.int .i64 n)).setCell (p := ⟨w.heap.size + 1, 2, none⟩) (Nat.le_succ _) (.string t)).setCell (p := ⟨w.heap.size + 1, 3, none⟩) (Nat.le_succ _) (.slice q l.length l.length)
  have hrow4 := (((hrow3.set (X := w.heap.size + 1) (by omega) (fun b hb => hb.elim) 0 (.int .i64 k)).set (X := w.heap.size + 1) (by omega) (fun b hb => hb.elim) 1 (.int .i64 n)).set (X := w.heap.size + 1) (by omega) (fun b hb => hb.elim) 2 (.string t)).set (X := w.heap.size + 1) (by omega) (fun b hb => hb.elim) 3 (.slice q l.length l.length)
  go_wp2
  generalize World.setCell _ _ _ = w4 at zB4 hb4 hrow4 ⊢
  have s0 : w4.cell? ⟨w.heap.size + 1, 0, none⟩ = some (.int .i64 k) := by rw [Lib.cell_of_heap zB4]; rfl
  have s1 : w4.cell? ⟨w.heap.size + 1, 1, none⟩ = some (.int .i64 n) := by rw [Lib.cell_of_heap zB4]; rfl
  have s2 : w4.cell? ⟨w.heap.size + 1, 2, none⟩ = some (.string t) := by rw [Lib.cell_of_heap zB4]; rfl
  have s3 : w4.cell? ⟨w.heap.size + 1, 3, none⟩ = some (.slice q l.length l.length) := by rw [Lib.cell_of_heap zB4]; rfl
  have hlist := hrow4.list.mono (Q := fun b => w.heap.size ≤ b) (fun b _ hb => by omega)
  refine bodyPost_ret (v := .agg #[.int .i64 k, .int .i64 n, .string t, .slice q l.length l.length]) (by simp [results, Tryd.results34, go_sem, s0, s1, s2, s3]) rfl ⟨⟨q, l.length, rfl, hlist⟩, hb4⟩
set_option linter.unusedSimpArgs false in
set_option linter.unusedVariables false in
set_option maxHeartbeats 4000000 in
set_option maxRecDepth 100000 in
theorem copyAttribute_any {P : Nat → Prop} (x : Attr) (p : Option Addr) (c : Nat) (w : World) (hL : ListP P p c x.val.list w) (hl : x.val.list.length ≤ 8796093022207) :
    Calls Tryd.prog 54 #[.agg #[.string x.name, .int .i64 x.val.kind, .int .i64 x.val.num, .string x.val.text, .slice p (x.val.list.length : Nat) c]] w fun e w' => (∃ (q : Option Addr) (d : Nat), e = .returned (.agg #[.string x.name, .int .i64 x.val.kind, .int .i64 x.val.num, .string x.val.text, .slice q (x.val.list.length : Nat) d]) ∧ ListP (fun b => w.heap.size ≤ b) q d x.val.list w') ∧ Below w.heap.size w w' := by
  obtain ⟨m, k, n, t, l⟩ := x
  simp only at hL hl ⊢
  have hbA := (Below.refl w.heap.size w).alloc (Nat.le_refl _) (.cells #[.string m, .int .i64 k, .int .i64 n, .string t, .slice p (l.length : Nat) c] 62)
  have hbB := hbA.alloc hbA.size (.cells #[.string ⟨#[]⟩, .int .i64 0, .int .i64 0, .string ⟨#[]⟩, .slice none 0 0] 62)
  have hzA : ((w.alloc (.cells #[.string m, .int .i64 k, .int .i64 n, .string t, .slice p (l.length : Nat) c] 62)).alloc (.cells #[.string ⟨#[]⟩, .int .i64 0, .int .i64 0, .string ⟨#[]⟩, .slice none 0 0] 62)).heap[w.heap.size]? = some (.cells #[.string m, .int .i64 k, .int .i64 n, .string t, .slice p (l.length : Nat) c] 62 (0, 0)) := (Lib.alloc_old _ _ _ (by simp)).trans (heap_alloc_new w _)
  have hzB : ((w.alloc (.cells #[.string m, .int .i64 k, .int .i64 n, .string t, .slice p (l.length : Nat) c] 62)).alloc (.cells #[.string ⟨#[]⟩, .int .i64 0, .int .i64 0, .string ⟨#[]⟩, .slice none 0 0] 62)).heap[w.heap.size + 1]? = some (.cells #[.string ⟨#[]⟩, .int .i64 0, .int .i64 0, .string ⟨#[]⟩, .slice none 0 0] 62 (0, 0)) := by
    have := heap_alloc_new (w.alloc (.cells #[.string m, .int .i64 k, .int .i64 n, .string t, .slice p (l.length : Nat) c] 62)) (.cells #[.string ⟨#[]⟩, .int .i64 0, .int .i64 0, .string ⟨#[]⟩, .slice none 0 0] 62)
    simpa using this
  have hs0 : ((w.alloc (.cells #[.string m, .int .i64 k, .int .i64 n, .string t, .slice p (l.length : Nat) c] 62)).alloc (.cells #[.string ⟨#[]⟩, .int .i64 0, .int .i64 0, .string ⟨#[]⟩, .slice none 0 0] 62)).heap.size = w.heap.size + 2 := by simp
  go_enter Tryd.func54, Tryd.ntmps54
  go_upto_region 1 with (fail)
  generalize ((w.alloc (.cells #[.string m, .int .i64 k, .int .i64 n, .string t, .slice p (l.length : Nat) c] 62)).alloc (.cells #[.string ⟨#[]⟩, .int .i64 0, .int .i64 0, .string ⟨#[]⟩, .slice none 0 0] 62)) = w0 at hbB hzA hzB hs0 ⊢
  have hcl := copyValue_any ⟨k, n, t, l⟩ p c w0 (hL.same (SameB.of_below hbB)) hl
  unfold Val.agg at hcl
  simp only at hcl
  replace hcl := Lib.hid hcl
  have c0 : w0.cell? ⟨w.heap.size, 0, none⟩ = some (.string m) := by rw [Lib.cell_of_heap hzA]; rfl
  have c1 : w0.cell? ⟨w.heap.size, 1, none⟩ = some (.int .i64 k) := by rw [Lib.cell_of_heap hzA]; rfl
  have c2 : w0.cell? ⟨w.heap.size, 2, none⟩ = some (.int .i64 n) := by rw [Lib.cell_of_heap hzA]; rfl
  have c3 : w0.cell? ⟨w.heap.size, 3, none⟩ = some (.string t) := by rw [Lib.cell_of_heap hzA]; rfl
  have c4 : w0.cell? ⟨w.heap.size, 4, none⟩ = some (.slice p l.length c) := by rw [Lib.cell_of_heap hzA]; rfl
  clear hbA hL hl
  go_upto_region 2 with (go_at_call 34; refine hcl.out.mono ?_; rintro e w2 ⟨⟨q, d, rfl, hlist⟩, hb2⟩; have zA2 := (hb2.block w.heap.size (by omega)).trans hzA; have zB2 := (hb2.block (w.heap.size + 1) (by omega)).trans hzB; have a0 : w2.cell? ⟨w.heap.size, 0, none⟩ = some (.string m) := (by rw [Lib.cell_of_heap zA2]; rfl); have a1 : w2.cell? ⟨w.heap.size, 1, none⟩ = some (.int .i64 k) := (by rw [Lib.cell_of_heap zA2]; rfl); have a2 : w2.cell? ⟨w.heap.size, 2, none⟩ = some (.int .i64 n) := (by rw [Lib.cell_of_heap zA2]; rfl); have a3 : w2.cell? ⟨w.heap.size, 3, none⟩ = some (.string t) := (by rw [Lib.cell_of_heap zA2]; rfl); have a4 : w2.cell? ⟨w.heap.size, 4, none⟩ = some (.slice p l.length c) := (by rw [Lib.cell_of_heap zA2]; rfl); have af : ∀ i, w2.frozen? ⟨w.heap.size, i, none⟩ = false := Lib.frozen_of_heap zA2)
  have zA3 : ((((w2.setCell ⟨w.heap.size, 1, none⟩ (.int .i64 k)).setCell ⟨w.heap.size, 2, none⟩ (.int .i64 n)).setCell ⟨w.heap.size, 3, none⟩ (.string t)).setCell ⟨w.heap.size, 4, none⟩ (.slice q l.length d)).heap[w.heap.size]? = some (.cells #[.string m, .int .i64 k, .int .i64 n, .string t, .slice q l.length d] 62 (0, 0)) := (box_put (box_put (box_put (box_put zA2 _) _) _) _)
  have zB3 : ((((w2.setCell ⟨w.heap.size, 1, none⟩ (.int .i64 k)).setCell ⟨w.heap.size, 2, none⟩ (.int .i64 n)).setCell ⟨w.heap.size, 3, none⟩ (.string t)).setCell ⟨w.heap.size, 4, none⟩ (.slice q l.length d)).heap[w.heap.size + 1]? = some (.cells #[.string ⟨#[]⟩, .int .i64 0, .int .i64 0, .string ⟨#[]⟩, .slice none 0 0] 62 (0, 0)) := by
    rw [Below.heap_setCell _ _ _ _ (by show w.heap.size + 1 ≠ w.heap.size; omega), Below.heap_setCell _ _ _ _ (by show w.heap.size + 1 ≠ w.heap.size; omega), Below.heap_setCell _ _ _ _ (by show w.heap.size + 1 ≠ w.heap.size; omega), Below.heap_setCell _ _ _ _ (by show w.heap.size + 1 ≠ w.heap.size; omega)]
    exact zB2
  have hXA : ¬ (w0.heap.size ≤ w.heap.size) := by omega
  have hXR : ¬ (w0.heap.size ≤ w.heap.size + 1) := by omega
  have hb3 := (((((hbB.trans (hb2.mono (by omega))).setCell (p := ⟨w.heap.size, 1, none⟩) (Nat.le_refl _) (.int .i64 k)).setCell (p := ⟨w.heap.size, 2, none⟩) (Nat.le_refl _) (.int .i64 n)).setCell (p := ⟨w.heap.size, 3, none⟩) (Nat.le_refl _) (.string t)).setCell (p := ⟨w.heap.size, 4, none⟩) (Nat.le_refl _) (.slice q l.length d))
  have hlist3 : ListP (fun b => w0.heap.size ≤ b) q d l _ := hlist.same ((((((SameB.refl _ _).set (B := w.heap.size) hXA 1 (.int .i64 k)).set (B := w.heap.size) hXA 2 (.int .i64 n)).set (B := w.heap.size) hXA 3 (.string t)).set (B := w.heap.size) hXA 4 (.slice q l.length d)))
  generalize ((((w2.setCell ⟨w.heap.size, 1, none⟩ (.int .i64 k)).setCell ⟨w.heap.size, 2, none⟩ (.int .i64 n)).setCell ⟨w.heap.size, 3, none⟩ (.string t)).setCell ⟨w.heap.size, 4, none⟩ (.slice q l.length d)) = w3 at zA3 zB3 hb3 hlist3 ⊢
  clear a0 a1 a2 a3 a4 af zA2 zB2 hzA hzB hb2 hcl hlist c0 c1 c2 c3 c4 hbB
  have a0 : w3.cell? ⟨w.heap.size, 0, none⟩ = some (.string m) := by rw [Lib.cell_of_heap zA3]; rfl
  have a1 : w3.cell? ⟨w.heap.size, 1, none⟩ = some (.int .i64 k) := by rw [Lib.cell_of_heap zA3]; rfl
  have a2 : w3.cell? ⟨w.heap.size, 2, none⟩ = some (.int .i64 n) := by rw [Lib.cell_of_heap zA3]; rfl
  have a3 : w3.cell? ⟨w.heap.size, 3, none⟩ = some (.string t) := by rw [Lib.cell_of_heap zA3]; rfl
  have a4 : w3.cell? ⟨w.heap.size, 4, none⟩ = some (.slice q l.length d) := by rw [Lib.cell_of_heap zA3]; rfl
  have r0 : w3.cell? ⟨w.heap.size + 1, 0, none⟩ = some (.string ⟨#[]⟩) := by rw [Lib.cell_of_heap zB3]; rfl
  have r1 : w3.cell? ⟨w.heap.size + 1, 1, none⟩ = some (.int .i64 0) := by rw [Lib.cell_of_heap zB3]; rfl
  have r2 : w3.cell? ⟨w.heap.size + 1, 2, none⟩ = some (.int .i64 0) := by rw [Lib.cell_of_heap zB3]; rfl
  have r3 : w3.cell? ⟨w.heap.size + 1, 3, none⟩ = some (.string ⟨#[]⟩) := by rw [Lib.cell_of_heap zB3]; rfl
  have r4 : w3.cell? ⟨w.heap.size + 1, 4, none⟩ = some (.slice none 0 0) := by rw [Lib.cell_of_heap zB3]; rfl
  have rf : ∀ i, w3.frozen? ⟨w.heap.size + 1, i, none⟩ = false := Lib.frozen_of_heap zB3
  have zB4 : (((((w3.setCell ⟨w.heap.size + 1, 0, none⟩ (.string m)).setCell ⟨w.heap.size + 1, 1, none⟩ (.int .i64 k)).setCell ⟨w.heap.size + 1, 2, none⟩ (.int .i64 n)).setCell ⟨w.heap.size + 1, 3, none⟩ (.string t)).setCell ⟨w.heap.size + 1, 4, none⟩ (.slice q l.length d)).heap[w.heap.size + 1]? = some (.cells #[.string m, .int .i64 k, .int .i64 n, .string t, .slice q l.length d] 62 (0, 0)) := (box_put (box_put (box_put (box_put (box_put zB3 _) _) _) _) _)
  have hb4 := (((((hb3.setCell (p := ⟨w.heap.size + 1, 0, none⟩) (Nat.le_succ _) (.string m)).setCell (p := ⟨w.heap.size + 1, 1, none⟩) (Nat.le_succ _) (.int .i64 k)).setCell (p := ⟨w.heap.size + 1, 2, none⟩) (Nat.le_succ _) (.int .i64 n)).setCell (p := ⟨w.heap.size + 1, 3, none⟩) (Nat.le_succ _) (.string t)).setCell (p := ⟨w.heap.size + 1, 4, none⟩) (Nat.le_succ _) (.slice q l.length d))
  have hlist4 : ListP (fun b => w0.heap.size ≤ b) q d l _ := hlist3.same (((((((SameB.refl _ _).set (B := w.heap.size + 1) hXR 0 (.string m)).set (B := w.heap.size + 1) hXR 1 (.int .i64 k)).set (B := w.heap.size + 1) hXR 2 (.int .i64 n)).set (B := w.heap.size + 1) hXR 3 (.string t)).set (B := w.heap.size + 1) hXR 4 (.slice q l.length d)))
  go_wp2
  generalize World.setCell _ _ _ = w4 at zB4 hb4 hlist4 ⊢
  have s0 : w4.cell? ⟨w.heap.size + 1, 0, none⟩ = some (.string m) := by rw [Lib.cell_of_heap zB4]; rfl
  have s1 : w4.cell? ⟨w.heap.size + 1, 1, none⟩ = some (.int .i64 k) := by rw [Lib.cell_of_heap zB4]; rfl
  have s2 : w4.cell? ⟨w.heap.size + 1, 2, none⟩ = some (.int .i64 n) := by rw [Lib.cell_of_heap zB4]; rfl
  have s3 : w4.cell? ⟨w.heap.size + 1, 3, none⟩ = some (.string t) := by rw [Lib.cell_of_heap zB4]; rfl
  have s4 : w4.cell? ⟨w.heap.size + 1, 4, none⟩ = some (.slice q l.length d) := by rw [Lib.cell_of_heap zB4]; rfl
  refine bodyPost_ret (v := .agg #[.string m, .int .i64 k, .int .i64 n, .string t, .slice q l.length d]) (by simp [results, Tryd.results54, go_sem, s0, s1, s2, s3, s4]) rfl ⟨⟨q, d, rfl, hlist4.mono (fun b _ hb => by omega)⟩, hb4⟩
end Go.Proofs.YtcbnefeedoabeaaDoor
/- Copies of a list of attributes and of a context. -/
namespace Go.Proofs.YtcbnefeedoabeaaDoor
open Go Go.RowKit

/-- A whole attribute is stored, of which only the list's place may be another. -/
theorem GRow.put5 {P : Nat → Prop} {es : List AEl} {B g n cap : Nat} {w : World} (h : GRow eltA P es B (.slice (some ⟨g, 0, none⟩) n cap) w) (i : Nat) (hi : i < es.length) (q : Option Addr) (d : Nat) (hok : ListP (fun b => P b ∧ g ≠ b) q d es[i].a.val.list w) :
    GRow eltA P (es.set i ⟨es[i].a, q, d⟩) B (.slice (some ⟨g, 0, none⟩) n cap) (((((w.setCell ⟨g, i * 5, none⟩ (.string es[i].a.name)).setCell ⟨g, i * 5 + 1, none⟩ (.int .i64 es[i].a.val.kind)).setCell ⟨g, i * 5 + 2, none⟩ (.int .i64 es[i].a.val.num)).setCell ⟨g, i * 5 + 3, none⟩ (.string es[i].a.val.text)).setCell ⟨g, i * 5 + 4, none⟩ (.slice q (es[i].a.val.list.length : Nat) d)) := by
  have hob : ∀ b, (Value.slice (some ⟨g, 0, none⟩) n cap).ownBlock ≠ some b → g ≠ b := fun b hb e => hb (by rw [← e]; rfl)
  have hok0 : ListP (fun b => P b ∧ g ≠ b) es[i].p es[i].c es[i].a.val.list w := ListP.mono (h.ok es[i] (List.getElem_mem hi)) fun b _ hb => ⟨hb.1, hob b hb.2⟩
  have s1 : SameB (fun b => P b ∧ g ≠ b) w (w.setCell ⟨g, i * 5, none⟩ (.string es[i].a.name)) := (SameB.refl _ w).set (fun hb => hb.2 rfl) _ _
  have s2 := s1.set (B := g) (fun hb => hb.2 rfl) (i * 5 + 1) (.int .i64 es[i].a.val.kind)
  have s3 := s2.set (B := g) (fun hb => hb.2 rfl) (i * 5 + 2) (.int .i64 es[i].a.val.num)
  have s4 := s3.set (B := g) (fun hb => hb.2 rfl) (i * 5 + 3) (.string es[i].a.val.text)
  have h1 := GRow.put h i hi 0 (by decide) (.string es[i].a.name) es[i] rfl hok0
  rw [List.set_getElem_self] at h1
  have h2 := GRow.put h1 i hi 1 (by decide) (.int .i64 es[i].a.val.kind) es[i] rfl (hok0.same s1)
  rw [List.set_getElem_self] at h2
  have h3 := GRow.put h2 i hi 2 (by decide) (.int .i64 es[i].a.val.num) es[i] rfl (hok0.same s2)
  rw [List.set_getElem_self] at h3
  have h4 := GRow.put h3 i hi 3 (by decide) (.string es[i].a.val.text) es[i] rfl (hok0.same s3)
  rw [List.set_getElem_self] at h4
  exact GRow.put h4 i hi 4 (by decide) (.slice q (es[i].a.val.list.length : Nat) d) ⟨es[i].a, q, d⟩ rfl (hok.same s4)
/-- What the loop of a copy holds. -/
structure Copying (fs : List AEl) (B n cap : Nat) (q : Option Addr) (w : World) (m : Nat) (es : List AEl) (wr : World) : Prop where
  row : GRow eltA (fun _ => True) es B (.slice q n cap) wr
  same : es.map AEl.a = fs.map AEl.a
  done : ∀ j (hj : j < es.length), j < m → ListP (fun b => w.heap.size ≤ b ∧ (Value.slice q n cap).ownBlock ≠ some b) es[j].p es[j].c es[j].a.val.list wr
  below : Below w.heap.size w wr
set_option linter.unusedSimpArgs false in
set_option linter.unusedVariables false in
set_option maxHeartbeats 8000000 in
set_option maxRecDepth 100000 in
theorem copyEachA_any {P : Nat → Prop} (p : Option Addr) (c : Nat) (fs : List AEl) (w : World) (hE : ElsAt eltA P p c fs w) (hl : fs.length ≤ 1000) (hlist : ∀ e ∈ fs, e.a.val.list.length ≤ 8796093022207) :
    Calls Tryd.prog 53 #[.slice p (fs.length : Nat) c, .func (.func 54) #[] #[]] w fun e w' => (∃ (q : Option Addr), e = .returned (.slice q fs.length fs.length) ∧ AttrsP (fun b => w.heap.size ≤ b) q fs.length (fs.map AEl.a) w') ∧ Below w.heap.size w w' := by
  have hcl := Lib.hid (cloneA_any p c fs w hE hl)
  replace hlist := Lib.hid hlist
  clear hE
  go_enter Tryd.func53, Tryd.ntmps53
  go_wp2_with (first
    | (go_at_call 73; refine hcl.out.mono ?_; rintro e w1 ⟨⟨v1, rfl, hrow1⟩, hb1⟩; obtain ⟨q, cap, rfl, -, -, -, -⟩ := hrow1.form; have hnc := hrow1.nilcap; have hcp := Lib.hid (clipA_any q fs.length cap w1 hnc.2.1 hnc.2.2.1 hnc.2.2.2))
    | (go_at_call 72; refine hcp.out.mono ?_; rintro e w2 ⟨rfl, hb2⟩))
  have hst : Copying fs w.heap.size fs.length cap q w 0 fs w2 := ⟨(hrow1.below hb2).mono fun _ _ _ => trivial, rfl, fun j _ hj => by omega, hb1.trans (hb2.mono hb1.size)⟩
  obtain ⟨n, hn⟩ : ∃ n, fs.length = n := ⟨_, rfl⟩
  rw [hn] at hst hl ⊢
  replace hn := Lib.hid hn
  clear hrow1 hnc hcp hcl hb1 hb2
  go_loopw [6, 7, 13] (fun _ _ i wr => ∃ m : Nat, m ≤ n ∧ i = .int .i64 m ∧ ∃ es, Copying fs w.heap.size n cap q w m es wr) (fun _ _ i _ => n - (intOf i).toNat)
  case atStart => exact ⟨0, Nat.zero_le _, rfl, _, hst⟩
  case round =>
    obtain ⟨m, hm, rfl, es, hC⟩ := hrel
    clear hst
    have hlen : es.length = n := by have := congrArg List.length hC.same; simpa [hn.out] using this
    by_cases hlt : m < n
    · have hmI : (m : Int) < (n : Int) := by omega
      have h0I : (0 : Int) ≤ (m : Int) := by omega
      have hme : m < es.length := by omega
      obtain ⟨g, cap', hv⟩ := hC.row.addr (by omega)
      injection hv with e1 e2 e3
      subst e1
      clear e2
      have d0 : wr.cell? ⟨g, m * 5, none⟩ = some (.string es[m].a.name) := own_cell (E := eltA) hC.row.own m hme 0 (by decide)
      have d1 : wr.cell? ⟨g, m * 5 + 1, none⟩ = some (.int .i64 es[m].a.val.kind) := own_cell (E := eltA) hC.row.own m hme 1 (by decide)
      have d2 : wr.cell? ⟨g, m * 5 + 2, none⟩ = some (.int .i64 es[m].a.val.num) := own_cell (E := eltA) hC.row.own m hme 2 (by decide)
      have d3 : wr.cell? ⟨g, m * 5 + 3, none⟩ = some (.string es[m].a.val.text) := own_cell (E := eltA) hC.row.own m hme 3 (by decide)
      have d4 : wr.cell? ⟨g, m * 5 + 4, none⟩ = some (.slice es[m].p (es[m].a.val.list.length : Nat) es[m].c) := own_cell (E := eltA) hC.row.own m hme 4 (by decide)
      obtain ⟨e0, he0⟩ : ∃ e0, es[m] = e0 := ⟨_, rfl⟩
      rw [he0] at d0 d1 d2 d3 d4
      have hme' := hme
      have he0' : es[m]'hme' = e0 := he0
      replace he0 := Lib.hid he0'
      replace hlen := Lib.hid hlen
      clear he0'
      have hbX := fun o => (Below.refl wr.heap.size wr).alloc (Nat.le_refl _) o
      replace hbX := Lib.hid hbX
      have hl0 : e0.a.val.list.length ≤ 8796093022207 := by
        have h1 : es[m].a ∈ fs.map AEl.a := by rw [← hC.same]; exact List.mem_map_of_mem (List.getElem_mem hme')
        have he9 := he0.out
        rw [he9] at h1
        obtain ⟨f, hf, hfe⟩ := List.mem_map.1 h1
        rw [← hfe]
        exact hlist.out f hf
      have hX := (Below.refl wr.heap.size wr).alloc (Nat.le_refl _) (.cells #[.string e0.a.name, .int .i64 e0.a.val.kind, .int .i64 e0.a.val.num, .string e0.a.val.text, .slice e0.p (e0.a.val.list.length : Nat) e0.c] 62)
      have hrowX := hC.row.below hX
      have hL0 : ListP (fun _ => True) e0.p e0.c e0.a.val.list (wr.alloc (.cells #[.string e0.a.name, .int .i64 e0.a.val.kind, .int .i64 e0.a.val.num, .string e0.a.val.text, .slice e0.p (e0.a.val.list.length : Nat) e0.c] 62)) := by
        have h1 := hrowX.ok es[m] (List.getElem_mem hme')
        rw [he0.out] at h1
        exact ListP.mono h1 fun _ _ _ => trivial
      have hcp := Lib.hid (copyAttribute_any e0.a e0.p e0.c _ hL0 hl0)
      have hX : Hid (Below wr.heap.size wr (wr.alloc (.cells #[.string e0.a.name, .int .i64 e0.a.val.kind, .int .i64 e0.a.val.num, .string e0.a.val.text, .slice e0.p (e0.a.val.list.length : Nat) e0.c] 62))) := Lib.hid hX
      have hgr := (hC.row.lt g rfl).2
      clear e3 hL0 hl0 hbX
      go_upto_region 6 with (go_at_call 54; refine hcp.out.mono ?_; rintro e w2 ⟨⟨q', d', rfl, hq⟩, hb2⟩; have hb02 := hX.out.trans (hb2.mono hX.out.size); have a0 := (hb02.cell (p := ⟨g, m * 5, none⟩) hgr).trans d0; have a1 := (hb02.cell (p := ⟨g, m * 5 + 1, none⟩) hgr).trans d1; have a2 := (hb02.cell (p := ⟨g, m * 5 + 2, none⟩) hgr).trans d2; have a3 := (hb02.cell (p := ⟨g, m * 5 + 3, none⟩) hgr).trans d3; have a4 := (hb02.cell (p := ⟨g, m * 5 + 4, none⟩) hgr).trans d4; have af : ∀ i, w2.frozen? ⟨g, i, none⟩ = false := own_free (hC.row.below hb02).own)
      have hrow2 := hC.row.below hb02
      have hXs := hX.out.size
      have hq2 : ListP (fun b => True ∧ g ≠ b) q' d' es[m].a.val.list w2 := by
        rw [he0.out]
        exact ListP.mono hq fun b _ hb => ⟨trivial, by omega⟩
      have hput := hrow2.put5 m hme' q' d' hq2
      have hsm : ∀ (B : Nat), SameB (fun b => B ≤ b ∧ g ≠ b) w2 (((((w2.setCell ⟨g, m * 5, none⟩ (.string es[m].a.name)).setCell ⟨g, m * 5 + 1, none⟩ (.int .i64 es[m].a.val.kind)).setCell ⟨g, m * 5 + 2, none⟩ (.int .i64 es[m].a.val.num)).setCell ⟨g, m * 5 + 3, none⟩ (.string es[m].a.val.text)).setCell ⟨g, m * 5 + 4, none⟩ (.slice q' (es[m].a.val.list.length : Nat) d')) := fun B =>
        (((((SameB.refl _ w2).set (B := g) (fun hb => hb.2 rfl) _ _).set (B := g) (fun hb => hb.2 rfl) _ _).set (B := g) (fun hb => hb.2 rfl) _ _).set (B := g) (fun hb => hb.2 rfl) _ _).set (B := g) (fun hb => hb.2 rfl) _ _
      have hbg := (hC.row.lt g rfl).1
      have hbl2 := (((((hC.below.trans (hb02.mono hC.below.size)).setCell (p := ⟨g, m * 5, none⟩) hbg (.string es[m].a.name)).setCell (p := ⟨g, m * 5 + 1, none⟩) hbg (.int .i64 es[m].a.val.kind)).setCell (p := ⟨g, m * 5 + 2, none⟩) hbg (.int .i64 es[m].a.val.num)).setCell (p := ⟨g, m * 5 + 3, none⟩) hbg (.string es[m].a.val.text)).setCell (p := ⟨g, m * 5 + 4, none⟩) hbg (.slice q' (es[m].a.val.list.length : Nat) d')
      have hC2 : Copying fs w.heap.size n cap (some ⟨g, 0, none⟩) w (m + 1) (es.set m ⟨es[m].a, q', d'⟩) _ := ⟨hput, by
        rw [List.map_set, ← hC.same]
        apply List.ext_getElem
        · simp
        · intro j h1 h2
          rw [List.getElem_set]
          split
          · next h => subst h; simp
          · rfl, fun j hj hjm => by
        have hj' : j < es.length := by rw [List.length_set] at hj; exact hj
        have hg2 : ∀ b, g ≠ b → (Value.slice (some ⟨g, 0, none⟩) n cap).ownBlock ≠ some b := fun b hb e => hb (by injection e)
        by_cases hjm2 : j = m
        · subst hjm2
          simp only [List.getElem_set_self]
          have h1 : ListP (fun b => w.heap.size ≤ b ∧ g ≠ b) q' d' es[j].a.val.list w2 := by
            rw [he0.out]
            exact ListP.mono hq fun b _ hb => by have := hC.below.size; exact ⟨by omega, by omega⟩
          exact (h1.same (hsm _)).mono fun b _ hb => ⟨hb.1, hg2 b hb.2⟩
        · rw [show (es.set m ⟨es[m].a, q', d'⟩)[j] = es[j] from by rw [List.getElem_set]; exact if_neg (by omega)]
          have h1 := hC.done j hj' (by omega)
          have h2 : ListP (fun b => w.heap.size ≤ b ∧ g ≠ b) es[j].p es[j].c es[j].a.val.list w2 := (h1.same (SameB.of_below hb02)).mono fun b _ hb => ⟨hb.1, fun e => hb.2 (by rw [← e]; rfl)⟩
          exact (h2.same (hsm _)).mono fun b _ hb => ⟨hb.1, hg2 b hb.2⟩, hbl2⟩
      rw [he0.out] at hC2
      generalize World.setCell _ _ _ = w3 at hC2 ⊢
      go_wp2
      go_roundw
      case rel => exact ⟨m + 1, by omega, by go_num, _, hC2⟩
      case measure => simp [intOf]; omega
    · obtain rfl : m = n := by omega
      have hltI : ¬ (m : Int) < (m : Int) := by omega
      have hfin : AttrsP (fun b => w.heap.size ≤ b) q fs.length (fs.map AEl.a) wr := by
        have hrow : GRow eltA (fun b => w.heap.size ≤ b) es w.heap.size (.slice q m cap) wr := ⟨hC.row.own, fun e he => by
          obtain ⟨j, hj, rfl⟩ := List.getElem_of_mem he
          exact hC.done j hj (by omega)⟩
        obtain ⟨a0, cap', hv, hat⟩ := hrow.attrs
        injection hv with e1 e2 e3
        subst e1
        rw [hC.same] at hat
        refine ⟨fun hq => ?_, by simp, fun i hi => ?_⟩
        · have h1 : fs.map AEl.a = [] := by
            cases hf : fs.map AEl.a with
            | nil => rfl
            | cons e t =>
              obtain ⟨b, off, e1, _⟩ := hat.at_ 0 (by rw [hf]; simp)
              rw [hq] at e1
              cases e1
          have := congrArg List.length h1
          simpa using this
        · have h2 := (hat.mono (Q := fun b => w.heap.size ≤ b) fun b _ hb => hb.elim id fun e => (hrow.lt b e).1).at_ i hi
          exact h2
      have hbl := hC.below
      clear hC hlist hlen
      go_wp2
      go_ret
      exact ⟨⟨q, by rw [hn.out]; rfl, hfin⟩, hbl⟩
set_option linter.unusedSimpArgs false in
set_option linter.unusedVariables false in
set_option maxHeartbeats 4000000 in
set_option maxRecDepth 100000 in
theorem copyContext_any {P : Nat → Prop} (x : Ctx) (p : Option Addr) (c : Nat) (w : World) (hA : AttrsP P p c x.attrs w) (hl : x.attrs.length ≤ 1000) (hlist : ∀ a ∈ x.attrs, a.val.list.length ≤ 8796093022207) :
    Calls Tryd.prog 33 #[.agg #[.string x.kind, .string x.key, .slice p (x.attrs.length : Nat) c]] w fun e w' => (∃ (q : Option Addr), e = .returned (.agg #[.string x.kind, .string x.key, .slice q x.attrs.length x.attrs.length]) ∧ AttrsP (fun b => w.heap.size ≤ b) q x.attrs.length x.attrs w') ∧ Below w.heap.size w w' := by
  obtain ⟨m, k, l⟩ := x
  simp only at hA hl hlist ⊢
  have hbA := (Below.refl w.heap.size w).alloc (Nat.le_refl _) (.cells #[.string m, .string k, .slice p (l.length : Nat) c] 40)
  have hbB := hbA.alloc hbA.size (.cells #[.string ⟨#[]⟩, .string ⟨#[]⟩, .slice none 0 0] 40)
  have hzA : ((w.alloc (.cells #[.string m, .string k, .slice p (l.length : Nat) c] 40)).alloc (.cells #[.string ⟨#[]⟩, .string ⟨#[]⟩, .slice none 0 0] 40)).heap[w.heap.size]? = some (.cells #[.string m, .string k, .slice p (l.length : Nat) c] 40 (0, 0)) := (Lib.alloc_old _ _ _ (by simp)).trans (heap_alloc_new w _)
  have hzB : ((w.alloc (.cells #[.string m, .string k, .slice p (l.length : Nat) c] 40)).alloc (.cells #[.string ⟨#[]⟩, .string ⟨#[]⟩, .slice none 0 0] 40)).heap[w.heap.size + 1]? = some (.cells #[.string ⟨#[]⟩, .string ⟨#[]⟩, .slice none 0 0] 40 (0, 0)) := by
    have := heap_alloc_new (w.alloc (.cells #[.string m, .string k, .slice p (l.length : Nat) c] 40)) (.cells #[.string ⟨#[]⟩, .string ⟨#[]⟩, .slice none 0 0] 40)
    simpa using this
  have hs0 : ((w.alloc (.cells #[.string m, .string k, .slice p (l.length : Nat) c] 40)).alloc (.cells #[.string ⟨#[]⟩, .string ⟨#[]⟩, .slice none 0 0] 40)).heap.size = w.heap.size + 2 := by simp
  go_enter Tryd.func33, Tryd.ntmps33
  go_upto_region 1 with (fail)
  generalize ((w.alloc (.cells #[.string m, .string k, .slice p (l.length : Nat) c] 40)).alloc (.cells #[.string ⟨#[]⟩, .string ⟨#[]⟩, .slice none 0 0] 40)) = w0 at hbB hzA hzB hs0 ⊢
  obtain ⟨fs, hfs, hels⟩ := (hA.same (SameB.of_below hbB)).els
  have hcl := copyEachA_any p c fs w0 hels (by rw [← hfs, List.length_map] at hl; exact hl) (fun e he => hlist e.a (by rw [← hfs]; exact List.mem_map_of_mem he))
  rw [← List.length_map (f := AEl.a), hfs] at hcl
  clear hfs
  replace hcl := Lib.hid hcl
  have c0 : w0.cell? ⟨w.heap.size, 0, none⟩ = some (.string m) := by rw [Lib.cell_of_heap hzA]; rfl
  have c1 : w0.cell? ⟨w.heap.size, 1, none⟩ = some (.string k) := by rw [Lib.cell_of_heap hzA]; rfl
  have c2 : w0.cell? ⟨w.heap.size, 2, none⟩ = some (.slice p l.length c) := by rw [Lib.cell_of_heap hzA]; rfl
  clear hbA hA hl hlist hels
  go_upto_region 2 with (go_at_call 53; refine hcl.out.mono ?_; rintro e w2 ⟨⟨q, rfl, hlist⟩, hb2⟩; have zA2 := (hb2.block w.heap.size (by omega)).trans hzA; have zB2 := (hb2.block (w.heap.size + 1) (by omega)).trans hzB; have a0 : w2.cell? ⟨w.heap.size, 0, none⟩ = some (.string m) := (by rw [Lib.cell_of_heap zA2]; rfl); have a1 : w2.cell? ⟨w.heap.size, 1, none⟩ = some (.string k) := (by rw [Lib.cell_of_heap zA2]; rfl); have a2 : w2.cell? ⟨w.heap.size, 2, none⟩ = some (.slice p l.length c) := (by rw [Lib.cell_of_heap zA2]; rfl); have af : ∀ i, w2.frozen? ⟨w.heap.size, i, none⟩ = false := Lib.frozen_of_heap zA2)
  have zA3 : (w2.setCell ⟨w.heap.size, 2, none⟩ (.slice q l.length l.length)).heap[w.heap.size]? = some (.cells #[.string m, .string k, .slice q l.length l.length] 40 (0, 0)) := (box_put zA2 _)
  have zB3 : (w2.setCell ⟨w.heap.size, 2, none⟩ (.slice q l.length l.length)).heap[w.heap.size + 1]? = some (.cells #[.string ⟨#[]⟩, .string ⟨#[]⟩, .slice none 0 0] 40 (0, 0)) := by
    rw [Below.heap_setCell _ _ _ _ (by show w.heap.size + 1 ≠ w.heap.size; omega)]
    exact zB2
  have hXA : ¬ (w0.heap.size ≤ w.heap.size) := by omega
  have hXR : ¬ (w0.heap.size ≤ w.heap.size + 1) := by omega
  have hb3 := ((hbB.trans (hb2.mono (by omega))).setCell (p := ⟨w.heap.size, 2, none⟩) (Nat.le_refl _) (.slice q l.length l.length))
  have hlist3 : AttrsP (fun b => w0.heap.size ≤ b) q l.length l _ := hlist.same (((SameB.refl _ _).set (B := w.heap.size) hXA 2 (.slice q l.length l.length)))
  generalize (w2.setCell ⟨w.heap.size, 2, none⟩ (.slice q l.length l.length)) = w3 at zA3 zB3 hb3 hlist3 ⊢
  clear a0 a1 a2 af zA2 zB2 hzA hzB hb2 hcl hlist c0 c1 c2 hbB
  have a0 : w3.cell? ⟨w.heap.size, 0, none⟩ = some (.string m) := by rw [Lib.cell_of_heap zA3]; rfl
  have a1 : w3.cell? ⟨w.heap.size, 1, none⟩ = some (.string k) := by rw [Lib.cell_of_heap zA3]; rfl
  have a2 : w3.cell? ⟨w.heap.size, 2, none⟩ = some (.slice q l.length l.length) := by rw [Lib.cell_of_heap zA3]; rfl
  have r0 : w3.cell? ⟨w.heap.size + 1, 0, none⟩ = some (.string ⟨#[]⟩) := by rw [Lib.cell_of_heap zB3]; rfl
  have r1 : w3.cell? ⟨w.heap.size + 1, 1, none⟩ = some (.string ⟨#[]⟩) := by rw [Lib.cell_of_heap zB3]; rfl
  have r2 : w3.cell? ⟨w.heap.size + 1, 2, none⟩ = some (.slice none 0 0) := by rw [Lib.cell_of_heap zB3]; rfl
  have rf : ∀ i, w3.frozen? ⟨w.heap.size + 1, i, none⟩ = false := Lib.frozen_of_heap zB3
  have zB4 : (((w3.setCell ⟨w.heap.size + 1, 0, none⟩ (.string m)).setCell ⟨w.heap.size + 1, 1, none⟩ (.string k)).setCell ⟨w.heap.size + 1, 2, none⟩ (.slice q l.length l.length)).heap[w.heap.size + 1]? = some (.cells #[.string m, .string k, .slice q l.length l.length] 40 (0, 0)) := (box_put (box_put (box_put zB3 _) _) _)
  have hb4 := (((hb3.setCell (p := ⟨w.heap.size + 1, 0, none⟩) (Nat.le_succ _) (.string m)).setCell (p := ⟨w.heap.size + 1, 1, none⟩) (Nat.le_succ _) (.string k)).setCell (p := ⟨w.heap.size + 1, 2, none⟩) (Nat.le_succ _) (.slice q l.length l.length))
  have hlist4 : AttrsP (fun b => w0.heap.size ≤ b) q l.length l _ := hlist3.same (((((SameB.refl _ _).set (B := w.heap.size + 1) hXR 0 (.string m)).set (B := w.heap.size + 1) hXR 1 (.string k)).set (B := w.heap.size + 1) hXR 2 (.slice q l.length l.length)))
  go_wp2
  generalize World.setCell _ _ _ = w4 at zB4 hb4 hlist4 ⊢
  have s0 : w4.cell? ⟨w.heap.size + 1, 0, none⟩ = some (.string m) := by rw [Lib.cell_of_heap zB4]; rfl
  have s1 : w4.cell? ⟨w.heap.size + 1, 1, none⟩ = some (.string k) := by rw [Lib.cell_of_heap zB4]; rfl
  have s2 : w4.cell? ⟨w.heap.size + 1, 2, none⟩ = some (.slice q l.length l.length) := by rw [Lib.cell_of_heap zB4]; rfl
  refine bodyPost_ret (v := .agg #[.string m, .string k, .slice q l.length l.length]) (by simp [results, Tryd.results33, go_sem, s0, s1, s2]) rfl ⟨⟨q, rfl, hlist4.mono (fun b _ hb => by omega)⟩, hb4⟩
end Go.Proofs.YtcbnefeedoabeaaDoor
/- Find: the first context of a kind. -/
namespace Go.Proofs.YtcbnefeedoabeaaDoor
open Go Go.RowKit

def noC : Ctx := ⟨⟨#[]⟩, ⟨#[]⟩, []⟩
/-- The first context of a kind, and whether there is one. -/
def foundC (kd : ByteArray) (l : List Ctx) : Ctx × Bool :=
  match findK kd l with
  | none => (noC, false)
  | some i => (l.getD i noC, true)
theorem foundC_none {kd : ByteArray} {l : List Ctx} (h : findK kd l = none) : foundC kd l = (noC, false) := by unfold foundC; rw [h]
theorem foundC_some {kd : ByteArray} {l : List Ctx} {n : Nat} (h : findK kd l = some n) (hn : n < l.length) : foundC kd l = (l[n], true) := by
  unfold foundC
  rw [h]
  simp [List.getD, hn]
/-- What both Find's answer. -/
def FoundAt (Q : Nat → Prop) (kd : ByteArray) (l : List Ctx) (e : Ending) (w' : World) : Prop := ∃ (q : Option Addr) (d : Nat), e = .returned (.tuple #[.agg #[.string (foundC kd l).1.kind, .string (foundC kd l).1.key, .slice q ((foundC kd l).1.attrs.length : Nat) d], .bool (foundC kd l).2]) ∧ AttrsP Q q d (foundC kd l).1.attrs w'
set_option linter.unusedSimpArgs false in
set_option linter.unusedVariables false in
set_option maxHeartbeats 4000000 in
set_option maxRecDepth 100000 in
theorem find_any {P : Nat → Prop} (a0 : Option Addr) (cp : Nat) (l : List Ctx) (kd : ByteArray) (w : World) (hA : CtxsP P a0 cp l w) (hl : l.length ≤ 9223372036854775000) (hf : ∀ x ∈ l, x.attrs.length ≤ 1000 ∧ ∀ a ∈ x.attrs, a.val.list.length ≤ 8796093022207) :
    Calls Tryd.prog 14 #[.agg #[.slice a0 (l.length : Nat) cp], .string kd] w fun e w' => FoundAt (fun b => w.heap.size ≤ b) kd l e w' ∧ Below w.heap.size w w' := by
  have hbA := (Below.refl w.heap.size w).alloc (Nat.le_refl _) (.cells #[.slice a0 (l.length : Nat) cp] 24)
  have hbB := hbA.alloc hbA.size (.cells #[.string ⟨#[]⟩, .string ⟨#[]⟩, .slice none 0 0] 40)
  have hzA : ((w.alloc (.cells #[.slice a0 (l.length : Nat) cp] 24)).alloc (.cells #[.string ⟨#[]⟩, .string ⟨#[]⟩, .slice none 0 0] 40)).heap[w.heap.size]? = some (.cells #[.slice a0 (l.length : Nat) cp] 24 (0, 0)) := (Lib.alloc_old _ _ _ (by simp)).trans (heap_alloc_new w _)
  have hzB : ((w.alloc (.cells #[.slice a0 (l.length : Nat) cp] 24)).alloc (.cells #[.string ⟨#[]⟩, .string ⟨#[]⟩, .slice none 0 0] 40)).heap[w.heap.size + 1]? = some (.cells #[.string ⟨#[]⟩, .string ⟨#[]⟩, .slice none 0 0] 40 (0, 0)) := by
    have := heap_alloc_new (w.alloc (.cells #[.slice a0 (l.length : Nat) cp] 24)) (.cells #[.string ⟨#[]⟩, .string ⟨#[]⟩, .slice none 0 0] 40)
    simpa using this
  have hs0 : ((w.alloc (.cells #[.slice a0 (l.length : Nat) cp] 24)).alloc (.cells #[.string ⟨#[]⟩, .string ⟨#[]⟩, .slice none 0 0] 40)).heap.size = w.heap.size + 2 := by simp
  go_enter Tryd.func14, Tryd.ntmps14
  go_upto_region 1 with (fail)
  generalize ((w.alloc (.cells #[.slice a0 (l.length : Nat) cp] 24)).alloc (.cells #[.string ⟨#[]⟩, .string ⟨#[]⟩, .slice none 0 0] 40)) = w0 at hbB hzA hzB hs0 ⊢
  have hAk : CtxsP (fun b => P b ∧ b < w.heap.size) a0 cp l w := hA.mono fun b hb h => ⟨h, hb⟩
  have hA0 := hAk.same (SameB.of_below hbB)
  have hix := Lib.hid (contextIndex_any a0 cp l kd w0 hA0 hl)
  have c0 : w0.cell? ⟨w.heap.size, 0, none⟩ = some (.slice a0 l.length cp) := by rw [Lib.cell_of_heap hzA]; rfl
  clear hbA
  cases hk : findK kd l with
  | none =>
    rw [hk] at hix
    have hfd := Lib.hid (foundC_none hk)
    clear hk hf hl
    go_upto_region 3 with (go_at_call 32; refine hix.out.mono ?_; rintro e w1 ⟨rfl, hb1⟩; have zB1 := (hb1.block (w.heap.size + 1) (by omega)).trans hzB)
    have zB1' := zB1
    have r0 : w1.cell? ⟨w.heap.size + 1, 0, none⟩ = some (.string ⟨#[]⟩) := by rw [Lib.cell_of_heap zB1]; rfl
    have r1 : w1.cell? ⟨w.heap.size + 1, 1, none⟩ = some (.string ⟨#[]⟩) := by rw [Lib.cell_of_heap zB1]; rfl
    have r2 : w1.cell? ⟨w.heap.size + 1, 2, none⟩ = some (.slice none 0 0) := by rw [Lib.cell_of_heap zB1]; rfl
    have rf : ∀ i, w1.frozen? ⟨w.heap.size + 1, i, none⟩ = false := Lib.frozen_of_heap zB1
    have zB4 : (((w1.setCell ⟨w.heap.size + 1, 0, none⟩ (.string ⟨#[]⟩)).setCell ⟨w.heap.size + 1, 1, none⟩ (.string ⟨#[]⟩)).setCell ⟨w.heap.size + 1, 2, none⟩ (.slice none 0 0)).heap[w.heap.size + 1]? = some (.cells #[.string ⟨#[]⟩, .string ⟨#[]⟩, .slice none 0 0] 40 (0, 0)) := (box_put (box_put (box_put zB1 _) _) _)
    have hb4 := ((((hbB.trans (hb1.mono (by omega))).setCell (p := ⟨w.heap.size + 1, 0, none⟩) (Nat.le_succ _) (.string ⟨#[]⟩)).setCell (p := ⟨w.heap.size + 1, 1, none⟩) (Nat.le_succ _) (.string ⟨#[]⟩)).setCell (p := ⟨w.heap.size + 1, 2, none⟩) (Nat.le_succ _) (.slice none 0 0))
    go_wp2
    generalize World.setCell _ _ _ = w4 at zB4 hb4 ⊢
    have s0 : w4.cell? ⟨w.heap.size + 1, 0, none⟩ = some (.string ⟨#[]⟩) := by rw [Lib.cell_of_heap zB4]; rfl
    have s1 : w4.cell? ⟨w.heap.size + 1, 1, none⟩ = some (.string ⟨#[]⟩) := by rw [Lib.cell_of_heap zB4]; rfl
    have s2 : w4.cell? ⟨w.heap.size + 1, 2, none⟩ = some (.slice none 0 0) := by rw [Lib.cell_of_heap zB4]; rfl
    refine bodyPost_ret (v := .tuple #[.agg #[.string ⟨#[]⟩, .string ⟨#[]⟩, .slice none 0 0], .bool false]) (by simp [results, Tryd.results14, go_sem, s0, s1, s2]) rfl ⟨⟨none, 0, by rw [hfd.out]; rfl, by rw [hfd.out]; exact ⟨fun _ => rfl, Nat.zero_le _, fun i hi => by simp [noC] at hi⟩⟩, hb4⟩
  | some n =>
    have hnl := findK_lt hk
    have hfd := Lib.hid (foundC_some hk hnl)
    rw [hk] at hix
    clear hk
    obtain ⟨hfx1, hfx2⟩ := hf l[n] (List.getElem_mem hnl)
    have hnI : ¬ (n : Int) < 0 := by omega
    have hnI2 : (n : Int) < (l.length : Int) := by omega
    have hnI3 : (0 : Int) ≤ (n : Int) := by omega
    obtain ⟨b, off, rfl, hPb, hbk, hat⟩ := hA0.at_ n hnl
    have hbw : b < w.heap.size := hPb.2
    obtain ⟨x, hx⟩ : ∃ x, l[n] = x := ⟨_, rfl⟩
    rw [hx] at hat hfd hfx1 hfx2
    obtain ⟨q0, q1, pp, cc, q2, q5⟩ := hat
    have hix2 : Hid (Calls Tryd.prog 32 #[.agg #[.slice (some ⟨b, off, none⟩) (l.length : Nat) cp], .string kd] w0 fun e w' => e = .returned (.int .i64 (n : Int)) ∧ Below w0.heap.size w0 w') := hix
    replace hx := Lib.hid hx
    clear hx hix hA hAk hA0 hf hnl hl
    go_upto_region 4 with (go_at_call 32; refine hix2.out.mono ?_; rintro e w1 ⟨rfl, hb1⟩)
    have hcp := Lib.hid (copyContext_any x pp cc w1 (q5.same (SameB.of_below hb1)) hfx1 hfx2)
    have zB1 := (hb1.block (w.heap.size + 1) (by omega)).trans hzB
    have zA1 := (hb1.block w.heap.size (by omega)).trans hzA
    have c1 : w1.cell? ⟨w.heap.size, 0, none⟩ = some (.slice (some ⟨b, off, none⟩) l.length cp) := by rw [Lib.cell_of_heap zA1]; rfl
    have p0 := (hb1.cell (p := ⟨b, off + n * 3, none⟩) hbk).trans q0
    have p1 := (hb1.cell (p := ⟨b, off + n * 3 + 1, none⟩) hbk).trans q1
    have p2 := (hb1.cell (p := ⟨b, off + n * 3 + 2, none⟩) hbk).trans q2
    have hs1 := hb1.size
    clear hfx1 hfx2
    go_wp2_with (go_at_call 33; refine hcp.out.mono ?_; rintro e w2 ⟨⟨q, rfl, hq⟩, hb2⟩; have zB2 := (hb2.block (w.heap.size + 1) (by omega)).trans zB1; have r0 : w2.cell? ⟨w.heap.size + 1, 0, none⟩ = some (.string ⟨#[]⟩) := (by rw [Lib.cell_of_heap zB2]; rfl); have r1 : w2.cell? ⟨w.heap.size + 1, 1, none⟩ = some (.string ⟨#[]⟩) := (by rw [Lib.cell_of_heap zB2]; rfl); have r2 : w2.cell? ⟨w.heap.size + 1, 2, none⟩ = some (.slice none 0 0) := (by rw [Lib.cell_of_heap zB2]; rfl); have rf : ∀ i, w2.frozen? ⟨w.heap.size + 1, i, none⟩ = false := Lib.frozen_of_heap zB2)
    have zB4 : (((w2.setCell ⟨w.heap.size + 1, 0, none⟩ (.string x.kind)).setCell ⟨w.heap.size + 1, 1, none⟩ (.string x.key)).setCell ⟨w.heap.size + 1, 2, none⟩ (.slice q x.attrs.length x.attrs.length)).heap[w.heap.size + 1]? = some (.cells #[.string x.kind, .string x.key, .slice q x.attrs.length x.attrs.length] 40 (0, 0)) := (box_put (box_put (box_put zB2 _) _) _)
    have hb4 := ((((hbB.trans ((hb1.trans (hb2.mono hb1.size)).mono (by omega))).setCell (p := ⟨w.heap.size + 1, 0, none⟩) (Nat.le_succ _) (.string x.kind)).setCell (p := ⟨w.heap.size + 1, 1, none⟩) (Nat.le_succ _) (.string x.key)).setCell (p := ⟨w.heap.size + 1, 2, none⟩) (Nat.le_succ _) (.slice q x.attrs.length x.attrs.length))
    have hXR : ¬ (w1.heap.size ≤ w.heap.size + 1) := by omega
    have hq4 : AttrsP (fun b => w1.heap.size ≤ b) q x.attrs.length x.attrs _ := hq.same ((((SameB.refl _ _).set (B := w.heap.size + 1) hXR 0 (.string x.kind)).set (B := w.heap.size + 1) hXR 1 (.string x.key)).set (B := w.heap.size + 1) hXR 2 (.slice q x.attrs.length x.attrs.length))
    generalize World.setCell _ _ _ = w4 at zB4 hb4 hq4 ⊢
    have s0 : w4.cell? ⟨w.heap.size + 1, 0, none⟩ = some (.string x.kind) := by rw [Lib.cell_of_heap zB4]; rfl
    have s1 : w4.cell? ⟨w.heap.size + 1, 1, none⟩ = some (.string x.key) := by rw [Lib.cell_of_heap zB4]; rfl
    have s2 : w4.cell? ⟨w.heap.size + 1, 2, none⟩ = some (.slice q x.attrs.length x.attrs.length) := by rw [Lib.cell_of_heap zB4]; rfl
    refine bodyPost_ret (v := .tuple #[.agg #[.string x.kind, .string x.key, .slice q x.attrs.length x.attrs.length], .bool true]) (by simp [results, Tryd.results14, go_sem, s0, s1, s2]) rfl ⟨⟨q, x.attrs.length, by rw [hfd.out], by rw [hfd.out]; exact hq4.mono fun b _ hb => by omega⟩, hb4⟩
set_option linter.unusedSimpArgs false in
set_option linter.unusedVariables false in
set_option maxHeartbeats 4000000 in
set_option maxRecDepth 100000 in
theorem refFind_any {P : Nat → Prop} (a0 : Option Addr) (cp : Nat) (l : List Ctx) (kd : ByteArray) (w : World) (hA : CtxsP P a0 cp l w) (hl : l.length ≤ 9223372036854775000) :
    Calls Tryd.prog 15 #[.agg #[.slice a0 (l.length : Nat) cp], .string kd] w fun e w' => FoundAt (fun b => P b ∧ b < w.heap.size) kd l e w' ∧ Below w.heap.size w w' := by
  have hbA := (Below.refl w.heap.size w).alloc (Nat.le_refl _) (.cells #[.slice a0 (l.length : Nat) cp] 24)
  have hbB := hbA.alloc hbA.size (.cells #[.string ⟨#[]⟩, .string ⟨#[]⟩, .slice none 0 0] 40)
  have hzA : ((w.alloc (.cells #[.slice a0 (l.length : Nat) cp] 24)).alloc (.cells #[.string ⟨#[]⟩, .string ⟨#[]⟩, .slice none 0 0] 40)).heap[w.heap.size]? = some (.cells #[.slice a0 (l.length : Nat) cp] 24 (0, 0)) := (Lib.alloc_old _ _ _ (by simp)).trans (heap_alloc_new w _)
  have hzB : ((w.alloc (.cells #[.slice a0 (l.length : Nat) cp] 24)).alloc (.cells #[.string ⟨#[]⟩, .string ⟨#[]⟩, .slice none 0 0] 40)).heap[w.heap.size + 1]? = some (.cells #[.string ⟨#[]⟩, .string ⟨#[]⟩, .slice none 0 0] 40 (0, 0)) := by
    have := heap_alloc_new (w.alloc (.cells #[.slice a0 (l.length : Nat) cp] 24)) (.cells #[.string ⟨#[]⟩, .string ⟨#[]⟩, .slice none 0 0] 40)
    simpa using this
  have hs0 : ((w.alloc (.cells #[.slice a0 (l.length : Nat) cp] 24)).alloc (.cells #[.string ⟨#[]⟩, .string ⟨#[]⟩, .slice none 0 0] 40)).heap.size = w.heap.size + 2 := by simp
  go_enter Tryd.func15, Tryd.ntmps15
  go_upto_region 1 with (fail)
  generalize ((w.alloc (.cells #[.slice a0 (l.length : Nat) cp] 24)).alloc (.cells #[.string ⟨#[]⟩, .string ⟨#[]⟩, .slice none 0 0] 40)) = w0 at hbB hzA hzB hs0 ⊢
  have hAk : CtxsP (fun b => P b ∧ b < w.heap.size) a0 cp l w := hA.mono fun b hb h => ⟨h, hb⟩
  have hA0 := hAk.same (SameB.of_below hbB)
  clear hbA hA hAk
  go_wp2
  go_loopw [6] (fun i wr => ∃ n : Nat, n ≤ l.length ∧ i = .int .i64 n ∧ Below w0.heap.size w0 wr ∧ ∀ j (hj : j < l.length), j < n → isKind kd l[j] = false) (fun i _ => l.length - (intOf i).toNat)
  case atStart => exact ⟨0, Nat.zero_le _, rfl, Below.refl _ _, fun j _ hj => by omega⟩
  case round =>
    obtain ⟨n, hn, rfl, hbl, hno⟩ := hrel
    have zA := (hbl.block w.heap.size (by omega)).trans hzA
    have zB := (hbl.block (w.heap.size + 1) (by omega)).trans hzB
    have c0 : wr.cell? ⟨w.heap.size, 0, none⟩ = some (.slice a0 l.length cp) := by rw [Lib.cell_of_heap zA]; rfl
    by_cases hlt : n < l.length
    · obtain ⟨b, off, rfl, hPb, hbk, hat⟩ := hA0.at_ n hlt
      have hbw : b < w.heap.size := hPb.2
      obtain ⟨q0, q1, pp, cc, q2, q5⟩ := hat.same (SameB.of_below hbl) hPb hbk
      have hnI2 : (n : Int) < (l.length : Int) := by omega
      have hnI3 : (0 : Int) ≤ (n : Int) := by omega
      have hk2 : (l[n].kind.toList == kd.toList) = isKind kd l[n] := rfl
      cases hk : isKind kd l[n] with
      | true =>
        rw [hk] at hk2
        have hfd := Lib.hid (foundC_some (findK_hit hlt hk hno) hlt)
        obtain ⟨x, hx⟩ : ∃ x, l[n] = x := ⟨_, rfl⟩
        rw [hx] at q0 q1 q2 q5 hk2 hfd
        clear hx hk hat hno
        have r0 : wr.cell? ⟨w.heap.size + 1, 0, none⟩ = some (.string ⟨#[]⟩) := by rw [Lib.cell_of_heap zB]; rfl
        have r1 : wr.cell? ⟨w.heap.size + 1, 1, none⟩ = some (.string ⟨#[]⟩) := by rw [Lib.cell_of_heap zB]; rfl
        have r2 : wr.cell? ⟨w.heap.size + 1, 2, none⟩ = some (.slice none 0 0) := by rw [Lib.cell_of_heap zB]; rfl
        have rf : ∀ i, wr.frozen? ⟨w.heap.size + 1, i, none⟩ = false := Lib.frozen_of_heap zB
        have zB4 : (((wr.setCell ⟨w.heap.size + 1, 0, none⟩ (.string x.kind)).setCell ⟨w.heap.size + 1, 1, none⟩ (.string x.key)).setCell ⟨w.heap.size + 1, 2, none⟩ (.slice pp (x.attrs.length : Nat) cc)).heap[w.heap.size + 1]? = some (.cells #[.string x.kind, .string x.key, .slice pp (x.attrs.length : Nat) cc] 40 (0, 0)) := (box_put (box_put (box_put zB _) _) _)
        have hb4 := ((((hbB.trans (hbl.mono (by omega))).setCell (p := ⟨w.heap.size + 1, 0, none⟩) (Nat.le_succ _) (.string x.kind)).setCell (p := ⟨w.heap.size + 1, 1, none⟩) (Nat.le_succ _) (.string x.key)).setCell (p := ⟨w.heap.size + 1, 2, none⟩) (Nat.le_succ _) (.slice pp (x.attrs.length : Nat) cc))
        have hXR : ¬ (P (w.heap.size + 1) ∧ w.heap.size + 1 < w.heap.size) := fun h => by omega
        have hq4 : AttrsP (fun b => P b ∧ b < w.heap.size) pp cc x.attrs _ := q5.same ((((SameB.refl _ _).set (B := w.heap.size + 1) hXR 0 (.string x.kind)).set (B := w.heap.size + 1) hXR 1 (.string x.key)).set (B := w.heap.size + 1) hXR 2 (.slice pp (x.attrs.length : Nat) cc))
        go_wp2
        generalize World.setCell _ _ _ = w4 at zB4 hb4 hq4 ⊢
        have s0 : w4.cell? ⟨w.heap.size + 1, 0, none⟩ = some (.string x.kind) := by rw [Lib.cell_of_heap zB4]; rfl
        have s1 : w4.cell? ⟨w.heap.size + 1, 1, none⟩ = some (.string x.key) := by rw [Lib.cell_of_heap zB4]; rfl
        have s2 : w4.cell? ⟨w.heap.size + 1, 2, none⟩ = some (.slice pp (x.attrs.length : Nat) cc) := by rw [Lib.cell_of_heap zB4]; rfl
        refine bodyPost_ret (v := .tuple #[.agg #[.string x.kind, .string x.key, .slice pp (x.attrs.length : Nat) cc], .bool true]) (by simp [results, Tryd.results15, go_sem, s0, s1, s2]) rfl ⟨⟨pp, cc, by rw [hfd.out], by rw [hfd.out]; exact hq4⟩, hb4⟩
      | false =>
        rw [hk] at hk2
        have hno2 : ∀ j (hj : j < l.length), j < n + 1 → isKind kd l[j] = false := fun j hj hjn => by
          rcases Nat.lt_or_ge j n with h1 | h1
          · exact hno j hj h1
          · have : j = n := by omega
            subst this
            exact hk
        replace hno2 := Lib.hid hno2
        obtain ⟨x, hx⟩ : ∃ x, l[n] = x := ⟨_, rfl⟩
        rw [hx] at q0 q1 q2 q5 hk2
        clear hx hk hat hno
        go_wp2
        go_roundw
        case rel => exact ⟨n + 1, by omega, by go_num, hbl, hno2.out⟩
        case measure => simp [intOf]; omega
    · obtain rfl : n = l.length := by omega
      have hnI : ¬ (l.length : Int) < (l.length : Int) := by omega
      have hfd := Lib.hid (foundC_none (findK_miss (fun j hj => hno j hj hj)))
      clear hno
      have r0 : wr.cell? ⟨w.heap.size + 1, 0, none⟩ = some (.string ⟨#[]⟩) := by rw [Lib.cell_of_heap zB]; rfl
      have r1 : wr.cell? ⟨w.heap.size + 1, 1, none⟩ = some (.string ⟨#[]⟩) := by rw [Lib.cell_of_heap zB]; rfl
      have r2 : wr.cell? ⟨w.heap.size + 1, 2, none⟩ = some (.slice none 0 0) := by rw [Lib.cell_of_heap zB]; rfl
      have rf : ∀ i, wr.frozen? ⟨w.heap.size + 1, i, none⟩ = false := Lib.frozen_of_heap zB
      have zB4 : (((wr.setCell ⟨w.heap.size + 1, 0, none⟩ (.string ⟨#[]⟩)).setCell ⟨w.heap.size + 1, 1, none⟩ (.string ⟨#[]⟩)).setCell ⟨w.heap.size + 1, 2, none⟩ (.slice none 0 0)).heap[w.heap.size + 1]? = some (.cells #[.string ⟨#[]⟩, .string ⟨#[]⟩, .slice none 0 0] 40 (0, 0)) := (box_put (box_put (box_put zB _) _) _)
      have hb4 := ((((hbB.trans (hbl.mono (by omega))).setCell (p := ⟨w.heap.size + 1, 0, none⟩) (Nat.le_succ _) (.string ⟨#[]⟩)).setCell (p := ⟨w.heap.size + 1, 1, none⟩) (Nat.le_succ _) (.string ⟨#[]⟩)).setCell (p := ⟨w.heap.size + 1, 2, none⟩) (Nat.le_succ _) (.slice none 0 0))
      go_wp2
      generalize World.setCell _ _ _ = w4 at zB4 hb4 ⊢
      have s0 : w4.cell? ⟨w.heap.size + 1, 0, none⟩ = some (.string ⟨#[]⟩) := by rw [Lib.cell_of_heap zB4]; rfl
      have s1 : w4.cell? ⟨w.heap.size + 1, 1, none⟩ = some (.string ⟨#[]⟩) := by rw [Lib.cell_of_heap zB4]; rfl
      have s2 : w4.cell? ⟨w.heap.size + 1, 2, none⟩ = some (.slice none 0 0) := by rw [Lib.cell_of_heap zB4]; rfl
      refine bodyPost_ret (v := .tuple #[.agg #[.string ⟨#[]⟩, .string ⟨#[]⟩, .slice none 0 0], .bool false]) (by simp [results, Tryd.results15, go_sem, s0, s1, s2]) rfl ⟨⟨none, 0, by rw [hfd.out]; rfl, by rw [hfd.out]; exact ⟨fun _ => rfl, Nat.zero_le _, fun i hi => by simp [noC] at hi⟩⟩, hb4⟩
end Go.Proofs.YtcbnefeedoabeaaDoor
