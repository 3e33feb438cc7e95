/- The first context of a kind. Rows of a call's own: 'append' as it runs. -/
import Derived.Test.YtcbnefeedoabeaaGreatDoorPe
import Derived.Test.YtcbnefeedoabeaaGreatDoorPx
import Derived.ArgAppend
import Derived.Deep.CutBlock
/- The first context of a kind. -/
namespace Go.Proofs.YtcbnefeedoabeaaGreatDoor
open Go Go.RowKit

def isKind (kd : ByteArray) (x : Ctx) : Bool := x.kind.toList == kd.toList
/-- The place of the first context of a kind. -/
def findK (kd : ByteArray) (l : List Ctx) : Option Nat := l.findIdx? (isKind kd)
def idxV : Option Nat → Int
  | none => -1
  | some i => i
theorem findK_hit {kd : ByteArray} {l : List Ctx} {n : Nat} (h : n < l.length) (hk : isKind kd l[n] = true) (hb : ∀ j (hj : j < l.length), j < n → isKind kd l[j] = false) : findK kd l = some n := by
  unfold findK
  rw [List.findIdx?_eq_some_iff_getElem]
  exact ⟨h, hk, fun j hj => by rw [hb j (by omega) hj]; simp⟩
theorem findK_miss {kd : ByteArray} {l : List Ctx} (hb : ∀ j (hj : j < l.length), isKind kd l[j] = false) : findK kd l = none := by
  unfold findK
  rw [List.findIdx?_eq_none_iff]
  intro x hx
  obtain ⟨j, hj, rfl⟩ := List.getElem_of_mem hx
  exact hb j hj
theorem findK_lt {kd : ByteArray} {l : List Ctx} {n : Nat} (h : findK kd l = some n) : n < l.length := by
  unfold findK at h
  rw [List.findIdx?_eq_some_iff_getElem] at h
  exact h.1
theorem kindIs_any (x : Ctx) (p : Option Addr) (c K : Nat) (kd : ByteArray) (w : World) (hK : w.cell? ⟨K, 0, none⟩ = some (.string kd)) :
    Calls Tryz.prog 70 #[.agg #[.string x.kind, .string x.key, .slice p (x.attrs.length : Nat) c], .pointer (some ⟨K, 0, none⟩)] w fun e w' => e = .returned (.bool (isKind kd x)) ∧ Below w.heap.size w w' := by
  have hb := (Below.refl w.heap.size w).alloc (Nat.le_refl _) (.cells #[.string x.kind, .string x.key, .slice p (x.attrs.length : Nat) c] 63)
  have hz := heap_alloc_new w (.cells #[.string x.kind, .string x.key, .slice p (x.attrs.length : Nat) c] 63)
  have hlt := block_lt_of_cell hK
  have hK2 := (hb.cell (p := ⟨K, 0, none⟩) hlt).trans hK
  go_enter Tryz.func70, Tryz.ntmps70
  go_upto_region 1 with (fail)
  generalize w.alloc (.cells #[.string x.kind, .string x.key, .slice p (x.attrs.length : Nat) c] 63) = w0 at hb hz hK2 ⊢
  have c0 : w0.cell? ⟨w.heap.size, 0, none⟩ = some (.string x.kind) := by rw [Lib.cell_of_heap hz]; rfl
  go_wp2
  go_ret
  exact ⟨rfl, hb⟩
set_option maxHeartbeats 4000000 in
theorem indexFunc_any {P : Nat → Prop} (a0 : Option Addr) (cp : Nat) (l : List Ctx) (K : Nat) (kd : ByteArray) (w : World) (hA : CtxsP P a0 cp l w) (hK : w.cell? ⟨K, 0, none⟩ = some (.string kd)) (hl : l.length ≤ 9223372036854775000) :
    Calls Tryz.prog 69 #[.slice a0 (l.length : Nat) cp, .func (.func 70) #[] #[.pointer (some ⟨K, 0, none⟩)]] w fun e w' => e = .returned (.int .i64 (idxV (findK kd l))) ∧ Below w.heap.size w w' := by
  have hlt := block_lt_of_cell hK
  go_enter Tryz.func69, Tryz.ntmps69
  go_wp2
  go_loopw [5, 8] (fun _ i wr => ∃ n : Nat, n ≤ l.length ∧ i = .int .i64 n ∧ Below w.heap.size w wr ∧ ∀ j (hj : j < l.length), j < n → isKind kd l[j] = false) (fun _ i _ => l.length - (intOf i).toNat)
  case atStart => exact ⟨0, Nat.zero_le _, rfl, Below.refl _ _, fun j _ hj => by omega⟩
  case round =>
    obtain ⟨n, hn, rfl, hbl, hno⟩ := hrel
    by_cases hlt' : n < l.length
    · obtain ⟨b, off, rfl, hP, hbk, hat⟩ := hA.at_ n hlt'
      obtain ⟨q0, q1, pp, cc, q2, q5⟩ := hat.same (SameB.of_below (P := P) hbl) hP hbk
      have hltI : (n : Int) < (l.length : Int) := by omega
      have h0' : (0 : Int) ≤ (n : Int) := by omega
      have hcl := Lib.hid (kindIs_any l[n] pp cc K kd wr ((hbl.cell (p := ⟨K, 0, none⟩) hlt).trans hK))
      cases hk : isKind kd l[n] with
      | true =>
        rw [hk] at hcl
        have hf := Lib.hid (findK_hit hlt' hk hno)
        obtain ⟨x, hx⟩ : ∃ x, l[n] = x := ⟨_, rfl⟩
        rw [hx] at q0 q1 q2 q5 hcl
        replace hx := Lib.hid hx
        clear hk hat
        go_wp2_with (go_at_call 70; refine hcl.out.mono ?_; rintro e w1 ⟨rfl, hb1⟩)
        go_ret
        exact ⟨by rw [hf.out]; rfl, hbl.trans (hb1.mono hbl.size)⟩
      | false =>
        rw [hk] at hcl
        have hno2 : ∀ j (hj : j < l.length), j < n + 1 → isKind kd l[j] = false := fun j hj hjn => by
          rcases Nat.lt_or_ge j n with h1 | h1
          · exact hno j hj h1
          · have : j = n := by omega
            subst this
            exact hk
        replace hno2 := Lib.hid hno2
        replace hno := Lib.hid hno
        obtain ⟨x, hx⟩ : ∃ x, l[n] = x := ⟨_, rfl⟩
        rw [hx] at q0 q1 q2 q5 hcl
        replace hx := Lib.hid hx
        clear hk hat
        go_wp2_with (go_at_call 70; refine hcl.out.mono ?_; rintro e w1 ⟨rfl, hb1⟩)
        go_roundw
        case rel => exact ⟨n + 1, by omega, by go_num, hbl.trans (hb1.mono hbl.size), hno2.out⟩
        case measure => simp [intOf]; omega
    · obtain rfl : n = l.length := by omega
      have hltI : ¬ (l.length : Int) < (l.length : Int) := by omega
      have hf := Lib.hid (findK_miss (fun j hj => hno j hj hj))
      clear hno
      go_wp2
      go_ret
      exact ⟨by rw [hf.out]; rfl, hbl⟩
theorem contextIndex_any {P : Nat → Prop} (a0 : Option Addr) (cp : Nat) (l : List Ctx) (kd : ByteArray) (w : World) (hA : CtxsP P a0 cp l w) (hl : l.length ≤ 9223372036854775000) :
    Calls Tryz.prog 34 #[.agg #[.slice a0 (l.length : Nat) cp], .string kd] w fun e w' => e = .returned (.int .i64 (idxV (findK kd l))) ∧ Below w.heap.size w w' := by
  have hbA := (Below.refl w.heap.size w).alloc (Nat.le_refl _) (.cells #[.slice a0 (l.length : Nat) cp] 25)
  have hbB := hbA.alloc hbA.size (.cells #[.string kd] 9)
  have hzA : ((w.alloc (.cells #[.slice a0 (l.length : Nat) cp] 25)).alloc (.cells #[.string kd] 9)).heap[w.heap.size]? = some (.cells #[.slice a0 (l.length : Nat) cp] 25 (0, 0)) := (Lib.alloc_old _ _ _ (by simp)).trans (heap_alloc_new w _)
  have hzB : ((w.alloc (.cells #[.slice a0 (l.length : Nat) cp] 25)).alloc (.cells #[.string kd] 9)).heap[w.heap.size + 1]? = some (.cells #[.string kd] 9 (0, 0)) := by
    have := heap_alloc_new (w.alloc (.cells #[.slice a0 (l.length : Nat) cp] 25)) (.cells #[.string kd] 9)
    simpa using this
  have hmf : ∀ (fn : Fn) (first cap : Array Value) (w : World), (Instr.makeFunc fn first cap).run Tryz.prog w = .ok (.func fn first cap) w := fun _ _ _ _ => rfl
  go_enter Tryz.func34, Tryz.ntmps34
  go_upto_region 1 with (fail)
  generalize (w.alloc (.cells #[.slice a0 (l.length : Nat) cp] 25)).alloc (.cells #[.string kd] 9) = w0 at hbB hzA hzB ⊢
  have hix := Lib.hid (indexFunc_any a0 cp l (w.heap.size + 1) kd w0 (hA.same (SameB.of_below hbB)) (by rw [Lib.cell_of_heap hzB]; rfl) hl)
  have c0 : w0.cell? ⟨w.heap.size, 0, none⟩ = some (.slice a0 l.length cp) := by rw [Lib.cell_of_heap hzA]; rfl
  go_wp2_with (go_at_call 69; refine hix.out.mono ?_; rintro e w1 ⟨rfl, hb1⟩)
  go_ret
  exact ⟨rfl, hbB.trans (hb1.mono hbB.size)⟩
end Go.Proofs.YtcbnefeedoabeaaGreatDoor
/- Rows of a call's own: 'append' as it runs. -/
namespace Go.Proofs.YtcbnefeedoabeaaGreatDoor
open Go Go.RowKit

theorem els_news {α : Type} {E : Elt α} {P : Nat → Prop} {ad : Addr} {c : Nat} {fs : List α} {w : World} (h : ElsAt E P (some ad) c fs w) : ∀ j u, (E.row fs)[j]? = some u → w.cell? (ad.add j) = some u := by
  intro j u hu
  have hne : 0 < fs.length := by
    cases fs with
    | nil => simp [Elt.row] at hu
    | cons e t => simp
  obtain ⟨b, off, he, _⟩ := h.at_ 0 hne
  cases he
  exact h.news j u hu
theorem isKind_eq (k : ByteArray) (x : Ctx) : isKind k x = (x.kind.toList == k.toList) := rfl
theorem step_run {ops : Array Oper} {o : Oper} {a : Act} {w w' : World} {v u v' : Value} {K : Act → World → Prop} {Q : Exit → Act → World → Prop} {X : Prop} (hgd : o.guard = none) (s x : Operand) {S : TypeId}
    (ho : o.op = .call { callee := .builtin .append, args := #[s, x], argTypes := #[S, S] }) (hs : a.eval s = v) (hx : a.eval x = u) (hrun : (Builtin.append_ #[S, S] o.type #[v, u]).run Tryz.prog w = .ok v' w') (h : K (a.put o.dst v') w') :
    if Region.wanted o (yielded ops a.tmps) = true then Oper.wp Tryz.prog o a w K Q else X := by
  have hw : Region.wanted o (yielded ops a.tmps) = true := by simp [Region.wanted, hgd]
  rw [if_pos hw]
  unfold Oper.wp
  simp [execOp, ho, resolve, invoke, builtin, hs, hx, hrun, Result.andThen]
  exact h
/-- 'append' to a row of the call's own, of elements that point below it. -/
theorem run_own {α : Type} (E : Elt α) {P : Nat → Prop} {B : Nat} {es fs : List α} {v : Value} {w : World} (ty : TypeId) (hPB : ∀ k, P k → k < B) (hrow : GRow E P es B v w) (px : Option Addr) (m cx : Nat) (hm : fs.length = m) (hn : px = none → m = 0 ∧ cx = 0) (hnews : ∀ ad, px = some ad → ∀ j u, (E.row fs)[j]? = some u → w.cell? (ad.add j) = some u) (hok : ∀ e ∈ fs, E.ok P e w) (hl : es.length + m ≤ 1000) (hB : B ≤ w.heap.size) :
    ∃ v' w', (Builtin.append_ #[E.S, E.S] ty #[v, .slice px (m : Nat) cx]).run Tryz.prog w = .ok v' w' ∧ GRow E P (es ++ fs) B v' w' ∧ Below B w w' := by
  subst hm
  obtain ⟨i0, hi, hz0, hz1, hz2⟩ := info_parts E.info
  have hfit := E.fit
  cases px with
  | none =>
    obtain ⟨h0, rfl⟩ := hn rfl
    obtain rfl : fs = [] := List.eq_nil_of_length_eq_zero h0
    exact ⟨v, w, run_append_owned_none (P := Tryz.prog) (w := w) B E.S ty E.T i0 E.k E.under hi v es.length (E.row es) hrow.own, by simpa using hrow, Below.refl _ _⟩
  | some ad =>
    obtain ⟨v', w', h3, h4, h5, _⟩ := run_append_own (P := Tryz.prog) w B E.S ty E.T i0 E.zero E.k E.size E.under hi hz0 hz1 hz2 E.zlen E.pos v es.length (E.row es) hrow.own ad fs.length cx (E.row fs) (E.row_length fs) (hnews ad rfl) (E.row_one fs) (by unfold maxLen; omega) (by
      have : (es.length + fs.length) * E.size ≤ 1000 * 1000 := Nat.mul_le_mul hl hfit
      omega) hB
    have hbl := (Below.refl B w).grown h5 hB (fun k hk => (hrow.lt k hk).1)
    refine ⟨v', w', h3, ⟨?_, fun e he => ?_⟩, hbl⟩
    · have h9 : E.row (es ++ fs) = E.row es ++ E.row fs := by simp [Elt.row]
      rw [h9, List.length_append]
      exact h4
    · have h0 : E.ok P e w := by
        rcases List.mem_append.1 he with h | h
        · exact E.mono (hrow.ok e h) fun b _ hb => hb.1
        · exact hok e h
      have h1 : E.ok P e w' := E.same h0 ⟨hbl.size, fun b hb _ => hbl.block b (hPB b hb)⟩
      refine E.mono h1 fun b _ hb => ⟨hb, fun e => ?_⟩
      have := (World.ownsRow.lt h4 b e).1
      have := hPB b hb
      omega
theorem GRow.base {α : Type} {E : Elt α} {P : Nat → Prop} {es : List α} {B C : Nat} {v : Value} {w : World} (h : GRow E P es B v w) (hC : C ≤ B) : GRow E P es C v w := by
  refine ⟨⟨h.own.1, ?_⟩, h.ok⟩
  rcases h.own.2 with h0 | ⟨g, cap, cur, hv, hB, rest⟩
  · exact .inl h0
  · exact .inr ⟨g, cap, cur, hv, Nat.le_trans hC hB, rest⟩
theorem row_drop {α : Type} (E : Elt α) (es : List α) (k : Nat) (hk : k ≤ es.length) (j : Nat) : (E.row (es.drop k))[j]? = (E.row es)[k * E.k + j]? := by
  have h : E.row es = E.row (es.take k) ++ E.row (es.drop k) := by
    unfold Elt.row
    rw [← List.flatMap_append, List.take_append_drop]
  have hl : (E.row (es.take k)).length = k * E.k := by rw [E.row_length, List.length_take]; congr 1; omega
  rw [h, List.getElem?_append_right (by omega), hl]
  congr 1
  omega
theorem row_take {α : Type} (E : Elt α) (es : List α) (k : Nat) (j : Nat) (u : Value) (h : (E.row (es.take k))[j]? = some u) : (E.row es)[j]? = some u := by
  have h2 : E.row es = E.row (es.take k) ++ E.row (es.drop k) := by
    unfold Elt.row
    rw [← List.flatMap_append, List.take_append_drop]
  rw [h2, List.getElem?_append_left (List.getElem?_eq_some_iff.1 h).1]
  exact h
theorem below_drewN {B : Nat} {w w' : World} (h : Below B w w') (n : Nat) : Below B w (w'.drewN n) := ⟨h.os, h.tape, h.output, h.size, h.block⟩
theorem add_at (g o j : Nat) : (⟨g, o, none⟩ : Addr).add j = ⟨g, o + j, none⟩ := by
  unfold Addr.add
  split
  · subst_vars; rfl
  · rfl
theorem wpList_run {ops : Array Oper} {rest : List Oper} {o : Oper} {a : Act} {w w' : World} {v u v' : Value} {Q : Exit → Act → World → Prop} (hgd : o.guard = none) (s x : Operand) {S : TypeId}
    (ho : o.op = .call { callee := .builtin .append, args := #[s, x], argTypes := #[S, S] }) (hs : a.eval s = v) (hx : a.eval x = u) (hrun : (Builtin.append_ #[S, S] o.type #[v, u]).run Tryz.prog w = .ok v' w') (h : wpList Tryz.prog ops Q rest (a.put o.dst v') w') :
    wpList Tryz.prog ops Q (o :: rest) a w := by
  refine wpList_plain hgd fun K hK => ?_
  unfold Oper.wp
  simp [execOp, ho, resolve, invoke, builtin, hs, hx, hrun, Result.andThen]
  exact hK _ _ h
end Go.Proofs.YtcbnefeedoabeaaGreatDoor
