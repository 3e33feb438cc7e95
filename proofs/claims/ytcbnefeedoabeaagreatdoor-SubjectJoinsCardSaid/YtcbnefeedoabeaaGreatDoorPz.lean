/- The first context of a kind. The package's Join. The document's Join. -/
import Derived.Test.YtcbnefeedoabeaaGreatDoorPe
import Derived.Test.YtcbnefeedoabeaaGreatDoorPy
import Derived.Test.YtcbnefeedoabeaaGreatDoorPw
import Derived.ArgAppend
import Derived.Deep.CutBlock
import Derived.BigQuiet
/- The first context of a kind. -/
namespace Go.Proofs.YtcbnefeedoabeaaGreatDoor
open Go Go.RowKit

def isKind (kd : ByteArray) (x : Ctx) : Bool := x.kind.toList == kd.toList
/-- The place of the first context of a kind. -/
def findK (kd : ByteArray) (l : List Ctx) : Option Nat := l.findIdx? (isKind kd)
def idxV : Option Nat → Int
  | none => -1
  | some i => i
theorem findK_hit {kd : ByteArray} {l : List Ctx} {n : Nat} (h : n < l.length) (hk : isKind kd l[n] = true) (hb : ∀ j (hj : j < l.length), j < n → isKind kd l[j] = false) : findK kd l = some n := by
  unfold findK
  rw [List.findIdx?_eq_some_iff_getElem]
  exact ⟨h, hk, fun j hj => by rw [hb j (by omega) hj]; simp⟩
theorem findK_miss {kd : ByteArray} {l : List Ctx} (hb : ∀ j (hj : j < l.length), isKind kd l[j] = false) : findK kd l = none := by
  unfold findK
  rw [List.findIdx?_eq_none_iff]
  intro x hx
  obtain ⟨j, hj, rfl⟩ := List.getElem_of_mem hx
  exact hb j hj
theorem findK_lt {kd : ByteArray} {l : List Ctx} {n : Nat} (h : findK kd l = some n) : n < l.length := by
  unfold findK at h
  rw [List.findIdx?_eq_some_iff_getElem] at h
  exact h.1
theorem kindIs_any (x : Ctx) (p : Option Addr) (c K : Nat) (kd : ByteArray) (w : World) (hK : w.cell? ⟨K, 0, none⟩ = some (.string kd)) :
    Calls Tryz.prog 70 #[.agg #[.string x.kind, .string x.key, .slice p (x.attrs.length : Nat) c], .pointer (some ⟨K, 0, none⟩)] w fun e w' => e = .returned (.bool (isKind kd x)) ∧ Below w.heap.size w w' := by
  have hb := (Below.refl w.heap.size w).alloc (Nat.le_refl _) (.cells #[.string x.kind, .string x.key, .slice p (x.attrs.length : Nat) c] 63)
  have hz := heap_alloc_new w (.cells #[.string x.kind, .string x.key, .slice p (x.attrs.length : Nat) c] 63)
  have hlt := block_lt_of_cell hK
  have hK2 := (hb.cell (p := ⟨K, 0, none⟩) hlt).trans hK
  go_enter Tryz.func70, Tryz.ntmps70
  go_upto_region 1 with (fail)
  generalize w.alloc (.cells #[.string x.kind, .string x.key, .slice p (x.attrs.length : Nat) c] 63) = w0 at hb hz hK2 ⊢
  have c0 : w0.cell? ⟨w.heap.size, 0, none⟩ = some (.string x.kind) := by rw [Lib.cell_of_heap hz]; rfl
  go_wp2
  go_ret
  exact ⟨rfl, hb⟩
set_option maxHeartbeats 4000000 in
theorem indexFunc_any {P : Nat → Prop} (a0 : Option Addr) (cp : Nat) (l : List Ctx) (K : Nat) (kd : ByteArray) (w : World) (hA : CtxsP P a0 cp l w) (hK : w.cell? ⟨K, 0, none⟩ = some (.string kd)) (hl : l.length ≤ 9223372036854775000) :
    Calls Tryz.prog 69 #[.slice a0 (l.length : Nat) cp, .func (.func 70) #[] #[.pointer (some ⟨K, 0, none⟩)]] w fun e w' => e = .returned (.int .i64 (idxV (findK kd l))) ∧ Below w.heap.size w w' := by
  have hlt := block_lt_of_cell hK
  go_enter Tryz.func69, Tryz.ntmps69
  go_wp2
  go_loopw [5, 8] (fun _ i wr => ∃ n : Nat, n ≤ l.length ∧ i = .int .i64 n ∧ Below w.heap.size w wr ∧ ∀ j (hj : j < l.length), j < n → isKind kd l[j] = false) (fun _ i _ => l.length - (intOf i).toNat)
  case atStart => exact ⟨0, Nat.zero_le _, rfl, Below.refl _ _, fun j _ hj => by omega⟩
  case round =>
    obtain ⟨n, hn, rfl, hbl, hno⟩ := hrel
    by_cases hlt' : n < l.length
    · obtain ⟨b, off, rfl, hP, hbk, hat⟩ := hA.at_ n hlt'
      obtain ⟨q0, q1, pp, cc, q2, q5⟩ := hat.same (SameB.of_below (P := P) hbl) hP hbk
      have hltI : (n : Int) < (l.length : Int) := by omega
      have h0' : (0 : Int) ≤ (n : Int) := by omega
      have hcl := Lib.hid (kindIs_any l[n] pp cc K kd wr ((hbl.cell (p := ⟨K, 0, none⟩) hlt).trans hK))
      cases hk : isKind kd l[n] with
      | true =>
        rw [hk] at hcl
        have hf := Lib.hid (findK_hit hlt' hk hno)
        obtain ⟨x, hx⟩ : ∃ x, l[n] = x := ⟨_, rfl⟩
        rw [hx] at q0 q1 q2 q5 hcl
        replace hx := Lib.hid hx
        clear hk hat
        go_wp2_with (go_at_call 70; refine hcl.out.mono ?_; rintro e w1 ⟨rfl, hb1⟩)
        go_ret
        exact ⟨by rw [hf.out]; rfl, hbl.trans (hb1.mono hbl.size)⟩
      | false =>
        rw [hk] at hcl
        have hno2 : ∀ j (hj : j < l.length), j < n + 1 → isKind kd l[j] = false := fun j hj hjn => by
          rcases Nat.lt_or_ge j n with h1 | h1
          · exact hno j hj h1
          · have : j = n := by omega
            subst this
            exact hk
        replace hno2 := Lib.hid hno2
        replace hno := Lib.hid hno
        obtain ⟨x, hx⟩ : ∃ x, l[n] = x := ⟨_, rfl⟩
        rw [hx] at q0 q1 q2 q5 hcl
        replace hx := Lib.hid hx
        clear hk hat
        go_wp2_with (go_at_call 70; refine hcl.out.mono ?_; rintro e w1 ⟨rfl, hb1⟩)
        go_roundw
        case rel => exact ⟨n + 1, by omega, by go_num, hbl.trans (hb1.mono hbl.size), hno2.out⟩
        case measure => simp [intOf]; omega
    · obtain rfl : n = l.length := by omega
      have hltI : ¬ (l.length : Int) < (l.length : Int) := by omega
      have hf := Lib.hid (findK_miss (fun j hj => hno j hj hj))
      clear hno
      go_wp2
      go_ret
      exact ⟨by rw [hf.out]; rfl, hbl⟩
theorem contextIndex_any {P : Nat → Prop} (a0 : Option Addr) (cp : Nat) (l : List Ctx) (kd : ByteArray) (w : World) (hA : CtxsP P a0 cp l w) (hl : l.length ≤ 9223372036854775000) :
    Calls Tryz.prog 34 #[.agg #[.slice a0 (l.length : Nat) cp], .string kd] w fun e w' => e = .returned (.int .i64 (idxV (findK kd l))) ∧ Below w.heap.size w w' := by
  have hbA := (Below.refl w.heap.size w).alloc (Nat.le_refl _) (.cells #[.slice a0 (l.length : Nat) cp] 25)
  have hbB := hbA.alloc hbA.size (.cells #[.string kd] 9)
  have hzA : ((w.alloc (.cells #[.slice a0 (l.length : Nat) cp] 25)).alloc (.cells #[.string kd] 9)).heap[w.heap.size]? = some (.cells #[.slice a0 (l.length : Nat) cp] 25 (0, 0)) := (Lib.alloc_old _ _ _ (by simp)).trans (heap_alloc_new w _)
  have hzB : ((w.alloc (.cells #[.slice a0 (l.length : Nat) cp] 25)).alloc (.cells #[.string kd] 9)).heap[w.heap.size + 1]? = some (.cells #[.string kd] 9 (0, 0)) := by
    have := heap_alloc_new (w.alloc (.cells #[.slice a0 (l.length : Nat) cp] 25)) (.cells #[.string kd] 9)
    simpa using this
  have hmf : ∀ (fn : Fn) (first cap : Array Value) (w : World), (Instr.makeFunc fn first cap).run Tryz.prog w = .ok (.func fn first cap) w := fun _ _ _ _ => rfl
  go_enter Tryz.func34, Tryz.ntmps34
  go_upto_region 1 with (fail)
  generalize (w.alloc (.cells #[.slice a0 (l.length : Nat) cp] 25)).alloc (.cells #[.string kd] 9) = w0 at hbB hzA hzB ⊢
  have hix := Lib.hid (indexFunc_any a0 cp l (w.heap.size + 1) kd w0 (hA.same (SameB.of_below hbB)) (by rw [Lib.cell_of_heap hzB]; rfl) hl)
  have c0 : w0.cell? ⟨w.heap.size, 0, none⟩ = some (.slice a0 l.length cp) := by rw [Lib.cell_of_heap hzA]; rfl
  go_wp2_with (go_at_call 69; refine hix.out.mono ?_; rintro e w1 ⟨rfl, hb1⟩)
  go_ret
  exact ⟨rfl, hbB.trans (hb1.mono hbB.size)⟩
end Go.Proofs.YtcbnefeedoabeaaGreatDoor
/- The package's Join. -/
namespace Go.Proofs.YtcbnefeedoabeaaGreatDoor
open Go Go.RowKit

theorem els_news {α : Type} {E : Elt α} {P : Nat → Prop} {ad : Addr} {c : Nat} {fs : List α} {w : World} (h : ElsAt E P (some ad) c fs w) : ∀ j u, (E.row fs)[j]? = some u → w.cell? (ad.add j) = some u := by
  intro j u hu
  have hne : 0 < fs.length := by
    cases fs with
    | nil => simp [Elt.row] at hu
    | cons e t => simp
  obtain ⟨b, off, he, _⟩ := h.at_ 0 hne
  cases he
  exact h.news j u hu
/-- 'append' of a row of contexts to a full one. -/
theorem run_join {P Q : Nat → Prop} {pa pb : Option Addr} {ca cb : Nat} {a b : List Ctx} {w : World} (ty : TypeId) (hA : CtxsP P pa ca a w) (hB : CtxsP Q pb cb b w) (hl : a.length + b.length ≤ 1000) (N : Nat) (hN : a.length + b.length = N) :
    ∃ q c w', (Builtin.append_ #[23, 23] ty #[.slice pa (a.length : Nat) a.length, .slice pb (b.length : Nat) cb]).run Tryz.prog w = .ok (.slice q (N : Nat) c) w' ∧ CtxsP (fun _ => True) q c (a ++ b) w' ∧ Below w.heap.size w w' := by
  subst hN
  obtain ⟨i0, hi, hz0, hz1, hz2⟩ := info_parts eltC.info
  have ht := eltC.under
  have hi' : Tryz.prog.info? 63 = some i0 := hi
  have ht' : Tryz.prog.underlying 23 = some (.slice 63) := ht
  have hA' : CtxsP (fun _ => True) pa a.length a w := ⟨fun e => by have := hA.nil e; have := hA.cap; omega, Nat.le_refl _, (hA.mono fun _ _ _ => trivial).at_⟩
  cases b with
  | nil =>
    refine ⟨pa, a.length, w, ?_, by simpa using hA', Below.refl _ _⟩
    cases pb with
    | none =>
      obtain rfl := hB.nil rfl
      cases pa with
      | none => simp [Builtin.append_, run_underlying ht', sizeOf, typeInfo, hi', Builtin.lenOf, Builtin.firstCells]
      | some ad => simp [Builtin.append_, run_underlying ht', sizeOf, typeInfo, hi', Builtin.lenOf, Builtin.firstCells, storeCells]
    | some bd =>
      have hfc := run_firstCells_some (P := Tryz.prog) w i0.size 0 bd 0 cb [] (by simp) (fun j v h => by simp at h)
      have hfc' : (Builtin.firstCells i0.size 0 (.slice (some bd) 0 cb)).run Tryz.prog w = .ok #[] w := hfc
      cases pa with
      | none => simp [Builtin.append_, run_underlying ht', sizeOf, typeInfo, hi', Builtin.lenOf, hfc']
      | some ad => simp [Builtin.append_, run_underlying ht', sizeOf, typeInfo, hi', Builtin.lenOf, hfc', storeCells]
  | cons x t =>
    obtain ⟨fb, hfb, eb⟩ := hB.els
    obtain ⟨fa, hfa, ea⟩ := hA.els
    have la : a.length = fa.length := by rw [← hfa, List.length_map]
    have lb : (x :: t).length = fb.length := by rw [← hfb, List.length_map]
    have hpos : 0 < fb.length := by rw [← lb]; simp
    obtain ⟨bb, boff, rfl, -⟩ := hB.at_ 0 (by simp)
    have key : ∃ v' w', (Builtin.append_ #[23, 23] ty #[.slice pa (fa.length : Nat) fa.length, .slice (some ⟨bb, boff, none⟩) (fb.length : Nat) cb]).run Tryz.prog w = .ok v' w' ∧ w'.ownsRow w.heap.size eltC.T eltC.k v' (fa.length + fb.length) (eltC.row fa ++ eltC.row fb) ∧ w.grownBy w' none := by
      cases pa with
      | some ad => exact run_append_arg_grows (P := Tryz.prog) w 23 ty eltC.T i0 eltC.zero eltC.k eltC.size ht hi hz0 hz1 hz2 eltC.zlen eltC.pos ad fa.length fa.length (eltC.row fa) (eltC.row_length fa) (els_news ea) ⟨bb, boff, none⟩ fb.length cb (eltC.row fb) (eltC.row_length fb) (els_news eb) (by omega) (by unfold maxLen; omega) (by show (fa.length + fb.length) * 56 ≤ _; omega)
      | none =>
        have h0 := hA.nil rfl
        have h1 := hA.cap
        have h2 : fa = [] := List.eq_nil_of_length_eq_zero (by omega)
        subst h2
        obtain ⟨v', w', h3, h4, h5, _⟩ := run_append_own (P := Tryz.prog) w w.heap.size 23 ty eltC.T i0 eltC.zero eltC.k eltC.size ht hi hz0 hz1 hz2 eltC.zlen eltC.pos (.slice none 0 0) 0 [] (World.ownsRow_nil w _ _ _) ⟨bb, boff, none⟩ fb.length cb (eltC.row fb) (eltC.row_length fb) (els_news eb) (eltC.row_one fb) (by unfold maxLen; omega) (by show (0 + fb.length) * 56 ≤ _; omega) (Nat.le_refl _)
        exact ⟨v', w', h3, h4, h5⟩
    obtain ⟨v', w', hrun, hown, hg⟩ := key
    have hbl := (Below.refl w.heap.size w).grown hg (Nat.le_refl _) (fun k hk => by cases hk)
    have hrow : GRow eltC (fun _ => True) (fa ++ fb) w.heap.size v' w' := by
      refine ⟨?_, fun e he => ?_⟩
      · have h9 : eltC.row (fa ++ fb) = eltC.row fa ++ eltC.row fb := by simp [Elt.row]
        rw [h9, List.length_append]
        exact hown
      · have h8 : eltC.ok (fun k => True ∧ k < w.heap.size) e w := by
          rcases List.mem_append.1 he with h | h
          · exact eltC.mono (ea.ok e h) fun k hk _ => ⟨trivial, hk⟩
          · exact eltC.mono (eb.ok e h) fun k hk _ => ⟨trivial, hk⟩
        refine eltC.mono (eltC.same h8 (SameB.of_below hbl)) fun k _ hk => ⟨trivial, fun e => ?_⟩
        have := (World.ownsRow.lt hown k e).1
        have := hk.2
        omega
    obtain ⟨q, c, rfl, hcx⟩ := hrow.ctxs
    rw [List.map_append, hfa, hfb] at hrun hcx
    rw [List.length_append] at hrun
    refine ⟨q, c, w', ?_, hcx.mono fun _ _ _ => trivial, hbl⟩
    rw [la, lb]
    rw [la, lb] at hrun
    exact hrun
theorem isKind_eq (k : ByteArray) (x : Ctx) : isKind k x = (x.kind.toList == k.toList) := rfl
theorem step_run {ops : Array Oper} {o : Oper} {a : Act} {w w' : World} {v u v' : Value} {K : Act → World → Prop} {Q : Exit → Act → World → Prop} {X : Prop} (hgd : o.guard = none) (s x : Operand) {S : TypeId}
    (ho : o.op = .call { callee := .builtin .append, args := #[s, x], argTypes := #[S, S] }) (hs : a.eval s = v) (hx : a.eval x = u) (hrun : (Builtin.append_ #[S, S] o.type #[v, u]).run Tryz.prog w = .ok v' w') (h : K (a.put o.dst v') w') :
    if Region.wanted o (yielded ops a.tmps) = true then Oper.wp Tryz.prog o a w K Q else X := by
  have hw : Region.wanted o (yielded ops a.tmps) = true := by simp [Region.wanted, hgd]
  rw [if_pos hw]
  unfold Oper.wp
  simp [execOp, ho, resolve, invoke, builtin, hs, hx, hrun, Result.andThen]
  exact h
theorem findK_kind (k : ByteArray) (l : List Ctx) : findK k l = none ↔ hasKind k l = false := by
  unfold findK hasKind
  rw [List.findIdx?_eq_none_iff, List.any_eq_false]
  exact ⟨fun h x hx => by have := h x hx; rw [isKind_eq] at this; simp [this], fun h x hx => by have := h x hx; rw [isKind_eq]; simpa using this⟩
set_option linter.unusedSimpArgs false in
set_option linter.unusedVariables false in
set_option maxHeartbeats 8000000 in
set_option maxRecDepth 100000 in
theorem join_any5 {P Q : Nat → Prop} (pa pb : Option Addr) (ca cb : Nat) (a b : List Ctx) (w : World) (E : Env w) (hA : CtxsP P pa ca a w) (hB : CtxsP Q pb cb b w) (hFa : ∀ x ∈ a, FitC x) (hFb : ∀ x ∈ b, FitC x) (hla : a.length ≤ 100) (hlb : b.length ≤ 100) :
    Calls Tryz.prog 12 #[.agg #[.slice pa (a.length : Nat) ca], .agg #[.slice pb (b.length : Nat) cb]] w fun en w' => (∃ (q : Option Addr) (d : Nat), en = .returned (.tuple #[.agg #[.slice q ((joinP a b).1.length : Nat) d], .int .i64 (joinP a b).2]) ∧ CtxsP (fun k => w.heap.size ≤ k) q d (joinP a b).1 w') ∧ Below w.heap.size w w' := by
  have hb0 := (((Below.refl w.heap.size w).alloc (Nat.le_refl _) (.cells #[.slice pa (a.length : Nat) ca] 25)).alloc (by simp) (.cells #[.slice pb (b.length : Nat) cb] 25)).alloc (by simp; omega) (.cells #[.slice none 0 0] 25)
  have hs0 : (((w.alloc (.cells #[.slice pa (a.length : Nat) ca] 25)).alloc (.cells #[.slice pb (b.length : Nat) cb] 25)).alloc (.cells #[.slice none 0 0] 25)).heap.size = w.heap.size + 3 := by simp
  have zA : (((w.alloc (.cells #[.slice pa (a.length : Nat) ca] 25)).alloc (.cells #[.slice pb (b.length : Nat) cb] 25)).alloc (.cells #[.slice none 0 0] 25)).heap[w.heap.size]? = some (.cells #[.slice pa (a.length : Nat) ca] 25 (0, 0)) := (Lib.alloc_old _ _ _ (by simp; omega)).trans ((Lib.alloc_old _ _ _ (by simp)).trans (heap_alloc_new w _))
  have zB : (((w.alloc (.cells #[.slice pa (a.length : Nat) ca] 25)).alloc (.cells #[.slice pb (b.length : Nat) cb] 25)).alloc (.cells #[.slice none 0 0] 25)).heap[w.heap.size + 1]? = some (.cells #[.slice pb (b.length : Nat) cb] 25 (0, 0)) := (Lib.alloc_old _ _ _ (by simp)).trans (by have := heap_alloc_new (w.alloc (.cells #[.slice pa (a.length : Nat) ca] 25)) (.cells #[.slice pb (b.length : Nat) cb] 25); simpa using this)
  have zR : (((w.alloc (.cells #[.slice pa (a.length : Nat) ca] 25)).alloc (.cells #[.slice pb (b.length : Nat) cb] 25)).alloc (.cells #[.slice none 0 0] 25)).heap[w.heap.size + 2]? = some (.cells #[.slice none 0 0] 25 (0, 0)) := by have := heap_alloc_new ((w.alloc (.cells #[.slice pa (a.length : Nat) ca] 25)).alloc (.cells #[.slice pb (b.length : Nat) cb] 25)) (.cells #[.slice none 0 0] 25); simpa using this
  have hdr : joinP a b = if joinE a b = 0 then (joinL a b, 0) else ([], joinE a b) := rfl
  obtain ⟨dd, hdd⟩ : ∃ dd, joinP a b = dd := ⟨_, rfl⟩
  rw [hdd] at hdr ⊢
  replace hdr := Lib.hid hdr
  clear hdd
  go_enter Tryz.func12, Tryz.ntmps12
  go_upto_region 1 with (fail)
  generalize (((w.alloc (.cells #[.slice pa (a.length : Nat) ca] 25)).alloc (.cells #[.slice pb (b.length : Nat) cb] 25)).alloc (.cells #[.slice none 0 0] 25)) = w0 at hb0 hs0 zA zB zR ⊢
  have hA0 := hA.same (SameB.of_below hb0)
  have hB0 := hB.same (SameB.of_below hb0)
  have hE0 := E.below hb0
  have cA : ∀ W, Below w0.heap.size w0 W → W.cell? ⟨w.heap.size, 0, none⟩ = some (.slice pa a.length ca) := fun W h => by rw [Lib.cell_of_heap ((h.block _ (by omega)).trans zA)]; rfl
  have cB : ∀ W, Below w0.heap.size w0 W → W.cell? ⟨w.heap.size + 1, 0, none⟩ = some (.slice pb b.length cb) := fun W h => by rw [Lib.cell_of_heap ((h.block _ (by omega)).trans zB)]; rfl
  have hH : ∀ W, Below w0.heap.size w0 W → W.cell? ⟨w.heap.size + 2, 0, none⟩ = some (.slice none 0 0) ∧ (∀ i, W.frozen? ⟨w.heap.size + 2, i, none⟩ = false) := fun W h => ⟨by rw [Lib.cell_of_heap ((h.block _ (by omega)).trans zR)]; rfl, Lib.frozen_of_heap ((h.block _ (by omega)).trans zR)⟩
  have hfin : ∀ (u : Value) w5, Below w0.heap.size w0 w5 → (w5.setCell ⟨w.heap.size + 2, 0, none⟩ u).cell? ⟨w.heap.size + 2, 0, none⟩ = some u ∧ Below w.heap.size w (w5.setCell ⟨w.heap.size + 2, 0, none⟩ u) := fun u w5 hb5 => by
    have z5 := (hb5.block (w.heap.size + 2) (by omega)).trans zR
    refine ⟨?_, (hb0.trans (hb5.mono (by omega))).setCell (p := ⟨w.heap.size + 2, 0, none⟩) (by show w.heap.size ≤ w.heap.size + 2; omega) u⟩
    rw [Lib.cell_of_heap (box_put z5 (i := 0) u)]
    rfl
  have hCa := check_subject pa ca a w0 hE0 hA0 hFa (by omega)
  have hCb := fun W (h : Below w0.heap.size w0 W) => check_subject pb cb b W (hE0.below h) (hB0.same (SameB.of_below h)) hFb (by omega)
  have cA0 := cA w0 (Below.refl _ _)
  replace cA := Lib.hid cA
  replace cB := Lib.hid cB
  replace hH := Lib.hid hH
  replace hfin := Lib.hid hfin
  replace hCb := Lib.hid hCb
  replace hCa := Lib.hid hCa
  clear zA zB zR hA hB E
  by_cases ea : subjE a = 0
  · have hCa' := hCa.out
    rw [ea] at hCa'
    replace hCa' := Lib.hid hCa'
    clear hCa
    go_upto_region 4 with (go_at_call 29; refine hCa'.out.mono ?_; rintro e w1 ⟨rfl, hb1⟩; have rw1 := (hH.out w1 hb1).1; have fw1 := (hH.out w1 hb1).2; have bw1 := cB.out w1 hb1; have aw1 := cA.out w1 hb1)
    have hCb1 := hCb.out w1 hb1
    clear hCb hCa'
    by_cases eb : subjE b = 0
    · rw [eb] at hCb1
      replace hCb1 := Lib.hid hCb1
      go_upto_region 7 with (go_at_call 29; refine hCb1.out.mono ?_; rintro e w2 ⟨rfl, hb2'⟩; have hb2 := hb1.trans (hb2'.mono hb1.size); have rw2 := (hH.out w2 hb2).1; have fw2 := (hH.out w2 hb2).2; have bw2 := cB.out w2 hb2; have aw2 := cA.out w2 hb2)
      clear hCb1 hb2' hb1 rw1 fw1 bw1 aw1 cA0
      obtain ⟨hla4, hta⟩ := valid_tiny ea
      obtain ⟨hlb4, htb⟩ := valid_tiny eb
      clear rw2 fw2 bw2
      go_wp2
      go_loopw [9, 27] (fun _ i wr => ∃ m : Nat, m ≤ a.length ∧ i = .int .i64 m ∧ Below w0.heap.size w0 wr ∧ ∀ j (hj : j < a.length), j < m → hasKind a[j].kind b = false) (fun _ i _ => a.length - (intOf i).toNat)
      case atStart => exact ⟨0, Nat.zero_le _, rfl, hb2, fun j _ hj => by omega⟩
      case round =>
        obtain ⟨m, hm, rfl, hbr, hno⟩ := hrel
        clear aw2
        have rr := (hH.out wr hbr).1
        have fr := (hH.out wr hbr).2
        by_cases hlt : m < a.length
        · have hmI : (m : Int) < (a.length : Int) := by omega
          have hmI0 : (0 : Int) ≤ (m : Int) := by omega
          obtain ⟨bk, off, rfl, hPb, hbl, hat⟩ := (hA0.same (SameB.of_below hbr)).at_ m hlt
          obtain ⟨d0, d1, p, c, d2, -⟩ := hat
          have hmem := List.getElem_mem hlt
          have hno' := hno
          obtain ⟨x, hx⟩ : ∃ x, a[m] = x := ⟨_, rfl⟩
          rw [hx] at d0 d1 d2 hmem
          replace hx := Lib.hid hx
          replace hno := Lib.hid hno'
          clear hno'
          obtain ⟨kd, ky, at_⟩ := x
          simp only at d0 d1 d2
          have hbX := (Below.refl wr.heap.size wr).alloc (Nat.le_refl _) (.cells #[.string kd, .string ky, .slice p (at_.length : Nat) c] 63)
          have zX := heap_alloc_new wr (.cells #[.string kd, .string ky, .slice p (at_.length : Nat) c] 63)
          clear rr fr
          go_upto_region 10 with (fail)
          generalize wr.alloc (.cells #[.string kd, .string ky, .slice p (at_.length : Nat) c] 63) = wX at hbX zX ⊢
          have hb0X := hbr.trans (hbX.mono hbr.size)
          have x0 : wX.cell? ⟨wr.heap.size, 0, none⟩ = some (.string kd) := by rw [Lib.cell_of_heap zX]; rfl
          have bX := cB.out wX hb0X
          have hCI := contextIndex_any pb cb b kd wX (hB0.same (SameB.of_below hb0X)) (by omega)
          clear d0 d1 d2 hbX zX
          cases hk : findK kd b with
          | none =>
            have hkk := (findK_kind kd b).1 hk
            rw [hk] at hCI
            have hCI' : Calls Tryz.prog 34 #[.agg #[.slice pb (b.length : Nat) cb], .string kd] wX fun e w' => e = .returned (.int .i64 (-1)) ∧ Below wX.heap.size wX w' := hCI
            replace hCI := Lib.hid hCI'
            clear hCI' hk
            replace hkk := Lib.hid hkk
            go_wp2_with (go_at_call 34; refine hCI.out.mono ?_; rintro e w5 ⟨rfl, hb5⟩)
            go_roundw
            case rel => exact ⟨m + 1, by omega, by go_num, hb0X.trans (hb5.mono hb0X.size), fun j hj hjm => by
              by_cases hjm2 : j = m
              · subst hjm2
                rw [hx.out]
                exact hkk.out
              · exact hno.out j hj (by omega)⟩
            case measure => simp [intOf]; omega
          | some n =>
            have hkk : hasKind kd b = true := by
              cases h9 : hasKind kd b with
              | true => rfl
              | false => rw [(findK_kind kd b).2 h9] at hk; cases hk
            rw [hk] at hCI
            have hCI' : Calls Tryz.prog 34 #[.agg #[.slice pb (b.length : Nat) cb], .string kd] wX fun e w' => e = .returned (.int .i64 (n : Nat)) ∧ Below wX.heap.size wX w' := hCI
            replace hCI := Lib.hid hCI'
            clear hCI' hk
            have hcl : clash a b = true := List.any_eq_true.2 ⟨_, hmem, hkk⟩
            have hje : joinE a b = 10 := by unfold joinE; rw [if_neg (by simp [ea]), if_neg (by simp [eb]), if_pos hcl]
            obtain rfl := hdr.out.trans ((if_neg (by rw [hje]; decide)).trans (congrArg (Prod.mk []) hje))
            have hnI : (0 : Int) ≤ (n : Int) := by omega
            clear hcl hkk hmem hdr
            go_wp2_with (go_at_call 34; refine hCI.out.mono ?_; rintro e w5 ⟨rfl, hb5'⟩; have hb5 := hb0X.trans (hb5'.mono hb0X.size); have rw5 := (hH.out w5 hb5).1; have fw5 := (hH.out w5 hb5).2; have bw5 := cB.out w5 hb5; have aw5 := cA.out w5 hb5)
            obtain ⟨s6, hb6⟩ := hfin.out (.slice none 0 0) w5 hb5
            generalize World.setCell _ _ _ = w6 at s6 hb6 ⊢
            refine bodyPost_ret (v := .tuple #[.agg #[.slice none 0 0], .int .i64 (10)]) (by simp [results, Tryz.results12, go_sem, s6]) rfl ⟨⟨none, 0, rfl, ⟨fun _ => rfl, Nat.zero_le _, fun i hi => by simp at hi⟩⟩, hb6⟩
        · obtain rfl : m = a.length := by omega
          have hltI : ¬ (a.length : Int) < (a.length : Int) := by omega
          have hcl : clash a b = false := by
            unfold clash
            rw [List.any_eq_false]
            intro x hx
            obtain ⟨j, hj, rfl⟩ := List.getElem_of_mem hx
            simp [hno j hj hj]
          clear hno
          have bw := cB.out wr hbr
          have aw := cA.out wr hbr
          by_cases h4 : a.length + b.length ≤ 4
          · have h4I : ¬ ((4 : Int) < (a.length : Int) + (b.length : Int)) := by omega
            have hje := joinE_of ea eb hcl h4
            obtain rfl := hdr.out.trans (if_pos hje)
            clear hje hdr
            have hd := (Below.refl wr.heap.size wr).drew
            have hb0d := hbr.trans (hd.mono hbr.size)
            have hAd := hA0.same (SameB.of_below hb0d)
            have hBd := hB0.same (SameB.of_below hb0d)
            obtain ⟨L, hL⟩ : ∃ L, a ++ b = L := ⟨_, rfl⟩
            obtain ⟨N, hN⟩ : ∃ N, a.length + b.length = N := ⟨_, rfl⟩
            have hLN : L.length = N := by rw [← hL, List.length_append, hN]
            have hti : ∀ x ∈ L, x.attrs.length ≤ 1000 ∧ ∀ a ∈ x.attrs, a.val.list.length ≤ 8796093022207 := fun x hx => by
              rw [← hL] at hx
              have ht : TinyC x := (List.mem_append.1 hx).elim (hta x) (htb x)
              exact ⟨by have := ht.attrs; omega, fun a ha => by have := (ht.each a ha).list; omega⟩
            have hNc : (a.length : Int) ≤ (ca : Int) := by have := hA0.cap; omega
            have hNc2 : a.length ≤ ca := hA0.cap
            have h0I : (0 : Int) ≤ (a.length : Int) := by omega
            have hN4 : N ≤ 4 := by omega
            replace hLN := Lib.hid hLN
            replace hN := Lib.hid hN
            replace hL := Lib.hid hL
            go_upto_region 16 with (fail)
            go_cut [11] (fun s wx => ∃ (X : Nat) (q : Option Addr) (gs : List CEl), s = .pointer (some ⟨X, 0, none⟩) ∧ wx.heap[X]? = some (.cells #[.slice q (N : Nat) N] 25 (0, 0)) ∧ gs.map CEl.x = L ∧ RowC wr.heap.size q gs wx ∧ (∀ g, q = some ⟨g, 0, none⟩ → g ≠ X) ∧ Below wr.heap.size wr wx ∧ wr.heap.size ≤ X)
            case first =>
              refine wp_region_held_drew (S := fun w' => w'.cell? ⟨w.heap.size, 0, none⟩ = some (.slice pa a.length ca) ∧ w'.cell? ⟨w.heap.size + 1, 0, none⟩ = some (.slice pb b.length cb)) (by kernel_rfl) ⟨aw, bw⟩ (fun hHeld => ?_)
              replace hHeld : (fun w' => w'.cell? ⟨w.heap.size, 0, none⟩ = some (.slice pa a.length ca) ∧ w'.cell? ⟨w.heap.size + 1, 0, none⟩ = some (.slice pb b.length cb)) wr.drew := ⟨cA.out _ (hbr.trans (hd.mono hbr.size)), cB.out _ (hbr.trans (hd.mono hbr.size))⟩
              generalize wr.drew = wd at hd hAd hBd hHeld ⊢
              refine wpAnyH_take (i := 0) (v := ?_) rfl (by kernel_rfl) (by kernel_rfl) (by kernel_rfl) (fun _ _ _ h => h) (Or.inl ⟨by rfl, ?_⟩) hHeld ?_
              rotate_left
              · intro w' hSw
                go_simp
                try with_reducible rfl
              try simp only [List.getElem_toArray, List.getElem_cons_succ, List.getElem_cons_zero, Act.put, List.setIfInBounds_toArray, List.set_cons_zero, List.set_cons_succ]
              refine wpAnyH_take (i := 1) (v := ?_) rfl (by kernel_rfl) (by kernel_rfl) (by kernel_rfl) (fun _ _ _ h => h) (Or.inl ⟨by rfl, ?_⟩) hHeld ?_
              rotate_left
              · intro w' hSw
                obtain ⟨e1, e2⟩ := hSw
                go_simp
                try with_reducible rfl
              try simp only [List.getElem_toArray, List.getElem_cons_succ, List.getElem_cons_zero, Act.put, List.setIfInBounds_toArray, List.set_cons_zero, List.set_cons_succ]
              refine wpAnyH_take (i := 2) (v := ?_) rfl (by kernel_rfl) (by kernel_rfl) (by kernel_rfl) (fun _ _ _ h => h) (Or.inl ⟨by rfl, ?_⟩) hHeld ?_
              rotate_left
              · intro w' hSw
                go_simp
                try with_reducible rfl
              try simp only [List.getElem_toArray, List.getElem_cons_succ, List.getElem_cons_zero, Act.put, List.setIfInBounds_toArray, List.set_cons_zero, List.set_cons_succ]
              refine wpAnyH_take (i := 3) (v := ?_) rfl (by kernel_rfl) (by kernel_rfl) (by kernel_rfl) (fun _ _ _ h => h) (Or.inl ⟨by rfl, ?_⟩) hHeld ?_
              rotate_left
              · intro w' hSw
                go_simp
                try with_reducible rfl
              try simp only [List.getElem_toArray, List.getElem_cons_succ, List.getElem_cons_zero, Act.put, List.setIfInBounds_toArray, List.set_cons_zero, List.set_cons_succ]
              refine wpAnyH_take (i := 4) (v := ?_) rfl (by kernel_rfl) (by kernel_rfl) (by kernel_rfl) (fun _ _ _ h => h) (Or.inl ⟨by rfl, ?_⟩) hHeld ?_
              rotate_left
              · intro w' hSw
                go_simp
                try with_reducible rfl
              try simp only [List.getElem_toArray, List.getElem_cons_succ, List.getElem_cons_zero, Act.put, List.setIfInBounds_toArray, List.set_cons_zero, List.set_cons_succ]
              refine wpAnyH_take (i := 5) (v := ?_) rfl (by kernel_rfl) (by kernel_rfl) (by kernel_rfl) (fun _ _ _ h => h) (Or.inl ⟨by rfl, ?_⟩) hHeld ?_
              rotate_left
              · intro w' hSw
                go_simp
                try with_reducible rfl
              try simp only [List.getElem_toArray, List.getElem_cons_succ, List.getElem_cons_zero, Act.put, List.setIfInBounds_toArray, List.set_cons_zero, List.set_cons_succ]
              refine wpAnyH_take (i := 6) (v := ?_) rfl (by kernel_rfl) (by kernel_rfl) (by kernel_rfl) (fun _ _ _ h => h) (Or.inl ⟨by rfl, ?_⟩) hHeld ?_
              rotate_left
              · intro w' hSw
                obtain ⟨e1, e2⟩ := hSw
                go_simp
                try with_reducible rfl
              try simp only [List.getElem_toArray, List.getElem_cons_succ, List.getElem_cons_zero, Act.put, List.setIfInBounds_toArray, List.set_cons_zero, List.set_cons_succ]
              refine wpAnyH_ready (rs := [7, 10]) (by kernel_rfl) (by simp) ?_
              refine AllReadyH.cons rfl (fun K hK => ?_) (AllReadyH.cons rfl (fun K hK => ?_) AllReadyH.nil)
              · obtain ⟨q0, c0, w4, hrun, hcx, hbA'⟩ := run_join 23 hAd hBd (by omega) N hN.out
                rw [hL.out] at hcx
                have hbA := hd.trans (hbA'.mono hd.size)
                refine step_run (by rfl) _ _ (by rfl) (by rfl) (by rfl) hrun ?_
                refine hK.out _ _ ⟨cA.out _ (hbr.trans (hbA.mono hbr.size)), cB.out _ (hbr.trans (hbA.mono hbr.size))⟩ (fun _ => ?_)
                clear hK K hHeld
                have hHeld : (fun w' => w'.cell? ⟨w.heap.size, 0, none⟩ = some (.slice pa a.length ca) ∧ w'.cell? ⟨w.heap.size + 1, 0, none⟩ = some (.slice pb b.length cb)) w4 := ⟨cA.out _ (hbr.trans (hbA.mono hbr.size)), cB.out _ (hbr.trans (hbA.mono hbr.size))⟩
                try simp only [List.getElem_toArray, List.getElem_cons_succ, List.getElem_cons_zero, Act.put, List.setIfInBounds_toArray, List.set_cons_zero, List.set_cons_succ]
                refine wpAnyH_take (i := 8) (v := ?_) rfl (by kernel_rfl) (by kernel_rfl) (by kernel_rfl) (fun _ _ _ h => h) (Or.inl ⟨by rfl, ?_⟩) hHeld ?_
                rotate_left
                · intro w' hSw
                  go_simp
                  try with_reducible rfl
                try simp only [List.getElem_toArray, List.getElem_cons_succ, List.getElem_cons_zero, Act.put, List.setIfInBounds_toArray, List.set_cons_zero, List.set_cons_succ]
                refine wpAnyH_ready (rs := [9, 10]) (by kernel_rfl) (by simp) ?_
                refine AllReadyH.cons rfl (fun K hK => ?_) (AllReadyH.cons rfl (fun K hK => ?_) AllReadyH.nil)
                · have hCp := copySubject_any q0 c0 L w4 hcx (by rw [hLN.out]; omega) hti
                  rw [hLN.out] at hCp
                  replace hCp := Lib.hid hCp
                  go_simp
                  go_at_call 35
                  refine hCp.out.mono ?_
                  rintro e w6 ⟨⟨q, rfl, -, gs, hgs, hR⟩, hb6'⟩
                  have hb6 := hbA.trans (hb6'.mono hbA.size)
                  refine hK.out _ _ ⟨cA.out _ (hbr.trans (hb6.mono hbr.size)), cB.out _ (hbr.trans (hb6.mono hbr.size))⟩ (fun _ => ?_)
                  clear hK K hHeld
                  have hHeld : (fun w' => w'.cell? ⟨w.heap.size, 0, none⟩ = some (.slice pa a.length ca) ∧ w'.cell? ⟨w.heap.size + 1, 0, none⟩ = some (.slice pb b.length cb)) w6 := ⟨cA.out _ (hbr.trans (hb6.mono hbr.size)), cB.out _ (hbr.trans (hb6.mono hbr.size))⟩
                  try simp only [List.getElem_toArray, List.getElem_cons_succ, List.getElem_cons_zero, Act.put, List.setIfInBounds_toArray, List.set_cons_zero, List.set_cons_succ]
                  have hal0 := hb6.alloc hb6.size (.cells #[.slice none 0 0] 25)
                  have hal1 := hb6.alloc hb6.size (.cells #[.slice q (N : Nat) N] 25)
                  have hR6 := (hR.same (SameB.of_below ((Below.refl w6.heap.size w6).alloc (Nat.le_refl _) (.cells #[.slice q (N : Nat) N] 25)))).low hbA.size
                  have hne : ∀ g, q = some ⟨g, 0, none⟩ → g ≠ w6.heap.size := fun g hg => by
                    obtain ⟨g', e, _, h9, _⟩ := hR.at_ _ hg
                    injection e with e
                    omega
                  refine wpAnyH_ready (rs := [10]) (by kernel_rfl) (by simp) ?_
                  refine AllReadyH.cons rfl (fun K hK => ?_) AllReadyH.nil
                  go_simp
                  refine hK.out _ _ ⟨cA.out _ (hbr.trans (hal0.mono hbr.size)), cB.out _ (hbr.trans (hal0.mono hbr.size))⟩ (fun _ => ?_)
                  clear hK K
                  try simp only [List.getElem_toArray, List.getElem_cons_succ, List.getElem_cons_zero, Act.put, List.setIfInBounds_toArray, List.set_cons_zero, List.set_cons_succ]
                  refine wpAnyH_ready (rs := [11]) (by kernel_rfl) (by simp) ?_
                  refine AllReadyH.cons rfl (fun K hK => ?_) AllReadyH.nil
                  go_simp
                  refine hK.out _ _ ⟨cA.out _ (hbr.trans (hal1.mono hbr.size)), cB.out _ (hbr.trans (hal1.mono hbr.size))⟩ (fun _ => ?_)
                  clear hK K hHeld
                  have hHeld : (fun w' => w'.cell? ⟨w.heap.size, 0, none⟩ = some (.slice pa a.length ca) ∧ w'.cell? ⟨w.heap.size + 1, 0, none⟩ = some (.slice pb b.length cb)) (w6.alloc (.cells #[.slice q (N : Nat) N] 25)) := ⟨cA.out _ (hbr.trans (hal1.mono hbr.size)), cB.out _ (hbr.trans (hal1.mono hbr.size))⟩
                  try simp only [List.getElem_toArray, List.getElem_cons_succ, List.getElem_cons_zero, Act.put, List.setIfInBounds_toArray, List.set_cons_zero, List.set_cons_succ]
                  refine wpAnyH_done (by kernel_rfl) ?_ _
                  go_wp2
                  go_meet
                  case rel => exact ⟨w6.heap.size, q, gs, rfl, heap_alloc_new w6 _, hgs, hR6, hne, hal1, hb6.size⟩
                · go_simp
                  have hb4X := hbA.alloc hbA.size (.cells #[.slice none 0 0] 25)
                  have zX := heap_alloc_new w4 (.cells #[.slice none 0 0] 25)
                  have hXl : w4.heap.size < (w4.alloc (.cells #[.slice none 0 0] 25)).heap.size := by simp
                  refine hK.out _ _ ⟨cA.out _ (hbr.trans (hb4X.mono hbr.size)), cB.out _ (hbr.trans (hb4X.mono hbr.size))⟩ (fun _ => ?_)
                  clear hK K hHeld
                  have hHeld : (fun w' => w'.cell? ⟨w.heap.size, 0, none⟩ = some (.slice pa a.length ca) ∧ w'.cell? ⟨w.heap.size + 1, 0, none⟩ = some (.slice pb b.length cb)) (w4.alloc (.cells #[.slice none 0 0] 25)) := ⟨cA.out _ (hbr.trans (hb4X.mono hbr.size)), cB.out _ (hbr.trans (hb4X.mono hbr.size))⟩
                  try simp only [List.getElem_toArray, List.getElem_cons_succ, List.getElem_cons_zero, Act.put, List.setIfInBounds_toArray, List.set_cons_zero, List.set_cons_succ]
                  refine wpAnyH_ready (rs := [9]) (by kernel_rfl) (by simp) ?_
                  refine AllReadyH.cons rfl (fun K hK => ?_) AllReadyH.nil
                  have hCp := copySubject_any q0 c0 L (w4.alloc (.cells #[.slice none 0 0] 25)) (hcx.same (SameB.of_below ((Below.refl w4.heap.size w4).alloc (Nat.le_refl _) (.cells #[.slice none 0 0] 25)))) (by rw [hLN.out]; omega) hti
                  rw [hLN.out] at hCp
                  replace hCp := Lib.hid hCp
                  go_simp
                  go_at_call 35
                  refine hCp.out.mono ?_
                  rintro e w6 ⟨⟨q, rfl, -, gs, hgs, hR⟩, hb6'⟩
                  have hb6 := hb4X.trans (hb6'.mono hb4X.size)
                  have z6 := (hb6'.block w4.heap.size hXl).trans zX
                  have k6 : w6.cell? ⟨w4.heap.size, 0, none⟩ = some (.slice none 0 0) := by rw [Lib.cell_of_heap z6]; rfl
                  have kf6 : ∀ i, w6.frozen? ⟨w4.heap.size, i, none⟩ = false := Lib.frozen_of_heap z6
                  refine hK.out _ _ ⟨cA.out _ (hbr.trans (hb6.mono hbr.size)), cB.out _ (hbr.trans (hb6.mono hbr.size))⟩ (fun _ => ?_)
                  clear hK K hHeld
                  have hHeld : (fun w' => w'.cell? ⟨w.heap.size, 0, none⟩ = some (.slice pa a.length ca) ∧ w'.cell? ⟨w.heap.size + 1, 0, none⟩ = some (.slice pb b.length cb)) w6 := ⟨cA.out _ (hbr.trans (hb6.mono hbr.size)), cB.out _ (hbr.trans (hb6.mono hbr.size))⟩
                  try simp only [List.getElem_toArray, List.getElem_cons_succ, List.getElem_cons_zero, Act.put, List.setIfInBounds_toArray, List.set_cons_zero, List.set_cons_succ]
                  have hlow : wr.heap.size ≤ (w4.alloc (.cells #[.slice none 0 0] 25)).heap.size := hb4X.size
                  have hb7 := hb6.setCell (p := ⟨w4.heap.size, 0, none⟩) hbA.size (.slice q (N : Nat) N)
                  have z7 : (w6.setCell ⟨w4.heap.size, 0, none⟩ (.slice q (N : Nat) N)).heap[w4.heap.size]? = some (.cells #[.slice q (N : Nat) N] 25 (0, 0)) := box_put z6 _
                  have hR7 := (hR.same (((SameB.refl (fun b => w4.heap.size < b) w6).set (B := w4.heap.size) (Nat.lt_irrefl _) 0 (.slice q (N : Nat) N)).mono fun b hb => Nat.lt_of_lt_of_le hXl hb)).low hlow
                  have hne : ∀ g, q = some ⟨g, 0, none⟩ → g ≠ w4.heap.size := fun g hg => by
                    obtain ⟨g', e, h9, _⟩ := hR.at_ _ hg
                    injection e with e
                    omega
                  refine wpAnyH_ready (rs := [11]) (by kernel_rfl) (by simp) ?_
                  refine AllReadyH.cons rfl (fun K hK => ?_) AllReadyH.nil
                  go_simp
                  refine hK.out _ _ ⟨cA.out _ (hbr.trans (hb7.mono hbr.size)), cB.out _ (hbr.trans (hb7.mono hbr.size))⟩ (fun _ => ?_)
                  clear hK K hHeld
                  have hHeld : (fun w' => w'.cell? ⟨w.heap.size, 0, none⟩ = some (.slice pa a.length ca) ∧ w'.cell? ⟨w.heap.size + 1, 0, none⟩ = some (.slice pb b.length cb)) (w6.setCell ⟨w4.heap.size, 0, none⟩ (.slice q (N : Nat) N)) := ⟨cA.out _ (hbr.trans (hb7.mono hbr.size)), cB.out _ (hbr.trans (hb7.mono hbr.size))⟩
                  try simp only [List.getElem_toArray, List.getElem_cons_succ, List.getElem_cons_zero, Act.put, List.setIfInBounds_toArray, List.set_cons_zero, List.set_cons_succ]
                  refine wpAnyH_done (by kernel_rfl) ?_ _
                  go_wp2
                  go_meet
                  case rel => exact ⟨w4.heap.size, q, gs, rfl, z7, hgs, hR7, hne, hb7, hbA.size⟩
              · go_simp
                have hbdX := hd.alloc hd.size (.cells #[.slice none 0 0] 25)
                have zX0 := heap_alloc_new wd (.cells #[.slice none 0 0] 25)
                have hXl0 : wd.heap.size < (wd.alloc (.cells #[.slice none 0 0] 25)).heap.size := by simp
                have hAX := hAd.same (SameB.of_below ((Below.refl wd.heap.size wd).alloc (Nat.le_refl _) (.cells #[.slice none 0 0] 25)))
                have hBX := hBd.same (SameB.of_below ((Below.refl wd.heap.size wd).alloc (Nat.le_refl _) (.cells #[.slice none 0 0] 25)))
                refine hK.out _ _ ⟨cA.out _ (hbr.trans (hbdX.mono hbr.size)), cB.out _ (hbr.trans (hbdX.mono hbr.size))⟩ (fun _ => ?_)
                clear hK K hHeld
                have hHeld : (fun w' => w'.cell? ⟨w.heap.size, 0, none⟩ = some (.slice pa a.length ca) ∧ w'.cell? ⟨w.heap.size + 1, 0, none⟩ = some (.slice pb b.length cb)) (wd.alloc (.cells #[.slice none 0 0] 25)) := ⟨cA.out _ (hbr.trans (hbdX.mono hbr.size)), cB.out _ (hbr.trans (hbdX.mono hbr.size))⟩
                try simp only [List.getElem_toArray, List.getElem_cons_succ, List.getElem_cons_zero, Act.put, List.setIfInBounds_toArray, List.set_cons_zero, List.set_cons_succ]
                refine wpAnyH_ready (rs := [7]) (by kernel_rfl) (by simp) ?_
                refine AllReadyH.cons rfl (fun K hK => ?_) AllReadyH.nil
                obtain ⟨q0, c0, w4, hrun, hcx, hbA'⟩ := run_join 23 hAX hBX (by omega) N hN.out
                rw [hL.out] at hcx
                have hbA := hbdX.trans (hbA'.mono hbdX.size)
                refine step_run (by rfl) _ _ (by rfl) (by rfl) (by rfl) hrun ?_
                have zX := (hbA'.block wd.heap.size hXl0).trans zX0
                have hXl : wd.heap.size < w4.heap.size := Nat.lt_of_lt_of_le hXl0 hbA'.size
                refine hK.out _ _ ⟨cA.out _ (hbr.trans (hbA.mono hbr.size)), cB.out _ (hbr.trans (hbA.mono hbr.size))⟩ (fun _ => ?_)
                clear hK K hHeld
                have hHeld : (fun w' => w'.cell? ⟨w.heap.size, 0, none⟩ = some (.slice pa a.length ca) ∧ w'.cell? ⟨w.heap.size + 1, 0, none⟩ = some (.slice pb b.length cb)) w4 := ⟨cA.out _ (hbr.trans (hbA.mono hbr.size)), cB.out _ (hbr.trans (hbA.mono hbr.size))⟩
                try simp only [List.getElem_toArray, List.getElem_cons_succ, List.getElem_cons_zero, Act.put, List.setIfInBounds_toArray, List.set_cons_zero, List.set_cons_succ]
                refine wpAnyH_take (i := 8) (v := ?_) rfl (by kernel_rfl) (by kernel_rfl) (by kernel_rfl) (fun _ _ _ h => h) (Or.inl ⟨by rfl, ?_⟩) hHeld ?_
                rotate_left
                · intro w' hSw
                  go_simp
                  try with_reducible rfl
                try simp only [List.getElem_toArray, List.getElem_cons_succ, List.getElem_cons_zero, Act.put, List.setIfInBounds_toArray, List.set_cons_zero, List.set_cons_succ]
                refine wpAnyH_ready (rs := [9]) (by kernel_rfl) (by simp) ?_
                refine AllReadyH.cons rfl (fun K hK => ?_) AllReadyH.nil
                have hCp := copySubject_any q0 c0 L w4 hcx (by rw [hLN.out]; omega) hti
                rw [hLN.out] at hCp
                replace hCp := Lib.hid hCp
                go_simp
                go_at_call 35
                refine hCp.out.mono ?_
                rintro e w6 ⟨⟨q, rfl, -, gs, hgs, hR⟩, hb6'⟩
                have hb6 := hbA.trans (hb6'.mono hbA.size)
                have z6 := (hb6'.block wd.heap.size hXl).trans zX
                have k6 : w6.cell? ⟨wd.heap.size, 0, none⟩ = some (.slice none 0 0) := by rw [Lib.cell_of_heap z6]; rfl
                have kf6 : ∀ i, w6.frozen? ⟨wd.heap.size, i, none⟩ = false := Lib.frozen_of_heap z6
                refine hK.out _ _ ⟨cA.out _ (hbr.trans (hb6.mono hbr.size)), cB.out _ (hbr.trans (hb6.mono hbr.size))⟩ (fun _ => ?_)
                clear hK K hHeld
                have hHeld : (fun w' => w'.cell? ⟨w.heap.size, 0, none⟩ = some (.slice pa a.length ca) ∧ w'.cell? ⟨w.heap.size + 1, 0, none⟩ = some (.slice pb b.length cb)) w6 := ⟨cA.out _ (hbr.trans (hb6.mono hbr.size)), cB.out _ (hbr.trans (hb6.mono hbr.size))⟩
                try simp only [List.getElem_toArray, List.getElem_cons_succ, List.getElem_cons_zero, Act.put, List.setIfInBounds_toArray, List.set_cons_zero, List.set_cons_succ]
                have hlow : wr.heap.size ≤ w4.heap.size := hbA.size
                have hb7 := hb6.setCell (p := ⟨wd.heap.size, 0, none⟩) hd.size (.slice q (N : Nat) N)
                have z7 : (w6.setCell ⟨wd.heap.size, 0, none⟩ (.slice q (N : Nat) N)).heap[wd.heap.size]? = some (.cells #[.slice q (N : Nat) N] 25 (0, 0)) := box_put z6 _
                have hR7 := (hR.same (((SameB.refl (fun b => wd.heap.size < b) w6).set (B := wd.heap.size) (Nat.lt_irrefl _) 0 (.slice q (N : Nat) N)).mono fun b hb => Nat.lt_of_lt_of_le hXl hb)).low hlow
                have hne : ∀ g, q = some ⟨g, 0, none⟩ → g ≠ wd.heap.size := fun g hg => by
                  obtain ⟨g', e, h9, _⟩ := hR.at_ _ hg
                  injection e with e
                  omega
                refine wpAnyH_ready (rs := [11]) (by kernel_rfl) (by simp) ?_
                refine AllReadyH.cons rfl (fun K hK => ?_) AllReadyH.nil
                go_simp
                refine hK.out _ _ ⟨cA.out _ (hbr.trans (hb7.mono hbr.size)), cB.out _ (hbr.trans (hb7.mono hbr.size))⟩ (fun _ => ?_)
                clear hK K hHeld
                have hHeld : (fun w' => w'.cell? ⟨w.heap.size, 0, none⟩ = some (.slice pa a.length ca) ∧ w'.cell? ⟨w.heap.size + 1, 0, none⟩ = some (.slice pb b.length cb)) (w6.setCell ⟨wd.heap.size, 0, none⟩ (.slice q (N : Nat) N)) := ⟨cA.out _ (hbr.trans (hb7.mono hbr.size)), cB.out _ (hbr.trans (hb7.mono hbr.size))⟩
                try simp only [List.getElem_toArray, List.getElem_cons_succ, List.getElem_cons_zero, Act.put, List.setIfInBounds_toArray, List.set_cons_zero, List.set_cons_succ]
                refine wpAnyH_done (by kernel_rfl) ?_ _
                go_wp2
                go_meet
                case rel => exact ⟨wd.heap.size, q, gs, rfl, z7, hgs, hR7, hne, hb7, hd.size⟩
            case rest =>
              obtain ⟨X, q, gs, rfl, zX, hgs, hR, hne, hbc, hXw⟩ := hcut
              clear hd hAd hBd
              have hXs : X < wc.heap.size := (Array.getElem?_eq_some_iff.1 zX).1
              have hgl : gs.length = N := by rw [← hLN.out, ← hgs, List.length_map]
              have hsrt := sortC_any q gs a b wc (by rw [hgs, hL.out]) (by omega) hR (by have := hbc.size; omega) (valid_asc ea).1 (valid_asc eb).1 hcl
              rw [hgl] at hsrt
              replace hsrt := Lib.hid hsrt
              replace hgl := Lib.hid hgl
              have hbc0 := hbr.trans (hbc.mono hbr.size)
              have x0 : wc.cell? ⟨X, 0, none⟩ = some (.slice q N N) := by rw [Lib.cell_of_heap zX]; rfl
              have rc := (hH.out wc hbc0).1
              have fc := (hH.out wc hbc0).2
              clear rr fr bw aw
              go_wp2_with (go_at_call 36; refine hsrt.out.mono ?_; rintro e w7 ⟨rfl, hcx7, hb7', hk7⟩; have hb7 := hbc0.trans (hb7'.mono hbr.size); have x7 : w7.cell? ⟨X, 0, none⟩ = some (.slice q N N) := (World.cell?_of_block (w := wc) (hk7 X hXs hne)).trans x0; have r7 := (hH.out w7 hb7).1; have f7 := (hH.out w7 hb7).2)
              have hjl : (joinL a b).length = N := by rw [(joinL_perm b a).length_eq, List.length_append, hN.out]
              obtain ⟨s8, hb8⟩ := hfin.out (.slice q (N : Nat) N) w7 hb7
              have hq8 : CtxsP (fun k => wr.heap.size ≤ k) q N (joinL a b) _ := CtxsP.same hcx7 ((SameB.refl _ w7).set (B := w.heap.size + 2) (by have := hbr.size; omega) 0 (.slice q (N : Nat) N))
              generalize World.setCell _ _ _ = w8 at s8 hb8 hq8 ⊢
              refine bodyPost_ret (v := .tuple #[.agg #[.slice q (N : Nat) N], .int .i64 0]) (by simp [results, Tryz.results12, go_sem, s8]) rfl ⟨⟨q, N, by rw [hjl], hq8.mono fun k _ hk => by have := hbr.size; omega⟩, hb8⟩
          · have h4I : (4 : Int) < (a.length : Int) + (b.length : Int) := by omega
            have hje : joinE a b = 5 := by unfold joinE; rw [if_neg (by simp [ea]), if_neg (by simp [eb]), if_neg (by simp [hcl]), if_pos (by omega)]
            obtain rfl := hdr.out.trans ((if_neg (by rw [hje]; decide)).trans (congrArg (Prod.mk []) hje))
            clear hje hdr
            go_wp2
            obtain ⟨s6, hb6⟩ := hfin.out (.slice none 0 0) wr hbr
            generalize World.setCell _ _ _ = w6 at s6 hb6 ⊢
            refine bodyPost_ret (v := .tuple #[.agg #[.slice none 0 0], .int .i64 (5)]) (by simp [results, Tryz.results12, go_sem, s6]) rfl ⟨⟨none, 0, rfl, ⟨fun _ => rfl, Nat.zero_le _, fun i hi => by simp at hi⟩⟩, hb6⟩
    · obtain ⟨ce, hce⟩ : ∃ ce, subjE b = ce := ⟨_, rfl⟩
      have hje : joinE a b = ce := by unfold joinE; rw [if_neg (by simp [ea]), if_pos eb, hce]
      rw [hce] at eb hCb1
      have heb : (ce == 0) = false := by simp [eb]
      obtain rfl := hdr.out.trans ((if_neg (by rw [hje]; exact eb)).trans (congrArg (Prod.mk []) hje))
      clear hje hdr hce
      replace hCb1 := Lib.hid hCb1
      go_wp2_with (go_at_call 29; refine hCb1.out.mono ?_; rintro e w2 ⟨rfl, hb2'⟩; have hb2 := hb1.trans (hb2'.mono hb1.size); have rw2 := (hH.out w2 hb2).1; have fw2 := (hH.out w2 hb2).2; have bw2 := cB.out w2 hb2; have aw2 := cA.out w2 hb2)
      obtain ⟨s6, hb6⟩ := hfin.out (.slice none 0 0) w2 hb2
      generalize World.setCell _ _ _ = w6 at s6 hb6 ⊢
      refine bodyPost_ret (v := .tuple #[.agg #[.slice none 0 0], .int .i64 (ce)]) (by simp [results, Tryz.results12, go_sem, s6]) rfl ⟨⟨none, 0, rfl, ⟨fun _ => rfl, Nat.zero_le _, fun i hi => by simp at hi⟩⟩, hb6⟩
  · obtain ⟨ce, hce⟩ : ∃ ce, subjE a = ce := ⟨_, rfl⟩
    have hje : joinE a b = ce := by unfold joinE; rw [if_pos ea, hce]
    have hCa' := hCa.out
    clear hCa
    rw [hce] at ea hCa'
    have hea : (ce == 0) = false := by simp [ea]
    obtain rfl := hdr.out.trans ((if_neg (by rw [hje]; exact ea)).trans (congrArg (Prod.mk []) hje))
    clear hje hdr hce
    replace hCa' := Lib.hid hCa'
    go_wp2_with (go_at_call 29; refine hCa'.out.mono ?_; rintro e w1 ⟨rfl, hb1⟩; have rw1 := (hH.out w1 hb1).1; have fw1 := (hH.out w1 hb1).2; have bw1 := cB.out w1 hb1; have aw1 := cA.out w1 hb1)
    obtain ⟨s6, hb6⟩ := hfin.out (.slice none 0 0) w1 hb1
    generalize World.setCell _ _ _ = w6 at s6 hb6 ⊢
    refine bodyPost_ret (v := .tuple #[.agg #[.slice none 0 0], .int .i64 (ce)]) (by simp [results, Tryz.results12, go_sem, s6]) rfl ⟨⟨none, 0, rfl, ⟨fun _ => rfl, Nat.zero_le _, fun i hi => by simp at hi⟩⟩, hb6⟩
end Go.Proofs.YtcbnefeedoabeaaGreatDoor
/- The document's Join. -/
namespace Go.Proofs.YtcbnefeedoabeaaGreatDoor
open Go Go.RowKit

/-- 'append' to a row of the call's own, of elements that point below it. -/
theorem run_own {α : Type} (E : Elt α) {P : Nat → Prop} {B : Nat} {es fs : List α} {v : Value} {w : World} (ty : TypeId) (hPB : ∀ k, P k → k < B) (hrow : GRow E P es B v w) (px : Option Addr) (m cx : Nat) (hm : fs.length = m) (hn : px = none → m = 0 ∧ cx = 0) (hnews : ∀ ad, px = some ad → ∀ j u, (E.row fs)[j]? = some u → w.cell? (ad.add j) = some u) (hok : ∀ e ∈ fs, E.ok P e w) (hl : es.length + m ≤ 1000) (hB : B ≤ w.heap.size) :
    ∃ v' w', (Builtin.append_ #[E.S, E.S] ty #[v, .slice px (m : Nat) cx]).run Tryz.prog w = .ok v' w' ∧ GRow E P (es ++ fs) B v' w' ∧ Below B w w' := by
  subst hm
  obtain ⟨i0, hi, hz0, hz1, hz2⟩ := info_parts E.info
  have hfit := E.fit
  cases px with
  | none =>
    obtain ⟨h0, rfl⟩ := hn rfl
    obtain rfl : fs = [] := List.eq_nil_of_length_eq_zero h0
    exact ⟨v, w, run_append_owned_none (P := Tryz.prog) (w := w) B E.S ty E.T i0 E.k E.under hi v es.length (E.row es) hrow.own, by simpa using hrow, Below.refl _ _⟩
  | some ad =>
    obtain ⟨v', w', h3, h4, h5, _⟩ := run_append_own (P := Tryz.prog) w B E.S ty E.T i0 E.zero E.k E.size E.under hi hz0 hz1 hz2 E.zlen E.pos v es.length (E.row es) hrow.own ad fs.length cx (E.row fs) (E.row_length fs) (hnews ad rfl) (E.row_one fs) (by unfold maxLen; omega) (by
      have : (es.length + fs.length) * E.size ≤ 1000 * 1000 := Nat.mul_le_mul hl hfit
      omega) hB
    have hbl := (Below.refl B w).grown h5 hB (fun k hk => (hrow.lt k hk).1)
    refine ⟨v', w', h3, ⟨?_, fun e he => ?_⟩, hbl⟩
    · have h9 : E.row (es ++ fs) = E.row es ++ E.row fs := by simp [Elt.row]
      rw [h9, List.length_append]
      exact h4
    · have h0 : E.ok P e w := by
        rcases List.mem_append.1 he with h | h
        · exact E.mono (hrow.ok e h) fun b _ hb => hb.1
        · exact hok e h
      have h1 : E.ok P e w' := E.same h0 ⟨hbl.size, fun b hb _ => hbl.block b (hPB b hb)⟩
      refine E.mono h1 fun b _ hb => ⟨hb, fun e => ?_⟩
      have := (World.ownsRow.lt h4 b e).1
      have := hPB b hb
      omega
theorem GRow.base {α : Type} {E : Elt α} {P : Nat → Prop} {es : List α} {B C : Nat} {v : Value} {w : World} (h : GRow E P es B v w) (hC : C ≤ B) : GRow E P es C v w := by
  refine ⟨⟨h.own.1, ?_⟩, h.ok⟩
  rcases h.own.2 with h0 | ⟨g, cap, cur, hv, hB, rest⟩
  · exact .inl h0
  · exact .inr ⟨g, cap, cur, hv, Nat.le_trans hC hB, rest⟩
theorem row_drop {α : Type} (E : Elt α) (es : List α) (k : Nat) (hk : k ≤ es.length) (j : Nat) : (E.row (es.drop k))[j]? = (E.row es)[k * E.k + j]? := by
  have h : E.row es = E.row (es.take k) ++ E.row (es.drop k) := by
    unfold Elt.row
    rw [← List.flatMap_append, List.take_append_drop]
  have hl : (E.row (es.take k)).length = k * E.k := by rw [E.row_length, List.length_take]; congr 1; omega
  rw [h, List.getElem?_append_right (by omega), hl]
  congr 1
  omega
theorem row_take {α : Type} (E : Elt α) (es : List α) (k : Nat) (j : Nat) (u : Value) (h : (E.row (es.take k))[j]? = some u) : (E.row es)[j]? = some u := by
  have h2 : E.row es = E.row (es.take k) ++ E.row (es.drop k) := by
    unfold Elt.row
    rw [← List.flatMap_append, List.take_append_drop]
  rw [h2, List.getElem?_append_left (List.getElem?_eq_some_iff.1 h).1]
  exact h
/-- A row's slice, and each of its cells. -/
theorem GRow.cellsAt {P : Nat → Prop} {es : List CEl} {B : Nat} {v : Value} {w : World} (h : GRow eltC P es B v w) : ∃ (p : Option Addr) (c : Nat), v = .slice p es.length c ∧ (p = none → es = [] ∧ c = 0) ∧ es.length ≤ c ∧ ∀ ad, p = some ad → ∃ g, ad = ⟨g, 0, none⟩ ∧ B ≤ g ∧ g < w.heap.size ∧ ∀ j u, (eltC.row es)[j]? = some u → w.cell? ⟨g, j, none⟩ = some u := by
  rcases h.own.2 with ⟨rfl, h0⟩ | ⟨g, cap, cur, rfl, hB, hg, hn, hc, hs, ht⟩
  · exact ⟨none, 0, by rw [h0], fun _ => ⟨List.eq_nil_of_length_eq_zero h0, rfl⟩, by omega, fun ad e => by cases e⟩
  · refine ⟨some ⟨g, 0, none⟩, cap, rfl, fun e => (by cases e), hn, fun ad e => ?_⟩
    injection e with e
    subst e
    refine ⟨g, rfl, hB, (Array.getElem?_eq_some_iff.1 hg).1, fun j u hu => ?_⟩
    rw [← ht, List.getElem?_take] at hu
    split at hu
    · rw [Lib.cell_of_heap hg, ← Array.getElem?_toList]
      exact hu
    · cases hu
/-- Where a context comes in a row. -/
def rankK (k : ByteArray) : List Ctx → Nat
  | [] => 0
  | x :: t => if kl x.kind k = true then rankK k t + 1 else 0
theorem rankK_le (k : ByteArray) : ∀ l, rankK k l ≤ l.length
  | [] => Nat.le_refl _
  | x :: t => by
    unfold rankK
    have := rankK_le k t
    split
    · simp; omega
    · exact Nat.zero_le _
theorem rankK_lt (k : ByteArray) : ∀ l j (h : j < l.length), j < rankK k l → kl l[j].kind k = true
  | [], j, h, _ => by simp at h
  | x :: t, j, h, hj => by
    unfold rankK at hj
    split at hj
    · rename_i hx
      cases j with
      | zero => exact hx
      | succ j => exact rankK_lt k t j (by simpa using h) (by omega)
    · omega
theorem rankK_at (k : ByteArray) : ∀ l (h : rankK k l < l.length), kl l[rankK k l].kind k = false
  | [], h => by simp at h
  | x :: t, h => by
    cases hx : kl x.kind k with
    | true =>
      have h1 : rankK k (x :: t) = rankK k t + 1 := if_pos hx
      have h2 : rankK k t < t.length := by rw [h1] at h; simpa using h
      have := rankK_at k t h2
      simp only [h1, List.getElem_cons_succ]
      exact this
    | false =>
      have h1 : rankK k (x :: t) = 0 := if_neg (by simp [hx])
      simp only [h1, List.getElem_cons_zero]
      exact hx
theorem insK_rank (c : Ctx) : ∀ l, insK c l = l.take (rankK c.kind l) ++ ([c] ++ l.drop (rankK c.kind l))
  | [] => rfl
  | x :: t => by
    unfold insK rankK
    split
    · rw [insK_rank c t]
      rfl
    · rfl
theorem joinL_snoc (a : List Ctx) (b : List Ctx) (m : Nat) (h : m < b.length) : joinL a (b.take (m + 1)) = insK b[m] (joinL a (b.take m)) := by
  unfold joinL
  rw [List.take_succ_eq_append_getElem h, List.foldl_append]
  rfl
theorem below_drewN {B : Nat} {w w' : World} (h : Below B w w') (n : Nat) : Below B w (w'.drewN n) := ⟨h.os, h.tape, h.output, h.size, h.block⟩
theorem add_at (g o j : Nat) : (⟨g, o, none⟩ : Addr).add j = ⟨g, o + j, none⟩ := by
  unfold Addr.add
  split
  · subst_vars; rfl
  · rfl
theorem not_hasKind {kd : ByteArray} {es : List CEl} {a bt : List Ctx} {k : Nat} (hmap : es.map CEl.x = joinL a bt) (hasc : Asc (es.map CEl.x)) (hless : ∀ j (hj : j < es.length), j < k → Op.bytesLess es[j].x.kind.toList kd.toList = true) (hstop : ∀ hj : k < es.length, Op.bytesLess es[k].x.kind.toList kd.toList = false) (hne : ∀ hj : k < es.length, es[k].x.kind ≠ kd) : hasKind kd a = false := by
  cases h : hasKind kd a with
  | false => rfl
  | true =>
    obtain ⟨x, hx, h1⟩ := List.any_eq_true.1 h
    have hxk : x.kind = kd := list_inj (by simpa using h1)
    have hm : x ∈ es.map CEl.x := by
      rw [hmap]
      exact (joinL_perm bt a).mem_iff.2 (List.mem_append_left _ hx)
    obtain ⟨e, he, rfl⟩ := List.mem_map.1 hm
    obtain ⟨i, hi, rfl⟩ := List.getElem_of_mem he
    rcases Nat.lt_trichotomy i k with h2 | h2 | h2
    · have h3 := hless i hi h2
      rw [hxk] at h3
      exact absurd h3 (by have := kl_irrefl kd; unfold kl at this; rw [this]; decide)
    · subst h2
      exact absurd hxk (hne hi)
    · have h3 := List.pairwise_iff_getElem.1 hasc k i (by rw [List.length_map]; omega) (by rw [List.length_map]; exact hi) h2
      rw [List.getElem_map, List.getElem_map, hxk] at h3
      have h4 := hstop (by omega)
      unfold kl at h3
      rw [h3] at h4
      cases h4
theorem cells_below {es : List CEl} {q : Option Addr} {B : Nat} {w w' : World} (hb : Below w.heap.size w w') (hcell : ∀ ad, q = some ad → ∃ g, ad = ⟨g, 0, none⟩ ∧ B ≤ g ∧ g < w.heap.size ∧ ∀ j u, (eltC.row es)[j]? = some u → w.cell? ⟨g, j, none⟩ = some u) {ad : Addr} (e : q = some ad) {j : Nat} {u : Value} (hu : (eltC.row es)[j]? = some u) : w'.cell? (ad.add j) = some u := by
  obtain ⟨g, rfl, _, hg, hc⟩ := hcell ad e
  have h := (hb.cell (p := ⟨g, j, none⟩) hg).trans (hc j u hu)
  rw [add_at]
  simpa using h
theorem drop_none {es : List CEl} {q : Option Addr} {qc k : Nat} (hqn : q = none → es = [] ∧ qc = 0) (h : (if qc = k then q else q.map (·.add (k * 3))) = none) : es.length - k = 0 ∧ qc - k = 0 := by
  have hq : q = none := by
    split at h
    · exact h
    · cases q with
      | none => rfl
      | some ad => cases h
  obtain ⟨rfl, rfl⟩ := hqn hq
  exact ⟨by simp, by simp⟩
theorem drop_news {es : List CEl} {q : Option Addr} {qc k B : Nat} {w w' : World} (hb : Below w.heap.size w w') (hcell : ∀ ad, q = some ad → ∃ g, ad = ⟨g, 0, none⟩ ∧ B ≤ g ∧ g < w.heap.size ∧ ∀ j u, (eltC.row es)[j]? = some u → w.cell? ⟨g, j, none⟩ = some u) (hk : k ≤ es.length) (hqc : es.length ≤ qc) {ad : Addr} (e : (if qc = k then q else q.map (·.add (k * 3))) = some ad) {j : Nat} {u : Value} (hu : (eltC.row (es.drop k))[j]? = some u) : w'.cell? (ad.add j) = some u := by
  split at e
  · have h0 : es.drop k = [] := List.drop_eq_nil_of_le (by omega)
    rw [h0] at hu
    simp [Elt.row] at hu
  · cases q with
    | none => cases e
    | some a0 =>
      obtain ⟨g, rfl, _, hg, hc⟩ := hcell a0 rfl
      cases e
      rw [row_drop eltC es k hk j] at hu
      have h := (hb.cell (p := ⟨g, k * 3 + j, none⟩) hg).trans (hc _ u hu)
      show w'.cell? (((⟨g, 0, none⟩ : Addr).add (k * 3)).add j) = some u
      rw [add_at, add_at]
      simpa using h
theorem wpList_run {ops : Array Oper} {rest : List Oper} {o : Oper} {a : Act} {w w' : World} {v u v' : Value} {Q : Exit → Act → World → Prop} (hgd : o.guard = none) (s x : Operand) {S : TypeId}
    (ho : o.op = .call { callee := .builtin .append, args := #[s, x], argTypes := #[S, S] }) (hs : a.eval s = v) (hx : a.eval x = u) (hrun : (Builtin.append_ #[S, S] o.type #[v, u]).run Tryz.prog w = .ok v' w') (h : wpList Tryz.prog ops Q rest (a.put o.dst v') w') :
    wpList Tryz.prog ops Q (o :: rest) a w := by
  refine wpList_plain hgd fun K hK => ?_
  unfold Oper.wp
  simp [execOp, ho, resolve, invoke, builtin, hs, hx, hrun, Result.andThen]
  exact hK _ _ h
set_option linter.unusedSimpArgs false in
set_option linter.unusedVariables false in
set_option maxHeartbeats 8000000 in
set_option maxRecDepth 100000 in
theorem refJoin_any5 {P Q : Nat → Prop} (pa pb : Option Addr) (ca cb : Nat) (a b : List Ctx) (w : World) (E : Env w) (hA : CtxsP P pa ca a w) (hB : CtxsP Q pb cb b w) (hFa : ∀ x ∈ a, FitC x) (hFb : ∀ x ∈ b, FitC x) (hla : a.length ≤ 100) (hlb : b.length ≤ 100) :
    Calls Tryz.prog 13 #[.agg #[.slice pa (a.length : Nat) ca], .agg #[.slice pb (b.length : Nat) cb]] w fun en w' => (∃ (q : Option Addr) (d : Nat), en = .returned (.tuple #[.agg #[.slice q ((joinP a b).1.length : Nat) d], .int .i64 (joinP a b).2]) ∧ CtxsP (fun _ => True) q d (joinP a b).1 w') ∧ Below w.heap.size w w' := by
  have hAw := hA.mono (Q := fun k => k < w.heap.size) fun k hk _ => hk
  have hBw := hB.mono (Q := fun k => k < w.heap.size) fun k hk _ => hk
  have hb0 := (((Below.refl w.heap.size w).alloc (Nat.le_refl _) (.cells #[.slice pa (a.length : Nat) ca] 25)).alloc (by simp) (.cells #[.slice pb (b.length : Nat) cb] 25)).alloc (by simp; omega) (.cells #[.slice none 0 0] 25)
  have hs0 : (((w.alloc (.cells #[.slice pa (a.length : Nat) ca] 25)).alloc (.cells #[.slice pb (b.length : Nat) cb] 25)).alloc (.cells #[.slice none 0 0] 25)).heap.size = w.heap.size + 3 := by simp
  have zA : (((w.alloc (.cells #[.slice pa (a.length : Nat) ca] 25)).alloc (.cells #[.slice pb (b.length : Nat) cb] 25)).alloc (.cells #[.slice none 0 0] 25)).heap[w.heap.size]? = some (.cells #[.slice pa (a.length : Nat) ca] 25 (0, 0)) := (Lib.alloc_old _ _ _ (by simp; omega)).trans ((Lib.alloc_old _ _ _ (by simp)).trans (heap_alloc_new w _))
  have zB : (((w.alloc (.cells #[.slice pa (a.length : Nat) ca] 25)).alloc (.cells #[.slice pb (b.length : Nat) cb] 25)).alloc (.cells #[.slice none 0 0] 25)).heap[w.heap.size + 1]? = some (.cells #[.slice pb (b.length : Nat) cb] 25 (0, 0)) := (Lib.alloc_old _ _ _ (by simp)).trans (by have := heap_alloc_new (w.alloc (.cells #[.slice pa (a.length : Nat) ca] 25)) (.cells #[.slice pb (b.length : Nat) cb] 25); simpa using this)
  have zR : (((w.alloc (.cells #[.slice pa (a.length : Nat) ca] 25)).alloc (.cells #[.slice pb (b.length : Nat) cb] 25)).alloc (.cells #[.slice none 0 0] 25)).heap[w.heap.size + 2]? = some (.cells #[.slice none 0 0] 25 (0, 0)) := by have := heap_alloc_new ((w.alloc (.cells #[.slice pa (a.length : Nat) ca] 25)).alloc (.cells #[.slice pb (b.length : Nat) cb] 25)) (.cells #[.slice none 0 0] 25); simpa using this
  have hdr : joinP a b = if joinE a b = 0 then (joinL a b, 0) else ([], joinE a b) := rfl
  obtain ⟨dd, hdd⟩ : ∃ dd, joinP a b = dd := ⟨_, rfl⟩
  rw [hdd] at hdr ⊢
  replace hdr := Lib.hid hdr
  clear hdd
  go_enter Tryz.func13, Tryz.ntmps13
  go_upto_region 1 with (fail)
  generalize (((w.alloc (.cells #[.slice pa (a.length : Nat) ca] 25)).alloc (.cells #[.slice pb (b.length : Nat) cb] 25)).alloc (.cells #[.slice none 0 0] 25)) = w0 at hb0 hs0 zA zB zR ⊢
  have hA0 := hAw.same (SameB.of_below hb0)
  have hB0 := hBw.same (SameB.of_below hb0)
  have hE0 := E.below hb0
  have cA : ∀ W, Below w0.heap.size w0 W → W.cell? ⟨w.heap.size, 0, none⟩ = some (.slice pa a.length ca) := fun W h => by rw [Lib.cell_of_heap ((h.block _ (by omega)).trans zA)]; rfl
  have cB : ∀ W, Below w0.heap.size w0 W → W.cell? ⟨w.heap.size + 1, 0, none⟩ = some (.slice pb b.length cb) := fun W h => by rw [Lib.cell_of_heap ((h.block _ (by omega)).trans zB)]; rfl
  have hH : ∀ W, Below w0.heap.size w0 W → W.cell? ⟨w.heap.size + 2, 0, none⟩ = some (.slice none 0 0) ∧ (∀ i, W.frozen? ⟨w.heap.size + 2, i, none⟩ = false) := fun W h => ⟨by rw [Lib.cell_of_heap ((h.block _ (by omega)).trans zR)]; rfl, Lib.frozen_of_heap ((h.block _ (by omega)).trans zR)⟩
  have hfin : ∀ (u : Value) w5, Below w0.heap.size w0 w5 → (w5.setCell ⟨w.heap.size + 2, 0, none⟩ u).cell? ⟨w.heap.size + 2, 0, none⟩ = some u ∧ Below w.heap.size w (w5.setCell ⟨w.heap.size + 2, 0, none⟩ u) := fun u w5 hb5 => by
    have z5 := (hb5.block (w.heap.size + 2) (by omega)).trans zR
    refine ⟨?_, (hb0.trans (hb5.mono (by omega))).setCell (p := ⟨w.heap.size + 2, 0, none⟩) (by show w.heap.size ≤ w.heap.size + 2; omega) u⟩
    rw [Lib.cell_of_heap (box_put z5 (i := 0) u)]
    rfl
  have hCa := refCheck_subject pa ca a w0 hE0 hA0 hFa (by omega)
  have hCb := fun W (h : Below w0.heap.size w0 W) => refCheck_subject pb cb b W (hE0.below h) (hB0.same (SameB.of_below h)) hFb (by omega)
  have cA0 := cA w0 (Below.refl _ _)
  replace cA := Lib.hid cA
  replace cB := Lib.hid cB
  replace hH := Lib.hid hH
  replace hfin := Lib.hid hfin
  replace hCb := Lib.hid hCb
  replace hCa := Lib.hid hCa
  clear zA zB zR hA hB hAw hBw E
  by_cases ea : subjE a = 0
  · have hCa' := hCa.out
    rw [ea] at hCa'
    replace hCa' := Lib.hid hCa'
    clear hCa
    go_upto_region 4 with (go_at_call 39; refine hCa'.out.mono ?_; rintro e w1 ⟨rfl, hb1⟩; have rw1 := (hH.out w1 hb1).1; have fw1 := (hH.out w1 hb1).2; have bw1 := cB.out w1 hb1; have aw1 := cA.out w1 hb1)
    have hCb1 := hCb.out w1 hb1
    clear hCb hCa'
    by_cases eb : subjE b = 0
    · rw [eb] at hCb1
      replace hCb1 := Lib.hid hCb1
      go_upto_region 7 with (go_at_call 39; refine hCb1.out.mono ?_; rintro e w2 ⟨rfl, hb2'⟩; have hb2 := hb1.trans (hb2'.mono hb1.size); have rw2 := (hH.out w2 hb2).1; have fw2 := (hH.out w2 hb2).2; have bw2 := cB.out w2 hb2; have aw2 := cA.out w2 hb2)
      clear hCb1 hb2' hb1 rw1 fw1 bw1 aw1 cA0
      obtain ⟨hla4, hta⟩ := valid_tiny ea
      obtain ⟨hlb4, htb⟩ := valid_tiny eb
      obtain ⟨fa, hfa, ela⟩ := (hA0.same (SameB.of_below hb2)).els
      have hs2 := hb2.size
      obtain ⟨v3, w3, hrun3, hrow3, hb3⟩ := run_own eltC 23 (P := fun k => k < w.heap.size) (B := w2.heap.size) (es := []) (fs := fa) (v := .slice none 0 0) (w := w2) (fun k hk => by omega) (GRow.nil eltC _ _ _) pa a.length ca (by rw [← hfa, List.length_map]) (fun e => by have := hA0.nil e; have := hA0.cap; omega) (fun ad e => by subst e; exact els_news ela) ela.ok (by simp; omega) (Nat.le_refl _)
      rw [List.nil_append] at hrow3
      go_upto_region 8 with (at_builtin; refine wpList_run rfl _ _ rfl rfl rfl hrun3 ?_)
      have hst : ∃ es, GRow eltC (fun k => k < w.heap.size) es w2.heap.size v3 w3 ∧ es.map CEl.x = joinL a (b.take 0) := ⟨fa, hrow3, by rw [hfa]; rfl⟩
      clear hrun3 hrow3 ela hfa aw2 bw2 rw2 fw2
      go_wp2
      go_loopw [8, 9, 10, 11] (fun s i _ _ wr => ∃ m : Nat, m ≤ b.length ∧ i = .int .i64 m ∧ Below w2.heap.size w2 wr ∧ (∀ j (hj : j < b.length), j < m → hasKind b[j].kind a = false) ∧ ∃ es, GRow eltC (fun k => k < w.heap.size) es w2.heap.size s wr ∧ es.map CEl.x = joinL a (b.take m)) (fun _ i _ _ _ => b.length - (intOf i).toNat)
      case atStart => exact ⟨0, Nat.zero_le _, rfl, hb3, fun j _ hj => by omega, hst⟩
      case round =>
        obtain ⟨m, hm, rfl, hbr2, hno, es, hrow, hmap⟩ := hrel
        clear hst
        have hbr := hb2.trans (hbr2.mono hs2)
        have bw := cB.out wr hbr
        have hlen4 : es.length ≤ 8 := by
          have h9 := congrArg List.length hmap
          rw [List.length_map, (joinL_perm (b.take m) a).length_eq, List.length_append, List.length_take] at h9
          omega
        by_cases hlt : m < b.length
        · have hmI : (m : Int) < (b.length : Int) := by omega
          have hmI0 : (0 : Int) ≤ (m : Int) := by omega
          obtain ⟨bk, off, rfl, hPb, hbl, hat⟩ := (hB0.same (SameB.of_below hbr)).at_ m hlt
          obtain ⟨d0, d1, p, c, d2, hq⟩ := hat
          have hasc : Asc (joinL a (b.take m)) ∧ ∀ x ∈ joinL a (b.take m), x.kind = b[m].kind → hasKind b[m].kind a = true := by
            have hb1 := (valid_asc eb).1
            have hdis : ∀ x ∈ a, ∀ y ∈ b.take m, x.kind ≠ y.kind := fun x hx y hy e => by
              obtain ⟨j, hj, rfl⟩ := List.getElem_of_mem hy
              have hj' : j < m := by rw [List.length_take] at hj; omega
              have h1 := hno j (by omega) hj'
              unfold hasKind at h1
              rw [List.any_eq_false] at h1
              have h2 := h1 x hx
              rw [List.getElem_take] at e
              rw [e] at h2
              simp at h2
            refine ⟨joinL_asc _ _ (valid_asc ea).1 (hb1.sublist (List.take_sublist _ _)) hdis, fun x hx e => ?_⟩
            rcases List.mem_append.1 ((joinL_perm _ _).mem_iff.1 hx) with h | h
            · refine List.any_eq_true.2 ⟨x, h, ?_⟩
              rw [e]
              simp
            · obtain ⟨j, hj, rfl⟩ := List.getElem_of_mem h
              have hj' : j < m := by rw [List.length_take] at hj; omega
              have h3 := List.pairwise_iff_getElem.1 hb1 j m (by omega) hlt hj'
              rw [List.getElem_take] at e
              rw [e, kl_irrefl] at h3
              cases h3
          have hsnoc := joinL_snoc a b m hlt
          have hmem := List.getElem_mem hlt
          have hno' := hno
          obtain ⟨x, hx⟩ : ∃ x, b[m] = x := ⟨_, rfl⟩
          rw [hx] at d0 d1 d2 hmem hasc hsnoc hq
          replace hx := Lib.hid hx
          replace hno := Lib.hid hno'
          clear hno'
          rw [← hmap] at hasc hsnoc
          obtain ⟨kd, ky, at_⟩ := x
          simp only at d0 d1 d2 hq hasc
          rw [insK_rank] at hsnoc
          simp only at hsnoc
          obtain ⟨k0, hk0⟩ : ∃ k0, rankK kd (es.map CEl.x) = k0 := ⟨_, rfl⟩
          have hk0l : k0 ≤ es.length := by rw [← hk0]; have := rankK_le kd (es.map CEl.x); rwa [List.length_map] at this
          have hless : ∀ j (hj : j < es.length), j < k0 → Op.bytesLess es[j].x.kind.toList kd.toList = true := fun j hj h => by
            have := rankK_lt kd (es.map CEl.x) j (by simpa using hj) (by omega)
            simpa [kl] using this
          have hstop : ∀ (hj : k0 < es.length), Op.bytesLess es[k0].x.kind.toList kd.toList = false := fun hj => by
            have := rankK_at kd (es.map CEl.x) (by rw [hk0]; simpa using hj)
            simp only [hk0, List.getElem_map] at this
            exact this
          rw [hk0] at hsnoc
          replace hsnoc := Lib.hid hsnoc
          replace hasc := Lib.hid hasc
          replace hless := Lib.hid hless
          replace hstop := Lib.hid hstop
          replace hmap := Lib.hid hmap
          clear hk0
          have hbX := (Below.refl wr.heap.size wr).alloc (Nat.le_refl _) (.cells #[.string kd, .string ky, .slice p (at_.length : Nat) c] 63)
          have zX := heap_alloc_new wr (.cells #[.string kd, .string ky, .slice p (at_.length : Nat) c] 63)
          go_upto_region 12 with (fail)
          generalize wr.alloc (.cells #[.string kd, .string ky, .slice p (at_.length : Nat) c] 63) = wX at hbX zX ⊢
          have hXs : wr.heap.size < wX.heap.size := (Array.getElem?_eq_some_iff.1 zX).1
          have hb2X := hbr2.trans (hbX.mono hbr2.size)
          have hrowX := hrow.below hbX
          have hqX := hq.same (SameB.of_below hbX)
          have hltown := hrow.lt
          obtain ⟨q, qc, hv, hqn, hqc, hcell⟩ := hrowX.cellsAt
          subst hv
          clear hrow hbX d0 d1 d2 hq bw
          generalize hXe : wr.heap.size = X at zX hXs hltown ⊢
          have x0 : wX.cell? ⟨X, 0, none⟩ = some (.string kd) := by rw [Lib.cell_of_heap zX]; rfl
          have x1 : wX.cell? ⟨X, 1, none⟩ = some (.string ky) := by rw [Lib.cell_of_heap zX]; rfl
          have x2 : wX.cell? ⟨X, 2, none⟩ = some (.slice p at_.length c) := by rw [Lib.cell_of_heap zX]; rfl
          go_wp2
          go_loopw [11] (fun i wq => ∃ k : Nat, k ≤ k0 ∧ i = .int .i64 k ∧ Below wX.heap.size wX wq) (fun i _ => k0 - (intOf i).toNat)
          case atStart => exact ⟨0, Nat.zero_le _, rfl, Below.refl _ _⟩
          case round =>
            obtain ⟨k, hk, rfl, hbq⟩ := hrel
            have y0 := (hbq.cell (p := ⟨X, 0, none⟩) hXs).trans x0
            by_cases hkt : k < k0
            · have hke : k < es.length := by omega
              have hkI : (k : Int) < (es.length : Int) := by omega
              have hkI0 : (0 : Int) ≤ (k : Int) := by omega
              have hl := hless.out k hke hkt
              obtain ⟨ad, rfl⟩ : ∃ ad, q = some ad := by
                cases q with
                | none => have := (hqn rfl).1; subst this; simp at hke
                | some ad => exact ⟨ad, rfl⟩
              obtain ⟨g, rfl, hgB, hgs, hgc⟩ := hcell ad rfl
              have e0 : wr.cell? ⟨g, k * 3, none⟩ = some (.string es[k].x.kind) := (hbq.cell (p := ⟨g, k * 3, none⟩) hgs).trans (hgc (k * 3) _ (by have := eltC.row_at es k hke 0 (by decide); rw [Nat.add_zero] at this; exact this))
              generalize es[k].x.kind = kk at hl e0
              go_upto_region 13 with (fail)
              go_quiet (fail)
              go_wp2
              go_roundw
              case rel => exact ⟨k + 1, by omega, by go_num, below_drewN hbq _⟩
              case measure => simp [intOf]; omega
            · obtain rfl : k = k0 := by omega
              by_cases hke : k < es.length
              · have hkI : (k : Int) < (es.length : Int) := by omega
                have hkI0 : (0 : Int) ≤ (k : Int) := by omega
                have hl := hstop.out hke
                obtain ⟨ad, rfl⟩ : ∃ ad, q = some ad := by
                  cases q with
                  | none => have := (hqn rfl).1; subst this; simp at hke
                  | some ad => exact ⟨ad, rfl⟩
                obtain ⟨g, rfl, hgB, hgs, hgc⟩ := hcell ad rfl
                have e0 : wr.cell? ⟨g, k * 3, none⟩ = some (.string es[k].x.kind) := (hbq.cell (p := ⟨g, k * 3, none⟩) hgs).trans (hgc (k * 3) _ (by have := eltC.row_at es k hke 0 (by decide); rw [Nat.add_zero] at this; exact this))
                obtain ⟨kk, hkk⟩ : ∃ kk, es[k].x.kind = kk := ⟨_, rfl⟩
                rw [hkk] at hl e0
                replace hkk := Lib.hid hkk
                go_upto_region 13 with (fail)
                go_quiet (fail)
                go_upto_region 15 with (fail)
                generalize hwz : wr.drewN _ = wz
                have hbz : Below wX.heap.size wX wz := by rw [← hwz]; exact below_drewN hbq _
                clear hwz
                have e0z : wz.cell? ⟨g, k * 3, none⟩ = some (.string kk) := (hbz.cell (p := ⟨g, k * 3, none⟩) hgs).trans (by rw [← hkk.out]; exact hgc (k * 3) _ (by have := eltC.row_at es k hke 0 (by decide); rw [Nat.add_zero] at this; exact this))
                have y0z := (hbz.cell (p := ⟨X, 0, none⟩) hXs).trans x0
                clear e0 y0 hl
                cases heq : (kk.toList == kd.toList) with
                | true =>
                  go_quiet (fail)
                  go_upto_region 16 with (fail)
                  generalize hwy : wz.drewN _ = wy
                  have hby : Below wX.heap.size wX wy := by rw [← hwy]; exact below_drewN hbz _
                  clear hwy e0z y0z
                  have hb0y := (hb2.trans (hb2X.mono hs2)).trans (hby.mono (by have := (hb2.trans (hb2X.mono hs2)).size; omega))
                  have rwy := (hH.out wy hb0y).1
                  have fwy := (hH.out wy hb0y).2
                  have hdup : hasKind kd a = true := hasc.out.2 es[k].x (List.mem_map_of_mem (List.getElem_mem hke)) (by rw [hkk.out]; exact list_inj (by simpa using heq))
                  have hcl : clash a b = true := by rw [clash_comm]; exact List.any_eq_true.2 ⟨_, hmem, hdup⟩
                  have hje : joinE a b = 10 := by unfold joinE; rw [if_neg (by simp [ea]), if_neg (by simp [eb]), if_pos hcl]
                  obtain rfl := hdr.out.trans ((if_neg (by rw [hje]; decide)).trans (congrArg (Prod.mk []) hje))
                  clear hcl hdup hje hdr heq
                  go_wp2
                  obtain ⟨s6, hb6⟩ := hfin.out (.slice none 0 0) wy hb0y
                  generalize World.setCell _ _ _ = w6 at s6 hb6 ⊢
                  refine bodyPost_ret (v := .tuple #[.agg #[.slice none 0 0], .int .i64 (10)]) (by simp [results, Tryz.results13, go_sem, s6]) rfl ⟨⟨none, 0, rfl, ⟨fun _ => rfl, Nat.zero_le _, fun i hi => by simp at hi⟩⟩, hb6⟩
                | false =>
                  go_quiet (fail)
                  go_upto_region 17 with (fail)
                  generalize hwy : wz.drewN _ = wy
                  have hby : Below wX.heap.size wX wy := by rw [← hwy]; exact below_drewN hbz _
                  clear hwy
                  clear hgs hgB hgc e0z hkI hkI0
                  generalize (some (⟨g, 0, none⟩ : Addr)) = q at hqn hcell hrowX hltown ⊢
                  have hqcI : (es.length : Int) ≤ (qc : Int) := by omega
                  have hkqI : (k : Int) ≤ (qc : Int) := by omega
                  have hklI : (k : Int) ≤ (es.length : Int) := by omega
                  have hk0I : (0 : Int) ≤ (k : Int) := by omega
                  have hXw0 := hb2X.size
                  have hXw1 := hb2.size
                  have hXw2 := hb0.size
                  have hld := hrowX.ok
                  have hno2 : ∀ j (hj : j < b.length), j < m + 1 → hasKind b[j].kind a = false := fun j hj hjm => by
                    by_cases hj2 : j = m
                    · subst hj2
                      rw [hx.out]
                      exact not_hasKind hmap.out hasc.out.1 hless.out hstop.out (fun hj => by rw [hkk.out]; exact fun e => by rw [e] at heq; simp at heq)
                    · exact hno.out j hj (by omega)
                  have hhold : ∀ W, Below wX.heap.size wX W → (fun w' => w'.cell? ⟨X, 0, none⟩ = some (.string kd) ∧ w'.cell? ⟨X, 1, none⟩ = some (.string ky) ∧ w'.cell? ⟨X, 2, none⟩ = some (.slice p at_.length c)) W := fun W h => ⟨(h.cell (p := ⟨X, 0, none⟩) hXs).trans x0, (h.cell (p := ⟨X, 1, none⟩) hXs).trans x1, (h.cell (p := ⟨X, 2, none⟩) hXs).trans x2⟩
                  replace hhold := Lib.hid hhold
                  refine wp_region_held_drew (S := fun w' => w'.cell? ⟨X, 0, none⟩ = some (.string kd) ∧ w'.cell? ⟨X, 1, none⟩ = some (.string ky) ∧ w'.cell? ⟨X, 2, none⟩ = some (.slice p at_.length c)) (by kernel_rfl) (hhold.out wy hby) (fun hHeld => ?_)
                  have hbd : Below wX.heap.size wX wy.drew := ⟨hby.os, hby.tape, hby.output, hby.size, hby.block⟩
                  generalize wy.drew = wd at hbd hHeld ⊢
                  refine wpAnyH_take (i := 0) (v := ?_) rfl (by kernel_rfl) (by kernel_rfl) (by kernel_rfl) (fun _ _ _ h => h) (Or.inl ⟨by rfl, ?_⟩) hHeld ?_
                  rotate_left
                  · intro w' hSw
                    go_simp
                    try with_reducible rfl
                  try simp only [List.getElem_toArray, List.getElem_cons_succ, List.getElem_cons_zero, Act.put, List.setIfInBounds_toArray, List.set_cons_zero, List.set_cons_succ]
                  refine wpAnyH_take (i := 1) (v := ?_) rfl (by kernel_rfl) (by kernel_rfl) (by kernel_rfl) (fun _ _ _ h => h) (Or.inl ⟨by rfl, ?_⟩) hHeld ?_
                  rotate_left
                  · intro w' hSw
                    go_simp
                    try with_reducible rfl
                  try simp only [List.getElem_toArray, List.getElem_cons_succ, List.getElem_cons_zero, Act.put, List.setIfInBounds_toArray, List.set_cons_zero, List.set_cons_succ]
                  refine wpAnyH_take (i := 2) (v := ?_) rfl (by kernel_rfl) (by kernel_rfl) (by kernel_rfl) (fun _ _ _ h => h) (Or.inl ⟨by rfl, ?_⟩) hHeld ?_
                  rotate_left
                  · intro w' hSw
                    go_simp
                    try with_reducible rfl
                  try simp only [List.getElem_toArray, List.getElem_cons_succ, List.getElem_cons_zero, Act.put, List.setIfInBounds_toArray, List.set_cons_zero, List.set_cons_succ]
                  refine wpAnyH_take (i := 4) (v := ?_) rfl (by kernel_rfl) (by kernel_rfl) (by kernel_rfl) (fun _ _ _ h => h) (Or.inl ⟨by rfl, ?_⟩) hHeld ?_
                  rotate_left
                  · intro w' hSw
                    obtain ⟨e1, e2, e3⟩ := hSw
                    go_simp
                    try with_reducible rfl
                  try simp only [List.getElem_toArray, List.getElem_cons_succ, List.getElem_cons_zero, Act.put, List.setIfInBounds_toArray, List.set_cons_zero, List.set_cons_succ]
                  refine wpAnyH_take (i := 7) (v := ?_) rfl (by kernel_rfl) (by kernel_rfl) (by kernel_rfl) (fun _ _ _ h => h) (Or.inl ⟨by rfl, ?_⟩) hHeld ?_
                  rotate_left
                  · intro w' hSw
                    go_simp
                    try with_reducible rfl
                  try simp only [List.getElem_toArray, List.getElem_cons_succ, List.getElem_cons_zero, Act.put, List.setIfInBounds_toArray, List.set_cons_zero, List.set_cons_succ]
                  refine wpAnyH_take (i := 8) (v := ?_) rfl (by kernel_rfl) (by kernel_rfl) (by kernel_rfl) (fun _ _ _ h => h) (Or.inl ⟨by rfl, ?_⟩) hHeld ?_
                  rotate_left
                  · intro w' hSw
                    go_simp
                    try with_reducible rfl
                  try simp only [List.getElem_toArray, List.getElem_cons_succ, List.getElem_cons_zero, Act.put, List.setIfInBounds_toArray, List.set_cons_zero, List.set_cons_succ]
                  refine wpAnyH_take (i := 9) (v := ?_) rfl (by kernel_rfl) (by kernel_rfl) (by kernel_rfl) (fun _ _ _ h => h) (Or.inl ⟨by rfl, ?_⟩) hHeld ?_
                  rotate_left
                  · intro w' hSw
                    go_simp
                    try with_reducible rfl
                  try simp only [List.getElem_toArray, List.getElem_cons_succ, List.getElem_cons_zero, Act.put, List.setIfInBounds_toArray, List.set_cons_zero, List.set_cons_succ]
                  refine wpAnyH_ready (rs := [3, 5]) (by kernel_rfl) (by simp) ?_
                  refine AllReadyH.cons rfl (fun K hK => ?_) (AllReadyH.cons rfl (fun K hK => ?_) AllReadyH.nil)
                  · have hs3 := hbd.size
                    obtain ⟨v3, w3, hrun3, hrow3, hb3'⟩ := run_own eltC 23 (P := fun k => k < w.heap.size) (B := wd.heap.size) (es := []) (fs := es.take k) (v := .slice none 0 0) (w := wd) (fun k hk => by omega) (GRow.nil eltC _ _ _) q k qc (by rw [List.length_take]; omega) (fun e => ⟨by rw [(hqn e).1] at hk0l; simpa using hk0l, (hqn e).2⟩) (fun ad e j u hu => cells_below hbd hcell e (row_take eltC es k j u hu)) (fun e he => eltC.mono (eltC.same (hld e (List.mem_of_mem_take he)) (SameB.of_below hbd)) fun b _ hb => hb.1) (by simp; omega) (Nat.le_refl _)
                    rw [List.nil_append] at hrow3
                    refine step_run (by rfl) _ _ (by rfl) (by rfl) (by rfl) hrun3 ?_
                    have hb3 : Below wX.heap.size wX w3 := hbd.trans (hb3'.mono hs3)
                    refine hK.out _ _ (hhold.out _ hb3) (fun _ => ?_)
                    clear hK K hHeld
                    have hHeld := hhold.out w3 hb3
                    try simp only [List.getElem_toArray, List.getElem_cons_succ, List.getElem_cons_zero, Act.put, List.setIfInBounds_toArray, List.set_cons_zero, List.set_cons_succ]
                    refine wpAnyH_ready (rs := [5]) (by kernel_rfl) (by simp) ?_
                    refine AllReadyH.cons rfl (fun K hK => ?_) AllReadyH.nil
                    go_simp
                    have hb4 : Below wX.heap.size wX (w3.alloc (.cells #[.string kd, .string ky, .slice p (at_.length : Nat) c] 63)) := hb3.alloc (by have := hb3'.size; omega) (.cells #[.string kd, .string ky, .slice p (at_.length : Nat) c] 63)
                    refine hK.out _ _ (hhold.out _ hb4) (fun _ => ?_)
                    clear hK K hHeld
                    have hHeld := hhold.out (w3.alloc (.cells #[.string kd, .string ky, .slice p (at_.length : Nat) c] 63)) hb4
                    try simp only [List.getElem_toArray, List.getElem_cons_succ, List.getElem_cons_zero, Act.put, List.setIfInBounds_toArray, List.set_cons_zero, List.set_cons_succ]
                    have hrow4 := hrow3.below ((Below.refl w3.heap.size w3).alloc (Nat.le_refl _) (.cells #[.string kd, .string ky, .slice p (at_.length : Nat) c] 63))
                    have hB4 : wd.heap.size ≤ (w3.alloc (.cells #[.string kd, .string ky, .slice p (at_.length : Nat) c] 63)).heap.size := by have := hb3'.size; simp; omega
                    have hBX : wX.heap.size ≤ wd.heap.size := hs3
                    refine wpAnyH_ready (rs := [6]) (by kernel_rfl) (by simp) ?_
                    refine AllReadyH.cons rfl (fun K hK => ?_) AllReadyH.nil
                    have hs4 := hb4.size
                    obtain ⟨v6, w6, hrun6, hrow6, hb6'⟩ := run_own eltC 23 (fun k hk => by omega) hrow4 (some ⟨_, 0, none⟩) 1 1 (fs := [⟨⟨kd, ky, at_⟩, p, c⟩]) rfl (fun e => by cases e) (fun ad e => by cases e; exact news_one eltC ⟨⟨kd, ky, at_⟩, p, c⟩ w3) (fun e he => by obtain rfl := List.mem_singleton.1 he; exact hqX.same (SameB.of_below hb4)) (by rw [List.length_take]; omega) hB4
                    refine step_run (by rfl) _ _ (by rfl) (by rfl) (by rfl) hrun6 ?_
                    have hb6 : Below wX.heap.size wX w6 := hb4.trans (hb6'.mono hBX)
                    refine hK.out _ _ (hhold.out _ hb6) (fun _ => ?_)
                    clear hK K hHeld
                    have hHeld := hhold.out w6 hb6
                    try simp only [List.getElem_toArray, List.getElem_cons_succ, List.getElem_cons_zero, Act.put, List.setIfInBounds_toArray, List.set_cons_zero, List.set_cons_succ]
                    refine wpAnyH_ready (rs := [10]) (by kernel_rfl) (by simp) ?_
                    refine AllReadyH.cons rfl (fun K hK => ?_) AllReadyH.nil
                    obtain ⟨v9, w9, hrun9, hrow9, hb9'⟩ := run_own eltC 23 (fun k hk => by omega) hrow6 (if qc = k then q else q.map (·.add (k * 3))) (es.length - k) (qc - k) (fs := es.drop k) (List.length_drop) (drop_none hqn) (fun ad e j u hu => drop_news hb6 hcell hk0l hqc e hu) (fun e he => eltC.mono (eltC.same (hld e (List.mem_of_mem_drop he)) (SameB.of_below hb6)) fun b _ hb => hb.1) (by rw [List.length_append, List.length_take, List.length_singleton]; omega) (by have := hb6'.size; omega)
                    refine step_run (by rfl) _ _ (by rfl) (by rfl) (by rfl) hrun9 ?_
                    have hb9 : Below wX.heap.size wX w9 := hb6.trans (hb9'.mono hBX)
                    refine hK.out _ _ (hhold.out _ hb9) (fun _ => ?_)
                    clear hK K hHeld
                    have hHeld := hhold.out w9 hb9
                    try simp only [List.getElem_toArray, List.getElem_cons_succ, List.getElem_cons_zero, Act.put, List.setIfInBounds_toArray, List.set_cons_zero, List.set_cons_succ]
                    refine wpAnyH_ready (rs := [11]) (by kernel_rfl) (by simp) ?_
                    refine AllReadyH.cons rfl (fun K hK => ?_) AllReadyH.nil
                    go_simp
                    refine hK.out _ _ (hhold.out _ hb9) (fun _ => ?_)
                    clear hK K hHeld
                    have hHeld := hhold.out w9 hb9
                    try simp only [List.getElem_toArray, List.getElem_cons_succ, List.getElem_cons_zero, Act.put, List.setIfInBounds_toArray, List.set_cons_zero, List.set_cons_succ]
                    refine wpAnyH_done (by kernel_rfl) ?_ _
                    have hbc2 := hb2X.trans (hb9.mono hb2X.size)
                    clear hHeld
                    go_wp2
                    go_roundw
                    case rel => exact ⟨m + 1, by omega, by go_num, hbc2, hno2, _, hrow9.base (by omega), by rw [List.map_append, List.map_append, List.map_take, List.map_drop, List.append_assoc]; exact hsnoc.out.symm⟩
                    case measure => simp [intOf]; omega
                  · go_simp
                    have hbe : Below wX.heap.size wX (wd.alloc (.cells #[.string kd, .string ky, .slice p (at_.length : Nat) c] 63)) := hbd.alloc hbd.size (.cells #[.string kd, .string ky, .slice p (at_.length : Nat) c] 63)
                    refine hK.out _ _ (hhold.out _ hbe) (fun _ => ?_)
                    clear hK K hHeld
                    have hHeld := hhold.out (wd.alloc (.cells #[.string kd, .string ky, .slice p (at_.length : Nat) c] 63)) hbe
                    try simp only [List.getElem_toArray, List.getElem_cons_succ, List.getElem_cons_zero, Act.put, List.setIfInBounds_toArray, List.set_cons_zero, List.set_cons_succ]
                    refine wpAnyH_ready (rs := [3]) (by kernel_rfl) (by simp) ?_
                    refine AllReadyH.cons rfl (fun K hK => ?_) AllReadyH.nil
                    have hs3 := hbe.size
                    obtain ⟨v3, w3, hrun3, hrow3, hb3'⟩ := run_own eltC 23 (P := fun k => k < w.heap.size) (B := (wd.alloc (.cells #[.string kd, .string ky, .slice p (at_.length : Nat) c] 63)).heap.size) (es := []) (fs := es.take k) (v := .slice none 0 0) (w := (wd.alloc (.cells #[.string kd, .string ky, .slice p (at_.length : Nat) c] 63))) (fun k hk => by omega) (GRow.nil eltC _ _ _) q k qc (by rw [List.length_take]; omega) (fun e => ⟨by rw [(hqn e).1] at hk0l; simpa using hk0l, (hqn e).2⟩) (fun ad e j u hu => cells_below hbe hcell e (row_take eltC es k j u hu)) (fun e he => eltC.mono (eltC.same (hld e (List.mem_of_mem_take he)) (SameB.of_below hbe)) fun b _ hb => hb.1) (by simp; omega) (Nat.le_refl _)
                    rw [List.nil_append] at hrow3
                    refine step_run (by rfl) _ _ (by rfl) (by rfl) (by rfl) hrun3 ?_
                    have hb3 : Below wX.heap.size wX w3 := hbe.trans (hb3'.mono hs3)
                    refine hK.out _ _ (hhold.out _ hb3) (fun _ => ?_)
                    clear hK K hHeld
                    have hHeld := hhold.out w3 hb3
                    try simp only [List.getElem_toArray, List.getElem_cons_succ, List.getElem_cons_zero, Act.put, List.setIfInBounds_toArray, List.set_cons_zero, List.set_cons_succ]
                    have hb4 := hb3
                    have hrow4 := hrow3
                    have hB4 := hb3'.size
                    have hBX := hs3
                    refine wpAnyH_ready (rs := [6]) (by kernel_rfl) (by simp) ?_
                    refine AllReadyH.cons rfl (fun K hK => ?_) AllReadyH.nil
                    have hs4 := hb4.size
                    obtain ⟨v6, w6, hrun6, hrow6, hb6'⟩ := run_own eltC 23 (fun k hk => by omega) hrow4 (some ⟨_, 0, none⟩) 1 1 (fs := [⟨⟨kd, ky, at_⟩, p, c⟩]) rfl (fun e => by cases e) (fun ad e => by cases e; exact fun j u hu => (hb3'.cell (p := (⟨wd.heap.size, 0, none⟩ : Addr).add j) (by rw [add_at]; show _ < _; simp)).trans (news_one eltC ⟨⟨kd, ky, at_⟩, p, c⟩ wd j u hu)) (fun e he => by obtain rfl := List.mem_singleton.1 he; exact hqX.same (SameB.of_below hb4)) (by rw [List.length_take]; omega) hB4
                    refine step_run (by rfl) _ _ (by rfl) (by rfl) (by rfl) hrun6 ?_
                    have hb6 : Below wX.heap.size wX w6 := hb4.trans (hb6'.mono hBX)
                    refine hK.out _ _ (hhold.out _ hb6) (fun _ => ?_)
                    clear hK K hHeld
                    have hHeld := hhold.out w6 hb6
                    try simp only [List.getElem_toArray, List.getElem_cons_succ, List.getElem_cons_zero, Act.put, List.setIfInBounds_toArray, List.set_cons_zero, List.set_cons_succ]
                    refine wpAnyH_ready (rs := [10]) (by kernel_rfl) (by simp) ?_
                    refine AllReadyH.cons rfl (fun K hK => ?_) AllReadyH.nil
                    obtain ⟨v9, w9, hrun9, hrow9, hb9'⟩ := run_own eltC 23 (fun k hk => by omega) hrow6 (if qc = k then q else q.map (·.add (k * 3))) (es.length - k) (qc - k) (fs := es.drop k) (List.length_drop) (drop_none hqn) (fun ad e j u hu => drop_news hb6 hcell hk0l hqc e hu) (fun e he => eltC.mono (eltC.same (hld e (List.mem_of_mem_drop he)) (SameB.of_below hb6)) fun b _ hb => hb.1) (by rw [List.length_append, List.length_take, List.length_singleton]; omega) (by have := hb6'.size; omega)
                    refine step_run (by rfl) _ _ (by rfl) (by rfl) (by rfl) hrun9 ?_
                    have hb9 : Below wX.heap.size wX w9 := hb6.trans (hb9'.mono hBX)
                    refine hK.out _ _ (hhold.out _ hb9) (fun _ => ?_)
                    clear hK K hHeld
                    have hHeld := hhold.out w9 hb9
                    try simp only [List.getElem_toArray, List.getElem_cons_succ, List.getElem_cons_zero, Act.put, List.setIfInBounds_toArray, List.set_cons_zero, List.set_cons_succ]
                    refine wpAnyH_ready (rs := [11]) (by kernel_rfl) (by simp) ?_
                    refine AllReadyH.cons rfl (fun K hK => ?_) AllReadyH.nil
                    go_simp
                    refine hK.out _ _ (hhold.out _ hb9) (fun _ => ?_)
                    clear hK K hHeld
                    have hHeld := hhold.out w9 hb9
                    try simp only [List.getElem_toArray, List.getElem_cons_succ, List.getElem_cons_zero, Act.put, List.setIfInBounds_toArray, List.set_cons_zero, List.set_cons_succ]
                    refine wpAnyH_done (by kernel_rfl) ?_ _
                    have hbc2 := hb2X.trans (hb9.mono hb2X.size)
                    clear hHeld
                    go_wp2
                    go_roundw
                    case rel => exact ⟨m + 1, by omega, by go_num, hbc2, hno2, _, hrow9.base (by omega), by rw [List.map_append, List.map_append, List.map_take, List.map_drop, List.append_assoc]; exact hsnoc.out.symm⟩
                    case measure => simp [intOf]; omega
              · have hkI : ¬ ((k : Int) < (es.length : Int)) := by omega
                go_upto_region 13 with (fail)
                go_quiet (fail)
                go_upto_region 15 with (fail)
                generalize hwz : wr.drewN _ = wz
                have hbz : Below wX.heap.size wX wz := by rw [← hwz]; exact below_drewN hbq _
                clear hwz
                go_quiet (fail)
                go_upto_region 17 with (fail)
                generalize hwy : wz.drewN _ = wy
                have hby : Below wX.heap.size wX wy := by rw [← hwy]; exact below_drewN hbz _
                clear hwy
                have hqcI : (es.length : Int) ≤ (qc : Int) := by omega
                have hkqI : (k : Int) ≤ (qc : Int) := by omega
                have hklI : (k : Int) ≤ (es.length : Int) := by omega
                have hk0I : (0 : Int) ≤ (k : Int) := by omega
                have hXw0 := hb2X.size
                have hXw1 := hb2.size
                have hXw2 := hb0.size
                have hld := hrowX.ok
                have hno2 : ∀ j (hj : j < b.length), j < m + 1 → hasKind b[j].kind a = false := fun j hj hjm => by
                  by_cases hj2 : j = m
                  · subst hj2
                    rw [hx.out]
                    exact not_hasKind hmap.out hasc.out.1 hless.out hstop.out (fun hj => absurd hj hke)
                  · exact hno.out j hj (by omega)
                have hhold : ∀ W, Below wX.heap.size wX W → (fun w' => w'.cell? ⟨X, 0, none⟩ = some (.string kd) ∧ w'.cell? ⟨X, 1, none⟩ = some (.string ky) ∧ w'.cell? ⟨X, 2, none⟩ = some (.slice p at_.length c)) W := fun W h => ⟨(h.cell (p := ⟨X, 0, none⟩) hXs).trans x0, (h.cell (p := ⟨X, 1, none⟩) hXs).trans x1, (h.cell (p := ⟨X, 2, none⟩) hXs).trans x2⟩
                replace hhold := Lib.hid hhold
                refine wp_region_held_drew (S := fun w' => w'.cell? ⟨X, 0, none⟩ = some (.string kd) ∧ w'.cell? ⟨X, 1, none⟩ = some (.string ky) ∧ w'.cell? ⟨X, 2, none⟩ = some (.slice p at_.length c)) (by kernel_rfl) (hhold.out wy hby) (fun hHeld => ?_)
                have hbd : Below wX.heap.size wX wy.drew := ⟨hby.os, hby.tape, hby.output, hby.size, hby.block⟩
                generalize wy.drew = wd at hbd hHeld ⊢
                refine wpAnyH_take (i := 0) (v := ?_) rfl (by kernel_rfl) (by kernel_rfl) (by kernel_rfl) (fun _ _ _ h => h) (Or.inl ⟨by rfl, ?_⟩) hHeld ?_
                rotate_left
                · intro w' hSw
                  go_simp
                  try with_reducible rfl
                try simp only [List.getElem_toArray, List.getElem_cons_succ, List.getElem_cons_zero, Act.put, List.setIfInBounds_toArray, List.set_cons_zero, List.set_cons_succ]
                refine wpAnyH_take (i := 1) (v := ?_) rfl (by kernel_rfl) (by kernel_rfl) (by kernel_rfl) (fun _ _ _ h => h) (Or.inl ⟨by rfl, ?_⟩) hHeld ?_
                rotate_left
                · intro w' hSw
                  go_simp
                  try with_reducible rfl
                try simp only [List.getElem_toArray, List.getElem_cons_succ, List.getElem_cons_zero, Act.put, List.setIfInBounds_toArray, List.set_cons_zero, List.set_cons_succ]
                refine wpAnyH_take (i := 2) (v := ?_) rfl (by kernel_rfl) (by kernel_rfl) (by kernel_rfl) (fun _ _ _ h => h) (Or.inl ⟨by rfl, ?_⟩) hHeld ?_
                rotate_left
                · intro w' hSw
                  go_simp
                  try with_reducible rfl
                try simp only [List.getElem_toArray, List.getElem_cons_succ, List.getElem_cons_zero, Act.put, List.setIfInBounds_toArray, List.set_cons_zero, List.set_cons_succ]
                refine wpAnyH_take (i := 4) (v := ?_) rfl (by kernel_rfl) (by kernel_rfl) (by kernel_rfl) (fun _ _ _ h => h) (Or.inl ⟨by rfl, ?_⟩) hHeld ?_
                rotate_left
                · intro w' hSw
                  obtain ⟨e1, e2, e3⟩ := hSw
                  go_simp
                  try with_reducible rfl
                try simp only [List.getElem_toArray, List.getElem_cons_succ, List.getElem_cons_zero, Act.put, List.setIfInBounds_toArray, List.set_cons_zero, List.set_cons_succ]
                refine wpAnyH_take (i := 7) (v := ?_) rfl (by kernel_rfl) (by kernel_rfl) (by kernel_rfl) (fun _ _ _ h => h) (Or.inl ⟨by rfl, ?_⟩) hHeld ?_
                rotate_left
                · intro w' hSw
                  go_simp
                  try with_reducible rfl
                try simp only [List.getElem_toArray, List.getElem_cons_succ, List.getElem_cons_zero, Act.put, List.setIfInBounds_toArray, List.set_cons_zero, List.set_cons_succ]
                refine wpAnyH_take (i := 8) (v := ?_) rfl (by kernel_rfl) (by kernel_rfl) (by kernel_rfl) (fun _ _ _ h => h) (Or.inl ⟨by rfl, ?_⟩) hHeld ?_
                rotate_left
                · intro w' hSw
                  go_simp
                  try with_reducible rfl
                try simp only [List.getElem_toArray, List.getElem_cons_succ, List.getElem_cons_zero, Act.put, List.setIfInBounds_toArray, List.set_cons_zero, List.set_cons_succ]
                refine wpAnyH_take (i := 9) (v := ?_) rfl (by kernel_rfl) (by kernel_rfl) (by kernel_rfl) (fun _ _ _ h => h) (Or.inl ⟨by rfl, ?_⟩) hHeld ?_
                rotate_left
                · intro w' hSw
                  go_simp
                  try with_reducible rfl
                try simp only [List.getElem_toArray, List.getElem_cons_succ, List.getElem_cons_zero, Act.put, List.setIfInBounds_toArray, List.set_cons_zero, List.set_cons_succ]
                refine wpAnyH_ready (rs := [3, 5]) (by kernel_rfl) (by simp) ?_
                refine AllReadyH.cons rfl (fun K hK => ?_) (AllReadyH.cons rfl (fun K hK => ?_) AllReadyH.nil)
                · have hs3 := hbd.size
                  obtain ⟨v3, w3, hrun3, hrow3, hb3'⟩ := run_own eltC 23 (P := fun k => k < w.heap.size) (B := wd.heap.size) (es := []) (fs := es.take k) (v := .slice none 0 0) (w := wd) (fun k hk => by omega) (GRow.nil eltC _ _ _) q k qc (by rw [List.length_take]; omega) (fun e => ⟨by rw [(hqn e).1] at hk0l; simpa using hk0l, (hqn e).2⟩) (fun ad e j u hu => cells_below hbd hcell e (row_take eltC es k j u hu)) (fun e he => eltC.mono (eltC.same (hld e (List.mem_of_mem_take he)) (SameB.of_below hbd)) fun b _ hb => hb.1) (by simp; omega) (Nat.le_refl _)
                  rw [List.nil_append] at hrow3
                  refine step_run (by rfl) _ _ (by rfl) (by rfl) (by rfl) hrun3 ?_
                  have hb3 : Below wX.heap.size wX w3 := hbd.trans (hb3'.mono hs3)
                  refine hK.out _ _ (hhold.out _ hb3) (fun _ => ?_)
                  clear hK K hHeld
                  have hHeld := hhold.out w3 hb3
                  try simp only [List.getElem_toArray, List.getElem_cons_succ, List.getElem_cons_zero, Act.put, List.setIfInBounds_toArray, List.set_cons_zero, List.set_cons_succ]
                  refine wpAnyH_ready (rs := [5]) (by kernel_rfl) (by simp) ?_
                  refine AllReadyH.cons rfl (fun K hK => ?_) AllReadyH.nil
                  go_simp
                  have hb4 : Below wX.heap.size wX (w3.alloc (.cells #[.string kd, .string ky, .slice p (at_.length : Nat) c] 63)) := hb3.alloc (by have := hb3'.size; omega) (.cells #[.string kd, .string ky, .slice p (at_.length : Nat) c] 63)
                  refine hK.out _ _ (hhold.out _ hb4) (fun _ => ?_)
                  clear hK K hHeld
                  have hHeld := hhold.out (w3.alloc (.cells #[.string kd, .string ky, .slice p (at_.length : Nat) c] 63)) hb4
                  try simp only [List.getElem_toArray, List.getElem_cons_succ, List.getElem_cons_zero, Act.put, List.setIfInBounds_toArray, List.set_cons_zero, List.set_cons_succ]
                  have hrow4 := hrow3.below ((Below.refl w3.heap.size w3).alloc (Nat.le_refl _) (.cells #[.string kd, .string ky, .slice p (at_.length : Nat) c] 63))
                  have hB4 : wd.heap.size ≤ (w3.alloc (.cells #[.string kd, .string ky, .slice p (at_.length : Nat) c] 63)).heap.size := by have := hb3'.size; simp; omega
                  have hBX : wX.heap.size ≤ wd.heap.size := hs3
                  refine wpAnyH_ready (rs := [6]) (by kernel_rfl) (by simp) ?_
                  refine AllReadyH.cons rfl (fun K hK => ?_) AllReadyH.nil
                  have hs4 := hb4.size
                  obtain ⟨v6, w6, hrun6, hrow6, hb6'⟩ := run_own eltC 23 (fun k hk => by omega) hrow4 (some ⟨_, 0, none⟩) 1 1 (fs := [⟨⟨kd, ky, at_⟩, p, c⟩]) rfl (fun e => by cases e) (fun ad e => by cases e; exact news_one eltC ⟨⟨kd, ky, at_⟩, p, c⟩ w3) (fun e he => by obtain rfl := List.mem_singleton.1 he; exact hqX.same (SameB.of_below hb4)) (by rw [List.length_take]; omega) hB4
                  refine step_run (by rfl) _ _ (by rfl) (by rfl) (by rfl) hrun6 ?_
                  have hb6 : Below wX.heap.size wX w6 := hb4.trans (hb6'.mono hBX)
                  refine hK.out _ _ (hhold.out _ hb6) (fun _ => ?_)
                  clear hK K hHeld
                  have hHeld := hhold.out w6 hb6
                  try simp only [List.getElem_toArray, List.getElem_cons_succ, List.getElem_cons_zero, Act.put, List.setIfInBounds_toArray, List.set_cons_zero, List.set_cons_succ]
                  refine wpAnyH_ready (rs := [10]) (by kernel_rfl) (by simp) ?_
                  refine AllReadyH.cons rfl (fun K hK => ?_) AllReadyH.nil
                  obtain ⟨v9, w9, hrun9, hrow9, hb9'⟩ := run_own eltC 23 (fun k hk => by omega) hrow6 (if qc = k then q else q.map (·.add (k * 3))) (es.length - k) (qc - k) (fs := es.drop k) (List.length_drop) (drop_none hqn) (fun ad e j u hu => drop_news hb6 hcell hk0l hqc e hu) (fun e he => eltC.mono (eltC.same (hld e (List.mem_of_mem_drop he)) (SameB.of_below hb6)) fun b _ hb => hb.1) (by rw [List.length_append, List.length_take, List.length_singleton]; omega) (by have := hb6'.size; omega)
                  refine step_run (by rfl) _ _ (by rfl) (by rfl) (by rfl) hrun9 ?_
                  have hb9 : Below wX.heap.size wX w9 := hb6.trans (hb9'.mono hBX)
                  refine hK.out _ _ (hhold.out _ hb9) (fun _ => ?_)
                  clear hK K hHeld
                  have hHeld := hhold.out w9 hb9
                  try simp only [List.getElem_toArray, List.getElem_cons_succ, List.getElem_cons_zero, Act.put, List.setIfInBounds_toArray, List.set_cons_zero, List.set_cons_succ]
                  refine wpAnyH_ready (rs := [11]) (by kernel_rfl) (by simp) ?_
                  refine AllReadyH.cons rfl (fun K hK => ?_) AllReadyH.nil
                  go_simp
                  refine hK.out _ _ (hhold.out _ hb9) (fun _ => ?_)
                  clear hK K hHeld
                  have hHeld := hhold.out w9 hb9
                  try simp only [List.getElem_toArray, List.getElem_cons_succ, List.getElem_cons_zero, Act.put, List.setIfInBounds_toArray, List.set_cons_zero, List.set_cons_succ]
                  refine wpAnyH_done (by kernel_rfl) ?_ _
                  have hbc2 := hb2X.trans (hb9.mono hb2X.size)
                  clear hHeld
                  go_wp2
                  go_roundw
                  case rel => exact ⟨m + 1, by omega, by go_num, hbc2, hno2, _, hrow9.base (by omega), by rw [List.map_append, List.map_append, List.map_take, List.map_drop, List.append_assoc]; exact hsnoc.out.symm⟩
                  case measure => simp [intOf]; omega
                · go_simp
                  have hbe : Below wX.heap.size wX (wd.alloc (.cells #[.string kd, .string ky, .slice p (at_.length : Nat) c] 63)) := hbd.alloc hbd.size (.cells #[.string kd, .string ky, .slice p (at_.length : Nat) c] 63)
                  refine hK.out _ _ (hhold.out _ hbe) (fun _ => ?_)
                  clear hK K hHeld
                  have hHeld := hhold.out (wd.alloc (.cells #[.string kd, .string ky, .slice p (at_.length : Nat) c] 63)) hbe
                  try simp only [List.getElem_toArray, List.getElem_cons_succ, List.getElem_cons_zero, Act.put, List.setIfInBounds_toArray, List.set_cons_zero, List.set_cons_succ]
                  refine wpAnyH_ready (rs := [3]) (by kernel_rfl) (by simp) ?_
                  refine AllReadyH.cons rfl (fun K hK => ?_) AllReadyH.nil
                  have hs3 := hbe.size
                  obtain ⟨v3, w3, hrun3, hrow3, hb3'⟩ := run_own eltC 23 (P := fun k => k < w.heap.size) (B := (wd.alloc (.cells #[.string kd, .string ky, .slice p (at_.length : Nat) c] 63)).heap.size) (es := []) (fs := es.take k) (v := .slice none 0 0) (w := (wd.alloc (.cells #[.string kd, .string ky, .slice p (at_.length : Nat) c] 63))) (fun k hk => by omega) (GRow.nil eltC _ _ _) q k qc (by rw [List.length_take]; omega) (fun e => ⟨by rw [(hqn e).1] at hk0l; simpa using hk0l, (hqn e).2⟩) (fun ad e j u hu => cells_below hbe hcell e (row_take eltC es k j u hu)) (fun e he => eltC.mono (eltC.same (hld e (List.mem_of_mem_take he)) (SameB.of_below hbe)) fun b _ hb => hb.1) (by simp; omega) (Nat.le_refl _)
                  rw [List.nil_append] at hrow3
                  refine step_run (by rfl) _ _ (by rfl) (by rfl) (by rfl) hrun3 ?_
                  have hb3 : Below wX.heap.size wX w3 := hbe.trans (hb3'.mono hs3)
                  refine hK.out _ _ (hhold.out _ hb3) (fun _ => ?_)
                  clear hK K hHeld
                  have hHeld := hhold.out w3 hb3
                  try simp only [List.getElem_toArray, List.getElem_cons_succ, List.getElem_cons_zero, Act.put, List.setIfInBounds_toArray, List.set_cons_zero, List.set_cons_succ]
                  have hb4 := hb3
                  have hrow4 := hrow3
                  have hB4 := hb3'.size
                  have hBX := hs3
                  refine wpAnyH_ready (rs := [6]) (by kernel_rfl) (by simp) ?_
                  refine AllReadyH.cons rfl (fun K hK => ?_) AllReadyH.nil
                  have hs4 := hb4.size
                  obtain ⟨v6, w6, hrun6, hrow6, hb6'⟩ := run_own eltC 23 (fun k hk => by omega) hrow4 (some ⟨_, 0, none⟩) 1 1 (fs := [⟨⟨kd, ky, at_⟩, p, c⟩]) rfl (fun e => by cases e) (fun ad e => by cases e; exact fun j u hu => (hb3'.cell (p := (⟨wd.heap.size, 0, none⟩ : Addr).add j) (by rw [add_at]; show _ < _; simp)).trans (news_one eltC ⟨⟨kd, ky, at_⟩, p, c⟩ wd j u hu)) (fun e he => by obtain rfl := List.mem_singleton.1 he; exact hqX.same (SameB.of_below hb4)) (by rw [List.length_take]; omega) hB4
                  refine step_run (by rfl) _ _ (by rfl) (by rfl) (by rfl) hrun6 ?_
                  have hb6 : Below wX.heap.size wX w6 := hb4.trans (hb6'.mono hBX)
                  refine hK.out _ _ (hhold.out _ hb6) (fun _ => ?_)
                  clear hK K hHeld
                  have hHeld := hhold.out w6 hb6
                  try simp only [List.getElem_toArray, List.getElem_cons_succ, List.getElem_cons_zero, Act.put, List.setIfInBounds_toArray, List.set_cons_zero, List.set_cons_succ]
                  refine wpAnyH_ready (rs := [10]) (by kernel_rfl) (by simp) ?_
                  refine AllReadyH.cons rfl (fun K hK => ?_) AllReadyH.nil
                  obtain ⟨v9, w9, hrun9, hrow9, hb9'⟩ := run_own eltC 23 (fun k hk => by omega) hrow6 (if qc = k then q else q.map (·.add (k * 3))) (es.length - k) (qc - k) (fs := es.drop k) (List.length_drop) (drop_none hqn) (fun ad e j u hu => drop_news hb6 hcell hk0l hqc e hu) (fun e he => eltC.mono (eltC.same (hld e (List.mem_of_mem_drop he)) (SameB.of_below hb6)) fun b _ hb => hb.1) (by rw [List.length_append, List.length_take, List.length_singleton]; omega) (by have := hb6'.size; omega)
                  refine step_run (by rfl) _ _ (by rfl) (by rfl) (by rfl) hrun9 ?_
                  have hb9 : Below wX.heap.size wX w9 := hb6.trans (hb9'.mono hBX)
                  refine hK.out _ _ (hhold.out _ hb9) (fun _ => ?_)
                  clear hK K hHeld
                  have hHeld := hhold.out w9 hb9
                  try simp only [List.getElem_toArray, List.getElem_cons_succ, List.getElem_cons_zero, Act.put, List.setIfInBounds_toArray, List.set_cons_zero, List.set_cons_succ]
                  refine wpAnyH_ready (rs := [11]) (by kernel_rfl) (by simp) ?_
                  refine AllReadyH.cons rfl (fun K hK => ?_) AllReadyH.nil
                  go_simp
                  refine hK.out _ _ (hhold.out _ hb9) (fun _ => ?_)
                  clear hK K hHeld
                  have hHeld := hhold.out w9 hb9
                  try simp only [List.getElem_toArray, List.getElem_cons_succ, List.getElem_cons_zero, Act.put, List.setIfInBounds_toArray, List.set_cons_zero, List.set_cons_succ]
                  refine wpAnyH_done (by kernel_rfl) ?_ _
                  have hbc2 := hb2X.trans (hb9.mono hb2X.size)
                  clear hHeld
                  go_wp2
                  go_roundw
                  case rel => exact ⟨m + 1, by omega, by go_num, hbc2, hno2, _, hrow9.base (by omega), by rw [List.map_append, List.map_append, List.map_take, List.map_drop, List.append_assoc]; exact hsnoc.out.symm⟩
                  case measure => simp [intOf]; omega
        · obtain rfl : m = b.length := by omega
          have hmI : ¬ ((b.length : Int) < (b.length : Int)) := by omega
          have hcl : clash a b = false := by
            rw [clash_comm]
            unfold clash
            rw [List.any_eq_false]
            intro y hy
            obtain ⟨j, hj, rfl⟩ := List.getElem_of_mem hy
            rw [hno j hj hj]
            decide
          rw [List.take_length] at hmap
          have hjl : (joinL a b).length = a.length + b.length := by rw [(joinL_perm b a).length_eq, List.length_append]
          have hel : es.length = a.length + b.length := by rw [← hjl, ← hmap, List.length_map]
          have hlt9 := hrow.lt
          obtain ⟨q, qc, hv, hcx⟩ := hrow.ctxs
          rw [List.length_map] at hv
          subst hv
          rw [hmap] at hcx
          have rr := (hH.out wr hbr).1
          have fr := (hH.out wr hbr).2
          by_cases h4 : a.length + b.length ≤ 4
          · have h4I : ¬ ((4 : Int) < (es.length : Int)) := by omega
            have hje : joinE a b = 0 := joinE_of ea eb hcl h4
            obtain rfl := hdr.out.trans (if_pos hje)
            clear hje hdr
            replace hel := Lib.hid hel
            replace hjl := Lib.hid hjl
            go_wp2
            obtain ⟨s8, hb8⟩ := hfin.out (.slice q (es.length : Nat) qc) wr hbr
            have hne2 : ∀ k, k < wr.heap.size → (k < w.heap.size ∨ (Value.slice q (es.length : Nat) qc).ownBlock = some k) → k ≠ w.heap.size + 2 := fun k _ h => h.elim (fun h => by omega) (fun h => by have := (hlt9 k h).1; omega)
            have hq8 : CtxsP (fun _ => True) q qc (joinL a b) _ := (CtxsP.same (hcx.mono hne2) ((SameB.refl (fun k => k ≠ w.heap.size + 2) wr).set (B := w.heap.size + 2) (fun h => h rfl) 0 (.slice q (es.length : Nat) qc))).mono fun _ _ _ => trivial
            generalize World.setCell _ _ _ = w8 at s8 hb8 hq8 ⊢
            refine bodyPost_ret (v := .tuple #[.agg #[.slice q (es.length : Nat) qc], .int .i64 0]) (by simp [results, Tryz.results13, go_sem, s8]) rfl ⟨⟨q, qc, by rw [hel.out, ← hjl.out], hq8⟩, hb8⟩
          · have h4I : (4 : Int) < (es.length : Int) := by omega
            have hje : joinE a b = 5 := by unfold joinE; rw [if_neg (by simp [ea]), if_neg (by simp [eb]), if_neg (by simp [hcl]), if_pos (by omega)]
            obtain rfl := hdr.out.trans ((if_neg (by rw [hje]; decide)).trans (congrArg (Prod.mk []) hje))
            clear hje hdr
            go_wp2
            obtain ⟨s6, hb6⟩ := hfin.out (.slice none 0 0) wr hbr
            generalize World.setCell _ _ _ = w6 at s6 hb6 ⊢
            refine bodyPost_ret (v := .tuple #[.agg #[.slice none 0 0], .int .i64 (5)]) (by simp [results, Tryz.results13, go_sem, s6]) rfl ⟨⟨none, 0, rfl, ⟨fun _ => rfl, Nat.zero_le _, fun i hi => by simp at hi⟩⟩, hb6⟩
    · obtain ⟨ce, hce⟩ : ∃ ce, subjE b = ce := ⟨_, rfl⟩
      have hje : joinE a b = ce := by unfold joinE; rw [if_neg (by simp [ea]), if_pos eb, hce]
      rw [hce] at eb hCb1
      have heb : (ce == 0) = false := by simp [eb]
      obtain rfl := hdr.out.trans ((if_neg (by rw [hje]; exact eb)).trans (congrArg (Prod.mk []) hje))
      clear hje hdr hce
      replace hCb1 := Lib.hid hCb1
      go_wp2_with (go_at_call 39; refine hCb1.out.mono ?_; rintro e w2 ⟨rfl, hb2'⟩; have hb2 := hb1.trans (hb2'.mono hb1.size); have rw2 := (hH.out w2 hb2).1; have fw2 := (hH.out w2 hb2).2; have bw2 := cB.out w2 hb2; have aw2 := cA.out w2 hb2)
      obtain ⟨s6, hb6⟩ := hfin.out (.slice none 0 0) w2 hb2
      generalize World.setCell _ _ _ = w6 at s6 hb6 ⊢
      refine bodyPost_ret (v := .tuple #[.agg #[.slice none 0 0], .int .i64 (ce)]) (by simp [results, Tryz.results13, go_sem, s6]) rfl ⟨⟨none, 0, rfl, ⟨fun _ => rfl, Nat.zero_le _, fun i hi => by simp at hi⟩⟩, hb6⟩
  · obtain ⟨ce, hce⟩ : ∃ ce, subjE a = ce := ⟨_, rfl⟩
    have hje : joinE a b = ce := by unfold joinE; rw [if_pos ea, hce]
    have hCa' := hCa.out
    clear hCa
    rw [hce] at ea hCa'
    have hea : (ce == 0) = false := by simp [ea]
    obtain rfl := hdr.out.trans ((if_neg (by rw [hje]; exact ea)).trans (congrArg (Prod.mk []) hje))
    clear hje hdr hce
    replace hCa' := Lib.hid hCa'
    go_wp2_with (go_at_call 39; refine hCa'.out.mono ?_; rintro e w1 ⟨rfl, hb1⟩; have rw1 := (hH.out w1 hb1).1; have fw1 := (hH.out w1 hb1).2; have bw1 := cB.out w1 hb1; have aw1 := cA.out w1 hb1)
    obtain ⟨s6, hb6⟩ := hfin.out (.slice none 0 0) w1 hb1
    generalize World.setCell _ _ _ = w6 at s6 hb6 ⊢
    refine bodyPost_ret (v := .tuple #[.agg #[.slice none 0 0], .int .i64 (ce)]) (by simp [results, Tryz.results13, go_sem, s6]) rfl ⟨⟨none, 0, rfl, ⟨fun _ => rfl, Nat.zero_le _, fun i hi => by simp at hi⟩⟩, hb6⟩
end Go.Proofs.YtcbnefeedoabeaaGreatDoor
