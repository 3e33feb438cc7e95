/- slices.SortFunc at contexts, by their kinds. The contexts of two subjects, joined: plain definitions and laws. slices.SortFunc at contexts: what it makes of the joined row. slices.SortFunc at contexts: the joined row. -/
import Derived.Test.YtcbnefeedoabeaaGreatDoorPx
import Derived.Test.YtcbnefeedoabeaaGreatDoorShelf
import Derived.Test.YtcbnefeedoabeaaGreatDoorShelfS
import Derived.Test.YtcbnefeedoabeaaGreatDoorPa
import Derived.Lib.Bytealg
/- slices.SortFunc at contexts, by their kinds. -/
namespace Go.Proofs.YtcbnefeedoabeaaGreatDoor
open Go Go.RowKit Go.Lib Go.Sort Go.Shelf

instance : Inhabited CEl := ⟨⟨⟨⟨#[]⟩, ⟨#[]⟩, []⟩, none, 0⟩⟩
def cmpC (x y : CEl) : Int := Lib.compareBytes x.x.kind.data.toList y.x.kind.data.toList
set_option maxHeartbeats 1000000 in
/-- The closure of Join's sort: two blocks are laid. -/
theorem byKind_any (x y : CEl) (W : World) : Calls Tryz.prog 37 #[.agg x.cells.toArray, .agg y.cells.toArray] W fun e w' => e = .returned (.int .i64 (cmpC x y)) ∧ ∃ q os', w' = grow (W.drewN q) os' := by
  have hcon := fun W' => Tryz.strings_Compare x.x.kind y.x.kind W'
  unfold cmpC
  generalize Lib.compareBytes x.x.kind.data.toList y.x.kind.data.toList = r at hcon ⊢
  unfold CEl.cells
  replace hcon := Lib.hid hcon
  go_enter Tryz.func37, Tryz.ntmps37
  go_wp2_with (go_at_call 38; refine (hcon.out _).mono ?_; rintro e w' ⟨rfl, rfl⟩)
  go_ret
  exact ⟨rfl, 0, _, by rw [alloc_eq_grow, alloc_eq_grow, grow_grow]; rfl⟩
theorem hlenC (n : Nat) (W : World) (h : n ≤ 12) : Calls Tryz.prog 74 #[.int .u64 n] W fun e w' => (∃ l : Int, e = .returned (.int .i64 l)) ∧ w' = W := by
  have hL := Lib.hid (Tryz.bits_Len64 (n : Int) W (by omega) (by omega))
  go_enter Tryz.func74, Tryz.ntmps74
  go_wp2_with (go_at_call 124; refine hL.out.mono ?_; rintro e w' ⟨rfl, rfl⟩)
  go_ret
  exact ⟨⟨_, rfl⟩, rfl⟩
theorem sortC_raw (blk off cap : Nat) (d : Array CEl) (w : World) (hH : HoldsK CEl.cells 3 w blk off d) (hblk : blk < w.heap.size) (h12 : d.size ≤ 12) :
    Calls Tryz.prog 36 #[.slice (some ⟨blk, off, none⟩) d.size cap, .func (.func 37) #[] #[]] w fun e w' => e = .returned (.tuple #[]) ∧ ∃ n os, w' = sortWorldK CEl.cells 3 w blk off n (Sort.insertionSort (ltOf cmpC) d 0 d.size) os := by
  have eg : ∀ args w, (callFunc 37 args).run Tryz.prog w = .ok (.enter 37 args) w := enters_of Tryz.func37 (by kernel_rfl) rfl
  exact AnyQ.slices_SortFunc_small Tryz.sortCtx 3 Tryz.isAgg63 Tryz.sizeOf63 CEl.cells (fun _ => rfl) (fun x v hv => eltC.one x v hv) cmpC 37 #[] blk off cap d w eg (fun _ _ _ _ x y => byKind_any x y _) hH hblk h12 hlenC
end Go.Proofs.YtcbnefeedoabeaaGreatDoor
/- The contexts of two subjects, joined: plain definitions and laws. -/
namespace Go.Proofs.YtcbnefeedoabeaaGreatDoor
open Go Go.RowKit

theorem bl_irrefl : ∀ a : List UInt8, Op.bytesLess a a = false
  | [] => rfl
  | a :: s => by
    simp [Op.bytesLess, bl_irrefl s]
theorem bl_trans : ∀ a b c : List UInt8, Op.bytesLess a b = true → Op.bytesLess b c = true → Op.bytesLess a c = true
  | [], b, [], _, h2 => by cases b <;> simp [Op.bytesLess] at h2
  | [], b, c :: u, _, _ => rfl
  | a :: s, [], _, h1, _ => by simp [Op.bytesLess] at h1
  | a :: s, b :: t, [], _, h2 => by simp [Op.bytesLess] at h2
  | a :: s, b :: t, c :: u, h1, h2 => by
    simp only [Op.bytesLess, Bool.or_eq_true, Bool.and_eq_true, decide_eq_true_eq, beq_iff_eq] at h1 h2 ⊢
    rcases h1 with h1 | ⟨rfl, h1⟩
    · rcases h2 with h2 | ⟨rfl, h2⟩
      · exact .inl (UInt8.lt_trans h1 h2)
      · exact .inl h1
    · rcases h2 with h2 | ⟨rfl, h2⟩
      · exact .inl h2
      · exact .inr ⟨rfl, bl_trans s t u h1 h2⟩
theorem bl_total : ∀ a b : List UInt8, Op.bytesLess a b = true ∨ a = b ∨ Op.bytesLess b a = true
  | [], [] => .inr (.inl rfl)
  | [], _ :: _ => .inl rfl
  | _ :: _, [] => .inr (.inr rfl)
  | a :: s, b :: t => by
    simp only [Op.bytesLess, Bool.or_eq_true, Bool.and_eq_true, decide_eq_true_eq, beq_iff_eq]
    rcases UInt8.lt_or_lt_of_ne (a := a) (b := b) |> fun f => Classical.em (a = b) |>.symm.imp f id with (h | h) | rfl
    · exact .inl (.inl h)
    · exact .inr (.inr (.inl h))
    · rcases bl_total s t with h | rfl | h
      · exact .inl (.inr ⟨rfl, h⟩)
      · exact .inr (.inl rfl)
      · exact .inr (.inr (.inr ⟨rfl, h⟩))
theorem cmp_lt : ∀ a b : List UInt8, decide (Lib.compareBytes a b < 0) = Op.bytesLess a b
  | [], [] => rfl
  | [], _ :: _ => rfl
  | _ :: _, [] => rfl
  | a :: s, b :: t => by
    unfold Lib.compareBytes Op.bytesLess
    by_cases h1 : a < b
    · simp [h1]
    · by_cases h2 : b < a
      · have h3 : ¬ a = b := fun e => by subst e; exact h1 h2
        simp [h1, h2, h3]
      · have h3 : a = b := by
          rcases UInt8.lt_or_lt_of_ne (a := a) (b := b) |> fun f => Classical.em (a = b) |>.symm.imp f id with (h | h) | h
          · exact absurd h h1
          · exact absurd h h2
          · exact h
        subst h3
        have := cmp_lt s t
        simp [h1, this]
theorem list_inj {s t : ByteArray} (h : s.toList = t.toList) : s = t := by
  rw [ByteArray.toList_eq, ByteArray.toList_eq] at h
  obtain ⟨d⟩ := s
  obtain ⟨e⟩ := t
  have : d = e := Array.toList_inj.1 h
  rw [this]
/-- One kind lies ahead of another. -/
def kl (x y : ByteArray) : Bool := Op.bytesLess x.toList y.toList
theorem kl_irrefl (x : ByteArray) : kl x x = false := bl_irrefl _
theorem kl_trans {x y z : ByteArray} (h : kl x y = true) (h2 : kl y z = true) : kl x z = true := bl_trans _ _ _ h h2
theorem kl_total (x y : ByteArray) : kl x y = true ∨ x = y ∨ kl y x = true := by
  rcases bl_total x.toList y.toList with h | h | h
  · exact .inl h
  · exact .inr (.inl (list_inj h))
  · exact .inr (.inr h)
theorem kl_not {x y : ByteArray} (h : kl x y = true) : kl y x = false := by
  cases h2 : kl y x with
  | false => rfl
  | true =>
    have := kl_trans h h2
    rw [kl_irrefl] at this
    cases this
def insK (c : Ctx) : List Ctx → List Ctx
  | [] => [c]
  | x :: t => if kl x.kind c.kind = true then x :: insK c t else c :: x :: t
def joinL (a b : List Ctx) : List Ctx := b.foldl (fun l c => insK c l) a
def hasKind (k : ByteArray) (l : List Ctx) : Bool := l.any fun x => x.kind.toList == k.toList
def clash (a b : List Ctx) : Bool := a.any fun x => hasKind x.kind b
def joinE (a b : List Ctx) : Int := if subjE a ≠ 0 then subjE a else if subjE b ≠ 0 then subjE b else if clash a b = true then 10 else if 4 < a.length + b.length then 5 else 0
def joinP (a b : List Ctx) : List Ctx × Int := if joinE a b = 0 then (joinL a b, 0) else ([], joinE a b)
/-- The kinds ascend. -/
def Asc (l : List Ctx) : Prop := l.Pairwise fun x y => kl x.kind y.kind = true
theorem insK_perm (c : Ctx) : ∀ l, (insK c l).Perm (c :: l)
  | [] => List.Perm.refl _
  | x :: t => by
    unfold insK
    split
    · exact ((insK_perm c t).cons x).trans (List.Perm.swap c x t)
    · exact List.Perm.refl _
theorem insK_asc (c : Ctx) : ∀ l, Asc l → (∀ x ∈ l, x.kind ≠ c.kind) → Asc (insK c l)
  | [], _, _ => List.pairwise_singleton ..
  | x :: t, h, hd => by
    have h2 := List.pairwise_cons.1 h
    unfold insK
    split
    · rename_i hx
      refine List.pairwise_cons.2 ⟨fun y hy => ?_, insK_asc c t h2.2 fun y hy => hd y (List.mem_cons_of_mem _ hy)⟩
      rcases List.mem_cons.1 ((insK_perm c t).mem_iff.1 hy) with rfl | hy
      · exact hx
      · exact h2.1 y hy
    · rename_i hx
      have hcx : kl c.kind x.kind = true := by
        rcases kl_total c.kind x.kind with h3 | h3 | h3
        · exact h3
        · exact absurd h3.symm (hd x (List.mem_cons_self ..))
        · exact absurd h3 hx
      refine List.pairwise_cons.2 ⟨fun y hy => ?_, h⟩
      rcases List.mem_cons.1 hy with rfl | hy
      · exact hcx
      · exact kl_trans hcx (h2.1 y hy)
theorem asc_ne {x y : Ctx} (h : kl x.kind y.kind = true) : x.kind ≠ y.kind := fun e => by rw [e, kl_irrefl] at h; cases h
theorem joinL_perm : ∀ (b a : List Ctx), (joinL a b).Perm (a ++ b)
  | [], a => by simp [joinL]
  | c :: t, a => by
    have h := joinL_perm t (insK c a)
    exact h.trans (((insK_perm c a).append_right t).trans (by simpa using (List.perm_middle (a := c) (l₁ := a) (l₂ := t)).symm))
theorem joinL_asc : ∀ (b a : List Ctx), Asc a → Asc b → (∀ x ∈ a, ∀ y ∈ b, x.kind ≠ y.kind) → Asc (joinL a b)
  | [], a, h, _, _ => h
  | c :: t, a, h, hb, hd => by
    have h2 := List.pairwise_cons.1 hb
    refine joinL_asc t (insK c a) (insK_asc c a h fun x hx => hd x hx c (List.mem_cons_self ..)) h2.2 fun x hx y hy => ?_
    rcases List.mem_cons.1 ((insK_perm c a).mem_iff.1 hx) with rfl | hx
    · exact asc_ne (h2.1 y hy)
    · exact hd x hx y (List.mem_cons_of_mem _ hy)
/-- Two lists that ascend and hold the same are equal. -/
theorem asc_uniq : ∀ (l m : List Ctx), Asc l → Asc m → l.Perm m → l = m
  | [], m, _, _, h => (List.nil_perm.1 h).symm
  | x :: t, [], _, _, h => by have := h.length_eq; simp at this
  | x :: t, y :: u, hl, hm, h => by
    have h1 := List.pairwise_cons.1 hl
    have h2 := List.pairwise_cons.1 hm
    have hxy : x = y := by
      rcases List.mem_cons.1 (h.mem_iff.1 (List.mem_cons_self ..)) with e | hx
      · exact e
      · rcases List.mem_cons.1 (h.mem_iff.2 (List.mem_cons_self (a := y) (l := u))) with e | hy
        · exact e.symm
        · have e1 := h2.1 x hx
          have e2 := kl_not (h1.1 y hy)
          rw [e1] at e2
          cases e2
    subst hxy
    rw [asc_uniq t u h1.2 h2.2 (List.Perm.cons_inv h)]
theorem leqK_not {x y : ByteArray} (h : leqT x y = false) : kl y x = true := by
  unfold leqT at h
  rw [Bool.or_eq_false_iff] at h
  rcases kl_total y x with h2 | h2 | h2
  · exact h2
  · subst h2
    have := h.2
    simp at this
  · rw [show kl x y = false from h.1] at h2
    cases h2
theorem subjGo_asc : ∀ (l : List Ctx) (b : ByteArray), subjGo b l = 0 → Asc l ∧ ∀ x ∈ l, kl b x.kind = true
  | [], _, _ => ⟨List.Pairwise.nil, fun x hx => by simp at hx⟩
  | c :: t, b, h => by
    unfold subjGo at h
    split at h
    · rename_i h0
      have hb : leqT c.kind b = false := by
        unfold ctxE at h0
        split at h0
        · split at h0
          · exact absurd h0 (by decide)
          · rename_i h1
            exact Bool.eq_false_iff.2 h1
        · exact absurd h0 (by decide)
      have hk := leqK_not hb
      obtain ⟨h1, h2⟩ := subjGo_asc t c.kind h
      refine ⟨List.pairwise_cons.2 ⟨h2, h1⟩, fun x hx => ?_⟩
      rcases List.mem_cons.1 hx with rfl | hx
      · exact hk
      · exact kl_trans hk (h2 x hx)
    · rename_i h0
      exact absurd h h0
theorem valid_asc {l : List Ctx} (h : subjE l = 0) : Asc l ∧ l.length ≤ 4 := by
  unfold subjE at h
  split at h
  · exact absurd h (by decide)
  · rename_i hl
    exact ⟨(subjGo_asc l _ h).1, by omega⟩
theorem clash_no {a b : List Ctx} (h : clash a b = false) : ∀ x ∈ a, ∀ y ∈ b, x.kind ≠ y.kind := fun x hx y hy e => by
  unfold clash at h
  rw [List.any_eq_false] at h
  have h1 := h x hx
  unfold hasKind at h1
  rw [Bool.not_eq_true, List.any_eq_false] at h1
  have h2 := h1 y hy
  rw [e] at h2
  simp at h2
theorem clash_comm (a b : List Ctx) : clash a b = clash b a := by
  have key : ∀ a b : List Ctx, clash a b = true → clash b a = true := fun a b h => by
    unfold clash hasKind at h ⊢
    obtain ⟨x, hx, h1⟩ := List.any_eq_true.1 h
    obtain ⟨y, hy, h2⟩ := List.any_eq_true.1 h1
    refine List.any_eq_true.2 ⟨y, hy, List.any_eq_true.2 ⟨x, hx, ?_⟩⟩
    have h3 : y.kind.toList = x.kind.toList := by simpa using h2
    rw [h3]
    simp
  cases h1 : clash a b with
  | true => exact (key a b h1).symm
  | false =>
    cases h2 : clash b a with
    | false => rfl
    | true => rw [key b a h2] at h1; cases h1
theorem joinL_comm {a b : List Ctx} (ha : Asc a) (hb : Asc b) (h : clash a b = false) : joinL a b = joinL b a := by
  have hd := clash_no h
  refine asc_uniq _ _ (joinL_asc b a ha hb hd) (joinL_asc a b hb ha fun x hx y hy e => hd y hy x hx e.symm) ?_
  exact (joinL_perm b a).trans (List.perm_append_comm.trans (joinL_perm a b).symm)
theorem joinE_ok {a b : List Ctx} (h : joinE a b = 0) : subjE a = 0 ∧ subjE b = 0 ∧ clash a b = false ∧ a.length + b.length ≤ 4 := by
  unfold joinE at h
  split at h
  · rename_i h1
    exact absurd h h1
  · rename_i h1
    split at h
    · rename_i h2
      exact absurd h h2
    · rename_i h2
      split at h
      · exact absurd h (by decide)
      · rename_i h3
        split at h
        · exact absurd h (by decide)
        · rename_i h4
          exact ⟨Classical.not_not.1 h1, Classical.not_not.1 h2, Bool.eq_false_iff.2 h3, by omega⟩
theorem joinE_of {a b : List Ctx} (h1 : subjE a = 0) (h2 : subjE b = 0) (h3 : clash a b = false) (h4 : a.length + b.length ≤ 4) : joinE a b = 0 := by
  unfold joinE
  rw [if_neg (by simp [h1]), if_neg (by simp [h2]), if_neg (by simp [h3]), if_neg (by omega)]
theorem joinE_comm (a b : List Ctx) : joinE a b = 0 ↔ joinE b a = 0 := by
  have key : ∀ a b : List Ctx, joinE a b = 0 → joinE b a = 0 := fun a b h => by
    obtain ⟨h1, h2, h3, h4⟩ := joinE_ok h
    exact joinE_of h2 h1 (by rw [clash_comm]; exact h3) (by omega)
  exact ⟨key a b, key b a⟩
theorem join_same {a b : List Ctx} (h : joinE a b = 0) : joinL a b = joinL b a := by
  obtain ⟨h1, h2, h3, _⟩ := joinE_ok h
  exact joinL_comm (valid_asc h1).1 (valid_asc h2).1 h3
end Go.Proofs.YtcbnefeedoabeaaGreatDoor
/- slices.SortFunc at contexts: what it makes of the joined row. -/
namespace Go.Proofs.YtcbnefeedoabeaaGreatDoor
open Go Go.RowKit Go.Lib Go.Sort Go.Shelf

theorem ltC (x y : CEl) : ltOf cmpC x y = kl x.x.kind y.x.kind := by
  unfold ltOf cmpC kl
  rw [cmp_lt, ByteArray.toList_eq, ByteArray.toList_eq]
theorem swoC : SWO (ltOf cmpC) where
  irrefl x := by rw [ltC]; exact kl_irrefl _
  trans x y z h1 h2 := by rw [ltC] at *; exact kl_trans h1 h2
  ntrans x y z h1 h2 := by
    rw [ltC] at *
    cases h3 : kl x.x.kind z.x.kind with
    | false => rfl
    | true =>
      rcases kl_total x.x.kind y.x.kind with h | h | h
      · rw [h] at h1; cases h1
      · rw [h] at h3; rw [h3] at h2; cases h2
      · have := kl_trans h h3
        rw [this] at h2
        cases h2
/-- The row of both subjects' contexts, sorted. -/
theorem sorted_join (d : Array CEl) (a b : List Ctx) (hd : d.toList.map CEl.x = a ++ b) (ha : Asc a) (hb : Asc b) (hc : clash a b = false) :
    (Sort.insertionSort (ltOf cmpC) d 0 d.size).toList.map CEl.x = joinL a b ∧ (Sort.insertionSort (ltOf cmpC) d 0 d.size).toList.Perm d.toList := by
  obtain ⟨hP, hS⟩ := insertionSort_holds (lt := ltOf cmpC) swoC d 0 d.size (Nat.zero_le _) (Nat.le_refl _)
  generalize Sort.insertionSort (ltOf cmpC) d 0 d.size = d' at hP hS ⊢
  obtain ⟨hsz, _, hp⟩ := hP
  have hperm : d'.toList.Perm d.toList := by
    rw [show d'.extract 0 d.size = d' from by rw [← hsz]; exact Array.extract_size .., show d.extract 0 d.size = d from Array.extract_size ..] at hp
    exact hp
  refine ⟨?_, hperm⟩
  have hdis := clash_no hc
  have hne : (a ++ b).Pairwise fun x y => x.kind ≠ y.kind := by
    refine List.pairwise_append.2 ⟨ha.imp fun h => asc_ne h, hb.imp fun h => asc_ne h, fun x hx y hy => hdis x hx y hy⟩
  have hmp : (d'.toList.map CEl.x).Perm (a ++ b) := by
    rw [← hd]
    exact hperm.map _
  have hne' : (d'.toList.map CEl.x).Pairwise fun x y => x.kind ≠ y.kind := (hmp.pairwise_iff fun h e => h e.symm).2 hne
  have hasc : Asc (d'.toList.map CEl.x) := by
    unfold Asc
    rw [List.pairwise_iff_getElem] at hne' ⊢
    intro i j hi hj hij
    have hi' : i < d'.size := by simpa using hi
    have hj' : j < d'.size := by simpa using hj
    have h1 := hS i j (Nat.zero_le _) hij (by omega)
    rw [ltC, getElem!_pos d' i hi', getElem!_pos d' j hj'] at h1
    have h2 := hne' i j hi hj hij
    simp only [List.getElem_map, Array.getElem_toList] at h2 ⊢
    rcases kl_total d'[i].x.kind d'[j].x.kind with h | h | h
    · exact h
    · exact absurd h h2
    · rw [h] at h1; cases h1
  exact asc_uniq _ _ hasc (joinL_asc b a ha hb hdis) (hmp.trans (joinL_perm b a).symm)
theorem sortW_block (w : World) (blk off n : Nat) (d : Array CEl) (os : Array Obj) (k : Nat) (hk : k < w.heap.size) (hne : k ≠ blk) : (sortWorldK CEl.cells 3 w blk off n d os).heap[k]? = w.heap[k]? := by
  unfold sortWorldK
  rw [heap_grow_old _ os (by rw [size_putRowK]; exact hk)]
  show (w.heap.modify blk _)[k]? = _
  rw [Array.getElem?_modify, if_neg (fun e => hne e.symm)]
theorem sortW_below (w : World) (B blk off n : Nat) (d : Array CEl) (os : Array Obj) (hB : B ≤ blk) (hw : B ≤ w.heap.size) : Below B w (sortWorldK CEl.cells 3 w blk off n d os) :=
  ⟨rfl, rfl, rfl, size_sortWorldK_c CEl.cells 3 w blk off n d os, fun k hk => sortW_block w blk off n d os k (by omega) (by omega)⟩
end Go.Proofs.YtcbnefeedoabeaaGreatDoor
/- slices.SortFunc at contexts: the joined row. -/
namespace Go.Proofs.YtcbnefeedoabeaaGreatDoor
open Go Go.RowKit Go.Lib Go.Sort Go.Shelf

set_option maxHeartbeats 4000000 in
theorem insNone (v : Value) (w : World) : Calls Tryz.prog 115 #[.slice none 0 0, .int .i64 0, .int .i64 0, v] w fun e w' => e = .returned (.tuple #[]) ∧ w' = w := by
  go_enter Tryz.func115, Tryz.ntmps115
  go_wp2
  refine wp_loop_rounds 1 ?_
  rw [rounds_succ]
  go_wp2
  go_end0
  exact ⟨rfl, rfl⟩
set_option maxHeartbeats 4000000 in
theorem pdqNone (lim : Int) (v : Value) (w : World) : Calls Tryz.prog 73 #[.slice none 0 0, .int .i64 0, .int .i64 0, .int .i64 lim, v] w fun e w' => e = .returned (.tuple #[]) ∧ w' = w := by
  have hi := Lib.hid (insNone v w)
  go_enter Tryz.func73, Tryz.ntmps73
  go_wp2
  refine wp_loop_rounds 1 ?_
  rw [rounds_succ]
  go_wp2_with (go_at_call 115; refine hi.out.mono ?_; rintro e w' ⟨rfl, rfl⟩)
  (try simp only [Exit.inBlock, Exit.then])
  refine bodyPost_ret (results_none rfl _ _ _) rfl ?_
  exact ⟨rfl, rfl⟩
set_option maxHeartbeats 4000000 in
theorem sortNone (v : Value) (w : World) : Calls Tryz.prog 36 #[.slice none 0 0, v] w fun e w' => e = .returned (.tuple #[]) ∧ w' = w := by
  have hp := Lib.hid (fun lim => pdqNone lim v w)
  have hl := Lib.hid (hlenC 0 w (by omega))
  go_enter Tryz.func36, Tryz.ntmps36
  go_wp2_with (first
    | (go_at_call 74; refine hl.out.mono ?_; rintro e w' ⟨⟨l, rfl⟩, rfl⟩)
    | (go_at_call 73; refine (hp.out _).mono ?_; rintro e w' ⟨rfl, rfl⟩))
  go_end0
  exact ⟨rfl, rfl⟩
theorem sortC_any {B : Nat} (q : Option Addr) (fs : List CEl) (a b : List Ctx) (w : World) (hd : fs.map CEl.x = a ++ b) (h12 : fs.length ≤ 12) (hR : RowC B q fs w) (hB : B ≤ w.heap.size) (ha : Asc a) (hb : Asc b) (hc : clash a b = false) :
    Calls Tryz.prog 36 #[.slice q (fs.length : Nat) fs.length, .func (.func 37) #[] #[]] w fun e w' => e = .returned (.tuple #[]) ∧ CtxsP (fun b => B ≤ b) q fs.length (joinL a b) w' ∧ Below B w w' ∧ ∀ k, k < w.heap.size → (∀ g, q = some ⟨g, 0, none⟩ → g ≠ k) → w'.heap[k]? = w.heap[k]? := by
  cases q with
  | none =>
    obtain rfl := hR.nil rfl
    have hj : joinL a b = [] := by
      have := joinL_perm b a
      rw [← hd] at this
      simpa using this
    rw [hj]
    exact (sortNone _ w).mono fun e w' ⟨h1, h2⟩ => by subst h2; exact ⟨h1, ⟨fun _ => rfl, Nat.le_refl _, fun i hi => by simp at hi⟩, Below.refl _ _, fun _ _ _ => rfl⟩
  | some ad =>
    obtain ⟨g, rfl, hgB, hg, hf, hcell, hat⟩ := hR.at_ ad rfl
    have hH : HoldsK CEl.cells 3 w g 0 fs.toArray := fun t ht => by
      rw [size_flatK] at ht
      have ht' : t < fs.length * 3 := by simpa using ht
      have hi : t / 3 < fs.length := by omega
      have h1 := hcell (t / 3) hi (t % 3) (by omega)
      rw [show t / 3 * 3 + t % 3 = t by omega] at h1
      refine ⟨?_, by rw [Nat.zero_add]; exact hf t⟩
      rw [Nat.zero_add, h1]
      show _ = some ((flatK CEl.cells 3 fs.toArray)[t]!)
      rw [get_flatK _ _ _ _ ht, getElem!_pos fs.toArray (t / 3) (by simpa using hi)]
      have hlen : t % 3 < (fs[t / 3].cells).length := by show t % 3 < 3; omega
      simp [hlen]
    have hs := sortC_raw g 0 fs.length fs.toArray w hH hg (by simpa using h12)
    refine Calls.mono (by simpa using hs) ?_
    rintro e w' ⟨he, n, os, rfl⟩
    obtain ⟨h1, h2⟩ := sorted_join fs.toArray a b hd ha hb hc
    simp only [List.size_toArray] at h1 h2
    have hsz : (Sort.insertionSort (ltOf cmpC) fs.toArray 0 fs.length).size = fs.length := by
      have := h2.length_eq
      simpa using this
    generalize Sort.insertionSort (ltOf cmpC) fs.toArray 0 fs.length = d' at h1 h2 hsz ⊢
    have hH' := holdsK_sortWorldK_c CEl.cells 3 w g 0 fs.toArray d' n os hH hg (by simpa using hsz)
    have hbl := sortW_below w B g 0 n d' os hgB hB
    refine ⟨he, ⟨fun h => (by cases h), by rw [← h1]; simp [hsz], fun i hi => ?_⟩, hbl, fun k hk hne => sortW_block w g 0 n d' os k hk (fun e => hne g rfl e.symm)⟩
    have hi' : i < d'.size := by rw [← h1] at hi; simpa using hi
    refine ⟨g, 0, rfl, hgB, Nat.lt_of_lt_of_le hg hbl.size, ?_⟩
    have hx : (joinL a b)[i] = d'[i].x := by simp only [← h1, List.getElem_map, Array.getElem_toList]
    have hmem : d'[i] ∈ fs := by
      have := h2.mem_iff.1 (Array.getElem_mem_toList (h := hi'))
      simpa using this
    have hcl : ∀ c, c < 3 → (sortWorldK CEl.cells 3 w g 0 n d' os).cell? ⟨g, i * 3 + c, none⟩ = d'[i].cells[c]? := fun c hc => by
      have h3 := (hH'.cell (i := i) (c := c) hi' hc).1
      rw [Nat.zero_add, getElem!_pos d' i hi'] at h3
      rw [h3]
      have hlen : c < (d'[i].cells).length := hc
      simp [hlen]
    rw [hx, Nat.zero_add]
    exact ⟨hcl 0 (by decide), hcl 1 (by decide), _, _, hcl 2 (by decide), ((hat _ hmem).same ⟨hbl.size, fun k hk hlt => sortW_block w g 0 n d' os k hlt (fun e => hk.2 e.symm)⟩).mono fun b _ hb => hb.1⟩
end Go.Proofs.YtcbnefeedoabeaaGreatDoor
