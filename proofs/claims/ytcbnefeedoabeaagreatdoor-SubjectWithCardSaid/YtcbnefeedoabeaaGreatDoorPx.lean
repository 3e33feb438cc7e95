/- Copies of a list of attributes and of a context. Copies of a list of contexts and of a subject. -/
import Derived.Test.YtcbnefeedoabeaaGreatDoorPl
import Derived.Test.YtcbnefeedoabeaaGreatDoorPu
/- Copies of a list of attributes and of a context. -/
namespace Go.Proofs.YtcbnefeedoabeaaGreatDoor
open Go Go.RowKit

/-- A whole attribute is stored, of which only the list's place may be another. -/
theorem GRow.put5 {P : Nat → Prop} {es : List AEl} {B g n cap : Nat} {w : World} (h : GRow eltA P es B (.slice (some ⟨g, 0, none⟩) n cap) w) (i : Nat) (hi : i < es.length) (q : Option Addr) (d : Nat) (hok : ListP (fun b => P b ∧ g ≠ b) q d es[i].a.val.list w) :
    GRow eltA P (es.set i ⟨es[i].a, q, d⟩) B (.slice (some ⟨g, 0, none⟩) n cap) (((((w.setCell ⟨g, i * 5, none⟩ (.string es[i].a.name)).setCell ⟨g, i * 5 + 1, none⟩ (.int .i64 es[i].a.val.kind)).setCell ⟨g, i * 5 + 2, none⟩ (.int .i64 es[i].a.val.num)).setCell ⟨g, i * 5 + 3, none⟩ (.string es[i].a.val.text)).setCell ⟨g, i * 5 + 4, none⟩ (.slice q (es[i].a.val.list.length : Nat) d)) := by
  have hob : ∀ b, (Value.slice (some ⟨g, 0, none⟩) n cap).ownBlock ≠ some b → g ≠ b := fun b hb e => hb (by rw [← e]; rfl)
  have hok0 : ListP (fun b => P b ∧ g ≠ b) es[i].p es[i].c es[i].a.val.list w := ListP.mono (h.ok es[i] (List.getElem_mem hi)) fun b _ hb => ⟨hb.1, hob b hb.2⟩
  have s1 : SameB (fun b => P b ∧ g ≠ b) w (w.setCell ⟨g, i * 5, none⟩ (.string es[i].a.name)) := (SameB.refl _ w).set (fun hb => hb.2 rfl) _ _
  have s2 := s1.set (B := g) (fun hb => hb.2 rfl) (i * 5 + 1) (.int .i64 es[i].a.val.kind)
  have s3 := s2.set (B := g) (fun hb => hb.2 rfl) (i * 5 + 2) (.int .i64 es[i].a.val.num)
  have s4 := s3.set (B := g) (fun hb => hb.2 rfl) (i * 5 + 3) (.string es[i].a.val.text)
  have h1 := GRow.put h i hi 0 (by decide) (.string es[i].a.name) es[i] rfl hok0
  rw [List.set_getElem_self] at h1
  have h2 := GRow.put h1 i hi 1 (by decide) (.int .i64 es[i].a.val.kind) es[i] rfl (hok0.same s1)
  rw [List.set_getElem_self] at h2
  have h3 := GRow.put h2 i hi 2 (by decide) (.int .i64 es[i].a.val.num) es[i] rfl (hok0.same s2)
  rw [List.set_getElem_self] at h3
  have h4 := GRow.put h3 i hi 3 (by decide) (.string es[i].a.val.text) es[i] rfl (hok0.same s3)
  rw [List.set_getElem_self] at h4
  exact GRow.put h4 i hi 4 (by decide) (.slice q (es[i].a.val.list.length : Nat) d) ⟨es[i].a, q, d⟩ rfl (hok.same s4)
/-- What the loop of a copy holds. -/
structure Copying (fs : List AEl) (B n cap : Nat) (q : Option Addr) (w : World) (m : Nat) (es : List AEl) (wr : World) : Prop where
  row : GRow eltA (fun _ => True) es B (.slice q n cap) wr
  same : es.map AEl.a = fs.map AEl.a
  done : ∀ j (hj : j < es.length), j < m → ListP (fun b => w.heap.size ≤ b ∧ (Value.slice q n cap).ownBlock ≠ some b) es[j].p es[j].c es[j].a.val.list wr
  below : Below w.heap.size w wr
set_option linter.unusedSimpArgs false in
set_option linter.unusedVariables false in
set_option maxHeartbeats 8000000 in
set_option maxRecDepth 100000 in
theorem copyEachA_any {P : Nat → Prop} (p : Option Addr) (c : Nat) (fs : List AEl) (w : World) (hE : ElsAt eltA P p c fs w) (hl : fs.length ≤ 1000) (hlist : ∀ e ∈ fs, e.a.val.list.length ≤ 8796093022207) :
    Calls Tryz.prog 113 #[.slice p (fs.length : Nat) c, .func (.func 114) #[] #[]] w fun e w' => (∃ (q : Option Addr), e = .returned (.slice q fs.length fs.length) ∧ AttrsP (fun b => w.heap.size ≤ b) q fs.length (fs.map AEl.a) w') ∧ Below w.heap.size w w' := by
  have hcl := Lib.hid (cloneA_any p c fs w hE hl)
  replace hlist := Lib.hid hlist
  clear hE
  go_enter Tryz.func113, Tryz.ntmps113
  go_wp2_with (first
    | (go_at_call 147; refine hcl.out.mono ?_; rintro e w1 ⟨⟨v1, rfl, hrow1⟩, hb1⟩; obtain ⟨q, cap, rfl, -, -, -, -⟩ := hrow1.form; have hnc := hrow1.nilcap; have hcp := Lib.hid (clipA_any q fs.length cap w1 hnc.2.1 hnc.2.2.1 hnc.2.2.2))
    | (go_at_call 142; refine hcp.out.mono ?_; rintro e w2 ⟨rfl, hb2⟩))
  have hst : Copying fs w.heap.size fs.length cap q w 0 fs w2 := ⟨(hrow1.below hb2).mono fun _ _ _ => trivial, rfl, fun j _ hj => by omega, hb1.trans (hb2.mono hb1.size)⟩
  obtain ⟨n, hn⟩ : ∃ n, fs.length = n := ⟨_, rfl⟩
  rw [hn] at hst hl ⊢
  replace hn := Lib.hid hn
  clear hrow1 hnc hcp hcl hb1 hb2
  go_loopw [6, 7, 13] (fun _ _ i wr => ∃ m : Nat, m ≤ n ∧ i = .int .i64 m ∧ ∃ es, Copying fs w.heap.size n cap q w m es wr) (fun _ _ i _ => n - (intOf i).toNat)
  case atStart => exact ⟨0, Nat.zero_le _, rfl, _, hst⟩
  case round =>
    obtain ⟨m, hm, rfl, es, hC⟩ := hrel
    clear hst
    have hlen : es.length = n := by have := congrArg List.length hC.same; simpa [hn.out] using this
    by_cases hlt : m < n
    · have hmI : (m : Int) < (n : Int) := by omega
      have h0I : (0 : Int) ≤ (m : Int) := by omega
      have hme : m < es.length := by omega
      obtain ⟨g, cap', hv⟩ := hC.row.addr (by omega)
      injection hv with e1 e2 e3
      subst e1
      clear e2
      have d0 : wr.cell? ⟨g, m * 5, none⟩ = some (.string es[m].a.name) := own_cell (E := eltA) hC.row.own m hme 0 (by decide)
      have d1 : wr.cell? ⟨g, m * 5 + 1, none⟩ = some (.int .i64 es[m].a.val.kind) := own_cell (E := eltA) hC.row.own m hme 1 (by decide)
      have d2 : wr.cell? ⟨g, m * 5 + 2, none⟩ = some (.int .i64 es[m].a.val.num) := own_cell (E := eltA) hC.row.own m hme 2 (by decide)
      have d3 : wr.cell? ⟨g, m * 5 + 3, none⟩ = some (.string es[m].a.val.text) := own_cell (E := eltA) hC.row.own m hme 3 (by decide)
      have d4 : wr.cell? ⟨g, m * 5 + 4, none⟩ = some (.slice es[m].p (es[m].a.val.list.length : Nat) es[m].c) := own_cell (E := eltA) hC.row.own m hme 4 (by decide)
      obtain ⟨e0, he0⟩ : ∃ e0, es[m] = e0 := ⟨_, rfl⟩
      rw [he0] at d0 d1 d2 d3 d4
      have hme' := hme
      have he0' : es[m]'hme' = e0 := he0
      replace he0 := Lib.hid he0'
      replace hlen := Lib.hid hlen
      clear he0'
      have hbX := fun o => (Below.refl wr.heap.size wr).alloc (Nat.le_refl _) o
      replace hbX := Lib.hid hbX
      have hl0 : e0.a.val.list.length ≤ 8796093022207 := by
        have h1 : es[m].a ∈ fs.map AEl.a := by rw [← hC.same]; exact List.mem_map_of_mem (List.getElem_mem hme')
        have he9 := he0.out
        rw [he9] at h1
        obtain ⟨f, hf, hfe⟩ := List.mem_map.1 h1
        rw [← hfe]
        exact hlist.out f hf
      have hX := (Below.refl wr.heap.size wr).alloc (Nat.le_refl _) (.cells #[.string e0.a.name, .int .i64 e0.a.val.kind, .int .i64 e0.a.val.num, .string e0.a.val.text, .slice e0.p (e0.a.val.list.length : Nat) e0.c] 72)
      have hrowX := hC.row.below hX
      have hL0 : ListP (fun _ => True) e0.p e0.c e0.a.val.list (wr.alloc (.cells #[.string e0.a.name, .int .i64 e0.a.val.kind, .int .i64 e0.a.val.num, .string e0.a.val.text, .slice e0.p (e0.a.val.list.length : Nat) e0.c] 72)) := by
        have h1 := hrowX.ok es[m] (List.getElem_mem hme')
        rw [he0.out] at h1
        exact ListP.mono h1 fun _ _ _ => trivial
      have hcp := Lib.hid (copyAttribute_any e0.a e0.p e0.c _ hL0 hl0)
      have hX : Hid (Below wr.heap.size wr (wr.alloc (.cells #[.string e0.a.name, .int .i64 e0.a.val.kind, .int .i64 e0.a.val.num, .string e0.a.val.text, .slice e0.p (e0.a.val.list.length : Nat) e0.c] 72))) := Lib.hid hX
      have hgr := (hC.row.lt g rfl).2
      clear e3 hL0 hl0 hbX
      go_upto_region 6 with (go_at_call 114; refine hcp.out.mono ?_; rintro e w2 ⟨⟨q', d', rfl, hq⟩, hb2⟩; have hb02 := hX.out.trans (hb2.mono hX.out.size); have a0 := (hb02.cell (p := ⟨g, m * 5, none⟩) hgr).trans d0; have a1 := (hb02.cell (p := ⟨g, m * 5 + 1, none⟩) hgr).trans d1; have a2 := (hb02.cell (p := ⟨g, m * 5 + 2, none⟩) hgr).trans d2; have a3 := (hb02.cell (p := ⟨g, m * 5 + 3, none⟩) hgr).trans d3; have a4 := (hb02.cell (p := ⟨g, m * 5 + 4, none⟩) hgr).trans d4; have af : ∀ i, w2.frozen? ⟨g, i, none⟩ = false := own_free (hC.row.below hb02).own)
      have hrow2 := hC.row.below hb02
      have hXs := hX.out.size
      have hq2 : ListP (fun b => True ∧ g ≠ b) q' d' es[m].a.val.list w2 := by
        rw [he0.out]
        exact ListP.mono hq fun b _ hb => ⟨trivial, by omega⟩
      have hput := hrow2.put5 m hme' q' d' hq2
      have hsm : ∀ (B : Nat), SameB (fun b => B ≤ b ∧ g ≠ b) w2 (((((w2.setCell ⟨g, m * 5, none⟩ (.string es[m].a.name)).setCell ⟨g, m * 5 + 1, none⟩ (.int .i64 es[m].a.val.kind)).setCell ⟨g, m * 5 + 2, none⟩ (.int .i64 es[m].a.val.num)).setCell ⟨g, m * 5 + 3, none⟩ (.string es[m].a.val.text)).setCell ⟨g, m * 5 + 4, none⟩ (.slice q' (es[m].a.val.list.length : Nat) d')) := fun B =>
        (((((SameB.refl _ w2).set (B := g) (fun hb => hb.2 rfl) _ _).set (B := g) (fun hb => hb.2 rfl) _ _).set (B := g) (fun hb => hb.2 rfl) _ _).set (B := g) (fun hb => hb.2 rfl) _ _).set (B := g) (fun hb => hb.2 rfl) _ _
      have hbg := (hC.row.lt g rfl).1
      have hbl2 := (((((hC.below.trans (hb02.mono hC.below.size)).setCell (p := ⟨g, m * 5, none⟩) hbg (.string es[m].a.name)).setCell (p := ⟨g, m * 5 + 1, none⟩) hbg (.int .i64 es[m].a.val.kind)).setCell (p := ⟨g, m * 5 + 2, none⟩) hbg (.int .i64 es[m].a.val.num)).setCell (p := ⟨g, m * 5 + 3, none⟩) hbg (.string es[m].a.val.text)).setCell (p := ⟨g, m * 5 + 4, none⟩) hbg (.slice q' (es[m].a.val.list.length : Nat) d')
      have hC2 : Copying fs w.heap.size n cap (some ⟨g, 0, none⟩) w (m + 1) (es.set m ⟨es[m].a, q', d'⟩) _ := ⟨hput, by
        rw [List.map_set, ← hC.same]
        apply List.ext_getElem
        · simp
        · intro j h1 h2
          rw [List.getElem_set]
          split
          · next h => subst h; simp
          · rfl, fun j hj hjm => by
        have hj' : j < es.length := by rw [List.length_set] at hj; exact hj
        have hg2 : ∀ b, g ≠ b → (Value.slice (some ⟨g, 0, none⟩) n cap).ownBlock ≠ some b := fun b hb e => hb (by injection e)
        by_cases hjm2 : j = m
        · subst hjm2
          simp only [List.getElem_set_self]
          have h1 : ListP (fun b => w.heap.size ≤ b ∧ g ≠ b) q' d' es[j].a.val.list w2 := by
            rw [he0.out]
            exact ListP.mono hq fun b _ hb => by have := hC.below.size; exact ⟨by omega, by omega⟩
          exact (h1.same (hsm _)).mono fun b _ hb => ⟨hb.1, hg2 b hb.2⟩
        · rw [show (es.set m ⟨es[m].a, q', d'⟩)[j] = es[j] from by rw [List.getElem_set]; exact if_neg (by omega)]
          have h1 := hC.done j hj' (by omega)
          have h2 : ListP (fun b => w.heap.size ≤ b ∧ g ≠ b) es[j].p es[j].c es[j].a.val.list w2 := (h1.same (SameB.of_below hb02)).mono fun b _ hb => ⟨hb.1, fun e => hb.2 (by rw [← e]; rfl)⟩
          exact (h2.same (hsm _)).mono fun b _ hb => ⟨hb.1, hg2 b hb.2⟩, hbl2⟩
      rw [he0.out] at hC2
      generalize World.setCell _ _ _ = w3 at hC2 ⊢
      go_wp2
      go_roundw
      case rel => exact ⟨m + 1, by omega, by go_num, _, hC2⟩
      case measure => simp [intOf]; omega
    · obtain rfl : m = n := by omega
      have hltI : ¬ (m : Int) < (m : Int) := by omega
      have hfin : AttrsP (fun b => w.heap.size ≤ b) q fs.length (fs.map AEl.a) wr := by
        have hrow : GRow eltA (fun b => w.heap.size ≤ b) es w.heap.size (.slice q m cap) wr := ⟨hC.row.own, fun e he => by
          obtain ⟨j, hj, rfl⟩ := List.getElem_of_mem he
          exact hC.done j hj (by omega)⟩
        obtain ⟨a0, cap', hv, hat⟩ := hrow.attrs
        injection hv with e1 e2 e3
        subst e1
        rw [hC.same] at hat
        refine ⟨fun hq => ?_, by simp, fun i hi => ?_⟩
        · have h1 : fs.map AEl.a = [] := by
            cases hf : fs.map AEl.a with
            | nil => rfl
            | cons e t =>
              obtain ⟨b, off, e1, _⟩ := hat.at_ 0 (by rw [hf]; simp)
              rw [hq] at e1
              cases e1
          have := congrArg List.length h1
          simpa using this
        · have h2 := (hat.mono (Q := fun b => w.heap.size ≤ b) fun b _ hb => hb.elim id fun e => (hrow.lt b e).1).at_ i hi
          exact h2
      have hbl := hC.below
      clear hC hlist hlen
      go_wp2
      go_ret
      exact ⟨⟨q, by rw [hn.out]; rfl, hfin⟩, hbl⟩
set_option linter.unusedSimpArgs false in
set_option linter.unusedVariables false in
set_option maxHeartbeats 4000000 in
set_option maxRecDepth 100000 in
theorem copyContext_any {P : Nat → Prop} (x : Ctx) (p : Option Addr) (c : Nat) (w : World) (hA : AttrsP P p c x.attrs w) (hl : x.attrs.length ≤ 1000) (hlist : ∀ a ∈ x.attrs, a.val.list.length ≤ 8796093022207) :
    Calls Tryz.prog 72 #[.agg #[.string x.kind, .string x.key, .slice p (x.attrs.length : Nat) c]] w fun e w' => (∃ (q : Option Addr), e = .returned (.agg #[.string x.kind, .string x.key, .slice q x.attrs.length x.attrs.length]) ∧ AttrsP (fun b => w.heap.size ≤ b) q x.attrs.length x.attrs w') ∧ Below w.heap.size w w' := by
  obtain ⟨m, k, l⟩ := x
  simp only at hA hl hlist ⊢
  have hbA := (Below.refl w.heap.size w).alloc (Nat.le_refl _) (.cells #[.string m, .string k, .slice p (l.length : Nat) c] 63)
  have hbB := hbA.alloc hbA.size (.cells #[.string ⟨#[]⟩, .string ⟨#[]⟩, .slice none 0 0] 63)
  have hzA : ((w.alloc (.cells #[.string m, .string k, .slice p (l.length : Nat) c] 63)).alloc (.cells #[.string ⟨#[]⟩, .string ⟨#[]⟩, .slice none 0 0] 63)).heap[w.heap.size]? = some (.cells #[.string m, .string k, .slice p (l.length : Nat) c] 63 (0, 0)) := (Lib.alloc_old _ _ _ (by simp)).trans (heap_alloc_new w _)
  have hzB : ((w.alloc (.cells #[.string m, .string k, .slice p (l.length : Nat) c] 63)).alloc (.cells #[.string ⟨#[]⟩, .string ⟨#[]⟩, .slice none 0 0] 63)).heap[w.heap.size + 1]? = some (.cells #[.string ⟨#[]⟩, .string ⟨#[]⟩, .slice none 0 0] 63 (0, 0)) := by
    have := heap_alloc_new (w.alloc (.cells #[.string m, .string k, .slice p (l.length : Nat) c] 63)) (.cells #[.string ⟨#[]⟩, .string ⟨#[]⟩, .slice none 0 0] 63)
    simpa using this
  have hs0 : ((w.alloc (.cells #[.string m, .string k, .slice p (l.length : Nat) c] 63)).alloc (.cells #[.string ⟨#[]⟩, .string ⟨#[]⟩, .slice none 0 0] 63)).heap.size = w.heap.size + 2 := by simp
  go_enter Tryz.func72, Tryz.ntmps72
  go_upto_region 1 with (fail)
  generalize ((w.alloc (.cells #[.string m, .string k, .slice p (l.length : Nat) c] 63)).alloc (.cells #[.string ⟨#[]⟩, .string ⟨#[]⟩, .slice none 0 0] 63)) = w0 at hbB hzA hzB hs0 ⊢
  obtain ⟨fs, hfs, hels⟩ := (hA.same (SameB.of_below hbB)).els
  have hcl := copyEachA_any p c fs w0 hels (by rw [← hfs, List.length_map] at hl; exact hl) (fun e he => hlist e.a (by rw [← hfs]; exact List.mem_map_of_mem he))
  rw [← List.length_map (f := AEl.a), hfs] at hcl
  clear hfs
  replace hcl := Lib.hid hcl
  have c0 : w0.cell? ⟨w.heap.size, 0, none⟩ = some (.string m) := by rw [Lib.cell_of_heap hzA]; rfl
  have c1 : w0.cell? ⟨w.heap.size, 1, none⟩ = some (.string k) := by rw [Lib.cell_of_heap hzA]; rfl
  have c2 : w0.cell? ⟨w.heap.size, 2, none⟩ = some (.slice p l.length c) := by rw [Lib.cell_of_heap hzA]; rfl
  clear hbA hA hl hlist hels
  go_upto_region 2 with (go_at_call 113; refine hcl.out.mono ?_; rintro e w2 ⟨⟨q, rfl, hlist⟩, hb2⟩; have zA2 := (hb2.block w.heap.size (by omega)).trans hzA; have zB2 := (hb2.block (w.heap.size + 1) (by omega)).trans hzB; have a0 : w2.cell? ⟨w.heap.size, 0, none⟩ = some (.string m) := (by rw [Lib.cell_of_heap zA2]; rfl); have a1 : w2.cell? ⟨w.heap.size, 1, none⟩ = some (.string k) := (by rw [Lib.cell_of_heap zA2]; rfl); have a2 : w2.cell? ⟨w.heap.size, 2, none⟩ = some (.slice p l.length c) := (by rw [Lib.cell_of_heap zA2]; rfl); have af : ∀ i, w2.frozen? ⟨w.heap.size, i, none⟩ = false := Lib.frozen_of_heap zA2)
  have zA3 : (w2.setCell ⟨w.heap.size, 2, none⟩ (.slice q l.length l.length)).heap[w.heap.size]? = some (.cells #[.string m, .string k, .slice q l.length l.length] 63 (0, 0)) := (box_put zA2 _)
  have zB3 : (w2.setCell ⟨w.heap.size, 2, none⟩ (.slice q l.length l.length)).heap[w.heap.size + 1]? = some (.cells #[.string ⟨#[]⟩, .string ⟨#[]⟩, .slice none 0 0] 63 (0, 0)) := by
    rw [Below.heap_setCell _ _ _ _ (by show w.heap.size + 1 ≠ w.heap.size; omega)]
    exact zB2
  have hXA : ¬ (w0.heap.size ≤ w.heap.size) := by omega
  have hXR : ¬ (w0.heap.size ≤ w.heap.size + 1) := by omega
  have hb3 := ((hbB.trans (hb2.mono (by omega))).setCell (p := ⟨w.heap.size, 2, none⟩) (Nat.le_refl _) (.slice q l.length l.length))
  have hlist3 : AttrsP (fun b => w0.heap.size ≤ b) q l.length l _ := hlist.same (((SameB.refl _ _).set (B := w.heap.size) hXA 2 (.slice q l.length l.length)))
  generalize (w2.setCell ⟨w.heap.size, 2, none⟩ (.slice q l.length l.length)) = w3 at zA3 zB3 hb3 hlist3 ⊢
  clear a0 a1 a2 af zA2 zB2 hzA hzB hb2 hcl hlist c0 c1 c2 hbB
  have a0 : w3.cell? ⟨w.heap.size, 0, none⟩ = some (.string m) := by rw [Lib.cell_of_heap zA3]; rfl
  have a1 : w3.cell? ⟨w.heap.size, 1, none⟩ = some (.string k) := by rw [Lib.cell_of_heap zA3]; rfl
  have a2 : w3.cell? ⟨w.heap.size, 2, none⟩ = some (.slice q l.length l.length) := by rw [Lib.cell_of_heap zA3]; rfl
  have r0 : w3.cell? ⟨w.heap.size + 1, 0, none⟩ = some (.string ⟨#[]⟩) := by rw [Lib.cell_of_heap zB3]; rfl
  have r1 : w3.cell? ⟨w.heap.size + 1, 1, none⟩ = some (.string ⟨#[]⟩) := by rw [Lib.cell_of_heap zB3]; rfl
  have r2 : w3.cell? ⟨w.heap.size + 1, 2, none⟩ = some (.slice none 0 0) := by rw [Lib.cell_of_heap zB3]; rfl
  have rf : ∀ i, w3.frozen? ⟨w.heap.size + 1, i, none⟩ = false := Lib.frozen_of_heap zB3
  have zB4 : (((w3.setCell ⟨w.heap.size + 1, 0, none⟩ (.string m)).setCell ⟨w.heap.size + 1, 1, none⟩ (.string k)).setCell ⟨w.heap.size + 1, 2, none⟩ (.slice q l.length l.length)).heap[w.heap.size + 1]? = some (.cells #[.string m, .string k, .slice q l.length l.length] 63 (0, 0)) := (box_put (box_put (box_put zB3 _) _) _)
  have hb4 := (((hb3.setCell (p := ⟨w.heap.size + 1, 0, none⟩) (Nat.le_succ _) (.string m)).setCell (p := ⟨w.heap.size + 1, 1, none⟩) (Nat.le_succ _) (.string k)).setCell (p := ⟨w.heap.size + 1, 2, none⟩) (Nat.le_succ _) (.slice q l.length l.length))
  have hlist4 : AttrsP (fun b => w0.heap.size ≤ b) q l.length l _ := hlist3.same (((((SameB.refl _ _).set (B := w.heap.size + 1) hXR 0 (.string m)).set (B := w.heap.size + 1) hXR 1 (.string k)).set (B := w.heap.size + 1) hXR 2 (.slice q l.length l.length)))
  go_wp2
  generalize World.setCell _ _ _ = w4 at zB4 hb4 hlist4 ⊢
  have s0 : w4.cell? ⟨w.heap.size + 1, 0, none⟩ = some (.string m) := by rw [Lib.cell_of_heap zB4]; rfl
  have s1 : w4.cell? ⟨w.heap.size + 1, 1, none⟩ = some (.string k) := by rw [Lib.cell_of_heap zB4]; rfl
  have s2 : w4.cell? ⟨w.heap.size + 1, 2, none⟩ = some (.slice q l.length l.length) := by rw [Lib.cell_of_heap zB4]; rfl
  refine bodyPost_ret (v := .agg #[.string m, .string k, .slice q l.length l.length]) (by simp [results, Tryz.results72, go_sem, s0, s1, s2]) rfl ⟨⟨q, rfl, hlist4.mono (fun b _ hb => by omega)⟩, hb4⟩
end Go.Proofs.YtcbnefeedoabeaaGreatDoor
/- Copies of a list of contexts and of a subject. -/
namespace Go.Proofs.YtcbnefeedoabeaaGreatDoor
open Go Go.RowKit

set_option linter.unusedSimpArgs false in
set_option linter.unusedVariables false in
set_option maxHeartbeats 4000000 in
set_option maxRecDepth 100000 in
theorem cloneC_any {P : Nat → Prop} (p : Option Addr) (c : Nat) (l : List CEl) (w : World) (hL : ElsAt eltC P p c l w) (hl : l.length ≤ 1000) :
    Calls Tryz.prog 112 #[.slice p (l.length : Nat) c] w fun e w' => (∃ v, e = .returned v ∧ GRow eltC (fun b => P b ∧ b < w.heap.size) l w.heap.size v w') ∧ Below w.heap.size w w' := by
  have heq : ∀ (a : Option Addr) (n c : Nat) (w : World), (binOp .eql 23 (.slice a n c) (.slice none 0 0)).run Tryz.prog w = .ok (.bool a.isNone) w := fun a n c w => Lib.run_eql_slice_nil w _ _ a n c 0 0 Tryz.underlying23
  have hL' : ElsAt eltC (fun b => P b ∧ b < w.heap.size) p c l w := hL.keep
  cases p with
  | none =>
    have hc0 := hL.nil rfl
    have h0 : l = [] := by
      cases l with
      | nil => rfl
      | cons e t => obtain ⟨b, off, he, _⟩ := hL.at_ 0 (by simp); cases he
    subst h0
    subst hc0
    clear hl hL hL'
    go_enter Tryz.func112, Tryz.ntmps112
    go_wp2
    go_ret
    exact ⟨⟨_, rfl, GRow.nil _ _ _ _⟩, Below.refl _ _⟩
  | some ad =>
    have hbA := (Below.refl w.heap.size w).alloc (Nat.le_refl _) (.cells #[] 63)
    have hels := hL'.same (SameB.of_below hbA)
    have hlm : l.length ≤ maxLen := by unfold maxLen; omega
    have hlb : l.length * eltC.size ≤ 140737488355328 := by show l.length * 56 ≤ _; omega
    have hown := empty_own eltC w
    go_enter Tryz.func112, Tryz.ntmps112
    clear hL hL'
    replace hlb := Lib.hid hlb
    replace hlm := Lib.hid hlm
    clear hl
    go_wp2_with (refine wpList_clone eltC rfl (.tmp 5) (.tmp 6) rfl (g0 := w.heap.size) rfl hown rfl hels hlb.out hlm.out (fun b hb => hb.2) (by simp) ?_; intro v1 w1 hrow1 hb1)
    go_ret
    exact ⟨⟨_, rfl, hrow1⟩, hbA.trans hb1⟩
theorem GRow.put3C {P : Nat → Prop} {es : List CEl} {B g n cap : Nat} {w : World} (h : GRow eltC P es B (.slice (some ⟨g, 0, none⟩) n cap) w) (i : Nat) (hi : i < es.length) (q : Option Addr) (d : Nat) (hok : AttrsP (fun b => P b ∧ g ≠ b) q d es[i].x.attrs w) :
    GRow eltC P (es.set i ⟨es[i].x, q, d⟩) B (.slice (some ⟨g, 0, none⟩) n cap) (((w.setCell ⟨g, i * 3, none⟩ (.string es[i].x.kind)).setCell ⟨g, i * 3 + 1, none⟩ (.string es[i].x.key)).setCell ⟨g, i * 3 + 2, none⟩ (.slice q (es[i].x.attrs.length : Nat) d)) := by
  have hob : ∀ b, (Value.slice (some ⟨g, 0, none⟩) n cap).ownBlock ≠ some b → g ≠ b := fun b hb e => hb (by rw [← e]; rfl)
  have hok0 : AttrsP (fun b => P b ∧ g ≠ b) es[i].p es[i].c es[i].x.attrs w := AttrsP.mono (h.ok es[i] (List.getElem_mem hi)) fun b _ hb => ⟨hb.1, hob b hb.2⟩
  have s1 : SameB (fun b => P b ∧ g ≠ b) w (w.setCell ⟨g, i * 3, none⟩ (.string es[i].x.kind)) := (SameB.refl _ w).set (fun hb => hb.2 rfl) _ _
  have s2 := s1.set (B := g) (fun hb => hb.2 rfl) (i * 3 + 1) (.string es[i].x.key)
  have h1 := GRow.put h i hi 0 (by decide) (.string es[i].x.kind) es[i] rfl hok0
  rw [List.set_getElem_self] at h1
  have h2 := GRow.put h1 i hi 1 (by decide) (.string es[i].x.key) es[i] rfl (hok0.same s1)
  rw [List.set_getElem_self] at h2
  exact GRow.put h2 i hi 2 (by decide) (.slice q (es[i].x.attrs.length : Nat) d) ⟨es[i].x, q, d⟩ rfl (hok.same s2)
/-- A row of contexts at the start of a block from B on that may be written; what they point to lies in other blocks. -/
structure RowC (B : Nat) (q : Option Addr) (fs : List CEl) (w : World) : Prop where
  nil : q = none → fs = []
  at_ : ∀ a, q = some a → ∃ g, a = ⟨g, 0, none⟩ ∧ B ≤ g ∧ g < w.heap.size ∧ (∀ i, w.frozen? ⟨g, i, none⟩ = false) ∧ (∀ i (hi : i < fs.length) j, j < 3 → w.cell? ⟨g, i * 3 + j, none⟩ = fs[i].cells[j]?) ∧ ∀ e ∈ fs, AttrsP (fun b => B ≤ b ∧ g ≠ b) e.p e.c e.x.attrs w
theorem RowC.same {B : Nat} {q : Option Addr} {fs : List CEl} {w w' : World} (h : RowC B q fs w) (s : SameB (fun b => B ≤ b) w w') : RowC B q fs w' := ⟨h.nil, fun a ha => by
  obtain ⟨g, e, hB, hg, hf, hc, hk⟩ := h.at_ a ha
  exact ⟨g, e, hB, Nat.lt_of_lt_of_le hg s.1, fun i => by rw [World.frozen?_of_block (w := w) (a := ⟨g, i, none⟩) (s.2 g hB hg)]; exact hf i, fun i hi j hj => (s.cell hB hg).trans (hc i hi j hj), fun e he => (hk e he).same (s.mono fun b hb => hb.1)⟩⟩
theorem RowC.low {B C : Nat} {q : Option Addr} {fs : List CEl} {w : World} (h : RowC B q fs w) (hC : C ≤ B) : RowC C q fs w := ⟨h.nil, fun a ha => by
  obtain ⟨g, e, hB, hg, hf, hc, hk⟩ := h.at_ a ha
  exact ⟨g, e, Nat.le_trans hC hB, hg, hf, hc, fun e he => (hk e he).mono fun b _ hb => ⟨Nat.le_trans hC hb.1, hb.2⟩⟩⟩
theorem RowC.ctxs {B : Nat} {q : Option Addr} {fs : List CEl} {w : World} (h : RowC B q fs w) : CtxsP (fun b => B ≤ b) q fs.length (fs.map CEl.x) w := by
  refine ⟨fun e => by rw [h.nil e]; rfl, by simp, fun i hi => ?_⟩
  have hi' : i < fs.length := by simpa using hi
  cases q with
  | none => rw [h.nil rfl] at hi'; simp at hi'
  | some a =>
    obtain ⟨g, e, hB, hg, hf, hc, hk⟩ := h.at_ a rfl
    refine ⟨g, 0, by rw [e], hB, hg, ?_⟩
    rw [show (fs.map CEl.x)[i] = fs[i].x from by simp, Nat.zero_add]
    exact ⟨hc i hi' 0 (by decide), hc i hi' 1 (by decide), _, _, hc i hi' 2 (by decide), (hk _ (List.getElem_mem hi')).mono fun b _ hb => hb.1⟩
/-- What the loop of a copy holds. -/
structure CopyingC (fs : List CEl) (B n cap : Nat) (q : Option Addr) (w : World) (m : Nat) (es : List CEl) (wr : World) : Prop where
  row : GRow eltC (fun _ => True) es B (.slice q n cap) wr
  same : es.map CEl.x = fs.map CEl.x
  done : ∀ j (hj : j < es.length), j < m → AttrsP (fun b => w.heap.size ≤ b ∧ (Value.slice q n cap).ownBlock ≠ some b) es[j].p es[j].c es[j].x.attrs wr
  below : Below w.heap.size w wr
set_option linter.unusedSimpArgs false in
set_option linter.unusedVariables false in
set_option maxHeartbeats 8000000 in
set_option maxRecDepth 100000 in
theorem copyEachC_any {P : Nat → Prop} (p : Option Addr) (c : Nat) (fs : List CEl) (w : World) (hE : ElsAt eltC P p c fs w) (hl : fs.length ≤ 1000) (hlist : ∀ e ∈ fs, e.x.attrs.length ≤ 1000 ∧ ∀ a ∈ e.x.attrs, a.val.list.length ≤ 8796093022207) :
    Calls Tryz.prog 71 #[.slice p (fs.length : Nat) c, .func (.func 72) #[] #[]] w fun e w' => (∃ (q : Option Addr), e = .returned (.slice q fs.length fs.length) ∧ CtxsP (fun b => w.heap.size ≤ b) q fs.length (fs.map CEl.x) w' ∧ ∃ gs, gs.map CEl.x = fs.map CEl.x ∧ RowC w.heap.size q gs w') ∧ Below w.heap.size w w' := by
  have hcl := Lib.hid (cloneC_any p c fs w hE hl)
  replace hlist := Lib.hid hlist
  clear hE
  go_enter Tryz.func71, Tryz.ntmps71
  go_wp2_with (first
    | (go_at_call 112; refine hcl.out.mono ?_; rintro e w1 ⟨⟨v1, rfl, hrow1⟩, hb1⟩; obtain ⟨q, cap, rfl, -, -, -, -⟩ := hrow1.form; have hnc := hrow1.nilcap; have hcp := Lib.hid (clipC_any q fs.length cap w1 hnc.2.1 hnc.2.2.1 hnc.2.2.2))
    | (go_at_call 98; refine hcp.out.mono ?_; rintro e w2 ⟨rfl, hb2⟩))
  have hst : CopyingC fs w.heap.size fs.length cap q w 0 fs w2 := ⟨(hrow1.below hb2).mono fun _ _ _ => trivial, rfl, fun j _ hj => by omega, hb1.trans (hb2.mono hb1.size)⟩
  obtain ⟨n, hn⟩ : ∃ n, fs.length = n := ⟨_, rfl⟩
  rw [hn] at hst hl ⊢
  replace hn := Lib.hid hn
  clear hrow1 hnc hcp hcl hb1 hb2
  go_loopw [6, 7, 13] (fun _ _ i wr => ∃ m : Nat, m ≤ n ∧ i = .int .i64 m ∧ ∃ es, CopyingC fs w.heap.size n cap q w m es wr) (fun _ _ i _ => n - (intOf i).toNat)
  case atStart => exact ⟨0, Nat.zero_le _, rfl, _, hst⟩
  case round =>
    obtain ⟨m, hm, rfl, es, hC⟩ := hrel
    clear hst
    have hlen : es.length = n := by have := congrArg List.length hC.same; simpa [hn.out] using this
    by_cases hlt : m < n
    · have hmI : (m : Int) < (n : Int) := by omega
      have h0I : (0 : Int) ≤ (m : Int) := by omega
      have hme : m < es.length := by omega
      obtain ⟨g, cap', hv⟩ := hC.row.addr (by omega)
      injection hv with e1 e2 e3
      subst e1
      clear e2
      have d0 : wr.cell? ⟨g, m * 3, none⟩ = some (.string es[m].x.kind) := own_cell (E := eltC) hC.row.own m hme 0 (by decide)
      have d1 : wr.cell? ⟨g, m * 3 + 1, none⟩ = some (.string es[m].x.key) := own_cell (E := eltC) hC.row.own m hme 1 (by decide)
      have d2 : wr.cell? ⟨g, m * 3 + 2, none⟩ = some (.slice es[m].p (es[m].x.attrs.length : Nat) es[m].c) := own_cell (E := eltC) hC.row.own m hme 2 (by decide)
      obtain ⟨e0, he0⟩ : ∃ e0, es[m] = e0 := ⟨_, rfl⟩
      rw [he0] at d0 d1 d2
      have hme' := hme
      have he0' : es[m]'hme' = e0 := he0
      replace he0 := Lib.hid he0'
      replace hlen := Lib.hid hlen
      clear he0'
      have hbX := fun o => (Below.refl wr.heap.size wr).alloc (Nat.le_refl _) o
      replace hbX := Lib.hid hbX
      have hl0 : e0.x.attrs.length ≤ 1000 ∧ ∀ a ∈ e0.x.attrs, a.val.list.length ≤ 8796093022207 := by
        have h1 : es[m].x ∈ fs.map CEl.x := by rw [← hC.same]; exact List.mem_map_of_mem (List.getElem_mem hme')
        have he9 := he0.out
        rw [he9] at h1
        obtain ⟨f, hf, hfe⟩ := List.mem_map.1 h1
        rw [← hfe]
        exact hlist.out f hf
      have hX := (Below.refl wr.heap.size wr).alloc (Nat.le_refl _) (.cells #[.string e0.x.kind, .string e0.x.key, .slice e0.p (e0.x.attrs.length : Nat) e0.c] 63)
      have hrowX := hC.row.below hX
      have hL0 : AttrsP (fun _ => True) e0.p e0.c e0.x.attrs (wr.alloc (.cells #[.string e0.x.kind, .string e0.x.key, .slice e0.p (e0.x.attrs.length : Nat) e0.c] 63)) := by
        have h1 := hrowX.ok es[m] (List.getElem_mem hme')
        rw [he0.out] at h1
        exact AttrsP.mono h1 fun _ _ _ => trivial
      have hcp := Lib.hid (copyContext_any e0.x e0.p e0.c _ hL0 hl0.1 hl0.2)
      have hX : Hid (Below wr.heap.size wr (wr.alloc (.cells #[.string e0.x.kind, .string e0.x.key, .slice e0.p (e0.x.attrs.length : Nat) e0.c] 63))) := Lib.hid hX
      have hgr := (hC.row.lt g rfl).2
      clear e3 hL0 hl0 hbX
      go_upto_region 6 with (go_at_call 72; refine hcp.out.mono ?_; rintro e w2 ⟨⟨q', rfl, hq⟩, hb2⟩; have hb02 := hX.out.trans (hb2.mono hX.out.size); have a0 := (hb02.cell (p := ⟨g, m * 3, none⟩) hgr).trans d0; have a1 := (hb02.cell (p := ⟨g, m * 3 + 1, none⟩) hgr).trans d1; have a2 := (hb02.cell (p := ⟨g, m * 3 + 2, none⟩) hgr).trans d2; have af : ∀ i, w2.frozen? ⟨g, i, none⟩ = false := own_free (hC.row.below hb02).own)
      have hrow2 := hC.row.below hb02
      have hXs := hX.out.size
      have hq2 : AttrsP (fun b => True ∧ g ≠ b) q' es[m].x.attrs.length es[m].x.attrs w2 := by
        rw [he0.out]
        exact AttrsP.mono hq fun b _ hb => ⟨trivial, by omega⟩
      have hput := hrow2.put3C m hme' q' es[m].x.attrs.length hq2
      have hsm : ∀ (B : Nat), SameB (fun b => B ≤ b ∧ g ≠ b) w2 (((w2.setCell ⟨g, m * 3, none⟩ (.string es[m].x.kind)).setCell ⟨g, m * 3 + 1, none⟩ (.string es[m].x.key)).setCell ⟨g, m * 3 + 2, none⟩ (.slice q' (es[m].x.attrs.length : Nat) es[m].x.attrs.length)) := fun B =>
        (((SameB.refl _ w2).set (B := g) (fun hb => hb.2 rfl) _ _).set (B := g) (fun hb => hb.2 rfl) _ _).set (B := g) (fun hb => hb.2 rfl) _ _
      have hbg := (hC.row.lt g rfl).1
      have hbl2 := ((((hC.below.trans (hb02.mono hC.below.size)).setCell (p := ⟨g, m * 3, none⟩) hbg (.string es[m].x.kind)).setCell (p := ⟨g, m * 3 + 1, none⟩) hbg (.string es[m].x.key)).setCell (p := ⟨g, m * 3 + 2, none⟩) hbg (.slice q' (es[m].x.attrs.length : Nat) es[m].x.attrs.length))
      have hC2 : CopyingC fs w.heap.size n cap (some ⟨g, 0, none⟩) w (m + 1) (es.set m ⟨es[m].x, q', es[m].x.attrs.length⟩) _ := ⟨hput, by
        rw [List.map_set, ← hC.same]
        apply List.ext_getElem
        · simp
        · intro j h1 h2
          rw [List.getElem_set]
          split
          · next h => subst h; simp
          · rfl, fun j hj hjm => by
        have hj' : j < es.length := by rw [List.length_set] at hj; exact hj
        have hg2 : ∀ b, g ≠ b → (Value.slice (some ⟨g, 0, none⟩) n cap).ownBlock ≠ some b := fun b hb e => hb (by injection e)
        by_cases hjm2 : j = m
        · subst hjm2
          simp only [List.getElem_set_self]
          have h1 : AttrsP (fun b => w.heap.size ≤ b ∧ g ≠ b) q' es[j].x.attrs.length es[j].x.attrs w2 := by
            rw [he0.out]
            exact AttrsP.mono hq fun b _ hb => by have := hC.below.size; exact ⟨by omega, by omega⟩
          exact (h1.same (hsm _)).mono fun b _ hb => ⟨hb.1, hg2 b hb.2⟩
        · rw [show (es.set m ⟨es[m].x, q', es[m].x.attrs.length⟩)[j] = es[j] from by rw [List.getElem_set]; exact if_neg (by omega)]
          have h1 := hC.done j hj' (by omega)
          have h2 : AttrsP (fun b => w.heap.size ≤ b ∧ g ≠ b) es[j].p es[j].c es[j].x.attrs w2 := (h1.same (SameB.of_below hb02)).mono fun b _ hb => ⟨hb.1, fun e => hb.2 (by rw [← e]; rfl)⟩
          exact (h2.same (hsm _)).mono fun b _ hb => ⟨hb.1, hg2 b hb.2⟩, hbl2⟩
      rw [he0.out] at hC2
      generalize World.setCell _ _ _ = w3 at hC2 ⊢
      go_wp2
      go_roundw
      case rel => exact ⟨m + 1, by omega, by go_num, _, hC2⟩
      case measure => simp [intOf]; omega
    · obtain rfl : m = n := by omega
      have hltI : ¬ (m : Int) < (m : Int) := by omega
      have hfin : CtxsP (fun b => w.heap.size ≤ b) q fs.length (fs.map CEl.x) wr := by
        have hrow : GRow eltC (fun b => w.heap.size ≤ b) es w.heap.size (.slice q m cap) wr := ⟨hC.row.own, fun e he => by
          obtain ⟨j, hj, rfl⟩ := List.getElem_of_mem he
          exact hC.done j hj (by omega)⟩
        obtain ⟨a0, cap', hv, hat⟩ := hrow.ctxs
        injection hv with e1 e2 e3
        subst e1
        rw [hC.same] at hat
        refine ⟨fun hq => ?_, by simp, fun i hi => ?_⟩
        · have h1 : fs.map CEl.x = [] := by
            cases hf : fs.map CEl.x with
            | nil => rfl
            | cons e t =>
              obtain ⟨b, off, e1, _⟩ := hat.at_ 0 (by rw [hf]; simp)
              rw [hq] at e1
              cases e1
          have := congrArg List.length h1
          simpa using this
        · have h2 := (hat.mono (Q := fun b => w.heap.size ≤ b) fun b _ hb => hb.elim id fun e => (hrow.lt b e).1).at_ i hi
          exact h2
      have hfree : ∃ gs, gs.map CEl.x = fs.map CEl.x ∧ RowC w.heap.size q gs wr := by
        have hrow : GRow eltC (fun b => w.heap.size ≤ b) es w.heap.size (.slice q m cap) wr := ⟨hC.row.own, fun e he => by
          obtain ⟨j, hj, rfl⟩ := List.getElem_of_mem he
          exact hC.done j hj (by omega)⟩
        refine ⟨es, hC.same, fun hq => ?_, fun a ha => ?_⟩
        · have h1 := hrow.nilcap.2.1 hq
          have h2 := hrow.nilcap.1
          exact List.eq_nil_of_length_eq_zero (by omega)
        · subst ha
          rcases hrow.own.2 with ⟨h0, _⟩ | ⟨g, cap', cur, hv, hB, hg, _⟩
          · cases h0
          · injection hv with h1
            injection h1 with h1
            subst h1
            have hg2 := (Array.getElem?_eq_some_iff.1 hg).1
            refine ⟨g, rfl, hB, hg2, Lib.frozen_of_heap hg, fun i hi j hj => own_cell (E := eltC) hrow.own i hi j hj, fun e he => AttrsP.mono (hrow.ok e he) fun b _ hb => ⟨hb.1, fun e => hb.2 (by rw [← e]; rfl)⟩⟩
      have hbl := hC.below
      clear hC hlist hlen
      go_wp2
      go_ret
      exact ⟨⟨q, by rw [hn.out]; rfl, hfin, hfree⟩, hbl⟩
set_option linter.unusedSimpArgs false in
set_option linter.unusedVariables false in
set_option maxHeartbeats 4000000 in
set_option maxRecDepth 100000 in
theorem copySubject_any {P : Nat → Prop} (p : Option Addr) (c : Nat) (l : List Ctx) (w : World) (hA : CtxsP P p c l w) (hl : l.length ≤ 1000) (hlist : ∀ x ∈ l, x.attrs.length ≤ 1000 ∧ ∀ a ∈ x.attrs, a.val.list.length ≤ 8796093022207) :
    Calls Tryz.prog 35 #[.agg #[.slice p (l.length : Nat) c]] w fun e w' => (∃ (q : Option Addr), e = .returned (.agg #[.slice q l.length l.length]) ∧ CtxsP (fun b => w.heap.size ≤ b) q l.length l w' ∧ ∃ gs, gs.map CEl.x = l ∧ RowC w.heap.size q gs w') ∧ Below w.heap.size w w' := by
  have hbA := (Below.refl w.heap.size w).alloc (Nat.le_refl _) (.cells #[.slice p (l.length : Nat) c] 25)
  have hbB := hbA.alloc hbA.size (.cells #[.slice none 0 0] 25)
  have hzA : ((w.alloc (.cells #[.slice p (l.length : Nat) c] 25)).alloc (.cells #[.slice none 0 0] 25)).heap[w.heap.size]? = some (.cells #[.slice p (l.length : Nat) c] 25 (0, 0)) := (Lib.alloc_old _ _ _ (by simp)).trans (heap_alloc_new w _)
  have hzB : ((w.alloc (.cells #[.slice p (l.length : Nat) c] 25)).alloc (.cells #[.slice none 0 0] 25)).heap[w.heap.size + 1]? = some (.cells #[.slice none 0 0] 25 (0, 0)) := by
    have := heap_alloc_new (w.alloc (.cells #[.slice p (l.length : Nat) c] 25)) (.cells #[.slice none 0 0] 25)
    simpa using this
  have hs0 : ((w.alloc (.cells #[.slice p (l.length : Nat) c] 25)).alloc (.cells #[.slice none 0 0] 25)).heap.size = w.heap.size + 2 := by simp
  go_enter Tryz.func35, Tryz.ntmps35
  go_upto_region 1 with (fail)
  generalize ((w.alloc (.cells #[.slice p (l.length : Nat) c] 25)).alloc (.cells #[.slice none 0 0] 25)) = w0 at hbB hzA hzB hs0 ⊢
  obtain ⟨fs, hfs, hels⟩ := (hA.same (SameB.of_below hbB)).els
  have hcl := copyEachC_any p c fs w0 hels (by rw [← hfs, List.length_map] at hl; exact hl) (fun e he => hlist e.x (by rw [← hfs]; exact List.mem_map_of_mem he))
  rw [← List.length_map (f := CEl.x), hfs] at hcl
  clear hfs
  replace hcl := Lib.hid hcl
  have c0 : w0.cell? ⟨w.heap.size, 0, none⟩ = some (.slice p l.length c) := by rw [Lib.cell_of_heap hzA]; rfl
  clear hbA hA hl hlist hels
  go_upto_region 2 with (go_at_call 71; refine hcl.out.mono ?_; rintro e w2 ⟨⟨q, rfl, hlist, hfree⟩, hb2⟩; have zA2 := (hb2.block w.heap.size (by omega)).trans hzA; have zB2 := (hb2.block (w.heap.size + 1) (by omega)).trans hzB; have a0 : w2.cell? ⟨w.heap.size, 0, none⟩ = some (.slice p l.length c) := (by rw [Lib.cell_of_heap zA2]; rfl); have af : ∀ i, w2.frozen? ⟨w.heap.size, i, none⟩ = false := Lib.frozen_of_heap zA2)
  have zA3 : (w2.setCell ⟨w.heap.size, 0, none⟩ (.slice q l.length l.length)).heap[w.heap.size]? = some (.cells #[.slice q l.length l.length] 25 (0, 0)) := (box_put zA2 _)
  have zB3 : (w2.setCell ⟨w.heap.size, 0, none⟩ (.slice q l.length l.length)).heap[w.heap.size + 1]? = some (.cells #[.slice none 0 0] 25 (0, 0)) := by
    rw [Below.heap_setCell _ _ _ _ (by show w.heap.size + 1 ≠ w.heap.size; omega)]
    exact zB2
  have hfr : ∀ w', SameB (fun b => w0.heap.size ≤ b) w2 w' → ∃ gs, gs.map CEl.x = l ∧ RowC w.heap.size q gs w' := fun w' hs => by
    obtain ⟨gs, h1, h2⟩ := hfree
    exact ⟨gs, h1, (h2.same hs).low (by omega)⟩
  have hXA : ¬ (w0.heap.size ≤ w.heap.size) := by omega
  have hXR : ¬ (w0.heap.size ≤ w.heap.size + 1) := by omega
  have hb3 := ((hbB.trans (hb2.mono (by omega))).setCell (p := ⟨w.heap.size, 0, none⟩) (Nat.le_refl _) (.slice q l.length l.length))
  have hlist3 : CtxsP (fun b => w0.heap.size ≤ b) q l.length l _ := hlist.same (((SameB.refl _ _).set (B := w.heap.size) hXA 0 (.slice q l.length l.length)))
  have hfr3 : ∀ w', SameB (fun b => w0.heap.size ≤ b) (w2.setCell ⟨w.heap.size, 0, none⟩ (.slice q l.length l.length)) w' → ∃ gs, gs.map CEl.x = l ∧ RowC w.heap.size q gs w' := fun w' hs => hfr w' (((SameB.refl (fun b => w0.heap.size ≤ b) w2).set (B := w.heap.size) hXA 0 (.slice q l.length l.length)).trans hs)
  clear hfr hfree
  generalize (w2.setCell ⟨w.heap.size, 0, none⟩ (.slice q l.length l.length)) = w3 at zA3 zB3 hb3 hlist3 hfr3 ⊢
  clear a0 af zA2 zB2 hzA hzB hb2 hcl hlist c0 hbB
  have a0 : w3.cell? ⟨w.heap.size, 0, none⟩ = some (.slice q l.length l.length) := by rw [Lib.cell_of_heap zA3]; rfl
  have r0 : w3.cell? ⟨w.heap.size + 1, 0, none⟩ = some (.slice none 0 0) := by rw [Lib.cell_of_heap zB3]; rfl
  have rf : ∀ i, w3.frozen? ⟨w.heap.size + 1, i, none⟩ = false := Lib.frozen_of_heap zB3
  have zB4 : (w3.setCell ⟨w.heap.size + 1, 0, none⟩ (.slice q l.length l.length)).heap[w.heap.size + 1]? = some (.cells #[.slice q l.length l.length] 25 (0, 0)) := box_put zB3 _
  have hb4 := hb3.setCell (p := ⟨w.heap.size + 1, 0, none⟩) (Nat.le_succ _) (.slice q l.length l.length)
  have hlist4 : CtxsP (fun b => w0.heap.size ≤ b) q l.length l _ := hlist3.same ((SameB.refl _ _).set (B := w.heap.size + 1) hXR 0 (.slice q l.length l.length))
  have hfr4 := hfr3 _ ((SameB.refl (fun b => w0.heap.size ≤ b) w3).set (B := w.heap.size + 1) hXR 0 (.slice q l.length l.length))
  go_wp2
  generalize World.setCell _ _ _ = w4 at zB4 hb4 hlist4 hfr4 ⊢
  have s0 : w4.cell? ⟨w.heap.size + 1, 0, none⟩ = some (.slice q l.length l.length) := by rw [Lib.cell_of_heap zB4]; rfl
  refine bodyPost_ret (v := .agg #[.slice q l.length l.length]) (by simp [results, Tryz.results35, go_sem, s0]) rfl ⟨⟨q, rfl, hlist4.mono (fun b _ hb => by omega), hfr4⟩, hb4⟩
end Go.Proofs.YtcbnefeedoabeaaGreatDoor
