/- What bytes are as a subject: as the package reads them (other = false) and as the document's answer does (other = true). Plain definitions and laws. The package's reading of a subject: lists of what is read, values, attributes, contexts. The package's reading of a text, a value, an attribute, a context. The package's reading of an attribute, a context, a subject. -/
import Derived.Test.YtcbnefeedoabeaaGreatDoorPa
import Derived.Test.YtcbnefeedoabeaaGreatDoorPq
import Derived.Test.YtcbnefeedoabeaaGreatDoorPl
import Derived.Test.YtcbnefeedoabeaaGreatDoorPi
import Derived.Test.YtcbnefeedoabeaaGreatDoorPe
/- What bytes are as a subject: as the package reads them (other = false) and as the document's answer does (other = true). Plain definitions and laws. -/
namespace Go.Proofs.YtcbnefeedoabeaaGreatDoor
open Go Go.RowKit

/-- n things, one behind the other. -/
def eachR {α : Type} (f : List UInt8 → Int → α × List UInt8 × Int) : Nat → List UInt8 → Int → List α × List UInt8 × Int
  | 0, l, e => ([], l, e)
  | n + 1, l, e => ((f l e).1 :: (eachR f n (f l e).2.1 (f l e).2.2).1, (eachR f n (f l e).2.1 (f l e).2.2).2)
/-- A number of things, at most so many, and each one. -/
def listR {α : Type} (most : Int) (f : List UInt8 → Int → α × List UInt8 × Int) (l : List UInt8) (e : Int) : List α × List UInt8 × Int :=
  eachR f (Wi.atR most 5 l e).1 (Wi.atR most 5 l e).2.1 (Wi.atR most 5 l e).2.2
def strR (l : List UInt8) (e : Int) : ByteArray × List UInt8 × Int := Wi.textR 200 l e
/-- What follows a value's kind. -/
def bodyR (other : Bool) (k : Int) (l : List UInt8) (e : Int) : Val × List UInt8 × Int :=
  if k = 1 ∨ k = 2 then (⟨k, (Wi.numR l e).1, ⟨#[]⟩, []⟩, (Wi.numR l e).2)
  else if k = 5 then (⟨k, 0, ⟨#[]⟩, (listR 20 strR l e).1⟩, (listR 20 strR l e).2)
  else if (k = 3 ∨ k = 4) ∨ other = true then (⟨k, 0, (strR l e).1, []⟩, (strR l e).2)
  else (⟨k, 0, ⟨#[]⟩, []⟩, l, e)
def valR (other : Bool) (l : List UInt8) (e : Int) : Val × List UInt8 × Int := bodyR other (Wi.numR l e).1 (Wi.numR l e).2.1 (Wi.numR l e).2.2
def attrR (other : Bool) (l : List UInt8) (e : Int) : Attr × List UInt8 × Int :=
  (⟨(Wi.textR 32 l e).1, (valR other (Wi.textR 32 l e).2.1 (Wi.textR 32 l e).2.2).1⟩, (valR other (Wi.textR 32 l e).2.1 (Wi.textR 32 l e).2.2).2)
def restR (other : Bool) (kd : ByteArray) (l : List UInt8) (e : Int) : Ctx × List UInt8 × Int :=
  (⟨kd, (strR l e).1, (listR 20 (attrR other) (strR l e).2.1 (strR l e).2.2).1⟩, (listR 20 (attrR other) (strR l e).2.1 (strR l e).2.2).2)
def ctxR (other : Bool) (l : List UInt8) (e : Int) : Ctx × List UInt8 × Int := restR other (Wi.textR 32 l e).1 (Wi.textR 32 l e).2.1 (Wi.textR 32 l e).2.2
def subjR (other : Bool) (b : List UInt8) : List Ctx × List UInt8 × Int := listR 4 (ctxR other) b 0
/-- The subject that the bytes are, and the error. -/
def decR (other : Bool) (b : List UInt8) : List Ctx × Int :=
  if Wi.endR (subjR other b).2.1 (subjR other b).2.2 = 0 ∧ subjE (subjR other b).1 = 0 then ((subjR other b).1, 0) else ([], 1)

theorem eachR_succ {α : Type} (f : List UInt8 → Int → α × List UInt8 × Int) (n : Nat) (l : List UInt8) (e : Int) : eachR f (n + 1) l e = ((f l e).1 :: (eachR f n (f l e).2.1 (f l e).2.2).1, (eachR f n (f l e).2.1 (f l e).2.2).2) := rfl
theorem eachR_len {α : Type} (f : List UInt8 → Int → α × List UInt8 × Int) : ∀ n l e, (eachR f n l e).1.length = n
  | 0, _, _ => rfl
  | n + 1, l, e => by rw [eachR_succ, List.length_cons, eachR_len f n]
theorem eachR_all {α : Type} {f : List UInt8 → Int → α × List UInt8 × Int} {P : α → Prop} (h : ∀ l e, P (f l e).1) : ∀ n l e, ∀ x ∈ (eachR f n l e).1, P x
  | 0, _, _, x, hx => by simp [eachR] at hx
  | n + 1, l, e, x, hx => by
    rw [eachR_succ] at hx
    rcases List.mem_cons.1 hx with rfl | hx
    · exact h l e
    · exact eachR_all h n _ _ x hx
theorem eachR_or {α : Type} {f g : List UInt8 → Int → α × List UInt8 × Int} {B : α → Prop} (h : ∀ l e, f l e = g l e ∨ (B (f l e).1 ∧ B (g l e).1)) : ∀ n l e, eachR f n l e = eachR g n l e ∨ ((∃ x ∈ (eachR f n l e).1, B x) ∧ ∃ x ∈ (eachR g n l e).1, B x)
  | 0, _, _ => .inl rfl
  | n + 1, l, e => by
    rw [eachR_succ, eachR_succ]
    rcases h l e with h1 | ⟨h1, h2⟩
    · rw [h1]
      rcases eachR_or h n (g l e).2.1 (g l e).2.2 with h2 | ⟨⟨x, hx, bx⟩, y, hy, dy⟩
      · rw [h2]
        exact .inl rfl
      · exact .inr ⟨⟨x, List.mem_cons_of_mem _ hx, bx⟩, y, List.mem_cons_of_mem _ hy, dy⟩
    · exact .inr ⟨⟨_, List.mem_cons_self .., h1⟩, _, List.mem_cons_self .., h2⟩
theorem bodyR_num {other : Bool} {k : Int} {l : List UInt8} {e : Int} (h : k = 1 ∨ k = 2) : bodyR other k l e = (⟨k, (Wi.numR l e).1, ⟨#[]⟩, []⟩, (Wi.numR l e).2) := if_pos h
theorem bodyR_list {other : Bool} {k : Int} {l : List UInt8} {e : Int} (h : k = 5) : bodyR other k l e = (⟨k, 0, ⟨#[]⟩, (listR 20 strR l e).1⟩, (listR 20 strR l e).2) := by
  unfold bodyR
  rw [if_neg (by omega), if_pos h]
theorem bodyR_text {other : Bool} {k : Int} {l : List UInt8} {e : Int} (h1 : ¬ (k = 1 ∨ k = 2)) (h5 : ¬ k = 5) (h : (k = 3 ∨ k = 4) ∨ other = true) : bodyR other k l e = (⟨k, 0, (strR l e).1, []⟩, (strR l e).2) := by
  unfold bodyR
  rw [if_neg h1, if_neg h5, if_pos h]
theorem bodyR_none {k : Int} {l : List UInt8} {e : Int} (h1 : ¬ (k = 1 ∨ k = 2)) (h5 : ¬ k = 5) (h : ¬ (k = 3 ∨ k = 4)) : bodyR false k l e = (⟨k, 0, ⟨#[]⟩, []⟩, l, e) := by
  unfold bodyR
  rw [if_neg h1, if_neg h5, if_neg (by simp [h])]
theorem checkE_kind {x : Val} (h : x.kind < 1 ∨ 5 < x.kind) : checkE x ≠ 0 := by
  unfold checkE
  rw [if_pos h]
  decide
theorem bodyR_or (k : Int) (l : List UInt8) (e : Int) : bodyR false k l e = bodyR true k l e ∨ (checkE (bodyR false k l e).1 ≠ 0 ∧ checkE (bodyR true k l e).1 ≠ 0) := by
  by_cases h1 : k = 1 ∨ k = 2
  · left
    rw [bodyR_num h1, bodyR_num h1]
  · by_cases h5 : k = 5
    · left
      rw [bodyR_list h5, bodyR_list h5]
    · by_cases h3 : k = 3 ∨ k = 4
      · left
        rw [bodyR_text h1 h5 (.inl h3), bodyR_text h1 h5 (.inl h3)]
      · right
        have hk : k < 1 ∨ 5 < k := by omega
        rw [bodyR_none h1 h5 h3, bodyR_text h1 h5 (.inr rfl)]
        exact ⟨checkE_kind hk, checkE_kind hk⟩
theorem attrsGo_bad : ∀ (l : List Attr) (b : ByteArray), (∃ a ∈ l, checkE a.val ≠ 0) → attrsGo b l ≠ 0
  | [], _, ⟨a, ha, _⟩ => by simp at ha
  | a :: t, b, ⟨x, hx, hb⟩ => by
    unfold attrsGo
    split
    · split
      · decide
      · split
        · rename_i h0
          rcases List.mem_cons.1 hx with rfl | hx
          · exact absurd h0 hb
          · exact attrsGo_bad t _ ⟨x, hx, hb⟩
        · rename_i h0
          exact h0
    · decide
theorem subjGo_bad : ∀ (l : List Ctx) (b : ByteArray), (∃ x ∈ l, ∃ a ∈ x.attrs, checkE a.val ≠ 0) → subjGo b l ≠ 0
  | [], _, ⟨a, ha, _⟩ => by simp at ha
  | c :: t, b, ⟨x, hx, a, ha, hb⟩ => by
    unfold subjGo
    split
    · rename_i h0
      rcases List.mem_cons.1 hx with rfl | hx
      · unfold ctxE at h0
        split at h0
        · split at h0
          · exact absurd h0 (by decide)
          · split at h0
            · exact absurd h0 (by decide)
            · unfold attrsE at h0
              split at h0
              · exact absurd h0 (by decide)
              · exact absurd h0 (attrsGo_bad _ _ ⟨a, ha, hb⟩)
        · exact absurd h0 (by decide)
      · exact subjGo_bad t _ ⟨x, hx, a, ha, hb⟩
    · rename_i h0
      exact h0
theorem subjE_bad (l : List Ctx) (h : ∃ x ∈ l, ∃ a ∈ x.attrs, checkE a.val ≠ 0) : subjE l ≠ 0 := by
  unfold subjE
  split
  · decide
  · exact subjGo_bad l _ h
theorem attrR_or (l : List UInt8) (e : Int) : attrR false l e = attrR true l e ∨ (checkE (attrR false l e).1.val ≠ 0 ∧ checkE (attrR true l e).1.val ≠ 0) := by
  rcases bodyR_or (Wi.numR (Wi.textR 32 l e).2.1 (Wi.textR 32 l e).2.2).1 (Wi.numR (Wi.textR 32 l e).2.1 (Wi.textR 32 l e).2.2).2.1 (Wi.numR (Wi.textR 32 l e).2.1 (Wi.textR 32 l e).2.2).2.2 with h | h
  · left
    unfold attrR valR
    rw [h]
  · exact .inr h
theorem ctxR_or (l : List UInt8) (e : Int) : ctxR false l e = ctxR true l e ∨ ((∃ a ∈ (ctxR false l e).1.attrs, checkE a.val ≠ 0) ∧ ∃ a ∈ (ctxR true l e).1.attrs, checkE a.val ≠ 0) := by
  unfold ctxR restR listR
  rcases eachR_or (B := fun a : Attr => checkE a.val ≠ 0) attrR_or (Wi.atR 20 5 (strR (Wi.textR 32 l e).2.1 (Wi.textR 32 l e).2.2).2.1 (strR (Wi.textR 32 l e).2.1 (Wi.textR 32 l e).2.2).2.2).1 (Wi.atR 20 5 (strR (Wi.textR 32 l e).2.1 (Wi.textR 32 l e).2.2).2.1 (strR (Wi.textR 32 l e).2.1 (Wi.textR 32 l e).2.2).2.2).2.1 (Wi.atR 20 5 (strR (Wi.textR 32 l e).2.1 (Wi.textR 32 l e).2.2).2.1 (strR (Wi.textR 32 l e).2.1 (Wi.textR 32 l e).2.2).2.2).2.2 with h | h
  · left
    rw [h]
  · exact .inr h
/-- Both read the same subject, or both refuse. -/
theorem dec_same (b : List UInt8) : decR false b = decR true b := by
  unfold decR
  rcases eachR_or (B := fun x : Ctx => ∃ a ∈ x.attrs, checkE a.val ≠ 0) ctxR_or (Wi.atR 4 5 b 0).1 (Wi.atR 4 5 b 0).2.1 (Wi.atR 4 5 b 0).2.2 with h | ⟨h1, h2⟩
  · rw [show subjR false b = subjR true b from h]
  · rw [if_neg fun h => subjE_bad _ h1 h.2, if_neg fun h => subjE_bad _ h2 h.2]
theorem atR_le (most x : Int) (l : List UInt8) (e : Int) (h0 : 0 ≤ most) : ((Wi.atR most x l e).1 : Int) ≤ most := by
  unfold Wi.atR
  split
  · split
    · simpa using h0
    · split
      · simpa using h0
      · rename_i h1 h2
        show ((Wi.numR l e).1.toNat : Int) ≤ most
        omega
  · simpa using h0
theorem takeR_le (n : Nat) (l : List UInt8) (e : Int) : (Wi.takeR n l e).1.length ≤ n := by
  unfold Wi.takeR
  split
  · split
    · simp only [List.length_take]
      omega
    · exact Nat.zero_le _
  · exact Nat.zero_le _
theorem textR_le (most : Int) (l : List UInt8) (e : Int) (h0 : 0 ≤ most) : ((Wi.textR most l e).1.size : Int) ≤ most := by
  have h1 := atR_le most 4 l e h0
  have h2 := takeR_le (Wi.atR most 4 l e).1 (Wi.atR most 4 l e).2.1 (Wi.atR most 4 l e).2.2
  have h3 : (Wi.textR most l e).1.size = (Wi.takeR (Wi.atR most 4 l e).1 (Wi.atR most 4 l e).2.1 (Wi.atR most 4 l e).2.2).1.length := by
    unfold Wi.textR
    show (Array.size _) = _
    simp
  omega
/-- What is read is small. -/
structure TinyA (a : Attr) : Prop where
  name : a.name.size ≤ 32
  kind : -9223372036854775808 ≤ a.val.kind ∧ a.val.kind ≤ 9223372036854775807
  num : -9223372036854775808 ≤ a.val.num ∧ a.val.num ≤ 9223372036854775807
  text : a.val.text.size ≤ 200
  list : a.val.list.length ≤ 20
  each : ∀ s ∈ a.val.list, s.size ≤ 200
structure TinyC (x : Ctx) : Prop where
  kind : x.kind.size ≤ 32
  key : x.key.size ≤ 200
  attrs : x.attrs.length ≤ 20
  each : ∀ a ∈ x.attrs, TinyA a
theorem strR_le (l : List UInt8) (e : Int) : (strR l e).1.size ≤ 200 := by
  have := textR_le 200 l e (by decide)
  show (Wi.textR 200 l e).1.size ≤ 200
  omega
theorem listR_len {α : Type} (most : Nat) (f : List UInt8 → Int → α × List UInt8 × Int) (l : List UInt8) (e : Int) : (listR most f l e).1.length ≤ most := by
  have := atR_le most 5 l e (by omega)
  unfold listR
  rw [eachR_len]
  omega
theorem bodyR_tiny (other : Bool) (n : ByteArray) (hn : n.size ≤ 32) (k : Int) (hk : -9223372036854775808 ≤ k ∧ k ≤ 9223372036854775807) (l : List UInt8) (e : Int) : TinyA ⟨n, (bodyR other k l e).1⟩ := by
  have hz : (⟨#[]⟩ : ByteArray).size ≤ 200 := by decide
  have h0 : (-9223372036854775808 : Int) ≤ 0 ∧ (0 : Int) ≤ 9223372036854775807 := by decide
  unfold bodyR
  split
  · exact ⟨hn, hk, Wi.numR_range _ _, hz, Nat.zero_le _, fun s hs => by simp at hs⟩
  · split
    · exact ⟨hn, hk, h0, hz, listR_len 20 strR _ _, fun s hs => eachR_all (P := fun s : ByteArray => s.size ≤ 200) strR_le _ _ _ s hs⟩
    · split
      · exact ⟨hn, hk, h0, strR_le _ _, Nat.zero_le _, fun s hs => by simp at hs⟩
      · exact ⟨hn, hk, h0, hz, Nat.zero_le _, fun s hs => by simp at hs⟩
theorem attrR_tiny (other : Bool) (l : List UInt8) (e : Int) : TinyA (attrR other l e).1 := by
  have hn := textR_le 32 l e (by decide)
  exact bodyR_tiny other _ (by omega) _ (Wi.numR_range _ _) _ _
theorem ctxR_tiny (other : Bool) (l : List UInt8) (e : Int) : TinyC (ctxR other l e).1 := by
  have hn := textR_le 32 l e (by decide)
  unfold ctxR restR
  exact ⟨by show (Wi.textR 32 l e).1.size ≤ 32; omega, strR_le _ _, listR_len 20 _ _ _, fun a ha => eachR_all (attrR_tiny other) _ _ _ a ha⟩
theorem subjR_tiny (other : Bool) (b : List UInt8) : (subjR other b).1.length ≤ 4 ∧ ∀ x ∈ (subjR other b).1, TinyC x :=
  ⟨listR_len 4 _ _ _, fun x hx => eachR_all (ctxR_tiny other) _ _ _ x hx⟩
theorem TinyA.fit {a : Attr} (h : TinyA a) : FitA a := ⟨by have := h.name; omega, by have := h.text; omega, by have := h.list; omega, fun s hs => by have := h.each s hs; omega⟩
theorem TinyC.fit {x : Ctx} (h : TinyC x) : FitC x := ⟨by have := h.kind; omega, by have := h.key; omega, by have := h.attrs; omega, fun a ha => (h.each a ha).fit⟩
end Go.Proofs.YtcbnefeedoabeaaGreatDoor
/- The package's reading of a subject: lists of what is read, values, attributes, contexts. -/
namespace Go.Proofs.YtcbnefeedoabeaaGreatDoor
open Go Go.RowKit

theorem rd_below {l : List UInt8} {e : Int} {lo R B : Nat} {w w' : World} (h : Wi.Rd l e lo R w) (hb : Below B w w') (hR : R < B) : Wi.Rd l e lo R w' := by
  obtain ⟨a, c, l', h, hl⟩ := h
  refine ⟨a, c, l', ⟨(hb.block R hR).trans h.here, h.nil, h.le, h.fit, h.small, h.shape, ⟨Nat.le_trans h.bytes.top hb.size, fun i hi => ?_⟩, h.err⟩, hl⟩
  obtain ⟨b, off, h1, h2, h3, h4⟩ := h.bytes.at_ i hi
  exact ⟨b, off, h1, h2, h3, (World.cell?_of_block (w := w) (hb.block b (by omega))).trans h4⟩
theorem Kept.trans_below {C B : Nat} {w w1 w2 : World} (h : Kept C w w1) (hb : Below B w1 w2) (hB : w.heap.size ≤ B) : Kept C w w2 := h.then_low hb hB
/-- What a reading call leaves: the element's cells hold what was read. -/
def DoneE {α β : Type} (E : Elt α) (pr : α → β) (val : α → Value) (r : β × List UInt8 × Int) (lo R : Nat) (w : World) (en : Ending) (w' : World) : Prop :=
  ∃ x : α, en = .returned (val x) ∧ pr x = r.1 ∧ E.ok (fun b => w.heap.size ≤ b) x w' ∧ Kept R w w' ∧ Wi.Rd r.2.1 r.2.2 lo R w'
/-- What the loop of a list that is read holds. -/
structure Reading {α β : Type} (E : Elt α) (pr : α → β) (f : List UInt8 → Int → β × List UInt8 × Int) (n : Nat) (l1 : List UInt8) (e1 : Int) (H lo R : Nat) (w : World) (i : Nat) (es : List α) (v : Value) (wr : World) : Prop where
  row : GRow E (fun b => H ≤ b) es H v wr
  len : es.length = i
  kept : Kept R w wr
  rest : ∃ li ei, Wi.Rd li ei lo R wr ∧ eachR f n l1 e1 = (es.map pr ++ (eachR f (n - i) li ei).1, (eachR f (n - i) li ei).2)
theorem Reading.start {α β : Type} (E : Elt α) (pr : α → β) (f : List UInt8 → Int → β × List UInt8 × Int) (n : Nat) {l1 : List UInt8} {e1 : Int} (H : Nat) {lo R : Nat} {w wr : World} (hk : Kept R w wr) (hr : Wi.Rd l1 e1 lo R wr) : Reading E pr f n l1 e1 H lo R w 0 [] (.slice none 0 0) wr :=
  ⟨GRow.nil E _ _ _, rfl, hk, l1, e1, hr, rfl⟩
theorem Reading.step {α β : Type} {E : Elt α} {pr : α → β} {f : List UInt8 → Int → β × List UInt8 × Int} {n : Nat} {l1 : List UInt8} {e1 : Int} {H lo R : Nat} {w : World} {i : Nat} {es : List α} {w2 w3 : World} {x : α} {li : List UInt8} {ei : Int}
    (h : eachR f n l1 e1 = (es.map pr ++ (eachR f (n - i) li ei).1, (eachR f (n - i) li ei).2)) (hi : i < n) (hlen : es.length = i) (hx : pr x = (f li ei).1) (hrd : Wi.Rd (f li ei).2.1 (f li ei).2.2 lo R w2) (hk : Kept R w w2) (hb : Below H w2 w3) (hR : R < H) (hH : w.heap.size ≤ H) (v' : Value) (hrow : GRow E (fun b => H ≤ b) (es ++ [x]) H v' w3) :
    Reading E pr f n l1 e1 H lo R w (i + 1) (es ++ [x]) v' w3 := by
  refine ⟨hrow, by simp [hlen], hk.then_low hb hH, (f li ei).2.1, (f li ei).2.2, rd_below hrd hb hR, ?_⟩
  rw [h, show n - i = (n - (i + 1)) + 1 by omega, eachR_succ, List.map_append, List.map_singleton, hx, List.append_assoc]
  rfl
theorem Reading.done {α β : Type} {E : Elt α} {pr : α → β} {f : List UInt8 → Int → β × List UInt8 × Int} {n : Nat} {l1 : List UInt8} {e1 : Int} {H lo R : Nat} {w : World} {es : List α} {v : Value} {wr : World} (h : Reading E pr f n l1 e1 H lo R w n es v wr) :
    es.map pr = (eachR f n l1 e1).1 ∧ Wi.Rd (eachR f n l1 e1).2.1 (eachR f n l1 e1).2.2 lo R wr := by
  obtain ⟨li, ei, hr, he⟩ := h.rest
  rw [Nat.sub_self] at he
  rw [he]
  exact ⟨by simp [eachR], hr⟩
theorem clipC_any (q : Option Addr) (n cap : Nat) (w : World) (hq : q = none → n = 0 ∧ cap = 0) (hn : n ≤ cap) (hc : cap ≤ 9223372036854775807) :
    Calls Tryz.prog 98 #[.slice q (n : Nat) cap] w fun e w' => e = .returned (.slice q n n) ∧ Below w.heap.size w w' := by
  have h0 : (0 : Int) ≤ (n : Int) := by omega
  have h1 : (n : Int) ≤ (cap : Int) := by omega
  cases q with
  | none =>
    obtain ⟨rfl, rfl⟩ := hq rfl
    go_enter Tryz.func98, Tryz.ntmps98
    go_wp2
    go_ret
    exact ⟨rfl, Below.refl _ _⟩
  | some ad =>
    go_enter Tryz.func98, Tryz.ntmps98
    go_wp2
    go_ret
    exact ⟨rfl, Below.refl _ _⟩
theorem GRow.attrsAt {P : Nat → Prop} {es : List AEl} {B n cap : Nat} {q : Option Addr} {w : World} (h : GRow eltA P es B (.slice q n cap) w) : AttrsP (fun b => P b ∨ B ≤ b) q es.length (es.map AEl.a) w := by
  obtain ⟨a0, c0, hv, hat⟩ := h.attrs
  injection hv with e1 e2 e3
  subst e1
  have hlt := h.lt
  refine ⟨fun hq => ?_, by simp, fun i hi => ?_⟩
  · cases es with
    | nil => rfl
    | cons e t =>
      obtain ⟨b, off, e1, _⟩ := hat.at_ 0 (by simp)
      rw [hq] at e1
      cases e1
  · exact (hat.mono (Q := fun b => P b ∨ B ≤ b) fun b _ hb => hb.imp id fun e => (hlt b e).1).at_ i hi
theorem GRow.ctxsAt {P : Nat → Prop} {es : List CEl} {B n cap : Nat} {q : Option Addr} {w : World} (h : GRow eltC P es B (.slice q n cap) w) : CtxsP (fun b => P b ∨ B ≤ b) q es.length (es.map CEl.x) w := by
  obtain ⟨a0, c0, hv, hat⟩ := h.ctxs
  injection hv with e1 e2 e3
  subst e1
  have hlt := h.lt
  refine ⟨fun hq => ?_, by simp, fun i hi => ?_⟩
  · cases es with
    | nil => rfl
    | cons e t =>
      obtain ⟨b, off, e1, _⟩ := hat.at_ 0 (by simp)
      rw [hq] at e1
      cases e1
  · exact (hat.mono (Q := fun b => P b ∨ B ≤ b) fun b _ hb => hb.imp id fun e => (hlt b e).1).at_ i hi
/-- An attribute, a context, as a call returns it. -/
def AEl.agg (x : AEl) : Value := .agg #[.string x.a.name, .int .i64 x.a.val.kind, .int .i64 x.a.val.num, .string x.a.val.text, .slice x.p (x.a.val.list.length : Nat) x.c]
def CEl.agg (x : CEl) : Value := .agg #[.string x.x.kind, .string x.x.key, .slice x.p (x.x.attrs.length : Nat) x.c]
set_option linter.unusedSimpArgs false in
set_option linter.unusedVariables false in
set_option maxHeartbeats 8000000 in
set_option maxRecDepth 100000 in
theorem readTexts_any {f : List UInt8 → Int → ByteArray × List UInt8 × Int} (most : Nat) (hm : most ≤ 100) {l : List UInt8} {e : Int} {lo R : Nat} {w : World} (h : Wi.Rd l e lo R w)
    (hF : ∀ (l : List UInt8) (e : Int) (w : World), Wi.Rd l e lo R w → Calls Tryz.prog 160 #[.pointer (some ⟨R, 0, none⟩)] w (DoneE eltS id Value.string (f l e) lo R w)) :
    Calls Tryz.prog 161 #[.pointer (some ⟨R, 0, none⟩), .int .i64 (most : Nat), .func (.func 160) #[] #[]] w fun en w' =>
      (∃ q : Option Addr, en = .returned (.slice q ((listR most f l e).1.length : Nat) (listR most f l e).1.length) ∧ ListP (fun b => w.heap.size ≤ b) q (listR most f l e).1.length (listR most f l e).1 w') ∧ Kept R w w' ∧ Wi.Rd (listR most f l e).2.1 (listR most f l e).2.2 lo R w' := by
  have hR := h.lt
  have hA := Lib.hid (Wi.count_any (most : Int) h)
  have hle := atR_le (most : Int) 5 l e (by omega)
  unfold listR
  generalize (Wi.atR (most : Int) 5 l e).2.1 = l1 at hA ⊢
  generalize (Wi.atR (most : Int) 5 l e).2.2 = e1 at hA ⊢
  generalize (Wi.atR (most : Int) 5 l e).1 = n at hA hle ⊢
  have hn : n ≤ 100 := by omega
  clear h hle hm
  replace hF := Lib.hid hF
  go_enter Tryz.func161, Tryz.ntmps161
  go_wp2_with (go_at_call 97; refine hA.out.mono ?_; rintro en w1 ⟨rfl, hk1, hrd1⟩)
  have hst := Reading.start eltS id f n w.heap.size hk1 hrd1
  clear hA
  go_loopw [7, 11] (fun v i wr => ∃ m : Nat, m ≤ n ∧ i = .int .i64 m ∧ ∃ es, Reading eltS id f n l1 e1 w.heap.size lo R w m es v wr) (fun _ i _ => n - (intOf i).toNat)
  case atStart => exact ⟨0, Nat.zero_le _, rfl, _, hst⟩
  case round =>
    obtain ⟨m, hm, rfl, es, hC⟩ := hrel
    clear hst hrd1 hk1
    by_cases hlt : m < n
    · have hmI : (m : Int) < (n : Int) := by omega
      obtain ⟨li, ei, hrd, heq⟩ := hC.rest
      have hcl := Lib.hid (hF.out li ei wr hrd)
      replace heq := Lib.hid heq
      have hlen := hC.len
      have hlen2 : es.length + 1 ≤ 1000 := by omega
      have hkept := hC.kept
      have hHr := hC.kept.size
      have hown := hC.row.lt
      have hrow := Lib.hid hC.row
      clear hrd hC
      replace hlen := Lib.hid hlen
      go_wp2_with (first
        | (go_at_call 160; refine hcl.out.mono ?_; rintro en w2 ⟨x, rfl, hx, hok2, hk2, hrd2⟩; have hs2 := hk2.size; have hal := fun o => (Below.refl w2.heap.size w2).alloc (Nat.le_refl _) o; have hrow2 := hrow.out.kept hk2 hR (fun b hb => by omega))
        | (at_builtin; refine wpList_grow eltS rfl _ _ rfl (hrow2.below (hal _)) rfl [x] ⟨w2.heap.size, 0, none⟩ 1 1 rfl rfl (news_one eltS x w2) (fun e he => by obtain rfl := List.mem_singleton.1 he; exact eltS.same (eltS.mono hok2 fun b _ hb => ⟨Nat.le_trans hHr hb, fun e => by have := (hown b e).2; omega⟩) (SameB.of_below (hal _))) (by decide) hlen2 (Nat.le_trans (Nat.le_trans hHr hs2) (hal _).size) ?_; intro g5 c5 w5 hrow5 hgr5 hlies5 hb5))
      have hb25 : Below w.heap.size w2 w5 := ((hal (.cells #[.string x] 9)).mono (Nat.le_trans hHr hs2)).trans hb5
      have hst := Reading.step heq.out hlt hlen.out hx hrd2 (hkept.trans hk2) hb25 hR (Nat.le_refl _) _ hrow5
      clear hrow5 hgr5 hlies5 hb5 hrow2 hal hok2 hcl hrow hlen2
      replace hst := Lib.hid hst
      go_wp2
      go_roundw
      case rel => exact ⟨m + 1, by omega, by go_num, _, by have h9 := hst.out; simpa using h9⟩
      case measure => simp [intOf]; omega
    · obtain rfl : m = n := by omega
      have hltI : ¬ (m : Int) < (m : Int) := by omega
      obtain ⟨hmap, hrd⟩ := hC.done
      have hlen := hC.len
      have hrow := hC.row
      have hkept := hC.kept
      obtain ⟨q, cap, rfl, -, -, -, -⟩ := hrow.form
      have hnc := hrow.nilcap
      rw [hlen] at hnc hrow ⊢
      have hcp := Lib.hid (clipS_any q m cap wr hnc.2.1 hnc.2.2.1 hnc.2.2.2)
      replace hlen := Lib.hid hlen
      clear hC hnc
      replace hrow := Lib.hid hrow
      go_wp2_with (go_at_call 88; refine hcp.out.mono ?_; rintro en w2 ⟨rfl, hb2⟩)
      go_ret
      rw [← hmap]
      refine ⟨⟨q, by show Ending.returned (Value.slice q m m) = _; rw [List.length_map, hlen.out], ?_⟩, hkept.trans (Kept.of_below hb2), rd_below hrd hb2 (Nat.lt_of_lt_of_le hR hkept.size)⟩
      have h9 := GRow.list (hrow.out.below hb2)
      rw [List.map_id]
      exact h9
set_option linter.unusedSimpArgs false in
set_option linter.unusedVariables false in
set_option maxHeartbeats 8000000 in
set_option maxRecDepth 100000 in
theorem readAttrs_any {f : List UInt8 → Int → Attr × List UInt8 × Int} (most : Nat) (hm : most ≤ 100) {l : List UInt8} {e : Int} {lo R : Nat} {w : World} (h : Wi.Rd l e lo R w)
    (hF : ∀ (l : List UInt8) (e : Int) (w : World), Wi.Rd l e lo R w → Calls Tryz.prog 101 #[.pointer (some ⟨R, 0, none⟩)] w (DoneE eltA AEl.a AEl.agg (f l e) lo R w)) :
    Calls Tryz.prog 100 #[.pointer (some ⟨R, 0, none⟩), .int .i64 (most : Nat), .func (.func 101) #[] #[]] w fun en w' =>
      (∃ q : Option Addr, en = .returned (.slice q ((listR most f l e).1.length : Nat) (listR most f l e).1.length) ∧ AttrsP (fun b => w.heap.size ≤ b) q (listR most f l e).1.length (listR most f l e).1 w') ∧ Kept R w w' ∧ Wi.Rd (listR most f l e).2.1 (listR most f l e).2.2 lo R w' := by
  have hR := h.lt
  have hA := Lib.hid (Wi.count_any (most : Int) h)
  have hle := atR_le (most : Int) 5 l e (by omega)
  unfold listR
  generalize (Wi.atR (most : Int) 5 l e).2.1 = l1 at hA ⊢
  generalize (Wi.atR (most : Int) 5 l e).2.2 = e1 at hA ⊢
  generalize (Wi.atR (most : Int) 5 l e).1 = n at hA hle ⊢
  have hn : n ≤ 100 := by omega
  clear h hle hm
  replace hF := Lib.hid hF
  go_enter Tryz.func100, Tryz.ntmps100
  go_wp2_with (go_at_call 97; refine hA.out.mono ?_; rintro en w1 ⟨rfl, hk1, hrd1⟩)
  have hst := Reading.start eltA AEl.a f n w.heap.size hk1 hrd1
  clear hA
  go_loopw [7, 11] (fun v i wr => ∃ m : Nat, m ≤ n ∧ i = .int .i64 m ∧ ∃ es, Reading eltA AEl.a f n l1 e1 w.heap.size lo R w m es v wr) (fun _ i _ => n - (intOf i).toNat)
  case atStart => exact ⟨0, Nat.zero_le _, rfl, _, hst⟩
  case round =>
    obtain ⟨m, hm, rfl, es, hC⟩ := hrel
    clear hst hrd1 hk1
    by_cases hlt : m < n
    · have hmI : (m : Int) < (n : Int) := by omega
      obtain ⟨li, ei, hrd, heq⟩ := hC.rest
      have hcl := Lib.hid (hF.out li ei wr hrd)
      replace heq := Lib.hid heq
      have hlen := hC.len
      have hlen2 : es.length + 1 ≤ 1000 := by omega
      have hkept := hC.kept
      have hHr := hC.kept.size
      have hown := hC.row.lt
      have hrow := Lib.hid hC.row
      clear hrd hC
      replace hlen := Lib.hid hlen
      go_wp2_with (first
        | (go_at_call 101; refine hcl.out.mono ?_; rintro en w2 ⟨⟨⟨xn, ⟨xk, xm, xt, xl⟩⟩, xp, xc⟩, rfl, hx, hok2, hk2, hrd2⟩; have hs2 := hk2.size; have hal := fun o => (Below.refl w2.heap.size w2).alloc (Nat.le_refl _) o; have hrow2 := hrow.out.kept hk2 hR (fun b hb => by omega); unfold AEl.agg)
        | (at_builtin; refine wpList_grow eltA rfl _ _ rfl (hrow2.below (hal _)) rfl [⟨⟨xn, ⟨xk, xm, xt, xl⟩⟩, xp, xc⟩] ⟨w2.heap.size, 0, none⟩ 1 1 rfl rfl (news_one eltA ⟨⟨xn, ⟨xk, xm, xt, xl⟩⟩, xp, xc⟩ w2) (fun e he => by obtain rfl := List.mem_singleton.1 he; exact eltA.same (eltA.mono hok2 fun b _ hb => ⟨Nat.le_trans hHr hb, fun e => by have := (hown b e).2; omega⟩) (SameB.of_below (hal _))) (by decide) hlen2 (Nat.le_trans (Nat.le_trans hHr hs2) (hal _).size) ?_; intro g5 c5 w5 hrow5 hgr5 hlies5 hb5))
      have hb25 : Below w.heap.size w2 w5 := ((hal (.cells #[.string xn, .int .i64 xk, .int .i64 xm, .string xt, .slice xp (xl.length : Nat) xc] 72)).mono (Nat.le_trans hHr hs2)).trans hb5
      have hst := Reading.step heq.out hlt hlen.out hx hrd2 (hkept.trans hk2) hb25 hR (Nat.le_refl _) _ hrow5
      clear hrow5 hgr5 hlies5 hb5 hrow2 hal hok2 hcl hrow hlen2
      replace hst := Lib.hid hst
      go_wp2
      go_roundw
      case rel => exact ⟨m + 1, by omega, by go_num, _, by have h9 := hst.out; simpa using h9⟩
      case measure => simp [intOf]; omega
    · obtain rfl : m = n := by omega
      have hltI : ¬ (m : Int) < (m : Int) := by omega
      obtain ⟨hmap, hrd⟩ := hC.done
      have hlen := hC.len
      have hrow := hC.row
      have hkept := hC.kept
      obtain ⟨q, cap, rfl, -, -, -, -⟩ := hrow.form
      have hnc := hrow.nilcap
      rw [hlen] at hnc hrow ⊢
      have hcp := Lib.hid (clipA_any q m cap wr hnc.2.1 hnc.2.2.1 hnc.2.2.2)
      replace hlen := Lib.hid hlen
      clear hC hnc
      replace hrow := Lib.hid hrow
      go_wp2_with (go_at_call 142; refine hcp.out.mono ?_; rintro en w2 ⟨rfl, hb2⟩)
      go_ret
      rw [← hmap]
      refine ⟨⟨q, by show Ending.returned (Value.slice q m m) = _; rw [List.length_map, hlen.out], ?_⟩, hkept.trans (Kept.of_below hb2), rd_below hrd hb2 (Nat.lt_of_lt_of_le hR hkept.size)⟩
      have h9 := (GRow.attrsAt (hrow.out.below hb2)).mono (Q := fun b => w.heap.size ≤ b) (fun b _ hb => hb.elim id id)
      rw [List.length_map]
      exact h9
set_option linter.unusedSimpArgs false in
set_option linter.unusedVariables false in
set_option maxHeartbeats 8000000 in
set_option maxRecDepth 100000 in
theorem readCtxs_any {f : List UInt8 → Int → Ctx × List UInt8 × Int} (most : Nat) (hm : most ≤ 100) {l : List UInt8} {e : Int} {lo R : Nat} {w : World} (h : Wi.Rd l e lo R w)
    (hF : ∀ (l : List UInt8) (e : Int) (w : World), Wi.Rd l e lo R w → Calls Tryz.prog 58 #[.pointer (some ⟨R, 0, none⟩)] w (DoneE eltC CEl.x CEl.agg (f l e) lo R w)) :
    Calls Tryz.prog 57 #[.pointer (some ⟨R, 0, none⟩), .int .i64 (most : Nat), .func (.func 58) #[] #[]] w fun en w' =>
      (∃ q : Option Addr, en = .returned (.slice q ((listR most f l e).1.length : Nat) (listR most f l e).1.length) ∧ CtxsP (fun b => w.heap.size ≤ b) q (listR most f l e).1.length (listR most f l e).1 w') ∧ Kept R w w' ∧ Wi.Rd (listR most f l e).2.1 (listR most f l e).2.2 lo R w' := by
  have hR := h.lt
  have hA := Lib.hid (Wi.count_any (most : Int) h)
  have hle := atR_le (most : Int) 5 l e (by omega)
  unfold listR
  generalize (Wi.atR (most : Int) 5 l e).2.1 = l1 at hA ⊢
  generalize (Wi.atR (most : Int) 5 l e).2.2 = e1 at hA ⊢
  generalize (Wi.atR (most : Int) 5 l e).1 = n at hA hle ⊢
  have hn : n ≤ 100 := by omega
  clear h hle hm
  replace hF := Lib.hid hF
  go_enter Tryz.func57, Tryz.ntmps57
  go_wp2_with (go_at_call 97; refine hA.out.mono ?_; rintro en w1 ⟨rfl, hk1, hrd1⟩)
  have hst := Reading.start eltC CEl.x f n w.heap.size hk1 hrd1
  clear hA
  go_loopw [7, 11] (fun v i wr => ∃ m : Nat, m ≤ n ∧ i = .int .i64 m ∧ ∃ es, Reading eltC CEl.x f n l1 e1 w.heap.size lo R w m es v wr) (fun _ i _ => n - (intOf i).toNat)
  case atStart => exact ⟨0, Nat.zero_le _, rfl, _, hst⟩
  case round =>
    obtain ⟨m, hm, rfl, es, hC⟩ := hrel
    clear hst hrd1 hk1
    by_cases hlt : m < n
    · have hmI : (m : Int) < (n : Int) := by omega
      obtain ⟨li, ei, hrd, heq⟩ := hC.rest
      have hcl := Lib.hid (hF.out li ei wr hrd)
      replace heq := Lib.hid heq
      have hlen := hC.len
      have hlen2 : es.length + 1 ≤ 1000 := by omega
      have hkept := hC.kept
      have hHr := hC.kept.size
      have hown := hC.row.lt
      have hrow := Lib.hid hC.row
      clear hrd hC
      replace hlen := Lib.hid hlen
      go_wp2_with (first
        | (go_at_call 58; refine hcl.out.mono ?_; rintro en w2 ⟨⟨⟨xk, xy, xa⟩, xp, xc⟩, rfl, hx, hok2, hk2, hrd2⟩; have hs2 := hk2.size; have hal := fun o => (Below.refl w2.heap.size w2).alloc (Nat.le_refl _) o; have hrow2 := hrow.out.kept hk2 hR (fun b hb => by omega); unfold CEl.agg)
        | (at_builtin; refine wpList_grow eltC rfl _ _ rfl (hrow2.below (hal _)) rfl [⟨⟨xk, xy, xa⟩, xp, xc⟩] ⟨w2.heap.size, 0, none⟩ 1 1 rfl rfl (news_one eltC ⟨⟨xk, xy, xa⟩, xp, xc⟩ w2) (fun e he => by obtain rfl := List.mem_singleton.1 he; exact eltC.same (eltC.mono hok2 fun b _ hb => ⟨Nat.le_trans hHr hb, fun e => by have := (hown b e).2; omega⟩) (SameB.of_below (hal _))) (by decide) hlen2 (Nat.le_trans (Nat.le_trans hHr hs2) (hal _).size) ?_; intro g5 c5 w5 hrow5 hgr5 hlies5 hb5))
      have hb25 : Below w.heap.size w2 w5 := ((hal (.cells #[.string xk, .string xy, .slice xp (xa.length : Nat) xc] 63)).mono (Nat.le_trans hHr hs2)).trans hb5
      have hst := Reading.step heq.out hlt hlen.out hx hrd2 (hkept.trans hk2) hb25 hR (Nat.le_refl _) _ hrow5
      clear hrow5 hgr5 hlies5 hb5 hrow2 hal hok2 hcl hrow hlen2
      replace hst := Lib.hid hst
      go_wp2
      go_roundw
      case rel => exact ⟨m + 1, by omega, by go_num, _, by have h9 := hst.out; simpa using h9⟩
      case measure => simp [intOf]; omega
    · obtain rfl : m = n := by omega
      have hltI : ¬ (m : Int) < (m : Int) := by omega
      obtain ⟨hmap, hrd⟩ := hC.done
      have hlen := hC.len
      have hrow := hC.row
      have hkept := hC.kept
      obtain ⟨q, cap, rfl, -, -, -, -⟩ := hrow.form
      have hnc := hrow.nilcap
      rw [hlen] at hnc hrow ⊢
      have hcp := Lib.hid (clipC_any q m cap wr hnc.2.1 hnc.2.2.1 hnc.2.2.2)
      replace hlen := Lib.hid hlen
      clear hC hnc
      replace hrow := Lib.hid hrow
      go_wp2_with (go_at_call 98; refine hcp.out.mono ?_; rintro en w2 ⟨rfl, hb2⟩)
      go_ret
      rw [← hmap]
      refine ⟨⟨q, by show Ending.returned (Value.slice q m m) = _; rw [List.length_map, hlen.out], ?_⟩, hkept.trans (Kept.of_below hb2), rd_below hrd hb2 (Nat.lt_of_lt_of_le hR hkept.size)⟩
      have h9 := (GRow.ctxsAt (hrow.out.below hb2)).mono (Q := fun b => w.heap.size ≤ b) (fun b _ hb => hb.elim id id)
      rw [List.length_map]
      exact h9
end Go.Proofs.YtcbnefeedoabeaaGreatDoor
/- The package's reading of a text, a value, an attribute, a context. -/
namespace Go.Proofs.YtcbnefeedoabeaaGreatDoor
open Go Go.RowKit

theorem readText_any {l : List UInt8} {e : Int} {lo R : Nat} {w : World} (h : Wi.Rd l e lo R w) :
    Calls Tryz.prog 160 #[.pointer (some ⟨R, 0, none⟩)] w (DoneE eltS id Value.string (strR l e) lo R w) := by
  have hA := Lib.hid (Wi.text_any 200 h)
  unfold strR
  clear h
  go_enter Tryz.func160, Tryz.ntmps160
  go_wp2_with (go_at_call 99; refine hA.out.mono ?_; rintro en w1 ⟨rfl, hk, hrd⟩)
  go_ret
  exact ⟨_, rfl, rfl, trivial, hk, hrd⟩
set_option linter.unusedSimpArgs false in
set_option linter.unusedVariables false in
set_option maxHeartbeats 8000000 in
set_option maxRecDepth 100000 in
theorem readValue_any {l : List UInt8} {e : Int} {lo R : Nat} {w : World} (h : Wi.Rd l e lo R w) :
    Calls Tryz.prog 143 #[.pointer (some ⟨R, 0, none⟩)] w fun en w' => (∃ (q : Option Addr) (d : Nat), en = .returned ((valR false l e).1.agg q d) ∧ ListP (fun b => w.heap.size ≤ b) q d (valR false l e).1.list w') ∧ Kept R w w' ∧ Wi.Rd (valR false l e).2.1 (valR false l e).2.2 lo R w' := by
  have hR := h.lt
  have hb0 := (Below.refl w.heap.size w).alloc (Nat.le_refl _) (.cells #[.int .i64 0, .int .i64 0, .string ⟨#[]⟩, .slice none 0 0] 41)
  have z0 := heap_alloc_new w (.cells #[.int .i64 0, .int .i64 0, .string ⟨#[]⟩, .slice none 0 0] 41)
  have hs0 : (w.alloc (.cells #[.int .i64 0, .int .i64 0, .string ⟨#[]⟩, .slice none 0 0] 41)).heap.size = w.heap.size + 1 := by simp
  have h0 := rd_below h hb0 hR
  have hN := Wi.number_any h0
  obtain ⟨⟨k, l1, e1⟩, hx⟩ : ∃ x, Wi.numR l e = x := ⟨_, rfl⟩
  have hv : valR false l e = bodyR false k l1 e1 := by unfold valR; rw [hx]
  rw [hx] at hN
  rw [hv]
  simp only at hN
  obtain ⟨r, hr⟩ : ∃ r, bodyR false k l1 e1 = r := ⟨_, rfl⟩
  rw [hr]
  replace hr := Lib.hid hr
  replace hN := Lib.hid hN
  clear hx hv h h0
  go_enter Tryz.func143, Tryz.ntmps143
  go_upto_region 1 with (fail)
  generalize w.alloc (.cells #[.int .i64 0, .int .i64 0, .string ⟨#[]⟩, .slice none 0 0] 41) = w0 at hb0 z0 hs0 hN ⊢
  go_upto_region 2 with (go_at_call 158; refine hN.out.mono ?_; rintro en w1 ⟨rfl, hk1, hrd1⟩)
  have hb2 := (Below.refl w1.heap.size w1).alloc (Nat.le_refl _) (.cells #[.int .i64 k, .int .i64 0, .string ⟨#[]⟩, .slice none 0 0] 41)
  have z2 := heap_alloc_new w1 (.cells #[.int .i64 k, .int .i64 0, .string ⟨#[]⟩, .slice none 0 0] 41)
  generalize w1.alloc (.cells #[.int .i64 k, .int .i64 0, .string ⟨#[]⟩, .slice none 0 0] 41) = w2 at hb2 z2 ⊢
  have hs1 := hk1.size
  have zH2 := (hb2.block w.heap.size (by omega)).trans ((hk1.block w.heap.size (by omega) (by omega)).trans z0)
  have hk2 : Kept R w w2 := ((Kept.of_below hb0).trans hk1).then_low hb2 (by omega)
  have hrd2 := rd_below hrd1 hb2 hrd1.lt
  have hV : w.heap.size < w1.heap.size := by omega
  have hVs : w1.heap.size < w2.heap.size := (Array.getElem?_eq_some_iff.1 z2).1
  clear hb2 hN hb0 z0 hk1 hrd1 hs0 hs1
  generalize w1.heap.size = V at z2 hV hVs ⊢
  have c0 : w2.cell? ⟨V, 0, none⟩ = some (.int .i64 k) := by rw [Lib.cell_of_heap z2]; rfl
  by_cases h1 : k = 1 ∨ k = 2
  · have hr' := hr.out.symm.trans (bodyR_num h1)
    clear hr
    subst hr'
    rcases h1 with rfl | rfl
    · skip
      have hC := Lib.hid (Wi.number_any hrd2)
      go_upto_region 11 with (go_at_call 158; refine hC.out.mono ?_; rintro en w3 ⟨rfl, hk3, hrd3⟩; have z3 := (hk3.block V hVs (by omega)).trans z2; have v0 : w3.cell? ⟨V, 0, none⟩ = some (.int .i64 1) := (by rw [Lib.cell_of_heap z3]; rfl); have v1 : w3.cell? ⟨V, 1, none⟩ = some (.int .i64 0) := (by rw [Lib.cell_of_heap z3]; rfl); have v2 : w3.cell? ⟨V, 2, none⟩ = some (.string ⟨#[]⟩) := (by rw [Lib.cell_of_heap z3]; rfl); have v3 : w3.cell? ⟨V, 3, none⟩ = some (.slice none 0 0) := (by rw [Lib.cell_of_heap z3]; rfl); have vf : ∀ i, w3.frozen? ⟨V, i, none⟩ = false := Lib.frozen_of_heap z3)
      have z4 : (w3.setCell ⟨V, 1, none⟩ (.int .i64 (Wi.numR l1 e1).1)).heap[V]? = some (.cells #[.int .i64 1, .int .i64 (Wi.numR l1 e1).1, .string ⟨#[]⟩, .slice none 0 0] 41 (0, 0)) := box_put z3 _
      have zH4 : (w3.setCell ⟨V, 1, none⟩ (.int .i64 (Wi.numR l1 e1).1)).heap[w.heap.size]? = some (.cells #[.int .i64 0, .int .i64 0, .string ⟨#[]⟩, .slice none 0 0] 41 (0, 0)) := by
        rw [Below.heap_setCell _ _ _ _ (by show w.heap.size ≠ V; omega)]
        exact (hk3.block w.heap.size (by omega) (by omega)).trans zH2
      have hb4 : Below (w.heap.size + 1) w3 (w3.setCell ⟨V, 1, none⟩ (.int .i64 (Wi.numR l1 e1).1)) := (Below.refl _ w3).setCell (p := ⟨V, 1, none⟩) (by show w.heap.size + 1 ≤ V; omega) (.int .i64 (Wi.numR l1 e1).1)
      have hk4 : Kept R w (w3.setCell ⟨V, 1, none⟩ (.int .i64 (Wi.numR l1 e1).1)) := (hk2.trans hk3).then_low hb4 (by omega)
      have hrd4 := rd_below hrd3 hb4 (by omega : R < w.heap.size + 1)
      generalize (w3.setCell ⟨V, 1, none⟩ (.int .i64 (Wi.numR l1 e1).1)) = w4 at z4 zH4 hb4 hk4 hrd4 ⊢
      clear v0 v1 v2 v3 vf z3 hk3 hrd3 hC hb4 c0
      have a0 : w4.cell? ⟨V, 0, none⟩ = some (.int .i64 1) := by rw [Lib.cell_of_heap z4]; rfl
      have a1 : w4.cell? ⟨V, 1, none⟩ = some (.int .i64 (Wi.numR l1 e1).1) := by rw [Lib.cell_of_heap z4]; rfl
      have a2 : w4.cell? ⟨V, 2, none⟩ = some (.string ⟨#[]⟩) := by rw [Lib.cell_of_heap z4]; rfl
      have a3 : w4.cell? ⟨V, 3, none⟩ = some (.slice none 0 0) := by rw [Lib.cell_of_heap z4]; rfl
      have r0 : w4.cell? ⟨w.heap.size, 0, none⟩ = some (.int .i64 0) := by rw [Lib.cell_of_heap zH4]; rfl
      have r1 : w4.cell? ⟨w.heap.size, 1, none⟩ = some (.int .i64 0) := by rw [Lib.cell_of_heap zH4]; rfl
      have r2 : w4.cell? ⟨w.heap.size, 2, none⟩ = some (.string ⟨#[]⟩) := by rw [Lib.cell_of_heap zH4]; rfl
      have r3 : w4.cell? ⟨w.heap.size, 3, none⟩ = some (.slice none 0 0) := by rw [Lib.cell_of_heap zH4]; rfl
      have rf : ∀ i, w4.frozen? ⟨w.heap.size, i, none⟩ = false := Lib.frozen_of_heap zH4
      have hbr : Below w.heap.size w4 w4 := Below.refl _ _
      have hXR : ¬ (V < w.heap.size) := by omega
      have zH5 : ((((w4.setCell ⟨w.heap.size, 0, none⟩ (.int .i64 1)).setCell ⟨w.heap.size, 1, none⟩ (.int .i64 (Wi.numR l1 e1).1)).setCell ⟨w.heap.size, 2, none⟩ (.string ⟨#[]⟩)).setCell ⟨w.heap.size, 3, none⟩ (.slice none 0 0)).heap[w.heap.size]? = some (.cells #[.int .i64 1, .int .i64 (Wi.numR l1 e1).1, .string ⟨#[]⟩, .slice none 0 0] 41 (0, 0)) := (box_put (box_put (box_put (box_put zH4 _) _) _) _)
      have hb5 := ((((hbr.setCell (p := ⟨w.heap.size, 0, none⟩) (Nat.le_refl _) (.int .i64 1)).setCell (p := ⟨w.heap.size, 1, none⟩) (Nat.le_refl _) (.int .i64 (Wi.numR l1 e1).1)).setCell (p := ⟨w.heap.size, 2, none⟩) (Nat.le_refl _) (.string ⟨#[]⟩)).setCell (p := ⟨w.heap.size, 3, none⟩) (Nat.le_refl _) (.slice none 0 0))
      have hq5 : ListP (fun b => V < b) none 0 [] ((((w4.setCell ⟨w.heap.size, 0, none⟩ (.int .i64 1)).setCell ⟨w.heap.size, 1, none⟩ (.int .i64 (Wi.numR l1 e1).1)).setCell ⟨w.heap.size, 2, none⟩ (.string ⟨#[]⟩)).setCell ⟨w.heap.size, 3, none⟩ (.slice none 0 0)) := ListP.same (⟨fun _ => rfl, Nat.zero_le _, fun i hi => by simp at hi⟩ : ListP (fun b => V < b) none 0 [] w4) (((((SameB.refl _ w4).set (B := w.heap.size) hXR 0 (.int .i64 1)).set (B := w.heap.size) hXR 1 (.int .i64 (Wi.numR l1 e1).1)).set (B := w.heap.size) hXR 2 (.string ⟨#[]⟩)).set (B := w.heap.size) hXR 3 (.slice none 0 0))
      clear hbr
      go_wp2
      generalize World.setCell _ _ _ = w5 at zH5 hb5 hq5 ⊢
      have s0 : w5.cell? ⟨w.heap.size, 0, none⟩ = some (.int .i64 1) := by rw [Lib.cell_of_heap zH5]; rfl
      have s1 : w5.cell? ⟨w.heap.size, 1, none⟩ = some (.int .i64 (Wi.numR l1 e1).1) := by rw [Lib.cell_of_heap zH5]; rfl
      have s2 : w5.cell? ⟨w.heap.size, 2, none⟩ = some (.string ⟨#[]⟩) := by rw [Lib.cell_of_heap zH5]; rfl
      have s3 : w5.cell? ⟨w.heap.size, 3, none⟩ = some (.slice none 0 0) := by rw [Lib.cell_of_heap zH5]; rfl
      refine bodyPost_ret (v := .agg #[.int .i64 1, .int .i64 (Wi.numR l1 e1).1, .string ⟨#[]⟩, .slice none 0 0]) (by simp [results, Tryz.results143, go_sem, s0, s1, s2, s3]) rfl ⟨⟨none, 0, rfl, hq5.mono fun b _ hb => by omega⟩, hk4.then_low hb5 (Nat.le_refl _), rd_below hrd4 hb5 hR⟩
    · skip
      have hC := Lib.hid (Wi.number_any hrd2)
      go_upto_region 11 with (go_at_call 158; refine hC.out.mono ?_; rintro en w3 ⟨rfl, hk3, hrd3⟩; have z3 := (hk3.block V hVs (by omega)).trans z2; have v0 : w3.cell? ⟨V, 0, none⟩ = some (.int .i64 2) := (by rw [Lib.cell_of_heap z3]; rfl); have v1 : w3.cell? ⟨V, 1, none⟩ = some (.int .i64 0) := (by rw [Lib.cell_of_heap z3]; rfl); have v2 : w3.cell? ⟨V, 2, none⟩ = some (.string ⟨#[]⟩) := (by rw [Lib.cell_of_heap z3]; rfl); have v3 : w3.cell? ⟨V, 3, none⟩ = some (.slice none 0 0) := (by rw [Lib.cell_of_heap z3]; rfl); have vf : ∀ i, w3.frozen? ⟨V, i, none⟩ = false := Lib.frozen_of_heap z3)
      have z4 : (w3.setCell ⟨V, 1, none⟩ (.int .i64 (Wi.numR l1 e1).1)).heap[V]? = some (.cells #[.int .i64 2, .int .i64 (Wi.numR l1 e1).1, .string ⟨#[]⟩, .slice none 0 0] 41 (0, 0)) := box_put z3 _
      have zH4 : (w3.setCell ⟨V, 1, none⟩ (.int .i64 (Wi.numR l1 e1).1)).heap[w.heap.size]? = some (.cells #[.int .i64 0, .int .i64 0, .string ⟨#[]⟩, .slice none 0 0] 41 (0, 0)) := by
        rw [Below.heap_setCell _ _ _ _ (by show w.heap.size ≠ V; omega)]
        exact (hk3.block w.heap.size (by omega) (by omega)).trans zH2
      have hb4 : Below (w.heap.size + 1) w3 (w3.setCell ⟨V, 1, none⟩ (.int .i64 (Wi.numR l1 e1).1)) := (Below.refl _ w3).setCell (p := ⟨V, 1, none⟩) (by show w.heap.size + 1 ≤ V; omega) (.int .i64 (Wi.numR l1 e1).1)
      have hk4 : Kept R w (w3.setCell ⟨V, 1, none⟩ (.int .i64 (Wi.numR l1 e1).1)) := (hk2.trans hk3).then_low hb4 (by omega)
      have hrd4 := rd_below hrd3 hb4 (by omega : R < w.heap.size + 1)
      generalize (w3.setCell ⟨V, 1, none⟩ (.int .i64 (Wi.numR l1 e1).1)) = w4 at z4 zH4 hb4 hk4 hrd4 ⊢
      clear v0 v1 v2 v3 vf z3 hk3 hrd3 hC hb4 c0
      have a0 : w4.cell? ⟨V, 0, none⟩ = some (.int .i64 2) := by rw [Lib.cell_of_heap z4]; rfl
      have a1 : w4.cell? ⟨V, 1, none⟩ = some (.int .i64 (Wi.numR l1 e1).1) := by rw [Lib.cell_of_heap z4]; rfl
      have a2 : w4.cell? ⟨V, 2, none⟩ = some (.string ⟨#[]⟩) := by rw [Lib.cell_of_heap z4]; rfl
      have a3 : w4.cell? ⟨V, 3, none⟩ = some (.slice none 0 0) := by rw [Lib.cell_of_heap z4]; rfl
      have r0 : w4.cell? ⟨w.heap.size, 0, none⟩ = some (.int .i64 0) := by rw [Lib.cell_of_heap zH4]; rfl
      have r1 : w4.cell? ⟨w.heap.size, 1, none⟩ = some (.int .i64 0) := by rw [Lib.cell_of_heap zH4]; rfl
      have r2 : w4.cell? ⟨w.heap.size, 2, none⟩ = some (.string ⟨#[]⟩) := by rw [Lib.cell_of_heap zH4]; rfl
      have r3 : w4.cell? ⟨w.heap.size, 3, none⟩ = some (.slice none 0 0) := by rw [Lib.cell_of_heap zH4]; rfl
      have rf : ∀ i, w4.frozen? ⟨w.heap.size, i, none⟩ = false := Lib.frozen_of_heap zH4
      have hbr : Below w.heap.size w4 w4 := Below.refl _ _
      have hXR : ¬ (V < w.heap.size) := by omega
      have zH5 : ((((w4.setCell ⟨w.heap.size, 0, none⟩ (.int .i64 2)).setCell ⟨w.heap.size, 1, none⟩ (.int .i64 (Wi.numR l1 e1).1)).setCell ⟨w.heap.size, 2, none⟩ (.string ⟨#[]⟩)).setCell ⟨w.heap.size, 3, none⟩ (.slice none 0 0)).heap[w.heap.size]? = some (.cells #[.int .i64 2, .int .i64 (Wi.numR l1 e1).1, .string ⟨#[]⟩, .slice none 0 0] 41 (0, 0)) := (box_put (box_put (box_put (box_put zH4 _) _) _) _)
      have hb5 := ((((hbr.setCell (p := ⟨w.heap.size, 0, none⟩) (Nat.le_refl _) (.int .i64 2)).setCell (p := ⟨w.heap.size, 1, none⟩) (Nat.le_refl _) (.int .i64 (Wi.numR l1 e1).1)).setCell (p := ⟨w.heap.size, 2, none⟩) (Nat.le_refl _) (.string ⟨#[]⟩)).setCell (p := ⟨w.heap.size, 3, none⟩) (Nat.le_refl _) (.slice none 0 0))
      have hq5 : ListP (fun b => V < b) none 0 [] ((((w4.setCell ⟨w.heap.size, 0, none⟩ (.int .i64 2)).setCell ⟨w.heap.size, 1, none⟩ (.int .i64 (Wi.numR l1 e1).1)).setCell ⟨w.heap.size, 2, none⟩ (.string ⟨#[]⟩)).setCell ⟨w.heap.size, 3, none⟩ (.slice none 0 0)) := ListP.same (⟨fun _ => rfl, Nat.zero_le _, fun i hi => by simp at hi⟩ : ListP (fun b => V < b) none 0 [] w4) (((((SameB.refl _ w4).set (B := w.heap.size) hXR 0 (.int .i64 2)).set (B := w.heap.size) hXR 1 (.int .i64 (Wi.numR l1 e1).1)).set (B := w.heap.size) hXR 2 (.string ⟨#[]⟩)).set (B := w.heap.size) hXR 3 (.slice none 0 0))
      clear hbr
      go_wp2
      generalize World.setCell _ _ _ = w5 at zH5 hb5 hq5 ⊢
      have s0 : w5.cell? ⟨w.heap.size, 0, none⟩ = some (.int .i64 2) := by rw [Lib.cell_of_heap zH5]; rfl
      have s1 : w5.cell? ⟨w.heap.size, 1, none⟩ = some (.int .i64 (Wi.numR l1 e1).1) := by rw [Lib.cell_of_heap zH5]; rfl
      have s2 : w5.cell? ⟨w.heap.size, 2, none⟩ = some (.string ⟨#[]⟩) := by rw [Lib.cell_of_heap zH5]; rfl
      have s3 : w5.cell? ⟨w.heap.size, 3, none⟩ = some (.slice none 0 0) := by rw [Lib.cell_of_heap zH5]; rfl
      refine bodyPost_ret (v := .agg #[.int .i64 2, .int .i64 (Wi.numR l1 e1).1, .string ⟨#[]⟩, .slice none 0 0]) (by simp [results, Tryz.results143, go_sem, s0, s1, s2, s3]) rfl ⟨⟨none, 0, rfl, hq5.mono fun b _ hb => by omega⟩, hk4.then_low hb5 (Nat.le_refl _), rd_below hrd4 hb5 hR⟩
  · by_cases h5 : k = 5
    · have hr' := hr.out.symm.trans (bodyR_list h5)
      clear hr
      subst hr'
      subst h5
      have hC := Lib.hid (readTexts_any 20 (by decide) hrd2 fun l e w h => readText_any h)
      go_upto_region 11 with (go_at_call 161; refine hC.out.mono ?_; rintro en w3 ⟨⟨q, rfl, hq⟩, hk3, hrd3⟩; have z3 := (hk3.block V hVs (by omega)).trans z2; have v0 : w3.cell? ⟨V, 0, none⟩ = some (.int .i64 5) := (by rw [Lib.cell_of_heap z3]; rfl); have v1 : w3.cell? ⟨V, 1, none⟩ = some (.int .i64 0) := (by rw [Lib.cell_of_heap z3]; rfl); have v2 : w3.cell? ⟨V, 2, none⟩ = some (.string ⟨#[]⟩) := (by rw [Lib.cell_of_heap z3]; rfl); have v3 : w3.cell? ⟨V, 3, none⟩ = some (.slice none 0 0) := (by rw [Lib.cell_of_heap z3]; rfl); have vf : ∀ i, w3.frozen? ⟨V, i, none⟩ = false := Lib.frozen_of_heap z3)
      have z4 : (w3.setCell ⟨V, 3, none⟩ (.slice q ((listR 20 strR l1 e1).1.length : Nat) (listR 20 strR l1 e1).1.length)).heap[V]? = some (.cells #[.int .i64 5, .int .i64 0, .string ⟨#[]⟩, .slice q ((listR 20 strR l1 e1).1.length : Nat) (listR 20 strR l1 e1).1.length] 41 (0, 0)) := box_put z3 _
      have zH4 : (w3.setCell ⟨V, 3, none⟩ (.slice q ((listR 20 strR l1 e1).1.length : Nat) (listR 20 strR l1 e1).1.length)).heap[w.heap.size]? = some (.cells #[.int .i64 0, .int .i64 0, .string ⟨#[]⟩, .slice none 0 0] 41 (0, 0)) := by
        rw [Below.heap_setCell _ _ _ _ (by show w.heap.size ≠ V; omega)]
        exact (hk3.block w.heap.size (by omega) (by omega)).trans zH2
      have hb4 : Below (w.heap.size + 1) w3 (w3.setCell ⟨V, 3, none⟩ (.slice q ((listR 20 strR l1 e1).1.length : Nat) (listR 20 strR l1 e1).1.length)) := (Below.refl _ w3).setCell (p := ⟨V, 3, none⟩) (by show w.heap.size + 1 ≤ V; omega) (.slice q ((listR 20 strR l1 e1).1.length : Nat) (listR 20 strR l1 e1).1.length)
      have hk4 : Kept R w (w3.setCell ⟨V, 3, none⟩ (.slice q ((listR 20 strR l1 e1).1.length : Nat) (listR 20 strR l1 e1).1.length)) := (hk2.trans hk3).then_low hb4 (by omega)
      have hrd4 := rd_below hrd3 hb4 (by omega : R < w.heap.size + 1)
      have hq4 : ListP (fun b => V < b) q (listR 20 strR l1 e1).1.length (listR 20 strR l1 e1).1 (w3.setCell ⟨V, 3, none⟩ (.slice q ((listR 20 strR l1 e1).1.length : Nat) (listR 20 strR l1 e1).1.length)) := ListP.same (ListP.mono hq fun b _ hb => by omega) ((SameB.refl _ w3).set (B := V) (Nat.lt_irrefl V) 3 (.slice q ((listR 20 strR l1 e1).1.length : Nat) (listR 20 strR l1 e1).1.length))
      generalize (w3.setCell ⟨V, 3, none⟩ (.slice q ((listR 20 strR l1 e1).1.length : Nat) (listR 20 strR l1 e1).1.length)) = w4 at z4 zH4 hb4 hk4 hrd4 hq4 ⊢
      clear v0 v1 v2 v3 vf z3 hk3 hrd3 hC hb4 c0
      have a0 : w4.cell? ⟨V, 0, none⟩ = some (.int .i64 5) := by rw [Lib.cell_of_heap z4]; rfl
      have a1 : w4.cell? ⟨V, 1, none⟩ = some (.int .i64 0) := by rw [Lib.cell_of_heap z4]; rfl
      have a2 : w4.cell? ⟨V, 2, none⟩ = some (.string ⟨#[]⟩) := by rw [Lib.cell_of_heap z4]; rfl
      have a3 : w4.cell? ⟨V, 3, none⟩ = some (.slice q ((listR 20 strR l1 e1).1.length : Nat) (listR 20 strR l1 e1).1.length) := by rw [Lib.cell_of_heap z4]; rfl
      have r0 : w4.cell? ⟨w.heap.size, 0, none⟩ = some (.int .i64 0) := by rw [Lib.cell_of_heap zH4]; rfl
      have r1 : w4.cell? ⟨w.heap.size, 1, none⟩ = some (.int .i64 0) := by rw [Lib.cell_of_heap zH4]; rfl
      have r2 : w4.cell? ⟨w.heap.size, 2, none⟩ = some (.string ⟨#[]⟩) := by rw [Lib.cell_of_heap zH4]; rfl
      have r3 : w4.cell? ⟨w.heap.size, 3, none⟩ = some (.slice none 0 0) := by rw [Lib.cell_of_heap zH4]; rfl
      have rf : ∀ i, w4.frozen? ⟨w.heap.size, i, none⟩ = false := Lib.frozen_of_heap zH4
      have hbr : Below w.heap.size w4 w4 := Below.refl _ _
      have hXR : ¬ (V < w.heap.size) := by omega
      have zH5 : ((((w4.setCell ⟨w.heap.size, 0, none⟩ (.int .i64 5)).setCell ⟨w.heap.size, 1, none⟩ (.int .i64 0)).setCell ⟨w.heap.size, 2, none⟩ (.string ⟨#[]⟩)).setCell ⟨w.heap.size, 3, none⟩ (.slice q ((listR 20 strR l1 e1).1.length : Nat) (listR 20 strR l1 e1).1.length)).heap[w.heap.size]? = some (.cells #[.int .i64 5, .int .i64 0, .string ⟨#[]⟩, .slice q ((listR 20 strR l1 e1).1.length : Nat) (listR 20 strR l1 e1).1.length] 41 (0, 0)) := (box_put (box_put (box_put (box_put zH4 _) _) _) _)
      have hb5 := ((((hbr.setCell (p := ⟨w.heap.size, 0, none⟩) (Nat.le_refl _) (.int .i64 5)).setCell (p := ⟨w.heap.size, 1, none⟩) (Nat.le_refl _) (.int .i64 0)).setCell (p := ⟨w.heap.size, 2, none⟩) (Nat.le_refl _) (.string ⟨#[]⟩)).setCell (p := ⟨w.heap.size, 3, none⟩) (Nat.le_refl _) (.slice q ((listR 20 strR l1 e1).1.length : Nat) (listR 20 strR l1 e1).1.length))
      have hq5 : ListP (fun b => V < b) q (listR 20 strR l1 e1).1.length (listR 20 strR l1 e1).1 ((((w4.setCell ⟨w.heap.size, 0, none⟩ (.int .i64 5)).setCell ⟨w.heap.size, 1, none⟩ (.int .i64 0)).setCell ⟨w.heap.size, 2, none⟩ (.string ⟨#[]⟩)).setCell ⟨w.heap.size, 3, none⟩ (.slice q ((listR 20 strR l1 e1).1.length : Nat) (listR 20 strR l1 e1).1.length)) := ListP.same hq4 (((((SameB.refl _ w4).set (B := w.heap.size) hXR 0 (.int .i64 5)).set (B := w.heap.size) hXR 1 (.int .i64 0)).set (B := w.heap.size) hXR 2 (.string ⟨#[]⟩)).set (B := w.heap.size) hXR 3 (.slice q ((listR 20 strR l1 e1).1.length : Nat) (listR 20 strR l1 e1).1.length))
      clear hbr
      go_wp2
      generalize World.setCell _ _ _ = w5 at zH5 hb5 hq5 ⊢
      have s0 : w5.cell? ⟨w.heap.size, 0, none⟩ = some (.int .i64 5) := by rw [Lib.cell_of_heap zH5]; rfl
      have s1 : w5.cell? ⟨w.heap.size, 1, none⟩ = some (.int .i64 0) := by rw [Lib.cell_of_heap zH5]; rfl
      have s2 : w5.cell? ⟨w.heap.size, 2, none⟩ = some (.string ⟨#[]⟩) := by rw [Lib.cell_of_heap zH5]; rfl
      have s3 : w5.cell? ⟨w.heap.size, 3, none⟩ = some (.slice q ((listR 20 strR l1 e1).1.length : Nat) (listR 20 strR l1 e1).1.length) := by rw [Lib.cell_of_heap zH5]; rfl
      refine bodyPost_ret (v := .agg #[.int .i64 5, .int .i64 0, .string ⟨#[]⟩, .slice q ((listR 20 strR l1 e1).1.length : Nat) (listR 20 strR l1 e1).1.length]) (by simp [results, Tryz.results143, go_sem, s0, s1, s2, s3]) rfl ⟨⟨q, (listR 20 strR l1 e1).1.length, rfl, hq5.mono fun b _ hb => by omega⟩, hk4.then_low hb5 (Nat.le_refl _), rd_below hrd4 hb5 hR⟩
    · by_cases h3 : k = 3 ∨ k = 4
      · have hr' := hr.out.symm.trans (bodyR_text h1 h5 (.inl h3))
        clear hr
        subst hr'
        rcases h3 with rfl | rfl
        · skip
          have hC := Lib.hid (readText_any hrd2)
          go_upto_region 11 with (go_at_call 160; refine hC.out.mono ?_; rintro en w3 ⟨x, rfl, hx, -, hk3, hrd3⟩; obtain rfl : x = (strR l1 e1).1 := hx; have z3 := (hk3.block V hVs (by omega)).trans z2; have v0 : w3.cell? ⟨V, 0, none⟩ = some (.int .i64 3) := (by rw [Lib.cell_of_heap z3]; rfl); have v1 : w3.cell? ⟨V, 1, none⟩ = some (.int .i64 0) := (by rw [Lib.cell_of_heap z3]; rfl); have v2 : w3.cell? ⟨V, 2, none⟩ = some (.string ⟨#[]⟩) := (by rw [Lib.cell_of_heap z3]; rfl); have v3 : w3.cell? ⟨V, 3, none⟩ = some (.slice none 0 0) := (by rw [Lib.cell_of_heap z3]; rfl); have vf : ∀ i, w3.frozen? ⟨V, i, none⟩ = false := Lib.frozen_of_heap z3)
          have z4 : (w3.setCell ⟨V, 2, none⟩ (.string (strR l1 e1).1)).heap[V]? = some (.cells #[.int .i64 3, .int .i64 0, .string (strR l1 e1).1, .slice none 0 0] 41 (0, 0)) := box_put z3 _
          have zH4 : (w3.setCell ⟨V, 2, none⟩ (.string (strR l1 e1).1)).heap[w.heap.size]? = some (.cells #[.int .i64 0, .int .i64 0, .string ⟨#[]⟩, .slice none 0 0] 41 (0, 0)) := by
            rw [Below.heap_setCell _ _ _ _ (by show w.heap.size ≠ V; omega)]
            exact (hk3.block w.heap.size (by omega) (by omega)).trans zH2
          have hb4 : Below (w.heap.size + 1) w3 (w3.setCell ⟨V, 2, none⟩ (.string (strR l1 e1).1)) := (Below.refl _ w3).setCell (p := ⟨V, 2, none⟩) (by show w.heap.size + 1 ≤ V; omega) (.string (strR l1 e1).1)
          have hk4 : Kept R w (w3.setCell ⟨V, 2, none⟩ (.string (strR l1 e1).1)) := (hk2.trans hk3).then_low hb4 (by omega)
          have hrd4 := rd_below hrd3 hb4 (by omega : R < w.heap.size + 1)
          generalize (w3.setCell ⟨V, 2, none⟩ (.string (strR l1 e1).1)) = w4 at z4 zH4 hb4 hk4 hrd4 ⊢
          clear v0 v1 v2 v3 vf z3 hk3 hrd3 hC hb4 c0
          have a0 : w4.cell? ⟨V, 0, none⟩ = some (.int .i64 3) := by rw [Lib.cell_of_heap z4]; rfl
          have a1 : w4.cell? ⟨V, 1, none⟩ = some (.int .i64 0) := by rw [Lib.cell_of_heap z4]; rfl
          have a2 : w4.cell? ⟨V, 2, none⟩ = some (.string (strR l1 e1).1) := by rw [Lib.cell_of_heap z4]; rfl
          have a3 : w4.cell? ⟨V, 3, none⟩ = some (.slice none 0 0) := by rw [Lib.cell_of_heap z4]; rfl
          have r0 : w4.cell? ⟨w.heap.size, 0, none⟩ = some (.int .i64 0) := by rw [Lib.cell_of_heap zH4]; rfl
          have r1 : w4.cell? ⟨w.heap.size, 1, none⟩ = some (.int .i64 0) := by rw [Lib.cell_of_heap zH4]; rfl
          have r2 : w4.cell? ⟨w.heap.size, 2, none⟩ = some (.string ⟨#[]⟩) := by rw [Lib.cell_of_heap zH4]; rfl
          have r3 : w4.cell? ⟨w.heap.size, 3, none⟩ = some (.slice none 0 0) := by rw [Lib.cell_of_heap zH4]; rfl
          have rf : ∀ i, w4.frozen? ⟨w.heap.size, i, none⟩ = false := Lib.frozen_of_heap zH4
          have hbr : Below w.heap.size w4 w4 := Below.refl _ _
          have hXR : ¬ (V < w.heap.size) := by omega
          have zH5 : ((((w4.setCell ⟨w.heap.size, 0, none⟩ (.int .i64 3)).setCell ⟨w.heap.size, 1, none⟩ (.int .i64 0)).setCell ⟨w.heap.size, 2, none⟩ (.string (strR l1 e1).1)).setCell ⟨w.heap.size, 3, none⟩ (.slice none 0 0)).heap[w.heap.size]? = some (.cells #[.int .i64 3, .int .i64 0, .string (strR l1 e1).1, .slice none 0 0] 41 (0, 0)) := (box_put (box_put (box_put (box_put zH4 _) _) _) _)
          have hb5 := ((((hbr.setCell (p := ⟨w.heap.size, 0, none⟩) (Nat.le_refl _) (.int .i64 3)).setCell (p := ⟨w.heap.size, 1, none⟩) (Nat.le_refl _) (.int .i64 0)).setCell (p := ⟨w.heap.size, 2, none⟩) (Nat.le_refl _) (.string (strR l1 e1).1)).setCell (p := ⟨w.heap.size, 3, none⟩) (Nat.le_refl _) (.slice none 0 0))
          have hq5 : ListP (fun b => V < b) none 0 [] ((((w4.setCell ⟨w.heap.size, 0, none⟩ (.int .i64 3)).setCell ⟨w.heap.size, 1, none⟩ (.int .i64 0)).setCell ⟨w.heap.size, 2, none⟩ (.string (strR l1 e1).1)).setCell ⟨w.heap.size, 3, none⟩ (.slice none 0 0)) := ListP.same (⟨fun _ => rfl, Nat.zero_le _, fun i hi => by simp at hi⟩ : ListP (fun b => V < b) none 0 [] w4) (((((SameB.refl _ w4).set (B := w.heap.size) hXR 0 (.int .i64 3)).set (B := w.heap.size) hXR 1 (.int .i64 0)).set (B := w.heap.size) hXR 2 (.string (strR l1 e1).1)).set (B := w.heap.size) hXR 3 (.slice none 0 0))
          clear hbr
          go_wp2
          generalize World.setCell _ _ _ = w5 at zH5 hb5 hq5 ⊢
          have s0 : w5.cell? ⟨w.heap.size, 0, none⟩ = some (.int .i64 3) := by rw [Lib.cell_of_heap zH5]; rfl
          have s1 : w5.cell? ⟨w.heap.size, 1, none⟩ = some (.int .i64 0) := by rw [Lib.cell_of_heap zH5]; rfl
          have s2 : w5.cell? ⟨w.heap.size, 2, none⟩ = some (.string (strR l1 e1).1) := by rw [Lib.cell_of_heap zH5]; rfl
          have s3 : w5.cell? ⟨w.heap.size, 3, none⟩ = some (.slice none 0 0) := by rw [Lib.cell_of_heap zH5]; rfl
          refine bodyPost_ret (v := .agg #[.int .i64 3, .int .i64 0, .string (strR l1 e1).1, .slice none 0 0]) (by simp [results, Tryz.results143, go_sem, s0, s1, s2, s3]) rfl ⟨⟨none, 0, rfl, hq5.mono fun b _ hb => by omega⟩, hk4.then_low hb5 (Nat.le_refl _), rd_below hrd4 hb5 hR⟩
        · skip
          have hC := Lib.hid (readText_any hrd2)
          go_upto_region 11 with (go_at_call 160; refine hC.out.mono ?_; rintro en w3 ⟨x, rfl, hx, -, hk3, hrd3⟩; obtain rfl : x = (strR l1 e1).1 := hx; have z3 := (hk3.block V hVs (by omega)).trans z2; have v0 : w3.cell? ⟨V, 0, none⟩ = some (.int .i64 4) := (by rw [Lib.cell_of_heap z3]; rfl); have v1 : w3.cell? ⟨V, 1, none⟩ = some (.int .i64 0) := (by rw [Lib.cell_of_heap z3]; rfl); have v2 : w3.cell? ⟨V, 2, none⟩ = some (.string ⟨#[]⟩) := (by rw [Lib.cell_of_heap z3]; rfl); have v3 : w3.cell? ⟨V, 3, none⟩ = some (.slice none 0 0) := (by rw [Lib.cell_of_heap z3]; rfl); have vf : ∀ i, w3.frozen? ⟨V, i, none⟩ = false := Lib.frozen_of_heap z3)
          have z4 : (w3.setCell ⟨V, 2, none⟩ (.string (strR l1 e1).1)).heap[V]? = some (.cells #[.int .i64 4, .int .i64 0, .string (strR l1 e1).1, .slice none 0 0] 41 (0, 0)) := box_put z3 _
          have zH4 : (w3.setCell ⟨V, 2, none⟩ (.string (strR l1 e1).1)).heap[w.heap.size]? = some (.cells #[.int .i64 0, .int .i64 0, .string ⟨#[]⟩, .slice none 0 0] 41 (0, 0)) := by
            rw [Below.heap_setCell _ _ _ _ (by show w.heap.size ≠ V; omega)]
            exact (hk3.block w.heap.size (by omega) (by omega)).trans zH2
          have hb4 : Below (w.heap.size + 1) w3 (w3.setCell ⟨V, 2, none⟩ (.string (strR l1 e1).1)) := (Below.refl _ w3).setCell (p := ⟨V, 2, none⟩) (by show w.heap.size + 1 ≤ V; omega) (.string (strR l1 e1).1)
          have hk4 : Kept R w (w3.setCell ⟨V, 2, none⟩ (.string (strR l1 e1).1)) := (hk2.trans hk3).then_low hb4 (by omega)
          have hrd4 := rd_below hrd3 hb4 (by omega : R < w.heap.size + 1)
          generalize (w3.setCell ⟨V, 2, none⟩ (.string (strR l1 e1).1)) = w4 at z4 zH4 hb4 hk4 hrd4 ⊢
          clear v0 v1 v2 v3 vf z3 hk3 hrd3 hC hb4 c0
          have a0 : w4.cell? ⟨V, 0, none⟩ = some (.int .i64 4) := by rw [Lib.cell_of_heap z4]; rfl
          have a1 : w4.cell? ⟨V, 1, none⟩ = some (.int .i64 0) := by rw [Lib.cell_of_heap z4]; rfl
          have a2 : w4.cell? ⟨V, 2, none⟩ = some (.string (strR l1 e1).1) := by rw [Lib.cell_of_heap z4]; rfl
          have a3 : w4.cell? ⟨V, 3, none⟩ = some (.slice none 0 0) := by rw [Lib.cell_of_heap z4]; rfl
          have r0 : w4.cell? ⟨w.heap.size, 0, none⟩ = some (.int .i64 0) := by rw [Lib.cell_of_heap zH4]; rfl
          have r1 : w4.cell? ⟨w.heap.size, 1, none⟩ = some (.int .i64 0) := by rw [Lib.cell_of_heap zH4]; rfl
          have r2 : w4.cell? ⟨w.heap.size, 2, none⟩ = some (.string ⟨#[]⟩) := by rw [Lib.cell_of_heap zH4]; rfl
          have r3 : w4.cell? ⟨w.heap.size, 3, none⟩ = some (.slice none 0 0) := by rw [Lib.cell_of_heap zH4]; rfl
          have rf : ∀ i, w4.frozen? ⟨w.heap.size, i, none⟩ = false := Lib.frozen_of_heap zH4
          have hbr : Below w.heap.size w4 w4 := Below.refl _ _
          have hXR : ¬ (V < w.heap.size) := by omega
          have zH5 : ((((w4.setCell ⟨w.heap.size, 0, none⟩ (.int .i64 4)).setCell ⟨w.heap.size, 1, none⟩ (.int .i64 0)).setCell ⟨w.heap.size, 2, none⟩ (.string (strR l1 e1).1)).setCell ⟨w.heap.size, 3, none⟩ (.slice none 0 0)).heap[w.heap.size]? = some (.cells #[.int .i64 4, .int .i64 0, .string (strR l1 e1).1, .slice none 0 0] 41 (0, 0)) := (box_put (box_put (box_put (box_put zH4 _) _) _) _)
          have hb5 := ((((hbr.setCell (p := ⟨w.heap.size, 0, none⟩) (Nat.le_refl _) (.int .i64 4)).setCell (p := ⟨w.heap.size, 1, none⟩) (Nat.le_refl _) (.int .i64 0)).setCell (p := ⟨w.heap.size, 2, none⟩) (Nat.le_refl _) (.string (strR l1 e1).1)).setCell (p := ⟨w.heap.size, 3, none⟩) (Nat.le_refl _) (.slice none 0 0))
          have hq5 : ListP (fun b => V < b) none 0 [] ((((w4.setCell ⟨w.heap.size, 0, none⟩ (.int .i64 4)).setCell ⟨w.heap.size, 1, none⟩ (.int .i64 0)).setCell ⟨w.heap.size, 2, none⟩ (.string (strR l1 e1).1)).setCell ⟨w.heap.size, 3, none⟩ (.slice none 0 0)) := ListP.same (⟨fun _ => rfl, Nat.zero_le _, fun i hi => by simp at hi⟩ : ListP (fun b => V < b) none 0 [] w4) (((((SameB.refl _ w4).set (B := w.heap.size) hXR 0 (.int .i64 4)).set (B := w.heap.size) hXR 1 (.int .i64 0)).set (B := w.heap.size) hXR 2 (.string (strR l1 e1).1)).set (B := w.heap.size) hXR 3 (.slice none 0 0))
          clear hbr
          go_wp2
          generalize World.setCell _ _ _ = w5 at zH5 hb5 hq5 ⊢
          have s0 : w5.cell? ⟨w.heap.size, 0, none⟩ = some (.int .i64 4) := by rw [Lib.cell_of_heap zH5]; rfl
          have s1 : w5.cell? ⟨w.heap.size, 1, none⟩ = some (.int .i64 0) := by rw [Lib.cell_of_heap zH5]; rfl
          have s2 : w5.cell? ⟨w.heap.size, 2, none⟩ = some (.string (strR l1 e1).1) := by rw [Lib.cell_of_heap zH5]; rfl
          have s3 : w5.cell? ⟨w.heap.size, 3, none⟩ = some (.slice none 0 0) := by rw [Lib.cell_of_heap zH5]; rfl
          refine bodyPost_ret (v := .agg #[.int .i64 4, .int .i64 0, .string (strR l1 e1).1, .slice none 0 0]) (by simp [results, Tryz.results143, go_sem, s0, s1, s2, s3]) rfl ⟨⟨none, 0, rfl, hq5.mono fun b _ hb => by omega⟩, hk4.then_low hb5 (Nat.le_refl _), rd_below hrd4 hb5 hR⟩
      · have hr' := hr.out.symm.trans (bodyR_none h1 h5 h3)
        clear hr
        subst hr'
        have k1 : (k == 1) = false := by simp; omega
        have k2 : (k == 2) = false := by simp; omega
        have k3 : (k == 3) = false := by simp; omega
        have k4 : (k == 4) = false := by simp; omega
        have k5 : (k == 5) = false := by simp; omega
        have n1 : ¬ k = 1 := by omega
        have n2 : ¬ k = 2 := by omega
        have n3 : ¬ k = 3 := by omega
        have n4 : ¬ k = 4 := by omega
        clear h1 h3
        go_upto_region 11 with (fail)
        have hk4 := hk2
        have hrd4 := hrd2
        have z4 := z2
        have zH4 := zH2
        clear hk2 hrd2 z2 zH2 c0
        generalize w2 = w4 at hk4 hrd4 z4 zH4 hVs ⊢
        have a0 : w4.cell? ⟨V, 0, none⟩ = some (.int .i64 k) := by rw [Lib.cell_of_heap z4]; rfl
        have a1 : w4.cell? ⟨V, 1, none⟩ = some (.int .i64 0) := by rw [Lib.cell_of_heap z4]; rfl
        have a2 : w4.cell? ⟨V, 2, none⟩ = some (.string ⟨#[]⟩) := by rw [Lib.cell_of_heap z4]; rfl
        have a3 : w4.cell? ⟨V, 3, none⟩ = some (.slice none 0 0) := by rw [Lib.cell_of_heap z4]; rfl
        have r0 : w4.cell? ⟨w.heap.size, 0, none⟩ = some (.int .i64 0) := by rw [Lib.cell_of_heap zH4]; rfl
        have r1 : w4.cell? ⟨w.heap.size, 1, none⟩ = some (.int .i64 0) := by rw [Lib.cell_of_heap zH4]; rfl
        have r2 : w4.cell? ⟨w.heap.size, 2, none⟩ = some (.string ⟨#[]⟩) := by rw [Lib.cell_of_heap zH4]; rfl
        have r3 : w4.cell? ⟨w.heap.size, 3, none⟩ = some (.slice none 0 0) := by rw [Lib.cell_of_heap zH4]; rfl
        have rf : ∀ i, w4.frozen? ⟨w.heap.size, i, none⟩ = false := Lib.frozen_of_heap zH4
        have hbr : Below w.heap.size w4 w4 := Below.refl _ _
        have hXR : ¬ (V < w.heap.size) := by omega
        have zH5 : ((((w4.setCell ⟨w.heap.size, 0, none⟩ (.int .i64 k)).setCell ⟨w.heap.size, 1, none⟩ (.int .i64 0)).setCell ⟨w.heap.size, 2, none⟩ (.string ⟨#[]⟩)).setCell ⟨w.heap.size, 3, none⟩ (.slice none 0 0)).heap[w.heap.size]? = some (.cells #[.int .i64 k, .int .i64 0, .string ⟨#[]⟩, .slice none 0 0] 41 (0, 0)) := (box_put (box_put (box_put (box_put zH4 _) _) _) _)
        have hb5 := ((((hbr.setCell (p := ⟨w.heap.size, 0, none⟩) (Nat.le_refl _) (.int .i64 k)).setCell (p := ⟨w.heap.size, 1, none⟩) (Nat.le_refl _) (.int .i64 0)).setCell (p := ⟨w.heap.size, 2, none⟩) (Nat.le_refl _) (.string ⟨#[]⟩)).setCell (p := ⟨w.heap.size, 3, none⟩) (Nat.le_refl _) (.slice none 0 0))
        have hq5 : ListP (fun b => V < b) none 0 [] ((((w4.setCell ⟨w.heap.size, 0, none⟩ (.int .i64 k)).setCell ⟨w.heap.size, 1, none⟩ (.int .i64 0)).setCell ⟨w.heap.size, 2, none⟩ (.string ⟨#[]⟩)).setCell ⟨w.heap.size, 3, none⟩ (.slice none 0 0)) := ListP.same (⟨fun _ => rfl, Nat.zero_le _, fun i hi => by simp at hi⟩ : ListP (fun b => V < b) none 0 [] w4) (((((SameB.refl _ w4).set (B := w.heap.size) hXR 0 (.int .i64 k)).set (B := w.heap.size) hXR 1 (.int .i64 0)).set (B := w.heap.size) hXR 2 (.string ⟨#[]⟩)).set (B := w.heap.size) hXR 3 (.slice none 0 0))
        clear hbr
        go_wp2
        generalize World.setCell _ _ _ = w5 at zH5 hb5 hq5 ⊢
        have s0 : w5.cell? ⟨w.heap.size, 0, none⟩ = some (.int .i64 k) := by rw [Lib.cell_of_heap zH5]; rfl
        have s1 : w5.cell? ⟨w.heap.size, 1, none⟩ = some (.int .i64 0) := by rw [Lib.cell_of_heap zH5]; rfl
        have s2 : w5.cell? ⟨w.heap.size, 2, none⟩ = some (.string ⟨#[]⟩) := by rw [Lib.cell_of_heap zH5]; rfl
        have s3 : w5.cell? ⟨w.heap.size, 3, none⟩ = some (.slice none 0 0) := by rw [Lib.cell_of_heap zH5]; rfl
        refine bodyPost_ret (v := .agg #[.int .i64 k, .int .i64 0, .string ⟨#[]⟩, .slice none 0 0]) (by simp [results, Tryz.results143, go_sem, s0, s1, s2, s3]) rfl ⟨⟨none, 0, rfl, hq5.mono fun b _ hb => by omega⟩, hk4.then_low hb5 (Nat.le_refl _), rd_below hrd4 hb5 hR⟩
end Go.Proofs.YtcbnefeedoabeaaGreatDoor
/- The package's reading of an attribute, a context, a subject. -/
namespace Go.Proofs.YtcbnefeedoabeaaGreatDoor
open Go Go.RowKit

set_option linter.unusedSimpArgs false in
set_option linter.unusedVariables false in
set_option maxHeartbeats 8000000 in
set_option maxRecDepth 100000 in
theorem readAttribute_any {l : List UInt8} {e : Int} {lo R : Nat} {w : World} (h : Wi.Rd l e lo R w) :
    Calls Tryz.prog 101 #[.pointer (some ⟨R, 0, none⟩)] w (DoneE eltA AEl.a AEl.agg (attrR false l e) lo R w) := by
  have hR := h.lt
  have hb0 := (Below.refl w.heap.size w).alloc (Nat.le_refl _) (.cells #[.string ⟨#[]⟩, .int .i64 0, .int .i64 0, .string ⟨#[]⟩, .slice none 0 0] 72)
  have z0 := heap_alloc_new w (.cells #[.string ⟨#[]⟩, .int .i64 0, .int .i64 0, .string ⟨#[]⟩, .slice none 0 0] 72)
  have hs0 : (w.alloc (.cells #[.string ⟨#[]⟩, .int .i64 0, .int .i64 0, .string ⟨#[]⟩, .slice none 0 0] 72)).heap.size = w.heap.size + 1 := by simp
  have h0 := rd_below h hb0 hR
  have hT := Wi.text_any 32 h0
  obtain ⟨⟨nm, l1, e1⟩, hx⟩ : ∃ x, Wi.textR 32 l e = x := ⟨_, rfl⟩
  have hv : attrR false l e = (⟨nm, (valR false l1 e1).1⟩, (valR false l1 e1).2) := by unfold attrR; rw [hx]
  rw [hx] at hT
  rw [hv]
  simp only at hT
  obtain ⟨r, hr⟩ : ∃ r, valR false l1 e1 = r := ⟨_, rfl⟩
  have hV := fun w (h : Wi.Rd l1 e1 lo R w) => readValue_any h
  rw [hr]
  simp only [hr] at hV
  obtain ⟨⟨k, n, t, L⟩, l2, e2⟩ := r
  simp only at hV ⊢
  replace hT := Lib.hid hT
  replace hV := Lib.hid hV
  clear hx hv hr h h0
  go_enter Tryz.func101, Tryz.ntmps101
  go_upto_region 1 with (fail)
  generalize w.alloc (.cells #[.string ⟨#[]⟩, .int .i64 0, .int .i64 0, .string ⟨#[]⟩, .slice none 0 0] 72) = w0 at hb0 z0 hs0 hT ⊢
  go_wp2_with (first
    | (go_at_call 99; refine hT.out.mono ?_; rintro en w1 ⟨rfl, hk1, hrd1⟩; have hs1 := hk1.size; have z1 := (hk1.block w.heap.size (by omega) (by omega)).trans z0; have hV1 := Lib.hid (hV.out w1 hrd1))
    | (go_at_call 143; refine hV1.out.mono ?_; rintro en w2 ⟨⟨q, d, rfl, hq⟩, hk2, hrd2⟩; unfold Val.agg; have z2 := (hk2.block w.heap.size (by omega) (by omega)).trans z1; have r0 : w2.cell? ⟨w.heap.size, 0, none⟩ = some (.string ⟨#[]⟩) := (by rw [Lib.cell_of_heap z2]; rfl); have r1 : w2.cell? ⟨w.heap.size, 1, none⟩ = some (.int .i64 0) := (by rw [Lib.cell_of_heap z2]; rfl); have r2 : w2.cell? ⟨w.heap.size, 2, none⟩ = some (.int .i64 0) := (by rw [Lib.cell_of_heap z2]; rfl); have r3 : w2.cell? ⟨w.heap.size, 3, none⟩ = some (.string ⟨#[]⟩) := (by rw [Lib.cell_of_heap z2]; rfl); have r4 : w2.cell? ⟨w.heap.size, 4, none⟩ = some (.slice none 0 0) := (by rw [Lib.cell_of_heap z2]; rfl); have rf : ∀ i, w2.frozen? ⟨w.heap.size, i, none⟩ = false := Lib.frozen_of_heap z2))
  have hXR : ¬ (w1.heap.size ≤ w.heap.size) := by omega
  have z5 : (((((w2.setCell ⟨w.heap.size, 0, none⟩ (.string nm)).setCell ⟨w.heap.size, 1, none⟩ (.int .i64 k)).setCell ⟨w.heap.size, 2, none⟩ (.int .i64 n)).setCell ⟨w.heap.size, 3, none⟩ (.string t)).setCell ⟨w.heap.size, 4, none⟩ (.slice q (L.length : Nat) d)).heap[w.heap.size]? = some (.cells #[.string nm, .int .i64 k, .int .i64 n, .string t, .slice q (L.length : Nat) d] 72 (0, 0)) := (box_put (box_put (box_put (box_put (box_put z2 _) _) _) _) _)
  have hb5 := ((((((Below.refl w.heap.size w2).setCell (p := ⟨w.heap.size, 0, none⟩) (Nat.le_refl _) (.string nm)).setCell (p := ⟨w.heap.size, 1, none⟩) (Nat.le_refl _) (.int .i64 k)).setCell (p := ⟨w.heap.size, 2, none⟩) (Nat.le_refl _) (.int .i64 n)).setCell (p := ⟨w.heap.size, 3, none⟩) (Nat.le_refl _) (.string t)).setCell (p := ⟨w.heap.size, 4, none⟩) (Nat.le_refl _) (.slice q (L.length : Nat) d))
  have hq5 : ListP (fun b => w1.heap.size ≤ b) q d L _ := ListP.same hq ((((((SameB.refl _ w2).set (B := w.heap.size) hXR 0 (.string nm)).set (B := w.heap.size) hXR 1 (.int .i64 k)).set (B := w.heap.size) hXR 2 (.int .i64 n)).set (B := w.heap.size) hXR 3 (.string t)).set (B := w.heap.size) hXR 4 (.slice q (L.length : Nat) d))
  have hk02 : Kept R w w2 := ((Kept.of_below hb0).trans hk1).trans hk2
  generalize World.setCell _ _ _ = w5 at z5 hb5 hq5 ⊢
  have s0 : w5.cell? ⟨w.heap.size, 0, none⟩ = some (.string nm) := (by rw [Lib.cell_of_heap z5]; rfl); have s1 : w5.cell? ⟨w.heap.size, 1, none⟩ = some (.int .i64 k) := (by rw [Lib.cell_of_heap z5]; rfl); have s2 : w5.cell? ⟨w.heap.size, 2, none⟩ = some (.int .i64 n) := (by rw [Lib.cell_of_heap z5]; rfl); have s3 : w5.cell? ⟨w.heap.size, 3, none⟩ = some (.string t) := (by rw [Lib.cell_of_heap z5]; rfl); have s4 : w5.cell? ⟨w.heap.size, 4, none⟩ = some (.slice q (L.length : Nat) d) := (by rw [Lib.cell_of_heap z5]; rfl)
  refine bodyPost_ret (v := .agg #[.string nm, .int .i64 k, .int .i64 n, .string t, .slice q (L.length : Nat) d]) (by simp [results, Tryz.results101, go_sem, s0, s1, s2, s3, s4]) rfl ⟨⟨⟨nm, ⟨k, n, t, L⟩⟩, q, d⟩, rfl, rfl, hq5.mono fun b _ hb => by omega, hk02.then_low hb5 (Nat.le_refl _), rd_below hrd2 hb5 hR⟩
set_option linter.unusedSimpArgs false in
set_option linter.unusedVariables false in
set_option maxHeartbeats 8000000 in
set_option maxRecDepth 100000 in
theorem readContext_any {l : List UInt8} {e : Int} {lo R : Nat} {w : World} (h : Wi.Rd l e lo R w) :
    Calls Tryz.prog 58 #[.pointer (some ⟨R, 0, none⟩)] w (DoneE eltC CEl.x CEl.agg (ctxR false l e) lo R w) := by
  have hR := h.lt
  have hb0 := (Below.refl w.heap.size w).alloc (Nat.le_refl _) (.cells #[.string ⟨#[]⟩, .string ⟨#[]⟩, .slice none 0 0] 63)
  have z0 := heap_alloc_new w (.cells #[.string ⟨#[]⟩, .string ⟨#[]⟩, .slice none 0 0] 63)
  have hs0 : (w.alloc (.cells #[.string ⟨#[]⟩, .string ⟨#[]⟩, .slice none 0 0] 63)).heap.size = w.heap.size + 1 := by simp
  have h0 := rd_below h hb0 hR
  have hT := Wi.text_any 32 h0
  obtain ⟨⟨nm, l1, e1⟩, hx⟩ : ∃ x, Wi.textR 32 l e = x := ⟨_, rfl⟩
  obtain ⟨⟨ky, l2, e2⟩, hy⟩ : ∃ x, strR l1 e1 = x := ⟨_, rfl⟩
  have hv : ctxR false l e = (⟨nm, ky, (listR 20 (attrR false) l2 e2).1⟩, (listR 20 (attrR false) l2 e2).2) := by
    unfold ctxR restR
    rw [hx]
    show (_, _) = _
    rw [hy]
  have hY := fun w (h : Wi.Rd l1 e1 lo R w) => Wi.text_any 200 h
  rw [hx] at hT
  rw [hv]
  have hy' : Wi.textR 200 l1 e1 = (ky, l2, e2) := hy
  simp only [hy'] at hY
  simp only at hT
  obtain ⟨r, hr⟩ : ∃ r, listR 20 (attrR false) l2 e2 = r := ⟨_, rfl⟩
  have hV := fun w (h : Wi.Rd l2 e2 lo R w) => readAttrs_any (f := attrR false) 20 (by decide) h fun l e w h => readAttribute_any h
  have hr' : listR (20 : Nat) (attrR false) l2 e2 = r := hr
  rw [hr]
  simp only [hr'] at hV
  obtain ⟨L, l3, e3⟩ := r
  simp only at hV ⊢
  replace hT := Lib.hid hT
  replace hY := Lib.hid hY
  replace hV := Lib.hid hV
  clear hx hv hr hr' h h0 hy hy'
  go_enter Tryz.func58, Tryz.ntmps58
  go_upto_region 1 with (fail)
  generalize w.alloc (.cells #[.string ⟨#[]⟩, .string ⟨#[]⟩, .slice none 0 0] 63) = w0 at hb0 z0 hs0 hT ⊢
  go_upto_region 2 with (go_at_call 99; refine hT.out.mono ?_; rintro en w1 ⟨rfl, hk1, hrd1⟩)
  have hY1 := Lib.hid (hY.out w1 hrd1)
  go_upto_region 3 with (go_at_call 99; refine hY1.out.mono ?_; rintro en w2 ⟨rfl, hk2, hrd2⟩)
  have hV1 := Lib.hid (hV.out w2 hrd2)
  have hs1 := hk1.size
  have hs2 := hk2.size
  have z2 := (hk2.block w.heap.size (by omega) (by omega)).trans ((hk1.block w.heap.size (by omega) (by omega)).trans z0)
  go_wp2_with (go_at_call 100; refine hV1.out.mono ?_; rintro en w3 ⟨⟨q, rfl, hq⟩, hk3, hrd3⟩; have z3 := (hk3.block w.heap.size (by omega) (by omega)).trans z2; have r0 : w3.cell? ⟨w.heap.size, 0, none⟩ = some (.string ⟨#[]⟩) := (by rw [Lib.cell_of_heap z3]; rfl); have r1 : w3.cell? ⟨w.heap.size, 1, none⟩ = some (.string ⟨#[]⟩) := (by rw [Lib.cell_of_heap z3]; rfl); have r2 : w3.cell? ⟨w.heap.size, 2, none⟩ = some (.slice none 0 0) := (by rw [Lib.cell_of_heap z3]; rfl); have rf : ∀ i, w3.frozen? ⟨w.heap.size, i, none⟩ = false := Lib.frozen_of_heap z3)
  have hXR : ¬ (w2.heap.size ≤ w.heap.size) := by omega
  have z5 : (((w3.setCell ⟨w.heap.size, 0, none⟩ (.string nm)).setCell ⟨w.heap.size, 1, none⟩ (.string ky)).setCell ⟨w.heap.size, 2, none⟩ (.slice q (L.length : Nat) L.length)).heap[w.heap.size]? = some (.cells #[.string nm, .string ky, .slice q (L.length : Nat) L.length] 63 (0, 0)) := (box_put (box_put (box_put z3 _) _) _)
  have hb5 := ((((Below.refl w.heap.size w3).setCell (p := ⟨w.heap.size, 0, none⟩) (Nat.le_refl _) (.string nm)).setCell (p := ⟨w.heap.size, 1, none⟩) (Nat.le_refl _) (.string ky)).setCell (p := ⟨w.heap.size, 2, none⟩) (Nat.le_refl _) (.slice q (L.length : Nat) L.length))
  have hq5 : AttrsP (fun b => w2.heap.size ≤ b) q L.length L _ := AttrsP.same hq ((((SameB.refl _ w3).set (B := w.heap.size) hXR 0 (.string nm)).set (B := w.heap.size) hXR 1 (.string ky)).set (B := w.heap.size) hXR 2 (.slice q (L.length : Nat) L.length))
  have hk03 : Kept R w w3 := (((Kept.of_below hb0).trans hk1).trans hk2).trans hk3
  generalize World.setCell _ _ _ = w5 at z5 hb5 hq5 ⊢
  have s0 : w5.cell? ⟨w.heap.size, 0, none⟩ = some (.string nm) := (by rw [Lib.cell_of_heap z5]; rfl); have s1 : w5.cell? ⟨w.heap.size, 1, none⟩ = some (.string ky) := (by rw [Lib.cell_of_heap z5]; rfl); have s2 : w5.cell? ⟨w.heap.size, 2, none⟩ = some (.slice q (L.length : Nat) L.length) := (by rw [Lib.cell_of_heap z5]; rfl)
  refine bodyPost_ret (v := .agg #[.string nm, .string ky, .slice q (L.length : Nat) L.length]) (by simp [results, Tryz.results58, go_sem, s0, s1, s2]) rfl ⟨⟨⟨nm, ky, L⟩, q, L.length⟩, rfl, rfl, hq5.mono fun b _ hb => by omega, hk03.then_low hb5 (Nat.le_refl _), rd_below hrd3 hb5 hR⟩
set_option linter.unusedSimpArgs false in
set_option linter.unusedVariables false in
set_option maxHeartbeats 8000000 in
set_option maxRecDepth 100000 in
theorem decode_any {a0 : Option Addr} {l : List UInt8} {cap : Nat} {w : World} (E : Env w) (hl : l.length ≤ 1000000) (hS : Wi.Src a0 l cap w) :
    Calls Tryz.prog 25 #[.slice a0 (l.length : Nat) cap] w fun en w' => (∃ (q : Option Addr) (d : Nat), en = .returned (.tuple #[.agg #[.slice q ((decR false l).1.length : Nat) d], .int .i64 (decR false l).2]) ∧ CtxsP (fun b => w.heap.size ≤ b) q d (decR false l).1 w') ∧ Below w.heap.size w w' := by
  have hb0 := (Below.refl w.heap.size w).alloc (Nat.le_refl _) (.cells #[.slice none 0 0] 25)
  have z0 := heap_alloc_new w (.cells #[.slice none 0 0] 25)
  have hs0 : (w.alloc (.cells #[.slice none 0 0] 25)).heap.size = w.heap.size + 1 := by simp
  have hN := Lib.hid (Wi.new_any hl (hS.below (Nat.le_refl _) hb0))
  have hti := subjR_tiny false l
  have hdr : decR false l = if Wi.endR (subjR false l).2.1 (subjR false l).2.2 = 0 ∧ subjE (subjR false l).1 = 0 then ((subjR false l).1, 0) else ([], 1) := rfl
  obtain ⟨r, hr⟩ : ∃ r, subjR false l = r := ⟨_, rfl⟩
  have hV := fun lo R w (h : Wi.Rd l 0 lo R w) => readCtxs_any (f := ctxR false) 4 (by decide) h fun l e w h => readContext_any h
  have hr' : listR (4 : Nat) (ctxR false) l 0 = r := hr
  rw [hr] at hdr hti
  simp only [hr'] at hV
  obtain ⟨L, l2, e2⟩ := r
  simp only at hV hdr hti
  obtain ⟨dd, hdd⟩ : ∃ dd, decR false l = dd := ⟨_, rfl⟩
  rw [hdd] at hdr ⊢
  replace hdr := Lib.hid hdr
  replace hV := Lib.hid hV
  clear hr hr' hS hdd
  go_enter Tryz.func25, Tryz.ntmps25
  go_upto_region 1 with (fail)
  generalize w.alloc (.cells #[.slice none 0 0] 25) = w0 at hb0 z0 hs0 hN ⊢
  go_upto_region 2 with (go_at_call 56; refine hN.out.mono ?_; rintro en w1 ⟨R, rfl, hR0, hrd1, hb1⟩)
  have hs1 := hb1.size
  have hRw := hrd1.lt
  have hV1 := Lib.hid (hV.out _ _ _ hrd1)
  have z1 := (hb1.block w.heap.size (by omega)).trans z0
  go_upto_region 3 with (go_at_call 57; refine hV1.out.mono ?_; rintro en w2 ⟨⟨q, rfl, hq⟩, hk2, hrd2⟩)
  have hs2 := hk2.size
  have z2 := (hk2.block w.heap.size (by omega) (by omega)).trans z1
  have hb3 := (Below.refl w2.heap.size w2).alloc (Nat.le_refl _) (.cells #[.slice q (L.length : Nat) L.length] 25)
  have z3 := heap_alloc_new w2 (.cells #[.slice q (L.length : Nat) L.length] 25)
  generalize w2.alloc (.cells #[.slice q (L.length : Nat) L.length] 25) = w3 at hb3 z3 ⊢
  have hVs : w2.heap.size < w3.heap.size := (Array.getElem?_eq_some_iff.1 z3).1
  have hB3 : Below w.heap.size w w3 := (hb0.trans (hb1.mono (by omega))).trans ((hk2.below (by omega) (by omega)).trans (hb3.mono (by omega)))
  have zH3 := (hb3.block w.heap.size (by omega)).trans z2
  have hrd3 := rd_below hrd2 hb3 hrd2.lt
  have hq3 := CtxsP.same hq (SameB.of_below hb3)
  have hEnd := Lib.hid (Wi.end_any hrd3)
  have hCk := Lib.hid (check_subject q L.length L w3 (E.below hB3) hq3 (fun x hx => (hti.2 x hx).fit) (by have := hti.1; omega))
  have c3 : w3.cell? ⟨w2.heap.size, 0, none⟩ = some (.slice q L.length L.length) := by rw [Lib.cell_of_heap z3]; rfl
  have r3 : w3.cell? ⟨w.heap.size, 0, none⟩ = some (.slice none 0 0) := by rw [Lib.cell_of_heap zH3]; rfl
  have rf3 : ∀ i, w3.frozen? ⟨w.heap.size, i, none⟩ = false := Lib.frozen_of_heap zH3
  have hV0 : w.heap.size < w2.heap.size := by omega
  clear hV hV1 hrd2 hrd1 hq hb3 hb1 hb0 hN z0 z1 z2 hk2 hrd3 hti
  by_cases hg : Wi.endR l2 e2 = 0 ∧ subjE L = 0
  · obtain rfl := hdr.out.trans (if_pos hg)
    obtain ⟨he, hc⟩ := hg
    rw [he] at hEnd
    rw [hc] at hCk
    clear hdr
    go_wp2_with (first
      | (go_at_call 59; refine hEnd.out.mono ?_; rintro en w4 ⟨rfl, rfl⟩)
      | (go_at_call 29; refine hCk.out.mono ?_; rintro en w5 ⟨rfl, hb5⟩; have z5 := (hb5.block w.heap.size (by omega)).trans zH3; have v5 := (hb5.cell (p := ⟨w2.heap.size, 0, none⟩) hVs).trans c3; have r5 : w5.cell? ⟨w.heap.size, 0, none⟩ = some (.slice none 0 0) := (by rw [Lib.cell_of_heap z5]; rfl); have rf5 : ∀ i, w5.frozen? ⟨w.heap.size, i, none⟩ = false := Lib.frozen_of_heap z5))
    have z6 : (w5.setCell ⟨w.heap.size, 0, none⟩ (.slice q (L.length : Nat) L.length)).heap[w.heap.size]? = some (.cells #[.slice q (L.length : Nat) L.length] 25 (0, 0)) := box_put z5 _
    have hb6 := (hB3.trans (hb5.mono (by omega))).setCell (p := ⟨w.heap.size, 0, none⟩) (Nat.le_refl _) (.slice q (L.length : Nat) L.length)
    have hXR : ¬ (w1.heap.size ≤ w.heap.size) := by omega
    have hq6 : CtxsP (fun b => w1.heap.size ≤ b) q L.length L _ := CtxsP.same (CtxsP.same hq3 (SameB.of_below hb5)) ((SameB.refl _ w5).set (B := w.heap.size) hXR 0 (.slice q (L.length : Nat) L.length))
    generalize World.setCell _ _ _ = w6 at z6 hb6 hq6 ⊢
    have s0 : w6.cell? ⟨w.heap.size, 0, none⟩ = some (.slice q (L.length : Nat) L.length) := by rw [Lib.cell_of_heap z6]; rfl
    refine bodyPost_ret (v := .tuple #[.agg #[.slice q (L.length : Nat) L.length], .int .i64 0]) (by simp [results, Tryz.results25, go_sem, s0]) rfl ⟨⟨q, L.length, rfl, hq6.mono fun b _ hb => by omega⟩, hb6⟩
  · obtain rfl := hdr.out.trans (if_neg hg)
    clear hdr
    have hfin : ∀ w5, Below w3.heap.size w3 w5 → ∃ w6, w6 = w5.setCell ⟨w.heap.size, 0, none⟩ (.slice none 0 0) ∧ w6.cell? ⟨w.heap.size, 0, none⟩ = some (.slice none 0 0) ∧ Below w.heap.size w w6 := fun w5 hb5 => by
      have z5 := (hb5.block w.heap.size (by omega)).trans zH3
      refine ⟨_, rfl, ?_, (hB3.trans (hb5.mono (by omega))).setCell (p := ⟨w.heap.size, 0, none⟩) (Nat.le_refl _) (.slice none 0 0)⟩
      rw [Lib.cell_of_heap (box_put z5 (i := 0) (.slice none 0 0))]
      rfl
    replace hfin := Lib.hid hfin
    by_cases he : Wi.endR l2 e2 = 0
    · have hc : subjE L ≠ 0 := fun h => hg ⟨he, h⟩
      have hcb : (subjE L == 0) = false := by simp [hc]
      rw [he] at hEnd
      generalize subjE L = ce at hc hcb hCk
      clear hg
      go_wp2_with (first
        | (go_at_call 59; refine hEnd.out.mono ?_; rintro en w4 ⟨rfl, rfl⟩)
        | (go_at_call 29; refine hCk.out.mono ?_; rintro en w5 ⟨rfl, hb5⟩; have z5 := (hb5.block w.heap.size (by omega)).trans zH3; have r5 : w5.cell? ⟨w.heap.size, 0, none⟩ = some (.slice none 0 0) := (by rw [Lib.cell_of_heap z5]; rfl); have rf5 : ∀ i, w5.frozen? ⟨w.heap.size, i, none⟩ = false := Lib.frozen_of_heap z5))
      obtain ⟨w6, hw6, s0, hb6⟩ := hfin.out w5 hb5
      rw [← hw6]
      refine bodyPost_ret (v := .tuple #[.agg #[.slice none 0 0], .int .i64 1]) (by simp [results, Tryz.results25, go_sem, s0]) rfl ⟨⟨none, 0, rfl, ⟨fun _ => rfl, Nat.zero_le _, fun i hi => by simp at hi⟩⟩, hb6⟩
    · have heb : (Wi.endR l2 e2 == 0) = false := by simp [he]
      generalize Wi.endR l2 e2 = ee at he heb hEnd
      clear hg hCk
      go_wp2_with (go_at_call 59; refine hEnd.out.mono ?_; rintro en w4 ⟨rfl, rfl⟩)
      obtain ⟨w6, hw6, s0, hb6⟩ := hfin.out w3 (Below.refl _ _)
      rw [← hw6]
      refine bodyPost_ret (v := .tuple #[.agg #[.slice none 0 0], .int .i64 1]) (by simp [results, Tryz.results25, go_sem, s0]) rfl ⟨⟨none, 0, rfl, ⟨fun _ => rfl, Nat.zero_le _, fun i hi => by simp at hi⟩⟩, hb6⟩
end Go.Proofs.YtcbnefeedoabeaaGreatDoor
