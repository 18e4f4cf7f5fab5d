/-
  What a copier holds, and the contract of newCopier. Condition: the arena's rows are as the document's list of things says.
-/
import Derived.Test.YtcfepiihjbbnaaaMoveWalks1
namespace Go.Proofs.Ytcfepiihjbbnaaa
open Go.RowKit Go.Maps
namespace MW
open AW AP
abbrev K (x : Int) : Lit := .int .u64 x
/-- The map of what was copied. -/
def MapOk (ts : List Th) (s : MP.St) (D : DataW Unit) : Prop := ∀ x, WP.U x → ∀ i, AW.look ts x = some i →
  (MP.pos s.od i = none → Maps.has D (K x) = false) ∧ (∀ p, MP.pos s.od i = some p → Maps.has D (K x) = true ∧ D.atKey (K x) (.lit (K 0)) = .lit (K (pl s.us p)))
abbrev Owns (w : World) (mb k : Nat) (D : DataW Unit) : Prop := w.ownsMap Try.prog 42 (plainElem Try.prog 42) mb k D
theorem owns_lt {w : World} {mb k : Nat} {D : DataW Unit} (h : Owns w mb k D) : mb < w.heap.size := by
  obtain ⟨es, clock, hb, _⟩ := h
  rcases Nat.lt_or_ge mb w.heap.size with hl | hl
  · exact hl
  · rw [Array.getElem?_eq_none hl] at hb; cases hb
theorem owns_far {w w' : World} {S : List Nat} {mb k : Nat} {D : DataW Unit} (h : Owns w mb k D) (f : MM.Far S w w') (hn : mb ∉ S) : Owns w' mb k D := by
  have hl := owns_lt h
  obtain ⟨es, clock, hb, r⟩ := h
  exact ⟨es, clock, by rw [f.block mb hl hn]; exact hb, r⟩
theorem owns_row {w : World} {mb k : Nat} {D : DataW Unit} (h : Owns w mb k D) {b : Nat} {t : TypeId} {l : List Value} (hr : MM.Row w b t l) : mb ≠ b := by
  obtain ⟨es, clock, hb, _⟩ := h
  intro e
  subst e
  unfold MM.Row at hr
  rw [hb] at hr; cases hr
theorem far_turned {w w' : World} {b : Nat} (h : w.mapTurned w' b) : MM.Far [b] w w' :=
  MM.Far.of_grown h.grown (by intro x hx _; cases hx; simp)
theorem look_u {ts : List Th} {x y : Int} {i : Nat} (hx : WP.U x) (hy : WP.U y) (h : AW.look ts x = some i) (h' : AW.look ts y = some i) : x = y := by
  have e : ∀ z, WP.U z → AW.look ts z = some i → z = WP.ofW 1 (WP.toN 1 z) ∧ WP.toN 1 z = (sz (ts.take i) : Nat) := by
    intro z hz hl
    obtain ⟨a, ha, _⟩ := toN_nat z hz
    have h1 := (idx_some (look_idx hl ha)).2.1
    unfold AW.look at hl
    split at hl
    · rename_i hb
      exact ⟨(WP.of_to 1 z hz hb).2.symm, by rw [ha, h1]⟩
    · cases hl
  obtain ⟨e1, e2⟩ := e x hx h
  obtain ⟨e3, e4⟩ := e y hy h'
  rw [e1, e3, e2, e4]
theorem mapok_nil (ts : List Th) : MapOk ts ⟨[], []⟩ (.map []) := by
  intro x hx i hi
  exact ⟨fun _ => rfl, fun p hp => by simp [MP.pos] at hp⟩
theorem mapok_us {ts : List Th} {s : MP.St} {D : DataW Unit} (h : MapOk ts s D) (us : List Th) (he : ∀ p, p < s.od.length → pl us p = pl s.us p) : MapOk ts ⟨us, s.od⟩ D := by
  intro x hx i hi
  obtain ⟨h1, h2⟩ := h x hx i hi
  refine ⟨h1, fun p hp => ?_⟩
  obtain ⟨h3, h4⟩ := h2 p hp
  exact ⟨h3, by rw [h4, he p (MP.pos_some hp).1]⟩
theorem key_lit (x : Int) : WideAt.IsKeyLit (K x) := by unfold WideAt.IsKeyLit; trivial
theorem mapok_new {n : Nat} {ts : List Th} {s : MP.St} {D : DataW Unit} (hI : MP.Inv n ts s) (h : MapOk ts s D) (hD : IsMap D) {x : Int} (hx : WP.U x) {i : Nat} (hi : AW.look ts x = some i) (hn : MP.pos s.od i = none) :
    MapOk ts ⟨s.us ++ [th ts i], s.od ++ [i]⟩ (D.put (K x) (.lit (K (WP.ofW 1 (sz s.us))))) := by
  intro y hy j hj
  by_cases e : j = i
  · subst e
    obtain rfl : y = x := look_u hy hx hj hi
    refine ⟨fun hp => ?_, fun p hp => ?_⟩
    · rw [MP.pos_new hn] at hp; cases hp
    · rw [MP.pos_new hn] at hp
      cases hp
      refine ⟨Maps.has_put_same hD (key_lit _) _, ?_⟩
      rw [Maps.atKey_put_same hD (key_lit _), ← hI.len, pl_len]
  · have hne : K y ≠ K x := by
      intro he
      have : y = x := by injection he
      subst this
      rw [hi] at hj
      exact e (Option.some.inj hj).symm
    obtain ⟨h1, h2⟩ := h y hy j hj
    rw [Maps.has_put_other hne, Maps.atKey_put_other hne]
    have hpp : MP.pos (s.od ++ [i]) j = MP.pos s.od j := by
      cases hp : MP.pos s.od j with
      | some p => exact MP.pos_append hp
      | none =>
        unfold MP.pos at hp ⊢
        rw [List.findIdx?_append, hp]
        have : ¬ i = j := fun h => e h.symm
        simp [this]
    simp only
    rw [hpp]
    refine ⟨h1, fun p hp => ?_⟩
    obtain ⟨h3, h4⟩ := h2 p hp
    exact ⟨h3, by rw [h4, pl_snoc _ _ (by rw [hI.len]; exact Nat.le_of_lt (MP.pos_some hp).1)]⟩
/-- A copier at block c: from the arena p, g, h (ahead of B) to the arena p', g', h', its map at mb. -/
structure Co (w : World) (B c mb p g h n : Nat) (ts : List Th) (p' g' h' : Nat) (s : MP.St) : Prop where
  inv : MP.Inv n ts s
  src : Ar w p g h n ts
  dst : Ar w p' g' h' n s.us
  head : MM.Row w c 62 [ptr p, ptr p', .map (some mb)]
  map : ∃ k D, Owns w mb k D ∧ k ≤ s.od.length ∧ MapOk ts s D
  low : p < B ∧ g < B ∧ h < B
  new : B ≤ c ∧ B ≤ mb ∧ B ≤ p' ∧ B ≤ g' ∧ B ≤ h'
section
variable {w w' : World} {B c mb p g h n p' g' h' : Nat} {ts : List Th} {s : MP.St}
theorem Co.ne (hC : Co w B c mb p g h n ts p' g' h' s) : (c ≠ mb ∧ c ≠ p' ∧ c ≠ g' ∧ c ≠ h') ∧ (mb ≠ p' ∧ mb ≠ g' ∧ mb ≠ h') := by
  obtain ⟨k, D, hO, _⟩ := hC.map
  exact ⟨⟨(owns_row hO hC.head).symm, hC.head.ne hC.dst.head (by decide), hC.head.ne hC.dst.words (by decide), hC.head.ne hC.dst.kinds (by decide)⟩,
    owns_row hO hC.dst.head, owns_row hO hC.dst.words, owns_row hO hC.dst.kinds⟩
theorem Co.far {S : List Nat} (hC : Co w B c mb p g h n ts p' g' h' s) (f : MM.Far S w w') (hS : ∀ b ∈ S, B ≤ b ∧ b ≠ c ∧ b ≠ mb ∧ b ≠ p' ∧ b ≠ g' ∧ b ≠ h') : Co w' B c mb p g h n ts p' g' h' s := by
  have hl := hC.low
  refine ⟨hC.inv, hC.src.far f ?_ ?_ ?_, hC.dst.far f ?_ ?_ ?_, hC.head.far f ?_, ?_, hC.low, hC.new⟩
  · intro hm; have := hS _ hm; omega
  · intro hm; have := hS _ hm; omega
  · intro hm; have := hS _ hm; omega
  · intro hm; exact (hS _ hm).2.2.2.1 rfl
  · intro hm; exact (hS _ hm).2.2.2.2.1 rfl
  · intro hm; exact (hS _ hm).2.2.2.2.2 rfl
  · intro hm; exact (hS _ hm).2.1 rfl
  · obtain ⟨k, D, hO, hk, hM⟩ := hC.map
    exact ⟨k, D, owns_far hO f (fun hm => (hS _ hm).2.2.1 rfl), hk, hM⟩
theorem Co.far' {S : List Nat} (hC : Co w B c mb p g h n ts p' g' h' s) (f : MM.Far S w w') (hS : ∀ b ∈ S, b ≠ p ∧ b ≠ g ∧ b ≠ h ∧ b ≠ c ∧ b ≠ mb ∧ b ≠ p' ∧ b ≠ g' ∧ b ≠ h') : Co w' B c mb p g h n ts p' g' h' s := by
  refine ⟨hC.inv, hC.src.far f ?_ ?_ ?_, hC.dst.far f ?_ ?_ ?_, hC.head.far f ?_, ?_, hC.low, hC.new⟩
  · intro hm; exact (hS _ hm).1 rfl
  · intro hm; exact (hS _ hm).2.1 rfl
  · intro hm; exact (hS _ hm).2.2.1 rfl
  · intro hm; exact (hS _ hm).2.2.2.2.2.1 rfl
  · intro hm; exact (hS _ hm).2.2.2.2.2.2.1 rfl
  · intro hm; exact (hS _ hm).2.2.2.2.2.2.2 rfl
  · intro hm; exact (hS _ hm).2.2.2.1 rfl
  · obtain ⟨k, D, hO, hk, hM⟩ := hC.map
    exact ⟨k, D, owns_far hO f (fun hm => (hS _ hm).2.2.2.2.1 rfl), hk, hM⟩
theorem Co.far_nil (hC : Co w B c mb p g h n ts p' g' h' s) (f : MM.Far [] w w') : Co w' B c mb p g h n ts p' g' h' s := hC.far f (fun b hb => by cases hb)
end
theorem new_copier {w : World} {p g h n : Nat} {ts : List Th} (hA : Ar w p g h n ts) (hn : 1 ≤ n) :
    Calls Try.prog 22 #[ptr p] w fun e w' => ∃ c mb p' g' h', e = .returned (ptr c) ∧ Co w' w.heap.size c mb p g h n ts p' g' h' ⟨[], []⟩ ∧ MM.Far [] w w' := by
  have hmm := @run_makeMap Try.prog
  have HS := Lib.hid (size_any hA)
  have HN := Lib.hid (fun w2 : World => new_ok w2 n hn hA.ok.size)
  have HA := Lib.hid hA
  clear hA
  go_enter Try.func22, Try.ntmps22
  go_wp2_with (first
    | (go_at_call 26; refine HS.out.mono ?_; rintro e w' ⟨rfl, rfl⟩)
    | (go_at_call 18; refine (HN.out _).mono ?_; rintro e w1 ⟨p', g', h', rfl, hp', hg', hh', hA1, hF1⟩; have HA1 := Lib.hid hA1; clear hA1))
  go_ret
  have s1 := hF1.size
  have hne : _ ∧ _ ∧ _ := ⟨HA1.out.head.lt, HA1.out.words.lt, HA1.out.kinds.lt⟩
  refine ⟨w1.heap.size + 1, w1.heap.size, p', g', h', rfl, ⟨MP.inv_nil n ts, ?_, ?_, ?_, ?_, ⟨HA.out.head.lt, HA.out.words.lt, HA.out.kinds.lt⟩, ?_⟩, ?_⟩
  · exact HA.out.far ((hF1.alloc _).alloc _) (by simp) (by simp) (by simp)
  · exact HA1.out.far (((MM.Far.refl [] w1).alloc _).alloc _) (by simp) (by simp) (by simp)
  · have := MM.Row.new (w1.alloc (.map #[] 0)) 62 [ptr p, ptr p', .map (some w1.heap.size)]
    rw [show (w1.alloc (.map #[] 0)).heap.size = w1.heap.size + 1 by simp] at this
    exact this
  · exact ⟨0, .map [], owns_far (World.ownsMap_made w1 _ _ _) ((MM.Far.refl [] _).alloc _) (by simp), Nat.le_refl _, mapok_nil ts⟩
  · exact ⟨by omega, s1, hp', hg', hh'⟩
  · exact (hF1.alloc _).alloc _
end MW
end Go.Proofs.Ytcfepiihjbbnaaa
