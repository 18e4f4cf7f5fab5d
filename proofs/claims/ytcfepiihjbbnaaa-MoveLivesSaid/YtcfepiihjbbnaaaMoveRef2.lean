/-
  The document's words of where things went, and the contract of its bring. Condition: its arenas are as the lists say.
-/
import Derived.Test.YtcfepiihjbbnaaaMoveRef1
import Derived.Test.YtcfepiihjbbnaaaMoveWalks3
import Derived.Deep.RegionHeld3
namespace Go.Proofs.Ytcfepiihjbbnaaa
open Go.RowKit
namespace MP
open AP AW
def wentAt (s : St) (i : Nat) : Int := match pos s.od i with | some p => pl s.us p | none => 0
/-- Where each old thing went; 0: nowhere yet. -/
def went (ts : List Th) (s : St) : List Int := (List.range ts.length).map (wentAt s)
theorem went_len (ts : List Th) (s : St) : (went ts s).length = ts.length := by simp [went]
theorem went_at {ts : List Th} (s : St) {i : Nat} (hi : i < ts.length) : (went ts s)[i]? = some (wentAt s i) := by simp [went, hi]
theorem went_nil (ts : List Th) : went ts ⟨[], []⟩ = List.replicate ts.length 0 := by
  apply List.ext_getElem?
  intro i
  by_cases hi : i < ts.length
  · rw [went_at _ hi, List.getElem?_replicate, if_pos hi]
    simp [wentAt, pos]
  · rw [List.getElem?_eq_none (by rw [went_len]; omega), List.getElem?_eq_none (by simp; omega)]
theorem went_put (ts : List Th) (s : St) (j k : Nat) (x : Int) : went ts ⟨put s.us j k x, s.od⟩ = went ts s := by
  unfold went
  apply List.map_congr_left
  intro i _
  unfold wentAt
  simp only
  cases pos s.od i with
  | none => rfl
  | some p => exact pl_put _ _ _ _ _
theorem went_new {n : Nat} {ts : List Th} {s : St} (hI : Inv n ts s) {i : Nat} (hp : pos s.od i = none) :
    went ts ⟨s.us ++ [th ts i], s.od ++ [i]⟩ = (went ts s).set i (WP.ofW 1 (sz s.us)) := by
  apply List.ext_getElem?
  intro j
  by_cases hj : j < ts.length
  · rw [went_at _ hj]
    by_cases e : j = i
    · subst e
      rw [List.getElem?_set_self (by rw [went_len]; exact hj)]
      unfold wentAt
      simp only
      rw [pos_new hp]
      simp only
      rw [← hI.len, pl_len]
    · rw [List.getElem?_set_ne (fun h => e h.symm), went_at _ hj]
      have hpp : pos (s.od ++ [i]) j = pos s.od j := by
        cases hq : pos s.od j with
        | some p => exact pos_append hq
        | none =>
          unfold pos at hq ⊢
          rw [List.findIdx?_append, hq]
          have : ¬ i = j := fun h => e h.symm
          simp [this]
      unfold wentAt
      simp only
      rw [hpp]
      cases hq : pos s.od j with
      | none => rfl
      | some p => 
        simp only
        rw [pl_snoc _ _ (by rw [hI.len]; exact Nat.le_of_lt (pos_some hq).1)]
  · rw [List.getElem?_eq_none (by rw [went_len]; omega), List.getElem?_eq_none (by simp [went_len]; omega)]
theorem pl_ne {n : Nat} {us : List Th} (hO : Ok n us) (p : Nat) : pl us p ≠ 0 := by
  intro h
  have := (pl_to hO p).1
  rw [h] at this
  exact absurd this (by decide)
end MP
namespace MW
open AW AP RP RW
theorem u64s_set (l : List Int) (i : Nat) (x : Int) : (U64s l).set i (.int .u64 x) = U64s (l.set i x) := by simp [U64s, List.map_set]
/-- The document's Live under way: from the arena at qa to that at qb. -/
structure Bg (w0 w : World) (ba qa n : Nat) (va : Value) (ts : List Th) (ha : List Value) (bb qb : Nat) (vb : Value) (hb : List Value) (wb : Nat) (s : MP.St) : Prop where
  inv : MP.Inv n ts s
  src : Rr w0 ba qa n va ts ha
  far0 : MM.Far [] w0 w
  dst : Rr w bb qb n vb s.us hb
  went : MM.Row w wb 42 (U64s (MP.went ts s))
  new : w0.heap.size ≤ wb ∧ wb < bb ∧ w0.heap.size ≤ qb
  room : bb ≤ w.heap.size
section
variable {w0 w : World} {ba qa n : Nat} {va : Value} {ts : List Th} {ha : List Value} {bb qb : Nat} {vb : Value} {hb : List Value} {wb : Nat} {s : MP.St}
theorem Bg.srcw (h : Bg w0 w ba qa n va ts ha bb qb vb hb wb s) : Rr w ba qa n va ts ha := h.src.far h.far0 (by simp)
theorem Bg.far {w' : World} {S : List Nat} (h : Bg w0 w ba qa n va ts ha bb qb vb hb wb s) (f : MM.Far S w w') (hS : ∀ b ∈ S, w0.heap.size ≤ b ∧ b ≠ wb ∧ b ≠ qb ∧ (b < bb ∨ w.heap.size ≤ b)) : Bg w0 w' ba qa n va ts ha bb qb vb hb wb s := by
  have h1 := h.new
  have h2 := h.room
  have h3 := f.size
  refine ⟨h.inv, h.src, h.far0.trans f (fun b hb hl => by have := (hS b hb).1; omega), h.dst.far f (fun b hb => (hS b hb).2.2), h.went.far f (fun hm => (hS _ hm).2.1 rfl), h.new, by omega⟩
/-- What bring answers and leaves. -/
def Brought (w0 w : World) (ba qa n : Nat) (va : Value) (ts : List Th) (ha : List Value) (bb qb : Nat) (vb : Value) (hb : List Value) (wb : Nat) (s : MP.St) (x : Int) (e : Ending) (w' : World) : Prop :=
  e = .returned (.int .u64 (MP.cwW ts s x)) ∧ ∃ vb' hb', Bg w0 w' ba qa n va ts ha bb qb vb' hb' wb (MP.cwS ts s x) ∧ MM.Far (wb :: qb :: vb.ownBlock.toList) w w' ∧ (∀ b, vb'.ownBlock = some b → vb.ownBlock = some b ∨ w.heap.size ≤ b) ∧ (∀ y ∈ hb', y ∈ hb ∨ ∀ b, y.ownBlock = some b → w.heap.size ≤ b)
theorem brought_same (hB : Bg w0 w ba qa n va ts ha bb qb vb hb wb s) {x : Int} (h1 : MP.cwS ts s x = s) {y : Int} (h2 : y = MP.cwW ts s x) : Brought w0 w ba qa n va ts ha bb qb vb hb wb s x (.returned (.int .u64 y)) w := by
  subst h2
  refine ⟨rfl, vb, hb, ?_, MM.Far.refl _ _, fun b h => .inl h, fun y h => .inl h⟩
  rw [h1]; exact hB
theorem bring_none (hB : Bg w0 w ba qa n va ts ha bb qb vb hb wb s) {N : Nat} {x : Int} (hx : WP.U x) (hl : AW.look ts x = none) :
    Calls Try.prog 25 #[ptr qa, ptr qb, .slice (some ⟨wb, 0, none⟩) N N, .int .u64 x] w (Brought w0 w ba qa n va ts ha bb qb vb hb wb s x) := by
  have HF := Lib.hid (rfind_any hB.srcw x hx)
  rw [ridx_none hl] at HF
  obtain ⟨e1, e2⟩ := MP.cw_none s hl
  have hto := Lib.hid (WW.rto_any 1 x hx w)
  have HEnd := Lib.hid (fun (y : Int) (h : y = MP.cwW ts s x) => brought_same hB e1 h)
  have HB : Hid (MP.cwW ts s x = if WP.toB 1 x = true then 26 else x) := by
    show _ = _
    rw [e2]; rfl
  clear e1 e2 hB hl hx
  obtain ⟨ok, hok⟩ : ∃ ok, WP.toB 1 x = ok := ⟨_, rfl⟩
  rw [hok] at hto HB
  clear hok
  cases ok with
  | true =>
    go_enter Try.func25, Try.ntmps25
    go_wp2_with (first
      | (go_at_call 27; refine HF.out.mono ?_; rintro e w' ⟨rfl, rfl⟩)
      | (go_at_call 29; refine hto.out.mono ?_; rintro e w' ⟨rfl, rfl⟩))
    go_ret
    exact HEnd.out _ HB.out.symm
  | false =>
    go_enter Try.func25, Try.ntmps25
    go_wp2_with (first
      | (go_at_call 27; refine HF.out.mono ?_; rintro e w' ⟨rfl, rfl⟩)
      | (go_at_call 29; refine hto.out.mono ?_; rintro e w' ⟨rfl, rfl⟩))
    go_ret
    exact HEnd.out _ HB.out.symm
theorem bring_old (hB : Bg w0 w ba qa n va ts ha bb qb vb hb wb s) {N : Nat} (hN : ts.length = N) {x : Int} (hx : WP.U x) {i p : Nat} (hl : AW.look ts x = some i) (hp : MP.pos s.od i = some p) :
    Calls Try.prog 25 #[ptr qa, ptr qb, .slice (some ⟨wb, 0, none⟩) N N, .int .u64 x] w (Brought w0 w ba qa n va ts ha bb qb vb hb wb s x) := by
  have HF := Lib.hid (rfind_any hB.srcw x hx)
  rw [ridx_some hl] at HF
  have hi := MP.look_lt hl
  obtain ⟨e1, e2⟩ := MP.cw_old hl hp
  have hcell : w.cell? ⟨wb, i, none⟩ = some (.int .u64 (pl s.us p)) := by
    refine hB.went.at ?_
    unfold U64s
    rw [List.getElem?_map, MP.went_at _ hi]
    simp only [MP.wentAt, hp]; rfl
  have hne : (pl s.us p == 0) = false := by
    rw [beq_eq_false_iff_ne]
    exact MP.pl_ne (MP.ok hB.src.ok hB.inv) p
  have HEnd := Lib.hid (fun (y : Int) (h : y = MP.cwW ts s x) => brought_same hB e1 h)
  have hN6 : ts.length ≤ 65536 := by
    have := len_le_sz ts
    have := hB.src.ok.room
    have := hB.src.ok.size
    omega
  rw [hN] at hi hN6
  have HE2 := Lib.hid e2
  generalize pl s.us p = y at HE2 hcell hne
  clear e1 e2 hB hl hx hN hp
  go_enter Try.func25, Try.ntmps25
  go_wp2_with (first
    | (go_at_call 27; refine HF.out.mono ?_; rintro e w' ⟨rfl, rfl⟩))
  go_ret
  exact HEnd.out _ HE2.out.symm
/-- Behind the new thing: its place is written down. -/
theorem brought_new {w6 : World} (hB : Bg w0 w ba qa n va ts ha bb qb vb hb wb s) {x : Int} {i : Nat} (hl : AW.look ts x = some i) (hp : MP.pos s.od i = none) {v6 : Value} {h6 : List Value}
    (hR6 : Rr w6 bb qb n v6 (s.us ++ [th ts i]) h6) (hF6 : MM.Far (qb :: vb.ownBlock.toList) w w6) (hv6 : ∀ b, v6.ownBlock = some b → vb.ownBlock = some b ∨ w.heap.size ≤ b) (hh6 : ∀ y ∈ h6, y ∈ hb ∨ ∀ b, y.ownBlock = some b → w.heap.size ≤ b) :
    (∃ o, w6.cell? ⟨wb, i, none⟩ = some o) ∧ w6.frozen? ⟨wb, i, none⟩ = false ∧ (w6.setCell ⟨wb, i, none⟩ (.int .u64 (WP.ofW 1 (sz s.us)))).cell? ⟨wb, i, none⟩ = some (.int .u64 (WP.ofW 1 (sz s.us))) ∧
    Brought w0 w ba qa n va ts ha bb qb vb hb wb s x (.returned (.int .u64 (WP.ofW 1 (sz s.us)))) (w6.setCell ⟨wb, i, none⟩ (.int .u64 (WP.ofW 1 (sz s.us)))) := by
  have hi := MP.look_lt hl
  obtain ⟨e1, e2⟩ := MP.cw_new hl hp
  have h1 := hB.new
  have h2 := hB.room
  have h3 := hF6.size
  have hlw := hB.went.lt
  have hne : wb ≠ qb := hB.went.ne hB.dst.head (by decide)
  have hvb := MM.own_lt hB.dst.row
  have hW6 := hB.went.far hF6 (fun hm => by
    rcases List.mem_cons.1 hm with e | e
    · exact hne e
    · have := hvb wb (by simpa using e)
      omega)
  have hlen : i < (U64s (MP.went ts s)).length := by simp [U64s, MP.went_len]; exact hi
  have hput := hW6.put i (.int .u64 (WP.ofW 1 (sz s.us)))
  have hone : MM.Far [wb] w6 (w6.setCell ⟨wb, i, none⟩ (.int .u64 (WP.ofW 1 (sz s.us)))) := (MM.Far.refl [wb] w6).setCell (by simp) _
  have hF : MM.Far (wb :: qb :: vb.ownBlock.toList) w (w6.setCell ⟨wb, i, none⟩ (.int .u64 (WP.ofW 1 (sz s.us)))) :=
    (hF6.mono (S' := wb :: qb :: vb.ownBlock.toList) (fun y hy _ => List.mem_cons_of_mem _ hy)).trans hone (fun y hy _ => by simp at hy; simp [hy])
  refine ⟨⟨_, (hW6.cell i).trans (List.getElem?_eq_getElem hlen)⟩, hW6.frozen i, ?_, ?_⟩
  · refine hput.at ?_
    rw [List.getElem?_set_self hlen]
  refine ⟨by rw [e2], v6, h6, ?_, hF, hv6, hh6⟩
  rw [e1]
  refine ⟨MP.inv_new hB.src.ok hB.inv hi hp, hB.src, hB.far0.trans hF (fun b hb hl => ?_), hR6.far hone (fun b hb => ?_), ?_, hB.new, ?_⟩
  · rcases List.mem_cons.1 hb with e | e
    · omega
    · rcases List.mem_cons.1 e with e | e
      · omega
      · have := hvb b (by simpa using e)
        omega
  · have : b = wb := by simpa using hb
    subst this
    exact ⟨hne, .inl h1.2.1⟩
  · rw [MP.went_new hB.inv hp]
    rw [u64s_set] at hput
    exact hput
  · have := hone.size
    omega
set_option maxHeartbeats 2000000 in
theorem bring_new (hB : Bg w0 w ba qa n va ts ha bb qb vb hb wb s) {N : Nat} (hN : ts.length = N) {x : Int} (hx : WP.U x) {i : Nat} (hl : AW.look ts x = some i) (hp : MP.pos s.od i = none) :
    Calls Try.prog 25 #[ptr qa, ptr qb, .slice (some ⟨wb, 0, none⟩) N N, .int .u64 x] w (Brought w0 w ba qa n va ts ha bb qb vb hb wb s x) := by
  have HF := Lib.hid (rfind_any hB.srcw x hx)
  rw [ridx_some hl] at HF
  have hi := MP.look_lt hl
  have hcell : w.cell? ⟨wb, i, none⟩ = some (.int .u64 0) := by
    refine hB.went.at ?_
    unfold U64s
    rw [List.getElem?_map, MP.went_at _ hi]
    simp only [MP.wentAt, hp]; rfl
  have hN6 : ts.length ≤ 65536 := by
    have := len_le_sz ts
    have := hB.src.ok.room
    have := hB.src.ok.size
    omega
  have hthi := hB.src.ok.each i hi
  have hfit := MP.fits hB.inv hi (MP.pos_none hp)
  have hroom := hB.src.ok.room
  have a20 := hB.src.head.at (i := 2) rfl
  obtain ⟨g, c', A, d, e, hg1, hg2, _, hc10, hc20, _, hkid, _⟩ := hB.src.at hi
  rw [e] at a20
  have hqa := hB.src.head.lt
  have hcs : ∀ w6, MM.Far [] w0 w6 → w6.cell? ⟨qa, 2, none⟩ = some (.slice (some ⟨g, 0, none⟩) ts.length c') ∧ w6.cell? ⟨g, i * 3 + 1, none⟩ = some (.int .i64 (th ts i).k) ∧ w6.cell? ⟨g, i * 3 + 2, none⟩ = some (.slice A (th ts i).l.length d) :=
    fun w6 f => ⟨(f.cell (p := ⟨qa, 2, none⟩) hqa (by simp)).trans a20, (f.cell (p := ⟨g, i * 3 + 1, none⟩) hg2 (by simp)).trans hc10, (f.cell (p := ⟨g, i * 3 + 2, none⟩) hg2 (by simp)).trans hc20⟩
  obtain ⟨a2, hc1, hc2⟩ := hcs w hB.far0
  have hnb := hB.new
  have hvb := MM.own_lt hB.dst.row
  have hrm := hB.room
  have hfar0 := hB.far0
  have HCs := Lib.hid (fun (w6 : World) (f : MM.Far (qb :: vb.ownBlock.toList) w w6) => hcs w6 (hfar0.trans f (fun b hb hl => by
    rcases List.mem_cons.1 hb with e | e
    · omega
    · have := hvb b (by simpa using e)
      omega)))
  obtain ⟨A', d', he', hnil, _, _, hsrc, _⟩ := MO.form hkid
  obtain ⟨rfl, _, rfl⟩ : A = A' ∧ True ∧ d = d' := by injection he' with h1 h2 h3; exact ⟨h1, trivial, h3⟩
  have hsrc := hsrc [] (by simp)
  have hnil2 : A = none → d = 0 ∧ (th ts i).l.length = 0 := fun h => ⟨hnil h, by
    by_cases h0 : 0 < (th ts i).l.length
    · obtain ⟨ad, e2, _⟩ := hsrc (by simpa [U64s] using h0)
      rw [h] at e2; cases e2
    · omega⟩
  have HAl := Lib.hid (fun (w5 : World) (hF : MM.Far [] w w5) =>
    ralloc_far (hB.dst.far hF (by simp)) (by have := hF.size; have := hB.room; omega) (th ts i).k A d (th ts i).l hthi.1 hthi.2.1 hthi.2.2.1 (by omega) hthi.2.2.2 hnil2 (hsrc.far (hfar0.trans hF (by simp)) (by simp)))
  have HEnd := Lib.hid (fun (w6 : World) (v6 : Value) (h6 : List Value) (a1 : Rr w6 bb qb n v6 (s.us ++ [th ts i]) h6) a2 a3 => brought_new hB hl hp a1 a2 a3)
  have hd : MM.Far [] w w.drew := (MM.Far.refl [] w).drew
  have HD := Lib.hid hd
  have HS := Lib.hid (show w.heap.size ≤ w.drew.heap.size from hd.size)
  have hg63 : i ≤ 9223372036854775807 := by omega
  rw [hN] at a2 hi hN6 HCs
  clear hcs a20 hc10 hc20 hqa hnb hvb hrm hfar0 hB hl hx hN hp hthi hfit hroom e hkid he' hnil hsrc hnil2 hd hg1 hg2
  generalize WP.ofW 1 (sz s.us) = y at HAl HEnd
  go_enter Try.func25, Try.ntmps25
  go_wp2_with (first
    | (go_at_call 27; refine HF.out.mono ?_; rintro e w' ⟨rfl, rfl⟩))
  go_region_held3 (fun w' => w'.cell? ⟨qa, 2, none⟩ = some (.slice (some ⟨g, 0, none⟩) N c') ∧ w'.cell? ⟨g, i * 3 + 1, none⟩ = some (.int .i64 (th ts i).k) ∧ w'.cell? ⟨g, i * 3 + 2, none⟩ = some (.slice A (th ts i).l.length d)) (go_keep) (first
    | (go_at_call 21
       (with_reducible refine (HAl.out _ HD.out).mono ?_)
       rintro e w6 ⟨rfl, v6, h6, hR6, hF6, hv6, hh6⟩
       have hF60 := (HD.out.mono (by simp)).trans hF6 (fun y hy _ => hy)
       obtain ⟨k1, k2, k3⟩ := HCs.out w6 hF60
       have HE := Lib.hid (HEnd.out w6 v6 h6 hR6 hF60 (fun b hb => (hv6 b hb).imp id (fun h => Nat.le_trans HS.out h)) (fun y hy => (hh6 y hy).imp id (fun h b hb => Nat.le_trans HS.out (h b hb))))
       obtain ⟨o6, ho6⟩ := HE.out.1
       have hz6 := HE.out.2.1
       have hr6 := HE.out.2.2.1
       clear hR6 hF6 hF60 hv6 hh6))
  all_goals
    go_wp2_with (fail)
    go_ret
    exact HE.out.2.2.2
theorem bring_any (hB : Bg w0 w ba qa n va ts ha bb qb vb hb wb s) {N : Nat} (hN : ts.length = N) {x : Int} (hx : WP.U x) :
    Calls Try.prog 25 #[ptr qa, ptr qb, .slice (some ⟨wb, 0, none⟩) N N, .int .u64 x] w (Brought w0 w ba qa n va ts ha bb qb vb hb wb s x) := by
  cases hl : AW.look ts x with
  | none => exact bring_none hB hx hl
  | some i =>
    cases hp : MP.pos s.od i with
    | some p => exact bring_old hB hN hx hl hp
    | none => exact bring_new hB hN hx hl hp
end
end MW
end Go.Proofs.Ytcfepiihjbbnaaa
