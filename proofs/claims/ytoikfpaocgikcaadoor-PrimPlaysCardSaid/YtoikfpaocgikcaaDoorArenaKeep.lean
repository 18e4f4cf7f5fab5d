/-
  Facts for the walk of ArenaKeeps: what holds of the things, their places and their words, step by step. Condition: the rows lie apart, as made.
-/
import Derived.Test.YtoikfpaocgikcaaDoorArenaLaws2
import Derived.Test.YtoikfpaocgikcaaDoorArenaPl
import Derived.Test.YtoikfpaocgikcaaDoorNest
import Derived.Deep.QuietTactic
import Derived.BigQuiet
namespace Go.Proofs.YtoikfpaocgikcaaDoor
open Go.RowKit
namespace AL
open AW
theorem head_info : (Tryd.prog.info? 32).map (fun i => (i.zero, i.size, i.bytes)) = some (some (.slice none 0 0), 1, 24) := by kernel_rfl
/-- What holds of the things, their places and their words as they were handed over. -/
structure Inv (w : World) (base p g h : Nat) (pv wv : Value) (ts : List AP.Th) (hs : List Value) : Prop where
  ar : Ar w p g h 300 ts
  kind : ∀ i, i < ts.length → (AP.th ts i).k = (i : Int) % 9 + 1 ∧ (AP.th ts i).l.length ≤ 8
  places : w.ownsRow base 36 1 pv ts.length (U64s (pls ts))
  heads : w.ownsRow base 32 1 wv ts.length hs
  kids : MN.Kids w base 36 hs (ts.map fun t => U64s t.l)
  apart : ∀ b, pv.ownBlock = some b → ∀ x ∈ hs, x.ownBlock ≠ some b
theorem Inv.far {w w' : World} {base p g h : Nat} {pv wv : Value} {ts : List AP.Th} {hs : List Value} (i : Inv w base p g h pv wv ts hs) {S : List Nat} (f : MM.Far S w w') (hS : ∀ b ∈ S, w.heap.size ≤ b) : Inv w' base p g h pv wv ts hs :=
  ⟨i.ar.far f (fun hm => by have := hS _ hm; have := i.ar.head.lt; omega) (fun hm => by have := hS _ hm; have := i.ar.words.lt; omega) (fun hm => by have := hS _ hm; have := i.ar.kinds.lt; omega), i.kind,
   MM.own_far i.places f (fun b hb hm => by have := hS _ hm; have := MM.own_lt i.places b hb; omega), MM.own_far i.heads f (fun b hb hm => by have := hS _ hm; have := MM.own_lt i.heads b hb; omega),
   i.kids.far f (fun x hx b hb hm => by have := hS _ hm; have := i.kids.low x hx b hb; omega), i.apart⟩
/-- What lay there before the call reads as before, and lies in none of the blocks made since. -/
theorem take_old {w wr : World} {A : Option Addr} {l c : Nat} {zs : List Int} {S : List Nat} (hi : MR.Ints .u64 w A l c zs) (hF : MM.Far [] w wr) (hS : ∀ b ∈ S, w.heap.size ≤ b) (k : Nat) : MM.Src wr S A (U64s (zs.take k)) := by
  have h := take_src hi (MM.Far.refl [] w) k
  have h2 : MM.Src w S A (U64s (zs.take k)) := by
    intro hp
    obtain ⟨ad, e, _, hl, hc⟩ := h hp
    exact ⟨ad, e, fun hm => by have := hS _ hm; omega, hl, hc⟩
  exact h2.far hF (by simp)
theorem grown_far {w w' : World} {o : Obj} {v : Value} (h : (w.alloc o).grownBy w' v.ownBlock) : MM.Far v.ownBlock.toList w w' :=
  ((MM.Far.refl _ w).alloc o).trans (MM.Far.of_grown (S := v.ownBlock.toList) h (by intro b hb _; simp [hb])) (fun b hb _ => hb)
theorem mid {wr wA wC wE : World} {B p g h : Nat} {pv wv : Value} {ts : List AP.Th} {hs : List Value} (hI : Inv wr B p g h pv wv ts hs) (hb : p < B ∧ g < B ∧ h < B)
    (F1 : MM.Far [p, g, h] wr wA) (F2 : MM.Far pv.ownBlock.toList wA wC) (F3 : MM.Far [wC.heap.size] wC wE) :
    wE.ownsRow B 32 1 wv ts.length hs ∧ MN.Kids wE B 36 hs (ts.map fun t => U64s t.l) := by
  have h1 := MM.own_far hI.heads F1 (fun b hb1 hm => by have := MM.own_lt hI.heads b hb1; simp at hm; omega)
  have p1 := MM.own_far hI.places F1 (fun b hb1 hm => by have := MM.own_lt hI.places b hb1; simp at hm; omega)
  have h2 := MM.own_far h1 F2 (fun b hb1 hm => MM.own_own_ne h1 p1 (by decide) b hb1 (by simpa using hm))
  have k1 := hI.kids.far_low F1 (fun b hm => by simp at hm; omega)
  have k2 := k1.far F2 (fun x hx b hb1 hm => hI.apart b (by simpa using hm) x hx hb1)
  exact ⟨MM.own_far h2 F3 (fun b hb1 hm => by have := MM.own_lt h2 b hb1; simp at hm; omega), k2.far F3 (fun x hx b hb1 hm => by have := k2.low x hx b hb1; simp at hm; omega)⟩
theorem step {wr wA wC wE wG : World} {B p g h : Nat} {pv wv pv1 wv1 v2 : Value} {ts : List AP.Th} {hs : List Value} {L : List Int} {n : Nat} (hI : Inv wr B p g h pv wv ts hs) (hb : p < B ∧ g < B ∧ h < B) (hm8 : L.length ≤ 8) (hn : n = L.length)
    (hA : Ar wA p g h 300 (ts ++ [⟨(ts.length : Int) % 9 + 1, L⟩])) (F1 : MM.Far [p, g, h] wr wA) (F2 : MM.Far pv.ownBlock.toList wA wC) (F3 : MM.Far [wC.heap.size] wC wE) (F4 : MM.Far wv.ownBlock.toList wE wG)
    (hp : wC.ownsRow B 36 1 pv1 (ts.length + 1) (U64s (pls ts ++ [WP.ofW 1 (AP.sz ts)]))) (hpn : pv1.ownBlock = pv.ownBlock ∨ ∃ b, pv1.ownBlock = some b ∧ wA.heap.size ≤ b)
    (hv : wE.ownsRow B 36 1 v2 n (U64s L)) (hvn : ∀ b, v2.ownBlock = some b → wC.heap.size ≤ b)
    (hw : wG.ownsRow B 32 1 wv1 (ts.length + 1) (hs ++ [v2])) :
    Inv wG B p g h pv1 wv1 (ts ++ [⟨(ts.length : Int) % 9 + 1, L⟩]) (hs ++ [v2]) := by
  subst hn
  obtain ⟨h3, k3⟩ := mid hI hb F1 F2 F3
  have hpE := MM.own_far hp F3 (fun b hb1 hm => by have := MM.own_lt hp b hb1; simp at hm; omega)
  have p1 := MM.own_far hI.places F1 (fun b hb1 hm => by have := MM.own_lt hI.places b hb1; simp at hm; omega)
  have hpb := MM.own_lt hI.places
  have hhb := MM.own_lt hI.heads
  refine ⟨((hA.far F2 ?_ ?_ ?_).far F3 ?_ ?_ ?_).far F4 ?_ ?_ ?_, fun i hi => ?_, ?_, ?_, ?_, ?_⟩
  · intro hm; have := hpb p (by simpa using hm); omega
  · intro hm; have := hpb g (by simpa using hm); omega
  · intro hm; have := hpb h (by simpa using hm); omega
  · intro hm; have := F2.size; have := hA.head.lt; simp at hm; omega
  · intro hm; have := F2.size; have := hA.words.lt; simp at hm; omega
  · intro hm; have := F2.size; have := hA.kinds.lt; simp at hm; omega
  · intro hm; have := hhb p (by simpa using hm); omega
  · intro hm; have := hhb g (by simpa using hm); omega
  · intro hm; have := hhb h (by simpa using hm); omega
  · by_cases e : i < ts.length
    · rw [AP.th_append_old _ _ _ e]; exact hI.kind i e
    · have : i = ts.length := by simp at hi; omega
      subst this
      rw [AP.th_append_new]; exact ⟨rfl, hm8⟩
  · rw [pls_snoc]
    simp only [List.length_append, List.length_singleton]
    exact MM.own_far hpE F4 (fun b hb1 hm => MM.own_own_ne hpE h3 (by decide) b hb1 (by simpa using hm))
  · simpa using hw
  · rw [List.map_append, List.map_singleton]
    have k4 := k3.far F4 (fun x hx b hb1 hm => by
      obtain ⟨i, hi, rfl⟩ := List.mem_iff_getElem.1 hx
      have hl : i < (ts.map fun t => U64s t.l).length := by rw [← k3.len]; exact hi
      exact MM.own_own_ne (k3.each i _ _ (List.getElem?_eq_getElem hi) (List.getElem?_eq_getElem hl)) h3 (by decide) b hb1 (by simpa using hm))
    refine k4.snoc (by simp [U64s]) (MM.own_far hv F4 (fun b hb1 hm => MM.own_own_ne hv h3 (by decide) b hb1 (by simpa using hm))) (fun b hb1 x hx hb2 => ?_)
    have := hvn b hb1
    have k1 := hI.kids.low x hx b hb2
    have := F1.size
    have := F2.size
    omega
  · intro b hb1 x hx hb2
    rcases List.mem_append.1 hx with hx | hx
    · rcases hpn with e | ⟨b', e, hb'⟩
      · exact hI.apart b (e ▸ hb1) x hx hb2
      · rw [e] at hb1
        have k1 := hI.kids.low x hx b hb2
        have := F1.size
        have : b' = b := by simpa using hb1
        omega
    · have : x = v2 := by simpa using hx
      subst this
      have := hvn b hb2
      have := MM.own_lt hp b hb1
      omega
theorem sz_bound (B : Nat) (ts : List AP.Th) (h : ∀ i, i < ts.length → (AP.th ts i).l.length ≤ B) : AP.sz ts ≤ (B + 1) * ts.length := by
  induction ts with
  | nil => simp [AP.sz]
  | cons t ts ih =>
    have h0 := h 0 (by simp)
    rw [AP.th_zero] at h0
    have h1 := ih (fun i hi => by have := h (i + 1) (by simpa using hi); rwa [AP.th_cons] at this)
    simp only [AP.sz, List.length_cons, Nat.mul_add]
    omega
theorem used_to {w : World} {p g h n : Nat} {ts : List AP.Th} (hA : Ar w p g h n ts) (v : Int) (hv : (AP.sz ts : Int) = v) : Calls Tryd.prog 16 #[ptr p] w fun e w' => e = .returned (.int .i64 v) ∧ w = w' := by
  subst hv; exact used_any hA
theorem inv_put {w w' : World} {B p g h : Nat} {pv wv : Value} {ts : List AP.Th} {hs : List Value} {k j gq n c : Nat} {x : Int} (hI : Inv w B p g h pv wv ts hs) (hb : p < B ∧ g < B ∧ h < B) (hA : Ar w' p g h 300 (AP.put ts k j x)) (hF : MM.Far [g] w w')
    (hk : k < ts.length) (hh : hs[k]? = some (.slice (some ⟨gq, 0, none⟩) n c)) (hn : n = (AP.th ts k).l.length) :
    Inv (w'.setCell ⟨gq, j, none⟩ (.int .u64 x)) B p g h pv wv (AP.put ts k j x) hs := by
  have hpb := MM.own_lt hI.places
  have hhb := MM.own_lt hI.heads
  have p1 := MM.own_far hI.places hF (fun b hb1 hm => by have := hpb b hb1; simp at hm; omega)
  have h1 := MM.own_far hI.heads hF (fun b hb1 hm => by have := hhb b hb1; simp at hm; omega)
  have k1 := hI.kids.far_low hF (fun b hm => by simp at hm; omega)
  have hm : Value.slice (some ⟨gq, 0, none⟩) n c ∈ hs := List.mem_of_getElem? hh
  have hlow := k1.low _ hm gq rfl
  have hl : (ts.map fun t => U64s t.l)[k]? = some (U64s (AP.th ts k).l) := by
    rw [List.getElem?_map, List.getElem?_eq_getElem hk]
    simp [AP.th, List.getD, List.getElem?_eq_getElem hk]
  have hrow : w'.ownsRow B 36 1 (.slice (some ⟨gq, 0, none⟩) n c) (U64s (AP.th ts k).l).length (U64s (AP.th ts k).l) := k1.each k _ _ hh hl
  have hone := (MM.Far.refl [gq] w').setCell (p := ⟨gq, j, none⟩) (by simp) (.int .u64 x)
  refine ⟨hA.far hone ?_ ?_ ?_, fun i hi => ?_, ?_, ?_, ?_, hI.apart⟩
  · intro hm; simp at hm; omega
  · intro hm; simp at hm; omega
  · intro hm; simp at hm; omega
  · rw [AP.len_put] at hi
    by_cases e : i = k
    · subst e
      rw [AP.th_put_same _ _ _ _ hi]
      simpa using hI.kind i hi
    · rw [AP.th_put_other _ _ _ _ _ e]; exact hI.kind i hi
  · rw [AP.len_put, pls_put]
    exact MM.own_far p1 hone (fun b hb1 hm' => by
      have : b = gq := by simpa using hm'
      subst this
      exact hI.apart b hb1 _ hm rfl)
  · rw [AP.len_put]
    exact MM.own_far h1 hone (fun b hb1 hm' => by
      have : b = gq := by simpa using hm'
      subst this
      exact MM.own_own_ne h1 hrow (by decide) b hb1 rfl)
  · have := k1.put hh hl (by rw [hn]; simp [U64s]) j (.int .u64 x)
    have e : (ts.map fun t => U64s t.l).set k ((U64s (AP.th ts k).l).set j (.int .u64 x)) = (AP.put ts k j x).map fun t => U64s t.l := by
      apply List.ext_getElem?
      intro i
      by_cases ei : i = k
      · subst ei
        rw [List.getElem?_set_self (by simpa using hk), List.getElem?_map]
        simp only [AP.put, List.getElem?_modify]
        simp [AP.th, List.getD, hk, U64s, List.map_set]
      · rw [List.getElem?_set_ne (fun h => ei h.symm), List.getElem?_map, List.getElem?_map]
        have ei' : ¬ k = i := fun h => ei h.symm
        simp [AP.put, ei']
    rw [← e]; exact this
theorem inv_ar {w w' : World} {B p g h : Nat} {pv wv : Value} {ts : List AP.Th} {hs : List Value} (hI : Inv w B p g h pv wv ts hs) (hb : p < B ∧ g < B ∧ h < B) (hA : Ar w' p g h 300 ts) (hF : MM.Far [g] w w') : Inv w' B p g h pv wv ts hs := by
  have hpb := MM.own_lt hI.places
  have hhb := MM.own_lt hI.heads
  exact ⟨hA, hI.kind, MM.own_far hI.places hF (fun b hb1 hm => by have := hpb b hb1; simp at hm; omega), MM.own_far hI.heads hF (fun b hb1 hm => by have := hhb b hb1; simp at hm; omega),
    hI.kids.far_low hF (fun b hm => by simp at hm; omega), hI.apart⟩
theorem kind_to {w : World} {p g h n : Nat} {ts : List AP.Th} (hA : Ar w p g h n ts) (x v : Int) (hx : WP.U x) (hv : kindN ts x = v) : Calls Tryd.prog 44 #[ptr p, .int .u64 x] w fun e w' => e = .returned (.int .i64 v) ∧ w = w' := by
  subst hv; exact kind_any hA x hx
theorem len_to {w : World} {p g h n : Nat} {ts : List AP.Th} (hA : Ar w p g h n ts) (x v : Int) (hx : WP.U x) (hv : lenN ts x = v) : Calls Tryd.prog 45 #[ptr p, .int .u64 x] w fun e w' => e = .returned (.int .i64 v) ∧ w = w' := by
  subst hv; exact len_any hA x hx
theorem get_to {w : World} {p g h n : Nat} {ts : List AP.Th} (hA : Ar w p g h n ts) (x j v e : Int) (hx : WP.U x) (hv : getW ts x j = v) (he : getE ts x j = e) : Calls Tryd.prog 46 #[ptr p, .int .u64 x, .int .i64 j] w fun d w' => d = .returned (.tuple #[.int .u64 v, .int .i64 e]) ∧ w = w' := by
  subst hv; subst he; exact get_any hA x hx j
theorem quiet_d {P : Program} {f : FuncId} {args : Array Value} {w : World} {n : Nat} {v : Value} (h : Calls P f args (w.drewN n) fun e w' => e = .returned v ∧ w.drewN n = w') : Calls P f args (w.drewN n) fun e w'' => e = .returned v ∧ ∃ m, w'' = w.drewN m :=
  h.mono fun _ _ ⟨he, hm⟩ => ⟨he, n, hm.symm⟩
def Kept (w wx : World) (B p g h : Nat) (pv wv : Value) (n : Nat) (hs : List Value) : Prop := ∃ ts : List AP.Th, ts.length = n ∧ Inv wx B p g h pv wv ts hs ∧ MM.Far [] w wx
theorem found {ts : List AP.Th} {x : Int} {i : Nat} (h : AW.look ts x = some i) (j : Int) : getE ts x j = (if 0 ≤ j ∧ j < (AP.th ts i).l.length then 0 else 1) ∧ getW ts x j = (if 0 ≤ j ∧ j < (AP.th ts i).l.length then (AP.th ts i).l.getD j.toNat 0 else 0) ∧ kindN ts x = (AP.th ts i).k ∧ lenN ts x = (AP.th ts i).l.length ∧
    (∀ v, setT ts x j v = if 0 ≤ j ∧ j < (AP.th ts i).l.length then AP.put ts i j.toNat v else ts) := by
  refine ⟨?_, ?_, ?_, ?_, fun v => ?_⟩
  · unfold getE; rw [h]
  · unfold getW; rw [h]
  · unfold kindN; rw [h]
  · unfold lenN; rw [h]
  · unfold setT; rw [h]
theorem th_get {ts : List AP.Th} {i : Nat} (hO : Ok 300 ts) (hi : i < ts.length) (j : Int) : getE ts (pl ts i) j = (if 0 ≤ j ∧ j < (AP.th ts i).l.length then 0 else 1) ∧ getW ts (pl ts i) j = (if 0 ≤ j ∧ j < (AP.th ts i).l.length then (AP.th ts i).l.getD j.toNat 0 else 0) ∧ kindN ts (pl ts i) = (AP.th ts i).k ∧ lenN ts (pl ts i) = (AP.th ts i).l.length ∧
    (∀ v, setT ts (pl ts i) j v = if 0 ≤ j ∧ j < (AP.th ts i).l.length then AP.put ts i j.toNat v else ts) := found (look_pl hO hi) j
theorem get_in {w : World} {p g h : Nat} {ts : List AP.Th} {k0 i0 : Nat} (hA : Ar w p g h 300 ts) (hk : k0 < ts.length) (hj : i0 < (AP.th ts k0).l.length) :
    Calls Tryd.prog 46 #[ptr p, .int .u64 (pl ts k0), .int .i64 i0] w fun d w' => d = .returned (.tuple #[.int .u64 ((AP.th ts k0).l.getD i0 0), .int .i64 0]) ∧ w = w' := by
  have hg := th_get hA.ok hk (i0 : Int)
  have hc : (0 : Int) ≤ i0 ∧ (i0 : Int) < (AP.th ts k0).l.length := ⟨Int.natCast_nonneg _, Int.ofNat_lt.2 hj⟩
  have h1 : getE ts (pl ts k0) i0 = 0 := by rw [hg.1, if_pos hc]
  have h2 : getW ts (pl ts k0) i0 = (AP.th ts k0).l.getD i0 0 := by rw [hg.2.1, if_pos hc, Int.toNat_natCast]
  exact get_to hA (pl ts k0) i0 _ 0 (pl_u ts k0) h2 h1
/-- Where the k-th row's head lies, and what it leads to. -/
theorem head_at {w : World} {B p g h : Nat} {pv : Value} {gh ch : Nat} {ts : List AP.Th} {hs : List Value} {k0 : Nat} (hI : Inv w B p g h pv (.slice (some ⟨gh, 0, none⟩) ts.length ch) ts hs) (hk : k0 < ts.length) :
    ∃ Ad cd, hs[k0]? = some (.slice Ad (AP.th ts k0).l.length cd) ∧ w.cell? ⟨gh, k0, none⟩ = some (.slice Ad (AP.th ts k0).l.length cd) ∧
      w.ownsRow B 36 1 (.slice Ad (AP.th ts k0).l.length cd) (AP.th ts k0).l.length (U64s (AP.th ts k0).l) ∧
      (0 < (AP.th ts k0).l.length → ∃ gq, Ad = some ⟨gq, 0, none⟩ ∧ B ≤ gq ∧ gq < w.heap.size) := by
  have hkh : k0 < hs.length := by have := hI.heads.1; omega
  have hhd := List.getElem?_eq_getElem hkh
  have hcellH : w.cell? ⟨gh, k0, none⟩ = some (hs[k0]) := by rw [hI.heads.cellAt k0 (by omega)]; exact hhd
  have hkid := hI.kids.each k0 _ (U64s (AP.th ts k0).l) hhd (by rw [List.getElem?_map, List.getElem?_eq_getElem hk]; simp [AP.th, List.getD, List.getElem?_eq_getElem hk])
  have hlen : (U64s (AP.th ts k0).l).length = (AP.th ts k0).l.length := by simp [U64s]
  rw [hlen] at hkid
  obtain ⟨Ad, cd, e, _, _, _, _, hcd⟩ := MO.form hkid
  rw [e] at hhd hcellH hkid
  refine ⟨Ad, cd, hhd, hcellH, hkid, fun h0 => ?_⟩
  rcases hcd with ⟨_, h1, _⟩ | h1
  · omega
  · exact h1
theorem place_at {w : World} {B p g h : Nat} {wv : Value} {gp cp : Nat} {ts : List AP.Th} {hs : List Value} {k0 : Nat} (hI : Inv w B p g h (.slice (some ⟨gp, 0, none⟩) ts.length cp) wv ts hs) (hk : k0 < ts.length) :
    w.cell? ⟨gp, k0, none⟩ = some (.int .u64 (pl ts k0)) := by
  rw [hI.places.cellAt k0 (by omega)]
  unfold U64s
  rw [List.getElem?_map, pls_at ts hk]; rfl
theorem kid_cell {w w2 : World} {B g gh gq n cd k0 i0 : Nat} {hd : Value} {l : List Int} (hkid : w.ownsRow B 36 1 (.slice (some ⟨gq, 0, none⟩) n cd) n (U64s l)) (hn : n = l.length) (hi : i0 < n) (hF : MM.Far [g] w w2) (hgB : g < B) (hgh : gh < w.heap.size) (hghB : B ≤ gh) (hc : w.cell? ⟨gh, k0, none⟩ = some hd) :
    w2.cell? ⟨gh, k0, none⟩ = some hd ∧ (∃ o, w2.cell? ⟨gq, i0, none⟩ = some o) ∧ w2.frozen? ⟨gq, i0, none⟩ = false := by
  have hq := MM.own_far hkid hF (fun b1 hb1 hm => by have := MM.own_lt hkid b1 hb1; simp at hm; omega)
  refine ⟨?_, ?_, hq.frozenAt i0⟩
  · rw [hF.cell (p := ⟨gh, k0, none⟩) hgh (by simp; omega)]; exact hc
  · rw [hq.cellAt i0 (by omega)]
    have : i0 < (U64s l).length := by simp [U64s]; omega
    exact ⟨_, List.getElem?_eq_getElem this⟩
end AL
end Go.Proofs.YtoikfpaocgikcaaDoor
