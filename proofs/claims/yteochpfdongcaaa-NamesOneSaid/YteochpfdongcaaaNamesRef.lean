/-
  Contracts of the document's own answers of layer 4: Find, Put, Text over a row of names that the call has made. Conditions: the row is of names L, at most 4096 of them where one is put.
-/
import Derived.Test.YteochpfdongcaaaNamesWalks3
import Derived.Deep.DeepCutAuto
namespace Go.Proofs.Yteochpfdongcaaa
open Go.RowKit Go.Maps
namespace NW
theorem eq_yes {a b : ByteArray} (h : a = b) : (a.toList == b.toList) = true := by subst h; simp
theorem eq_no {a b : ByteArray} (h : a ≠ b) : (a.toList == b.toList) = false := by
  rw [beq_eq_false_iff_ne]
  intro e
  rw [Lib.toList_data, Lib.toList_data] at e
  exact h (ByteArray.ext (Array.toList_inj.1 e))
def Miss (L : List ByteArray) (s : ByteArray) (k : Nat) : Prop := ∀ j, j < k → L[j]? ≠ some s
theorem Miss.step {L : List ByteArray} {s : ByteArray} {k : Nat} (h : Miss L s k) (hk : k < L.length) (e : L[k] ≠ s) : Miss L s (k + 1) := by
  intro j hj
  by_cases hjk : j = k
  · subst hjk; rw [List.getElem?_eq_getElem hk]; simpa using e
  · exact h j (by omega)
theorem Miss.found {L : List ByteArray} {s : ByteArray} {k : Nat} (h : Miss L s k) (hk : k < L.length) (e : L[k] = s) : NP.findI L s = k ∧ NP.findB L s = true := by
  have hm : s ∈ L := by rw [← e]; exact List.getElem_mem _
  refine ⟨?_, NP.findB_yes hm⟩
  rw [NP.findI_yes hm]
  have h1 : L.idxOf s < L.length := List.idxOf_lt_length_iff.2 hm
  have h2 : L[L.idxOf s]? = some s := by rw [List.getElem?_eq_getElem h1]; simp
  have h3 : ¬ L.idxOf s < k := fun hl => h _ hl h2
  have h4 : L.idxOf s ≤ k := by
    rcases Nat.lt_or_ge k (L.idxOf s) with h5 | h5
    · have := List.not_of_lt_findIdx (p := (· == s)) (xs := L) (i := k) h5
      rw [e] at this; simp at this
    · exact h5
  omega
theorem Miss.none_ {L : List ByteArray} {s : ByteArray} (h : Miss L s L.length) : NP.findI L s = 0 ∧ NP.findB L s = false := by
  have hm : s ∉ L := by
    intro hm
    obtain ⟨j, hj, e⟩ := List.mem_iff_getElem.1 hm
    exact h j hj (by rw [List.getElem?_eq_getElem hj, e])
  exact ⟨NP.findI_no hm, NP.findB_no hm⟩
def RF (L : List ByteArray) (s : ByteArray) (i : Value) : Prop := ∃ k : Nat, k ≤ L.length ∧ i = .int .i64 (k : Int) ∧ Hid (Miss L s k)
section
variable {w : World} {L : List ByteArray} {v : Value} {base : Nat}
set_option maxHeartbeats 1000000 in
theorem rfind_any (h : w.ownsRow base 9 1 v L.length (strs L)) (s : ByteArray) (hm : L.length ≤ 4096) : Calls Try.prog 12 #[v, .string s] w fun e w' => e = .returned (.tuple #[.int .i64 (NP.findI L s), .bool (NP.findB L s)]) ∧ w = w' := by
  obtain ⟨A, c, rfl, _, hc1, hc2, hsrc, _⟩ := MO.form h
  unfold maxLen at hc2
  have H := Lib.hid hsrc
  clear hsrc h
  go_enter Try.func12, Try.ntmps12
  go_wp2
  go_loop [6] (fun i => RF L s i) (fun i => L.length - (intOf i).toNat)
  case atStart => exact ⟨0, by omega, rfl, Lib.hid (fun j hj => absurd hj (by omega))⟩
  case round =>
    obtain ⟨k, hk, rfl, hmiss⟩ := hrel
    by_cases hlt : k < L.length
    · obtain ⟨ad, rfl, _, _, hc⟩ := H.out [] (by simp) (by simp [strs]; omega)
      obtain ⟨b, off, spot⟩ := ad
      obtain ⟨t, ht⟩ : ∃ t, t = L[k] := ⟨_, rfl⟩
      obtain rfl : spot = none := by
        have h1 := hc 0 (.string (L[0]'(by omega))) (by simp [strs, List.getElem?_eq_getElem (show 0 < L.length by omega)])
        rw [show (⟨b, off, spot⟩ : Addr).add 0 = ⟨b, off, spot⟩ from by simp [Addr.add]] at h1
        exact World.cell?_spot h1
      have c0 := hc k (.string t) (by simp [strs, hlt, ht])
      rw [show (⟨b, off, none⟩ : Addr).add k = ⟨b, off + k, none⟩ from by unfold Addr.add; split; (rename_i h0; subst h0; rfl); rfl] at c0
      have HT := Lib.hid ht
      clear hc ht
      by_cases e : t = s
      · have e1 := eq_yes e
        obtain ⟨f1, f2⟩ := hmiss.out.found hlt (by rw [← HT.out]; exact e)
        have F := Lib.hid (And.intro f1 f2)
        clear e f1 f2
        go_wp2
        go_ret2
        rw [F.out.1, F.out.2]
        exact ⟨rfl, rfl⟩
      · have e1 := eq_no e
        have HE := Lib.hid e
        clear e
        go_wp2
        go_round
        case rel => exact ⟨k + 1, by omega, by go_num, Lib.hid (hmiss.out.step hlt (by rw [← HT.out]; exact HE.out))⟩
        case measure => simp [intOf]; omega
    · obtain rfl : k = L.length := by omega
      have F := Lib.hid hmiss.out.none_
      go_wp2
      go_ret2
      rw [F.out.1, F.out.2]
      exact ⟨rfl, rfl⟩
theorem rtext_any (h : w.ownsRow base 9 1 v L.length (strs L)) (i : Int) (hm : L.length ≤ 4096) : Calls Try.prog 16 #[v, .int .i64 i] w fun e w' => e = .returned (.tuple #[.string (NP.textS L i), .bool (NP.textB L i)]) ∧ w = w' := by
  obtain ⟨A, c, rfl, _, hc1, hc2, hsrc, _⟩ := MO.form h
  unfold maxLen at hc2
  by_cases hi : 0 ≤ i ∧ i < L.length
  · obtain ⟨k, rfl⟩ := Int.eq_ofNat_of_zero_le hi.1
    have hk : k < L.length := by omega
    obtain ⟨ad, rfl, _, _, hc⟩ := hsrc [] (by simp) (by simp [strs]; omega)
    obtain ⟨b, off, spot⟩ := ad
    obtain rfl : spot = none := by
      have h1 := hc 0 (.string (L[0]'(by omega))) (by simp [strs, List.getElem?_eq_getElem (show 0 < L.length by omega)])
      rw [show (⟨b, off, spot⟩ : Addr).add 0 = ⟨b, off, spot⟩ from by simp [Addr.add]] at h1
      exact World.cell?_spot h1
    obtain ⟨t, ht⟩ : ∃ t, t = L[k] := ⟨_, rfl⟩
    have c0 := hc k (.string t) (by simp [strs, hk, ht])
    rw [show (⟨b, off, none⟩ : Addr).add k = ⟨b, off + k, none⟩ from by unfold Addr.add; split; (rename_i h0; subst h0; rfl); rfl] at c0
    have e1 : NP.textS L k = t := by simp [NP.textS, hk, ht]
    have e2 : NP.textB L k = true := by simp [NP.textB, hk]
    rw [e1, e2]
    clear hc ht e1 e2 hi h hsrc
    go_enter Try.func16, Try.ntmps16
    go_wp2
    go_ret2
    exact ⟨rfl, rfl⟩
  · have e1 : NP.textS L i = ⟨#[]⟩ := by simp [NP.textS, hi, NP.none]
    have e2 : NP.textB L i = false := by simp [NP.textB, hi]
    rw [e1, e2]
    have hc : i < 0 ∨ (L.length : Int) ≤ i := by omega
    clear hi e1 e2 h hsrc
    by_cases h0 : i < 0
    · clear hc
      go_enter Try.func16, Try.ntmps16
      go_wp2
      go_ret2
      exact ⟨rfl, rfl⟩
    · have h1 : (L.length : Int) ≤ i := by omega
      clear hc
      go_enter Try.func16, Try.ntmps16
      go_wp2
      go_ret2
      exact ⟨rfl, rfl⟩
/-- The document's row behind a Put: its own row of the names then. -/
def Rn (a : World) (base : Nat) (T : List ByteArray) (v : Value) (w : World) : Prop := w.ownsRow base 9 1 v T.length (strs T) ∧ MM.Far [] a w
set_option maxHeartbeats 1000000 in
theorem rput_any (h : w.ownsRow base 9 1 v L.length (strs L)) (s : ByteArray) (hm : L.length ≤ 4096) (hs : s.size ≤ maxLen) (hb : base ≤ w.heap.size) : Calls Try.prog 14 #[v, .string s] w fun e w' =>
    ∃ v', e = .returned (.tuple #[v', .int .i64 (NP.putI L s), .int .i64 (NP.putE L s)]) ∧ Rn w base (NP.putL L s) v' w' ∧ ∀ b, v'.ownBlock = some b → v.ownBlock = some b ∨ w.heap.size ≤ b := by
  unfold maxLen at hs
  by_cases hf : NP.fits s
  · obtain ⟨A, c, rfl, hA, hc1, hc2, hsrc, _⟩ := MO.form h
    unfold maxLen at hc2
    have H := Lib.hid h
    by_cases hL : s ∈ L
    · have e1 : NP.putI L s = NP.findI L s := by simp [NP.putI, hf, hL, NP.findI_yes hL]
      have e2 : NP.putE L s = 0 := by simp [NP.putE, hf, hL]
      have e3 : NP.putL L s = L := by simp [NP.putL, hL]
      have HB := Lib.hid (NP.findB_yes hL)
      rw [e1, e2, e3]
      obtain ⟨g1, g2⟩ := hf
      clear h hsrc hL e1 e2 e3 hA
      go_enter Try.func14, Try.ntmps14
      go_wp2_with (go_at_call 12; refine (rfind_any H.out s hm).mono ?_; rintro e w' ⟨rfl, rfl⟩; rw [HB.out])
      refine bodyPost_ret (results_tmp3 rfl _ _ _) rfl ?_
      exact ⟨_, rfl, ⟨H.out, MM.Far.refl _ _⟩, fun b hb => .inl hb⟩
    · have HB := Lib.hid (NP.findB_no hL)
      by_cases hn : L.length < 4096
      · have e1 : NP.putI L s = (L.length : Nat) := by simp [NP.putI, hf, hL, hn]
        have e2 : NP.putE L s = 0 := by simp [NP.putE, hf, hL, hn]
        have e3 : NP.putL L s = L ++ [s] := by simp [NP.putL, hf, hL, hn]
        rw [e1, e2, e3]
        have ht : decide ((4096 : Int) ≤ (L.length : Int)) = false := by simp; omega
        obtain ⟨g1, g2⟩ := hf
        have HA := Lib.hid hA
        have HSR := Lib.hid (hsrc [] (by simp))
        clear h hL e1 e2 e3 hn hA hsrc
        go_enter Try.func14, Try.ntmps14
        go_wp2_with (first
          | (go_at_call 12; refine (rfind_any H.out s hm).mono ?_; rintro e w' ⟨rfl, rfl⟩; rw [HB.out])
          | (at_builtin
             refine MO.wpList_append _ ?_ (.tmp 31) (.tmp 32) 22 ?_ base 9 (.string ⟨#[]⟩) 1 16 Try.underlying22 string_info rfl (by omega) _ 0 [] ?_ (MO.of_row (MM.Row.new w 9 []) hb rfl (by unfold maxLen; omega)) A L.length c (strs L) ?_ (by simp [strs]) ?_ [] ?_ (strs_one L) (by unfold maxLen; omega) (by omega) (by simp; omega) ?_
             · rfl
             · rfl
             · rfl
             · rfl
             · intro e; have := HA.out e; omega
             · exact HSR.out.far ((MM.Far.refl [] w).alloc _) (by simp)
             intro v1 w1 o1 hg1 hl1)
          | (at_builtin
             refine MO.wpList_append _ ?_ (.tmp 33) (.tmp 35) 22 ?_ base 9 (.string ⟨#[]⟩) 1 16 Try.underlying22 string_info rfl (by omega) v1 (0 + L.length) ([] ++ strs L) ?_ (o1.alloc _) (some ⟨w1.heap.size, 0, none⟩) 1 1 [.string s] ?_ rfl (fun h => by cases h) [] ?_ (strs_one [_]) (by unfold maxLen; omega) (by omega) ?_ ?_
             · rfl
             · rfl
             · rfl
             · rfl
             · exact MM.Src.row (MM.Row.new _ _ [.string s]) (by simp) _ (fun j u hu => hu)
             · have := hg1.size; simp at this ⊢; omega
             intro v2 w2 o2 hg2 hl2))
        refine bodyPost_ret (results_tmp3 rfl _ _ _) rfl ?_
        refine ⟨_, rfl, ⟨?_, ?_⟩, ?_⟩
        · rw [List.length_append, List.length_singleton]
          simpa [strs] using o2
        · have k1 := hg1.size
          have F1 : MM.Far [] w w1 := ((MM.Far.refl [] w).alloc _).trans (MM.Far.of_grown (S := [w.heap.size]) hg1 (fun b hb _ => by simpa [Value.ownBlock, eq_comm] using hb)) (fun b hb hl => by simp at hb; omega)
          refine (F1.alloc _).trans (MM.Far.of_grown (S := v1.ownBlock.toList) hg2 (fun b hb _ => by simp [hb])) (fun b hb hl => ?_)
          have hb' : v1.ownBlock = some b := by simpa using hb
          rcases hl1 with e | e
          · rw [e] at hb'; simp [Value.ownBlock] at hb'; omega
          · rw [e] at hb'; simp at hb'; omega
        · intro b hb0
          have hb : v2.ownBlock = some b := hb0
          have k1 := hg1.size
          simp at k1
          right
          rcases hl2 with e | e
          · rw [e] at hb
            rcases hl1 with e' | e'
            · rw [e'] at hb; simp [Value.ownBlock] at hb; omega
            · rw [e'] at hb; simp at hb; omega
          · rw [e] at hb; simp at hb; omega
      · have e1 : NP.putI L s = 0 := by simp [NP.putI, hf, hL, hn]
        have e2 : NP.putE L s = 3 := by simp [NP.putE, hf, hL, hn]
        have e3 : NP.putL L s = L := by simp [NP.putL, hn]
        rw [e1, e2, e3]
        have ht : decide ((4096 : Int) ≤ (L.length : Int)) = true := by simp; omega
        obtain ⟨g1, g2⟩ := hf
        clear h hsrc hL e1 e2 e3 hn hA
        go_enter Try.func14, Try.ntmps14
        go_wp2_with (go_at_call 12; refine (rfind_any H.out s hm).mono ?_; rintro e w' ⟨rfl, rfl⟩; rw [HB.out])
        refine bodyPost_ret (results_tmp3 rfl _ _ _) rfl ?_
        exact ⟨_, rfl, ⟨H.out, MM.Far.refl _ _⟩, fun b hb => .inl hb⟩
  · have e1 : NP.putI L s = 0 := by simp [NP.putI, hf]
    have e2 : NP.putE L s = 1 := by simp [NP.putE, hf]
    have e3 : NP.putL L s = L := by simp [NP.putL, hf]
    rw [e1, e2, e3]
    have hc : s.size < 1 ∨ 32 < s.size := by unfold NP.fits at hf; omega
    have H := Lib.hid h
    clear hf e1 e2 e3 h
    by_cases h1 : s.size < 1
    · clear hc
      go_enter Try.func14, Try.ntmps14
      go_wp2
      refine bodyPost_ret (results_tmp3 rfl _ _ _) rfl ?_
      exact ⟨_, rfl, ⟨H.out, MM.Far.refl _ _⟩, fun b hb => .inl hb⟩
    · have h2 : 32 < s.size := by omega
      clear hc
      go_enter Try.func14, Try.ntmps14
      go_wp2
      refine bodyPost_ret (results_tmp3 rfl _ _ _) rfl ?_
      exact ⟨_, rfl, ⟨H.out, MM.Far.refl _ _⟩, fun b hb => .inl hb⟩
end
end NW
end Go.Proofs.Yteochpfdongcaaa
