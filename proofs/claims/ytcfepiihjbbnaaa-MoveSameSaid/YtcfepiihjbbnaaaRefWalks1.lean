/-
  Contracts of the document's arena that only read: Find, Kind, Len, Get. Conditions: its rows are as the list of things says, a word lies in 64 bits.
-/
import Derived.Test.YtcfepiihjbbnaaaRefPlain
import Derived.Test.YtcfepiihjbbnaaaWordWalks3
import Derived.Deep.DeepCutAuto
namespace Go.Proofs.Ytcfepiihjbbnaaa
open Go.RowKit
namespace RW
open AW RP
/-- The document's arena at block q; v: its things' row. -/
structure Rr (w : World) (base q n : Nat) (v : Value) (ts : List AP.Th) (hs : List Value) : Prop where
  ok : Ok n ts
  head : MM.Row w q 65 [.int .i64 n, .int .i64 (AP.sz ts), v]
  row : w.ownsRow base 68 3 v ts.length (rc 0 ts hs)
  kids : MN.Kids w base 42 hs (ts.map fun t => U64s t.l)
theorem Rr.far {w w' : World} {base q n : Nat} {v : Value} {ts : List AP.Th} {hs : List Value} {S : List Nat} (h : Rr w base q n v ts hs) (f : MM.Far S w w') (hS : ∀ b ∈ S, b ≠ q ∧ (b < base ∨ w.heap.size ≤ b)) : Rr w' base q n v ts hs :=
  ⟨h.ok, h.head.far f (fun hm => (hS _ hm).1 rfl),
   MM.own_far h.row f (fun b hb hm => by have := (hS _ hm).2; have := MM.own_lt h.row b hb; omega), h.kids.far_low f (fun b hb => (hS b hb).2)⟩
/-- What a step of the document's arena may have turned: its head, its rows, what is new. -/
def Fr (q base : Nat) (w w' : World) : Prop := ∃ S, MM.Far S w w' ∧ ∀ b ∈ S, b = q ∨ (base ≤ b ∧ ∀ t l, MM.Row w b t l → t = 42 ∨ t = 68)
theorem Fr.refl (q base : Nat) (w : World) : Fr q base w w := ⟨[], MM.Far.refl _ _, fun b hb => by cases hb⟩
theorem Fr.of_nil {q base : Nat} {w w' : World} (f : MM.Far [] w w') : Fr q base w w' := ⟨[], f, fun b hb => by cases hb⟩
theorem Fr.trans {q base : Nat} {a b c : World} (h : Fr q base a b) (k : Fr q base b c) : Fr q base a c := by
  obtain ⟨S, h1, h2⟩ := h
  obtain ⟨T, k1, k2⟩ := k
  refine ⟨S ++ T, (h1.mono (S' := S ++ T) (fun x hx _ => List.mem_append.2 (.inl hx))).trans k1 (fun x hx _ => List.mem_append.2 (.inr hx)), fun x hx => ?_⟩
  by_cases hS : x ∈ S
  · exact h2 x hS
  · rcases List.mem_append.1 hx with hx | hx
    · exact h2 x hx
    · rcases k2 x hx with e | ⟨e1, e2⟩
      · exact .inl e
      · exact .inr ⟨e1, fun t l hr => e2 t l (hr.far h1 hS)⟩
theorem Fr.size {q base : Nat} {a b : World} (h : Fr q base a b) : a.heap.size ≤ b.heap.size := by obtain ⟨S, h1, _⟩ := h; exact h1.size
theorem row_type {w : World} {base : Nat} {e : TypeId} {size n : Nat} {v : Value} {xs : List Value} (h : w.ownsRow base e size v n xs) {b : Nat} (hb : v.ownBlock = some b) {t : TypeId} {l : List Value} (hr : MM.Row w b t l) : t = e := by
  by_cases ht : e = t
  · exact ht.symm
  · exact absurd hb (MM.own_row_ne h hr ht)
theorem Rr.hlen {w : World} {base q n : Nat} {v : Value} {ts : List AP.Th} {hs : List Value} (h : Rr w base q n v ts hs) : hs.length = ts.length := by
  have := h.kids.len; simpa using this
theorem len_le_sz (ts : List AP.Th) : ts.length ≤ AP.sz ts := by
  induction ts with
  | nil => exact Nat.le_refl _
  | cons t ts ih => simp only [List.length_cons, AP.sz]; omega
section
variable {w : World} {base q n : Nat} {v : Value} {ts : List AP.Th} {hs : List Value}
/-- The cells of the i-th thing. -/
theorem Rr.at (h : Rr w base q n v ts hs) {i : Nat} (hi : i < ts.length) : ∃ g c A d, v = .slice (some ⟨g, 0, none⟩) ts.length c ∧ base ≤ g ∧ g < w.heap.size ∧ w.cell? ⟨g, i * 3, none⟩ = some (.int .i64 (off ts i : Nat)) ∧ w.cell? ⟨g, i * 3 + 1, none⟩ = some (.int .i64 (AP.th ts i).k) ∧
    w.cell? ⟨g, i * 3 + 2, none⟩ = some (.slice A (AP.th ts i).l.length d) ∧ hs[i]? = some (.slice A (AP.th ts i).l.length d) ∧
    w.ownsRow base 42 1 (.slice A (AP.th ts i).l.length d) (AP.th ts i).l.length (U64s (AP.th ts i).l) ∧ (0 < (AP.th ts i).l.length → ∃ gq, A = some ⟨gq, 0, none⟩ ∧ base ≤ gq ∧ gq < w.heap.size) := by
  obtain ⟨A0, c, e, _, _, _, _, hc⟩ := MO.form h.row
  rcases hc with ⟨_, h1, _⟩ | ⟨g, rfl, hg1, hg2⟩
  · omega
  have hrow := h.row
  rw [e] at hrow
  have hat := rc_at 0 ts hs h.hlen i hi
  have hhi : i < hs.length := by rw [h.hlen]; exact hi
  obtain ⟨hd, hhd⟩ : ∃ hd, hs[i]? = some hd := ⟨_, List.getElem?_eq_getElem hhi⟩
  have hkid := h.kids.each i hd (U64s (AP.th ts i).l) hhd (by rw [List.getElem?_map, List.getElem?_eq_getElem hi]; simp [AP.th, List.getD, List.getElem?_eq_getElem hi])
  have hlen : (U64s (AP.th ts i).l).length = (AP.th ts i).l.length := by simp [U64s]
  rw [hlen] at hkid
  obtain ⟨A, d, e2, _, _, _, _, hcd⟩ := MO.form hkid
  subst hd
  refine ⟨g, c, A, d, e, hg1, hg2, ?_, ?_, ?_, hhd, hkid, fun h0 => ?_⟩
  · rw [hrow.cellAt (i * 3) (by omega), hat.1]; simp [off]
  · rw [hrow.cellAt (i * 3 + 1) (by omega), hat.2.1]
  · rw [hrow.cellAt (i * 3 + 2) (by omega), hat.2.2, hhd]
  · rcases hcd with ⟨_, h1, _⟩ | h1
    · omega
    · exact h1
set_option maxHeartbeats 2000000 in
theorem rfind_any (hR : Rr w base q n v ts hs) (x : Int) (hx : WP.U x) :
    Calls Try.prog 27 #[ptr q, .int .u64 x] w fun e w' => e = .returned (.int .i64 (ridx ts x)) ∧ w = w' := by
  obtain ⟨a, ha, hal⟩ := toN_nat x hx
  have HX := Lib.hid hx
  have h2 := hR.head.at (i := 2) rfl
  obtain ⟨A0, c, e, _, hlc, hcm, _, hc⟩ := MO.form hR.row
  subst e
  unfold maxLen at hcm
  have HR := Lib.hid hR
  have HA := Lib.hid ha
  obtain ⟨N, hN⟩ : ∃ N, ts.length = N := ⟨_, rfl⟩
  have HN := Lib.hid hN
  have hN6 : N ≤ 65536 := by
    have := len_le_sz ts
    have := hR.ok.room
    have := hR.ok.size
    omega
  rw [hN] at h2 hlc hc
  clear hR hx ha hN
  have hto := Lib.hid (WW.rto_any 1 x HX.out w)
  have HA2 : Hid (WP.toN 1 x = a) := HA.out
  go_enter Try.func27, Try.ntmps27
  go_wp2_with (fail)
  rw [HA.out] at hto
  refine hto.out.mono ?_
  rintro e w' ⟨rfl, rfl⟩
  obtain ⟨ok, hok⟩ : ∃ ok, WP.toB 1 x = ok := ⟨_, rfl⟩
  have HOK := Lib.hid hok
  rw [hok]
  clear hok
  go_wp2_with (fail)
  go_loopw [7, 8] (fun l h wr => ∃ lo hi : Nat, lo ≤ hi ∧ hi ≤ N ∧ l = .int .i64 lo ∧ h = .int .i64 hi ∧ (∀ i, i < lo → off ts i < a) ∧ (∀ i, hi ≤ i → i < N → a ≤ off ts i) ∧ wr = w) (fun l h _ => (intOf h).toNat - (intOf l).toNat)
  case atStart => exact ⟨0, N, Nat.zero_le _, Nat.le_refl _, rfl, rfl, fun i hi => by omega, fun i h1 h3 => by omega, rfl⟩
  case round =>
    obtain ⟨lo, hi, h1, h3, rfl, rfl, hlo, hhi, hw⟩ := hrel
    subst wr
    by_cases hlt : lo < hi
    · obtain ⟨m, hm⟩ : ∃ m : Nat, ((lo : Int) + hi) / 2 = m := ⟨(((lo : Int) + hi) / 2).toNat, by omega⟩
      have hm1 : lo ≤ m := by omega
      have hm2 : m < hi := by omega
      obtain ⟨g, c', A, d, e, hg1, hg2, hcell, _, _, _, _, _⟩ := HR.out.at (i := m) (by rw [HN.out]; omega)
      have e1 : A0 = some ⟨g, 0, none⟩ := by injection e
      subst e1
      have hmb : m ≤ 9223372036854775807 := by omega
      obtain ⟨om, hom⟩ : ∃ om, off ts m = om := ⟨_, rfl⟩
      rw [hom] at hcell
      have HOm := Lib.hid hom
      have HLo := Lib.hid hlo
      have HHi := Lib.hid hhi
      clear hom hlo hhi e
      by_cases ho : om < a
      · go_wp2
        go_roundw
        case rel => exact ⟨m + 1, hi, by omega, h3, by go_num, rfl, fun i hi2 => by
          rcases Nat.lt_or_ge i m with h5 | h5
          · have h6 := off_lt ts h5 (by rw [HN.out]; omega)
            have := HOm.out; omega
          · have : i = m := by omega
            subst this; have := HOm.out; omega, HHi.out, trivial⟩
        case measure => simp [intOf]; omega
      · go_wp2
        go_roundw
        case rel => exact ⟨lo, m, hm1, by omega, rfl, by rw [hm], HLo.out, fun i h5 h6 => by
          rcases Nat.lt_or_ge m i with h7 | h7
          · have h8 := off_lt ts h7 (by rw [HN.out]; omega)
            have := HOm.out; omega
          · have : i = m := by omega
            subst this; have := HOm.out; omega, trivial⟩
        case measure => simp [intOf]; omega
    · have hle : lo = hi := by omega
      subst hle
      have HLo := Lib.hid hlo
      have HHi := Lib.hid hhi
      clear hlo hhi h1
      cases ok with
      | false =>
        have hn : AW.look ts x = none := by unfold AW.look; rw [HOK.out]; rfl
        have HF := Lib.hid (ridx_none hn)
        clear hn
        go_wp2
        go_ret
        exact ⟨WW.ret_u HF.out.symm, rfl⟩
      | true =>
        have hlook : AW.look ts x = AP.idx ts a := by unfold AW.look; rw [HOK.out, HA2.out]; simp
        have HLk := Lib.hid hlook
        clear hlook
        by_cases hN2 : lo < N
        · obtain ⟨g, c', A, d, e, hg1, hg2, hcell, _, _, _, _, _⟩ := HR.out.at (i := lo) (by rw [HN.out]; omega)
          have e1 : A0 = some ⟨g, 0, none⟩ := by injection e
          subst e1
          have hmb : lo ≤ 9223372036854775807 := by omega
          obtain ⟨om, hom⟩ : ∃ om, off ts lo = om := ⟨_, rfl⟩
          rw [hom] at hcell
          have HOm := Lib.hid hom
          clear hom e
          by_cases ho : om = a
          · subst ho
            have hi2 : AW.look ts x = some lo := by rw [HLk.out]; exact idx_of_off (by rw [HN.out]; omega) HOm.out
            have HF := Lib.hid (ridx_some hi2)
            clear hi2
            go_wp2
            go_ret
            exact ⟨WW.ret_u HF.out.symm, rfl⟩
          · have hne : ((om : Int) != (a : Int)) = true := by rw [bne_iff_ne]; omega
            have hi2 : AW.look ts x = none := by
              rw [HLk.out]
              exact idx_none HLo.out (fun i h5 h6 => HHi.out i h5 (by rw [← HN.out]; exact h6)) (fun _ h7 => ho (by rw [← HOm.out]; exact h7))
            have HF := Lib.hid (ridx_none hi2)
            clear hi2 ho
            go_wp2
            go_ret
            exact ⟨WW.ret_u HF.out.symm, rfl⟩
        · have hi2 : AW.look ts x = none := by
            rw [HLk.out]
            exact idx_none HLo.out (fun i h5 h6 => HHi.out i h5 (by rw [← HN.out]; exact h6)) (fun h7 => by rw [HN.out] at h7; omega)
          have HF := Lib.hid (ridx_none hi2)
          have hN3 : N ≤ lo := by omega
          clear hi2 hN2
          go_wp2
          go_ret
          exact ⟨WW.ret_u HF.out.symm, rfl⟩
end
end RW
end Go.Proofs.Ytcfepiihjbbnaaa
