/-
  Contract of the printer's goOn. Conditions: as begin's.
-/
import Derived.Test.YtbglcdjimipeeaaGreatDoorShowC2
namespace Go.Proofs.YtbglcdjimipeeaaGreatDoor
open Go.RowKit
namespace SW
open LX RX RW6 SX
open RC6 (own_off one_far form_ far_app far_app0 own_row)
/-- What goOn comes to. -/
def GoP (w0 : World) (q : Nat) (dv : Value) (ns : List Nd) (T : List UInt8) (os : List Op) (e : Ending) (w' : World) : Prop :=
  ∃ T' os', e = .returned (.tuple #[]) ∧ Pr w0 w' q dv T' os' ∧ T' ++ restO ns (prs os') = T ++ restO ns (prs os) ∧ szO ns (prs os') + 1 ≤ szO ns (prs os) ∧ Gd w0 ns os'
section
variable {w0 w : World} {q : Nat} {T : List UInt8}
set_option maxHeartbeats 2000000 in
set_option maxRecDepth 20000 in
theorem goon_any {DA : Option Addr} {n c : Nat} (ns : List Nd) (hn : ns.length = n) (hok : Ok ns) (hN : NdRow w0 DA ns) (hT0 : Tab w0) (x : Op) (os1 : List Op) (h : Pr w0 w q (.slice DA n c) T (x :: os1)) (hg : Gd w0 ns (x :: os1))
    (hlen : (T ++ restO ns (prs (x :: os1))).length ≤ 1099511627776) :
    Calls Tryz.prog 30 #[.pointer (some ⟨q, 0, none⟩)] w (GoP w0 q (.slice DA n c) ns T (x :: os1)) := by
  obtain ⟨pv, bv, ov, hP⟩ := h
  obtain ⟨og, oc, rfl, hc1, hc2, d0, d1, hfz, hog⟩ := op_at hP
  obtain ⟨hmem, hkl, hll, hI⟩ := hg x (List.mem_cons_self ..)
  have hg1 : Gd w0 ns os1 := fun y hy => hg y (List.mem_cons_of_mem _ hy)
  obtain ⟨l, k, LA, lc⟩ := x
  simp only at d0 d1 hmem hkl hll hI
  have hol : os1.length ≤ 1099511627776 := by
    have h1 := restO_len ns (prs (⟨l, k, LA, lc⟩ :: os1))
    simp only [List.length_append, prs, List.length_map, List.length_cons] at h1 hlen
    omega
  have hTl : T.length ≤ 1099511627776 := by
    rw [List.length_append] at hlen
    omega
  have k3 := hP.head.at (i := 3) rfl
  have kf := hP.head.frozen 3
  have hq := hP.head.lt
  have HP := Lib.hid hP
  have HG1 := Lib.hid hg1
  have HI := Lib.hid hI
  have HMEM := Lib.hid hmem
  have HFZ := Lib.hid hfz
  have HLEN := Lib.hid hlen
  have HN := Lib.hid hN
  have HNL := Lib.hid hn
  have HOK := Lib.hid hok
  have HT := Lib.hid hT0
  obtain ⟨m, hm⟩ : ∃ m, l.length = m := ⟨_, rfl⟩
  have HM := Lib.hid hm
  rw [hm] at d0 hkl hll
  have h1 : (os1.length : Int) < (os1.length : Int) + 1 := by omega
  have hoc : ¬ oc = 0 := by omega
  have hcI : (os1.length : Int) ≤ (oc : Int) := by omega
  have hcI2 : (0 : Int) ≤ (os1.length : Int) := by omega
  unfold maxLen at hc2
  clear hP hg hg1 hI hmem hfz hlen hN hn hok hT0 hm
  by_cases hkm : k = m
  · subst hkm
    have HE : Hid (restO ns (prs (⟨l, k, LA, lc⟩ :: os1)) = 41 :: restO ns (prs os1)) := Lib.hid (by
      show restO ns ((l, k) :: prs os1) = _
      rw [restO_cons, ← HM.out, restL_end]; rfl)
    have HW := Lib.hid (fun (wx : World) (f : MM.Far [] w wx) => wbyte_any (HP.out.to f) 41 41 rfl (by omega))
    go_enter Tryz.func30, Tryz.ntmps30
    go_wp2
    go_quiet (fail)
    go_wp2
    go_quiet (fail)
    go_wp2_with (first
      | (go_at_call 52; (refine (HW.out _ (by first | exact ((MM.Far.refl [] w).drewN _).drewN _ | exact (MM.Far.refl [] w).drewN _)).mono ?_); rintro e w3 ⟨rfl, -, bv3, hP3⟩
         have HP3 := Lib.hid hP3
         have e3 := HP3.out.head.at (i := 3) rfl
         have f3 := HP3.out.head.frozen 3
         clear hP3))
    go_region
    all_goals
      go_wp2
      go_end0
      refine ⟨T ++ [41], os1, rfl, ⟨_, _, _, (HP3.out.pop (MM.Far.refl [] _)).to (by first | exact MM.Far.refl [] _ | exact (MM.Far.refl [] _).drew)⟩, ?_, ?_, HG1.out⟩
      · rw [HE.out, List.append_assoc]; rfl
      · show szO ns (prs os1) + 1 ≤ szO ns ((l, k) :: prs os1)
        rw [szO_cons]; omega
  · have hlt : k < m := by omega
    have hkl2 : k < l.length := by rw [HM.out]; exact hlt
    obtain ⟨bl, ol, rfl, hbl, cl⟩ := HI.out k hkl2
    have hpn := HMEM.out _ (List.getElem_mem hkl2)
    have HE : Hid (restO ns (prs (⟨l, k, some ⟨bl, ol, none⟩, lc⟩ :: os1)) = (if k = 0 then [] else [32]) ++ (dt ns l[k] ++ restO ns (prs (⟨l, k + 1, some ⟨bl, ol, none⟩, lc⟩ :: os1)))) := Lib.hid (by
      show restO ns ((l, k) :: prs os1) = _ ++ (_ ++ restO ns ((l, k + 1) :: prs os1))
      rw [restO_cons, restO_cons, restL_step ns l k hkl2]
      simp only [List.append_assoc])
    have HSZ : Hid (szO ns (prs (⟨l, k, some ⟨bl, ol, none⟩, lc⟩ :: os1)) = sz ns l[k] + szO ns (prs (⟨l, k + 1, some ⟨bl, ol, none⟩, lc⟩ :: os1))) := Lib.hid (by
      show szO ns ((l, k) :: prs os1) = _ + szO ns ((l, k + 1) :: prs os1)
      rw [szO_cons, szO_cons, drop_sum ns l k hkl2]
      omega)
    generalize l[k] = p at *
    have hpn2 : p < n := by rw [← HNL.out]; exact hpn
    have HGX : Hid (Gd w0 ns (⟨l, k + 1, some ⟨bl, ol, none⟩, lc⟩ :: os1)) := Lib.hid (fun y hy => by
      rcases List.mem_cons.1 hy with rfl | hy
      · exact ⟨HMEM.out, by simp only; omega, by simp only; rw [HM.out]; exact hll, HI.out⟩
      · exact HG1.out y hy)
    have HB := Lib.hid (fun (wx : World) (T3 : List UInt8) (hT3 : T3 = T ++ (if k = 0 then [] else [32])) (hP : Pr w0 wx q (.slice DA n c) T3 (⟨l, k + 1, some ⟨bl, ol, none⟩, lc⟩ :: os1)) => begin_any ns HNL.out HOK.out HN.out HT.out p hpn2 hP HGX.out (by have := HLEN.out; rw [HE.out, ← List.append_assoc, ← hT3] at this; exact this))
    have cl2 := (HP.out.far.cell (p := ⟨bl, ol + k, none⟩) hbl (by simp)).trans cl
    have hfz1 := HFZ.out (os1.length * 2 + 1)
    have g1 : ((k : Int) == (m : Int)) = false := by rw [beq_eq_false_iff_ne]; omega
    have g2 : decide ((k : Int) = (m : Int)) = false := by simp; omega
    have HKL := Lib.hid (show k < m from hlt)
    have HNX := Lib.hid (fun (wx : World) (z : Int) (bv2 pv2 : Value) (T2 : List UInt8) (hz : z = ((k + 1 : Nat) : Int)) (h : PrV w0 wx q (.slice DA n c) pv2 bv2 (.slice (some ⟨og, 0, none⟩) (os1.length + 1) oc) T2 (⟨l, k, some ⟨bl, ol, none⟩, lc⟩ :: os1)) =>
      (show PrV w0 (wx.setCell ⟨og, os1.length * 2 + 1, none⟩ (.int .i64 z)) q (.slice DA n c) pv2 bv2 (.slice (some ⟨og, 0, none⟩) (os1.length + 1) oc) T2 (⟨l, k + 1, some ⟨bl, ol, none⟩, lc⟩ :: os1) from hz ▸ h.next (k + 1)))
    by_cases hk0 : 0 < (k : Int)
    · have HT3 : Hid (T ++ [32] = T ++ (if k = 0 then [] else [32])) := Lib.hid (by rw [if_neg (by omega)])
      have HT3E : Hid ((if k = 0 then [] else [32]) = ([32] : List UInt8)) := Lib.hid (by rw [if_neg (by omega)])
      have HW := Lib.hid (fun (wx : World) (f : MM.Far [] w wx) => wbyte_any (HP.out.to f) 32 32 rfl (by omega))
      go_enter Tryz.func30, Tryz.ntmps30
      go_wp2
      go_quiet (fail)
      go_wp2
      go_quiet (fail)
      go_wp2_with (first
        | (go_at_call 52; (refine (HW.out _ (by first | exact ((MM.Far.refl [] w).drewN _).drewN _ | exact (MM.Far.refl [] w).drewN _)).mono ?_); rintro e w3 ⟨rfl, -, bv3, hP3⟩
           obtain ⟨og', oc', hov, -, -, d0', d1', hfz3, hog3⟩ := op_at hP3
           injection hov with hov1 hov2 hov3
           injection hov1 with hov1
           injection hov1 with hov1
           subst hov1
           have hfz4 := hfz3 (os1.length * 2 + 1)
           have cl3 := (hP3.far.cell (p := ⟨bl, ol + k, none⟩) hbl (by simp)).trans cl
           simp only at d0' d1'
           rw [HM.out] at d0'
           have HP3 := Lib.hid hP3
           clear hP3 hfz3 hov2 hov3))
      go_quiet (fail)
      go_wp2_with (go_at_call 29; (refine (HB.out _ _ HT3.out ⟨_, _, _, HNX.out _ _ _ _ _ rfl (HP3.out.to (by first | exact (MM.Far.refl [] _).drewN _ | exact ((MM.Far.refl [] _).drewN _).drewN _))⟩).mono ?_); rintro e w5 ⟨T5, os5, rfl, hP5, hE5, hS5, hG5⟩; have HP5 := Lib.hid hP5; have HE5 := Lib.hid hE5; have HS5 := Lib.hid hS5; have HG5 := Lib.hid hG5; clear hP5 hE5 hS5 hG5)
      go_end0
      refine ⟨T5, os5, rfl, HP5.out, ?_, ?_, HG5.out⟩
      · rw [HE5.out, HE.out, HT3E.out]
        simp only [List.append_assoc]
      · have h2 := HSZ.out
        have h3 := HS5.out
        omega
    · have HT3 : Hid (T = T ++ (if k = 0 then [] else [32])) := Lib.hid (by rw [if_pos (by omega)]; simp)
      have HT3E : Hid ((if k = 0 then [] else [32]) = ([] : List UInt8)) := Lib.hid (by rw [if_pos (by omega)])
      go_enter Tryz.func30, Tryz.ntmps30
      go_wp2
      go_quiet (fail)
      go_wp2
      go_quiet (fail)
      go_wp2
      go_quiet (fail)
      go_wp2_with (go_at_call 29; (refine (HB.out _ _ HT3.out ⟨_, _, _, HNX.out _ _ _ _ _ rfl (HP.out.to (by first | exact (MM.Far.refl [] _).drewN _ | exact ((MM.Far.refl [] _).drewN _).drewN _ | exact (((MM.Far.refl [] _).drewN _).drewN _).drewN _))⟩).mono ?_); rintro e w5 ⟨T5, os5, rfl, hP5, hE5, hS5, hG5⟩; have HP5 := Lib.hid hP5; have HE5 := Lib.hid hE5; have HS5 := Lib.hid hS5; have HG5 := Lib.hid hG5; clear hP5 hE5 hS5 hG5)
      go_end0
      refine ⟨T5, os5, rfl, HP5.out, ?_, ?_, HG5.out⟩
      · rw [HE5.out, HE.out, HT3E.out]
        simp only [List.nil_append]
      · have h2 := HSZ.out
        have h3 := HS5.out
        omega
end
end SW
end Go.Proofs.YtbglcdjimipeeaaGreatDoor
