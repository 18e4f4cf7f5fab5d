/-
  Contract of layer 11's code: Depth. Conditions: sizes.
-/
import Derived.Test.YthhibcfljekibaaDoorCodeRep
namespace Go.Proofs.YthhibcfljekibaaDoor
open Go.RowKit
set_option linter.unusedVariables false
namespace KW
open KP
/-- What Depth answers. -/
def DepthQ (R : Option (List Int)) (w : World) (e : Ending) (w' : World) : Prop :=
  ∃ v, e = .returned (.tuple #[v, .bool R.isSome]) ∧ MM.Far [] w w' ∧ (R = none → v = .slice none 0 0) ∧ ∀ d, R = some d → ∃ g, v = .slice (some ⟨g, 0, none⟩) d.length d.length ∧ MM.Row w' g 3 (ints d) ∧ w.heap.size ≤ g
theorem DepthQ.none {w w' : World} (f : MM.Far [] w w') : DepthQ none w (.returned (.tuple #[.slice Option.none 0 0, .bool false])) w' := ⟨_, rfl, f, fun _ => rfl, fun d e => by cases e⟩
theorem rep_get {n j : Nat} (h : j < n) : (ints (List.replicate n (-1)))[j]? = some (num (-1)) := by simp [ints, h]
set_option maxHeartbeats 4000000 in
set_option maxRecDepth 20000 in
theorem depth_any (l : List Ki) (n : Nat) (hn : l.length = n) (h9 : n < 1000000000) (many : Int) (A : Option Addr) (c : Nat) (w : World) (hI : Ir w [] A l) :
    Calls Tryd.prog 11 #[.agg #[num many, .slice A n c]] w (DepthQ (depth l) w) := by
  obtain ⟨R, hR⟩ : ∃ R, depth l = R := ⟨_, rfl⟩
  rw [hR]
  unfold depth at hR
  have HN := Lib.hid hn
  have HR := Lib.hid hR
  have HI := Lib.hid hI
  clear hn hR hI
  have F1 := Lib.hid ((MM.Far.refl [] w).alloc (.cells #[num many, .slice A n c] 31))
  go_enter Tryd.func11, Tryd.ntmps11
  by_cases h0 : n = 0
  · obtain rfl : R = none := by have := HR.out; rw [if_pos (List.length_eq_zero_iff.1 (HN.out.trans h0))] at this; exact this.symm
    subst h0
    go_wp2_with (fail)
    go_ret2
    exact DepthQ.none F1.out
  · have hR2 : Hid (run l 0 (KP.start n) = R) := Lib.hid (by
      have := HR.out
      rw [if_neg (fun h => h0 (by rw [← HN.out, h]; rfl)), HN.out] at this
      exact this)
    clear HR
    have hn0 : ((n : Int) == 0) = false := by simpa using h0
    have HRW := Lib.hid (fun (W : World) (bb : Nat) (hb : W.cell? ⟨bb, 0, none⟩ = some (num (-1))) (hl : bb < W.heap.size) => repeat_any n (by omega) h9 bb 1 W hb hl)
    have hm1 := MM.Row.new (w.alloc (.cells #[num many, .slice A n c] 31)) 3 [num (-1)]
    rw [World.size_alloc] at hm1
    have HM1 := Lib.hid hm1
    have F2 := Lib.hid (F1.out.alloc (.cells #[num (-1)] 3))
    have hb1 := ((MM.Row.new w 31 [num many, .slice A n c]).alloc (.cells #[num (-1)] 3))
    have HB1 := Lib.hid hb1
    clear hm1 hb1
    go_wp2_with (first
      | (go_at_call 16
         refine (HRW.out _ _ (HM1.out.at (i := 0) rfl) HM1.out.lt).mono ?_
         rintro e w2 ⟨g, rfl, hr, hg, hF⟩
         have hs2 : w.heap.size + 2 ≤ g := by simpa using hg
         have hr0 : w2.frozen? ⟨g, 0, none⟩ = false := hr.frozen 0
         have hc0 : w2.cell? ⟨g, 0, none⟩ = some (num (-1)) := hr.at (i := 0) (rep_get (by omega))
         have HR2 := Lib.hid hr
         have HF2 := Lib.hid hF
         have hbx := HB1.out.far hF (by simp)
         have hx1 : w2.cell? ⟨w.heap.size, 1, none⟩ = some (.slice A n c) := hbx.at (i := 1) rfl
         clear hr hF hbx hg))
    have HR3 : Hid (MM.Row (w2.setCell ⟨g, 0, none⟩ (num 0)) g 3 (ints (KP.start n))) := Lib.hid (by
      have := HR2.out.put 0 (num 0)
      rw [ints_set] at this
      exact this)
    have HF3 : Hid (MM.Far [] w (w2.setCell ⟨g, 0, none⟩ (num 0))) := Lib.hid ((F2.out.trans HF2.out (by simp)).setCell (fun h => by simp at h; omega) _)
    have HL0 := Lib.hid (start_low n)
    have HZ0 := Lib.hid (start_len n)
    have HN0 := Lib.hid (start_nn n)
    clear HR2 HF2 HM1 HB1 HRW hr0 hc0 hx1
    have hgl := HR3.out.lt
    generalize w2.setCell ⟨g, 0, none⟩ (num 0) = w3 at *
    go_loopw [21] (fun s21 wr => ∃ (k : Nat) (d : List Int), k ≤ n ∧ s21 = num k ∧ Hid (d.length = n) ∧ Hid (MM.Row wr g 3 (ints d)) ∧ Hid (MM.Far [] w wr) ∧ Hid (run (l.drop k) k d = R) ∧ Hid (Low d) ∧ Hid (Nn d)) (fun s21 _ => n - (intOf s21).toNat)
    case atStart => exact ⟨0, KP.start n, by omega, rfl, HZ0, HR3, HF3, hR2, HL0, HN0⟩
    case round =>
      obtain ⟨k, d, hk, rfl, HZ, HR, HF, HE, HLo, HNn⟩ := hrel
      by_cases hlt : k < n
      · have hkl : k < l.length := by rw [HN.out]; exact hlt
        obtain ⟨b, o, rfl, -, hb, c0, c1, c2, c3⟩ := (HI.out.far HF.out (by simp)).at hkl
        have hE := HE.out
        rw [List.drop_eq_getElem_cons hkl] at hE
        generalize l[k] = x at *
        obtain ⟨op, xa, xb, xw⟩ := x
        simp only at c0 c1 c2 c3
        unfold KP.run at hE
        have hdk : wr.cell? ⟨g, k, none⟩ = some (num (at_ d k)) := HR.out.at (ints_at (by rw [HZ.out]; exact hlt))
        have hgr := HR.out.lt
        have q1 := HLo.out k
        have q2 := HNn.out k
        have HW := Lib.hid (HR.out.alloc (.cells #[.int .u8 op, .int .i64 xa, .int .i64 xb, .int .u64 xw] 38))
        have HFW := Lib.hid (HF.out.alloc (.cells #[.int .u8 op, .int .i64 xa, .int .i64 xb, .int .u64 xw] 38))
        have HE2 := Lib.hid hE
        have HL := Lib.hid (fun (e0 : 0 ≤ at_ d k) => lead_any d n HZ.out n k ⟨op, xa, xb, xw⟩ g (wr.alloc (.cells #[.int .u8 op, .int .i64 xa, .int .i64 xb, .int .u64 xw] 38)) HW.out hlt h9 e0 (by omega))
        obtain ⟨q, hq⟩ : ∃ q, at_ d k = q := ⟨_, rfl⟩
        rw [hq] at hdk q1 q2
        have HQ := Lib.hid hq
        clear hE hq
        by_cases hm : q = -1
        · subst hm
          have HE3 : Hid (run (l.drop (k + 1)) (k + 1) d = R) := Lib.hid (by have := HE2.out; rw [if_pos HQ.out] at this; exact this)
          clear HE2 HL
          go_wp2_with (fail)
          go_roundw
          case rel => exact ⟨k + 1, d, by omega, by go_num, HZ, HW, HFW, HE3, HLo, HNn⟩
          case measure => simp [intOf]; omega
        · have e5 : (q != -1) = true := by simpa using hm
          have hE3 := HE2.out
          rw [if_neg (by rw [HQ.out]; exact hm)] at hE3
          have HL2 := Lib.hid (HL.out (by rw [HQ.out]; omega))
          have HLW : Hid (∀ e, KP.lead d k ⟨op, xa, xb, xw⟩ = some e → Low e ∧ Nn e) := Lib.hid (fun e he => ⟨lead_low he HLo.out, (lead_kept he).1.nn HNn.out⟩)
          generalize KP.lead d k ⟨op, xa, xb, xw⟩ = RL at *
          clear HL HE2
          cases RL with
          | none =>
            have hR0 : R = none := hE3.symm
            subst hR0
            clear hE3
            go_wp2_with (first
              | (go_at_call 17
                 refine HL2.out.mono ?_
                 rintro e w4 ⟨d2, rfl, hr4, hz4, -, hF4⟩))
            go_ret2
            exact DepthQ.none (HFW.out.trans hF4 (fun b1 h1 h2 => by simp at h1; omega))
          | some d1 =>
            have HE3 : Hid (run (l.drop (k + 1)) (k + 1) d1 = R) := Lib.hid hE3
            clear hE3
            go_wp2_with (first
              | (go_at_call 17
                 refine HL2.out.mono ?_
                 rintro e w4 ⟨d2, rfl, hr4, hz4, h4, hF4⟩
                 obtain rfl := h4 d1 rfl
                 have HZ4 := Lib.hid hz4
                 have HR4 := Lib.hid hr4
                 have HF4 := Lib.hid (HFW.out.trans hF4 (fun b1 h1 h2 => by simp at h1; omega))
                 clear hz4 hr4 hF4 h4))
            go_roundw
            case rel => exact ⟨k + 1, _, by omega, by go_num, HZ4, HR4, HF4, HE3, Lib.hid (HLW.out _ rfl).1, Lib.hid (HLW.out _ rfl).2⟩
            case measure => simp [intOf]; omega
      · have hd : R = some d := by
          have := HE.out
          rw [List.drop_eq_nil_of_le (by rw [HN.out]; omega)] at this
          exact this.symm
        subst hd
        have hz := HZ.out
        subst hz
        go_wp2_with (fail)
        go_ret2
        exact ⟨_, rfl, HF.out, (fun e => by cases e), fun d' e => by injection e with e; subst e; exact ⟨g, rfl, HR.out, by omega⟩⟩
end KW
end Go.Proofs.YthhibcfljekibaaDoor
