/-
  P6.1's law whole: the code's May and the document's for any row; few; the argument's reading. Conditions: sizes; the argument's reading.
-/
import Derived.Test.YtedbaegdmianaaaDoorQReadMays
import Derived.ChangeArms
import Derived.Deep.DeepCutAuto
namespace Go.Proofs.YtedbaegdmianaaaDoor
open Go.RowKit
set_option linter.unusedVariables false
namespace RW6
open LX RX RM6
end RW6
end Go.Proofs.YtedbaegdmianaaaDoor
namespace Go.Proofs.YtedbaegdmianaaaDoor
open Go.RowKit
set_option linter.unusedVariables false
namespace RW6
open LX RX RM6
set_option maxHeartbeats 2000000 in
set_option maxRecDepth 20000 in
theorem right_any (kd at_ n : Int) (s : ByteArray) (LA : Option Addr) (len c : Nat) (hl : len ≤ 100000) (w : World) :
    Calls Tryd.prog 32 #[.agg #[.int .u8 kd, .int .i64 at_, .int .i64 n, .string s, .slice LA len c]] w fun e w' => e = .returned (.bool (okF kd at_ n s len)) ∧ MM.Far [] w w' := by
  by_cases h0 : at_ < 0
  · have HE := Lib.hid (show okF kd at_ n s len = false by unfold okF; rw [if_pos h0])
    rw [HE.out]
    clear HE
    go_enter Tryd.func32, Tryd.ntmps32
    go_wp2
    go_ret
    exact ⟨rfl, (MM.Far.refl [] w).alloc _⟩
  · obtain ⟨b, hb⟩ : ∃ b, okF kd at_ n s len = b := ⟨_, rfl⟩
    rw [hb]
    have H0 := Lib.hid h0
    have HL := Lib.hid hl
    rcases (show (kd = 1 ∨ kd = 2 ∨ kd = 3 ∨ kd = 4 ∨ (kd ≠ 1 ∧ kd ≠ 2 ∧ kd ≠ 3 ∧ kd ≠ 4)) by omega) with rfl | rfl | rfl | rfl | ⟨k1, k2, k3, k4⟩
    case' inr.inr.inr.inr =>
      have d1 : (kd == 1) = false := by rw [beq_eq_false_iff_ne]; exact k1
      have d2 : (kd == 2) = false := by rw [beq_eq_false_iff_ne]; exact k2
      have d3 : (kd == 3) = false := by rw [beq_eq_false_iff_ne]; exact k3
      have d4 : (kd == 4) = false := by rw [beq_eq_false_iff_ne]; exact k4
      have d5 : (kd != 3) = true := by rw [bne_iff_ne]; exact k3
      have d6 : (kd != 4) = true := by rw [bne_iff_ne]; exact k4
    all_goals
      rcases (show (s.size = 0 ∨ s.size ≠ 0) by omega) with hs | hs
      case' inl =>
        have HS := Lib.hid hs
        obtain rfl := size_zero hs
        clear hs
      case' inr =>
        have HS := Lib.hid hs
        have e1 := toList_ne hs
        have e2 : (s.toList == []) = false := by rw [beq_eq_false_iff_ne]; exact e1
        have e6 : (s.toList != []) = true := by rw [bne_iff_ne]; exact e1
        clear hs
      all_goals
        rcases (show (len = 0 ∨ len ≠ 0) by omega) with hn | hn
        case' inl =>
          have HN := Lib.hid hn
          subst hn
        case' inr =>
          have HN := Lib.hid hn
          have e3 : decide ((0 : Int) < (len : Int)) = true := by rw [decide_eq_true_iff]; omega
          have e7 : (0 : Int) < (len : Int) := by omega
          have e8 : 0 < len := by omega
          clear hn
        all_goals
          rcases (show (n = 0 ∨ n = 1 ∨ (n ≠ 0 ∧ n ≠ 1)) by omega) with rfl | rfl | ⟨m1, m2⟩
          case' inr.inr =>
            have e4 : (n == 0) = false := by rw [beq_eq_false_iff_ne]; exact m1
            have e5 : (n == 1) = false := by rw [beq_eq_false_iff_ne]; exact m2
          all_goals
            have HE := Lib.hid hb
            clear hb
            go_enter Tryd.func32, Tryd.ntmps32
            go_wp2
            go_ret
            refine ⟨?_, (MM.Far.refl [] w).alloc _⟩
            rw [← HE.out]
            have g0 := H0.out
            have gs := HS.out
            have gn := HN.out
            simp [okF, *]
end RW6
end Go.Proofs.YtedbaegdmianaaaDoor
namespace Go.Proofs.YtedbaegdmianaaaDoor
open Go.RowKit Go.ChangeShapes Go.WideShapes Go.Deep
namespace RW6
structure Na where
  k : Int
  at_ : Int
  n : Int
  s : ByteArray
  A : Option Addr
  l : Nat
  c : Nat
  zs : List Int
def Na.cells (a : Na) : List Value := [.int .u8 a.k, .int .i64 a.at_, .int .i64 a.n, .string a.s, .slice a.A a.l a.c]
structure Na.Ok (w : World) (a : Na) : Prop where
  hk : (Lit.int .u8 a.k).wf = true
  hn : (Lit.int .i64 a.at_).wf = true
  hi : (Lit.int .i64 a.n).wf = true
  hs : a.s.size ≤ maxLen
  hz : MR.Ints .i64 w a.A a.l a.c a.zs
structure Nas (w : World) (a : Option Addr) (len cap : Nat) (tl : List Na) : Prop where
  len_ : tl.length = len
  le : len ≤ cap
  max : cap ≤ maxLen
  nil : a = none → cap = 0
  elems : ∀ (i : Nat) (t : Na), tl[i]? = some t → ∃ b off, a = some ⟨b, off, none⟩ ∧ b < w.heap.size ∧ (∀ (j : Nat) (u : Value), t.cells[j]? = some u → w.cell? ⟨b, off + i * 5 + j, none⟩ = some u) ∧ t.Ok w
section
variable {H : Type} {enc : TypeId × Value → H} {w : World} {fuel : Nat}
end
def Na.cut (t : Na) : Na := { t with l := min t.l 20, zs := t.zs.take 20 }
end RW6
end Go.Proofs.YtedbaegdmianaaaDoor
namespace Go.Proofs.YtedbaegdmianaaaDoor
open Go.RowKit
set_option linter.unusedVariables false
namespace RW6
open LX RX RM6
set_option maxHeartbeats 4000000 in
set_option maxRecDepth 20000 in
theorem dmay_any (ns : List Ni) (n : Nat) (hn : ns.length = n) (hn2 : n ≤ 100000) (hl : ∀ x ∈ ns, x.l.length ≤ 100000) (A : Option Addr) (c : Nat) (w : World) (hN : NiRow w [] A ns) :
    Calls Tryd.prog 20 #[.slice A n c] w fun e w' => e = .returned (.bool (may ns)) ∧ MM.Far [] w w' := by
  obtain ⟨R, hR⟩ : ∃ R, may ns = R := ⟨_, rfl⟩
  rw [hR]
  unfold may at hR
  have HR := Lib.hid hR
  have HN := Lib.hid hn
  have HL := Lib.hid hl
  have HNi := Lib.hid hN
  clear hR hn hl hN
  go_enter Tryd.func20, Tryd.ntmps20
  have hmk := run_make_row' (P := Tryd.prog) 96 4 (.bool false) 1 bools_slice bool_info rfl .i64 .i64 n (by omega) (by omega)
  rw [made_list] at hmk
  go_wp2
  clear hmk
  have HI0 : Hid (MayI w w.heap.size ns R 0 (w.alloc (.cells (List.replicate n (.bool false)).toArray 4))) := Lib.hid
    ⟨List.replicate n false, by rw [bools_rep]; exact MM.Row.new w 4 (List.replicate n (.bool false)), (MM.Far.refl [] w).alloc _, by rw [List.length_replicate, HN.out], by rw [List.drop_zero, ← HR.out, HN.out]⟩
  have HNb : Hid (NiRow (w.alloc (.cells (List.replicate n (.bool false)).toArray 4)) [w.heap.size] A ns) := Lib.hid (HNi.out.new ((MM.Far.refl [] w).alloc _) _ (Nat.le_refl _))
  obtain ⟨tb, htb⟩ : ∃ tb, w.heap.size = tb := ⟨_, rfl⟩
  rw [htb] at HI0 HNb
  rw [htb]
  have HTB := Lib.hid htb
  clear htb
  have HF0 : Hid (MM.Far [tb] (w.alloc (.cells (List.replicate n (.bool false)).toArray 4)) (w.alloc (.cells (List.replicate n (.bool false)).toArray 4))) := Lib.hid (MM.Far.refl _ _)
  go_loopw [4] (fun s4 wr => ∃ k : Nat, k ≤ n ∧ s4 = .int .i64 k ∧ Hid (MayI w tb ns R k wr) ∧ Hid (MM.Far [tb] (w.alloc (.cells (List.replicate n (.bool false)).toArray 4)) wr)) (fun s4 _ => n - (intOf s4).toNat)
  case atStart => exact ⟨0, by omega, rfl, HI0, HF0⟩
  case round =>
    obtain ⟨k, hk, rfl, hI, hF⟩ := hrel
    obtain ⟨tk, hB, hFw, hlen, hG⟩ := hI.out
    clear hI HI0 HF0
    by_cases hlt : k < n
    · have hk2 : k < ns.length := by rw [HN.out]; exact hlt
      obtain ⟨b, o, LA, lc, rfl, hbS, hb, c0, c1, c2, c3, c4, hL⟩ := (HNb.out.far hF.out) k hk2
      rw [List.drop_eq_getElem_cons hk2] at hG
      have hml := HL.out _ (List.getElem_mem hk2)
      generalize ns[k] = x at *
      obtain ⟨kd, at_, nn, s, l⟩ := x
      simp only at c0 c1 c2 c3 c4 hL hml
      unfold mayG at hG
      simp only at hG
      obtain ⟨m, hm⟩ : ∃ m, l.length = m := ⟨_, rfl⟩
      rw [hm] at c4 hml hG
      have HM := Lib.hid hm
      obtain ⟨ok, hok⟩ : ∃ ok, okF kd at_ nn s m = ok := ⟨_, rfl⟩
      rw [hok] at hG
      have HC := Lib.hid (right_any kd at_ nn s LA m lc hml)
      rw [hok] at HC
      have HB := Lib.hid hB
      have HFw := Lib.hid hFw
      have HFt := Lib.hid hF.out
      have HIR := Lib.hid hL
      have HLEN := Lib.hid hlen
      have HG := Lib.hid hG
      have HBS := Lib.hid hbS
      have HBL := Lib.hid hb
      have HC4 := Lib.hid c4
      clear hk2 hG hok hB hFw hlen hL hF hm hbS hb
      cases ok with
      | false =>
        have HG2 : Hid (R = false) := Lib.hid (by have := HG.out; simpa using this.symm)
        clear HG
        go_wp2_with (first | (go_at_call 32; (with_reducible refine (HC.out _).mono ?_); rintro e w5 ⟨rfl, hF5⟩; have HFw5 := Lib.hid (HFw.out.trans hF5 (by simp)); clear hF5))
        go_ret
        exact ⟨by rw [HG2.out]; rfl, HFw5.out⟩
      | true =>
        obtain ⟨T, hT⟩ : ∃ T, takeL k l tk = T := ⟨_, rfl⟩
        have HT := Lib.hid hT
        have hG2 := HG.out
        rw [if_neg (by simp), hT] at hG2
        have HG2 := Lib.hid hG2
        clear HG hT hG2
        go_wp2_with (first | (go_at_call 32; (with_reducible refine (HC.out _).mono ?_); rintro e w5 ⟨rfl, hF5⟩; have HFw5 := Lib.hid (HFw.out.trans hF5 (by simp)); have HFt5 := Lib.hid (HFt.out.trans hF5 (by simp)); have HC5 := Lib.hid (far_cell hF5 HC4.out); have HIR5 := Lib.hid (HIR.out.far (hF5.mono (S' := [tb]) (by simp))); have HTI0 : Hid (TakeI w5 tb k l tk T 0 w5) := Lib.hid ⟨tk, HB.out.far hF5 (by simp), MM.Far.refl _ _, rfl, by rw [List.drop_zero]; exact HT.out⟩; clear hF5))
        go_loopw [6] (fun s6 wx => ∃ j : Nat, j ≤ m ∧ s6 = .int .i64 j ∧ Hid (TakeI w5 tb k l tk T j wx)) (fun s6 _ => m - (intOf s6).toNat)
        case atStart => exact ⟨0, by omega, rfl, HTI0⟩
        case round =>
          obtain ⟨j, hj, rfl, hTI⟩ := hrel
          obtain ⟨tj, hBj, hFj, hlj, hRj⟩ := hTI.out
          clear hTI HTI0
          have c5 := far_cell_at hFj HBS.out HC5.out
          have HFwx := Lib.hid (far_dtS HFw5.out hFj (.inr rfl) (fun h => by have := HTB.out; omega))
          have HFtx := Lib.hid (far_dtS HFt5.out hFj (.inr rfl) (fun _ => by simp))
          by_cases hlt2 : j < m
          · have hj2 : j < l.length := by rw [HM.out]; exact hlt2
            obtain ⟨b2, o2, hLA, hbS2, hb2, hc⟩ := (HIR5.out.far hFj) j hj2
            subst hLA
            rw [List.drop_eq_getElem_cons hj2] at hRj
            generalize l[j] = p at *
            unfold takeL at hRj
            have HFj := Lib.hid hFj
            have HBj := Lib.hid hBj
            have HLj := Lib.hid hlj
            clear hFj hBj hlj hj2 hbS2 hb2
            by_cases h1 : p < 0
            · rw [if_pos (.inl h1)] at hRj
              subst hRj
              have HG3 : Hid (R = false) := Lib.hid (show false = R from HG2.out).symm
              have d1 : decide (p < 0) = true := by rw [decide_eq_true_iff]; exact h1
              clear HG2
              go_wp2
              go_ret
              exact ⟨by rw [HG3.out]; rfl, HFwx.out⟩
            · by_cases h2 : (k : Int) ≤ p
              · rw [if_pos (.inr h2)] at hRj
                subst hRj
                have HG3 : Hid (R = false) := Lib.hid (show false = R from HG2.out).symm
                have d1 : decide (p < 0) = false := by rw [decide_eq_false_iff_not]; exact h1
                have d2 : decide ((k : Int) ≤ p) = true := by rw [decide_eq_true_iff]; exact h2
                clear HG2
                go_wp2
                go_ret
                exact ⟨by rw [HG3.out]; rfl, HFwx.out⟩
              · rw [if_neg (by omega)] at hRj
                obtain ⟨q, rfl⟩ : ∃ q : Nat, p = (q : Int) := ⟨p.toNat, by omega⟩
                have hq : q < tj.length := by rw [HLj.out, HLEN.out, HN.out]; omega
                have hqi : q < k := by omega
                rw [Int.toNat_natCast] at hRj
                have hgd : tj.getD q false = tj[q] := by rw [List.getD_eq_getElem?_getD, List.getElem?_eq_getElem hq]; rfl
                rw [hgd] at hRj
                have hcell := HBj.out.at (bools_at hq)
                have hfz := HBj.out.frozen q
                have g1 : (q : Int) < (k : Int) := by omega
                have g2 : (q : Int) < (n : Int) := by omega
                obtain ⟨bt, hbt⟩ : ∃ bt, tj[q] = bt := ⟨_, rfl⟩
                rw [hbt] at hRj hcell
                clear hgd hbt h1 h2
                cases bt with
                | true =>
                  rw [if_pos rfl] at hRj
                  subst hRj
                  have HG3 : Hid (R = false) := Lib.hid (show false = R from HG2.out).symm
                  clear HG2
                  go_wp2
                  go_ret
                  exact ⟨by rw [HG3.out]; rfl, HFwx.out⟩
                | false =>
                  rw [if_neg (by simp)] at hRj
                  have HRj := Lib.hid hRj
                  rename_i wx
                  clear hRj
                  go_wp2
                  go_roundw
                  case rel => exact ⟨j + 1, by omega, by go_num, Lib.hid ⟨tj.set q true, by rw [← bools_set]; exact HBj.out.put q _, HFj.out.trans (one_far _ tb q _) (by simp), by rw [List.length_set]; exact HLj.out, HRj.out⟩⟩
                  case measure => simp [intOf]; omega
          · obtain rfl : j = m := by omega
            rw [List.drop_of_length_le (by rw [HM.out]; exact Nat.le_refl _)] at hRj
            replace hRj : some tj = T := hRj
            subst hRj
            have HG3 : Hid (mayG (ns.drop (k + 1)) (k + 1) tj = R) := Lib.hid HG2.out
            have HBj := Lib.hid hBj
            have HLj := Lib.hid hlj
            clear HG2 hFj hBj hlj
            go_wp2
            go_roundw
            case rel => exact ⟨k + 1, by omega, by go_num, Lib.hid ⟨tj, HBj.out, HFwx.out, by rw [HLj.out]; exact HLEN.out, HG3.out⟩, HFtx⟩
            case measure => simp [intOf]; omega
    · obtain rfl : k = n := by omega
      rw [List.drop_of_length_le (by rw [HN.out]; exact Nat.le_refl _)] at hG
      have HG2 : Hid (true = R) := Lib.hid hG
      have HFw := Lib.hid hFw
      clear hG hB hFw hlen hF
      go_wp2
      go_ret
      exact ⟨by rw [← HG2.out]; rfl, HFw.out⟩
end RW6
end Go.Proofs.YtedbaegdmianaaaDoor
namespace Go.Proofs.YtedbaegdmianaaaDoor
open Go.RowKit
set_option linter.unusedVariables false
namespace RW6
open LX RX RM6
theorem Nas.far {w w' : World} {a : Option Addr} {len cap : Nat} {tl : List Na} (h : Nas w a len cap tl) (f : MM.Far [] w w') : Nas w' a len cap tl :=
  ⟨h.len_, h.le, h.max, h.nil, fun i t ht => by
    obtain ⟨b, off, e, hb, hc, ho⟩ := h.elems i t ht
    exact ⟨b, off, e, Nat.lt_of_lt_of_le hb f.size, fun j u hu => (f.cell (p := ⟨b, off + i * 5 + j, none⟩) hb (by simp)).trans (hc j u hu), ho.hk, ho.hn, ho.hi, ho.hs, ho.hz.len_, ho.hz.le, ho.hz.max, ho.hz.nil, ho.hz.src.far f (by simp), ho.hz.wf⟩⟩
end RW6
end Go.Proofs.YtedbaegdmianaaaDoor
