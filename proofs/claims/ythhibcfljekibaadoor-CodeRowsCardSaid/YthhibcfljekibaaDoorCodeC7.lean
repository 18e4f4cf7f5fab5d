/-
  Contract of layer 11's code: Check. Conditions: sizes, numbers are of their kinds, the program's tables.
-/
import Derived.Test.YthhibcfljekibaaDoorCodeC6
import Derived.Test.YthhibcfljekibaaDoorCodeFacts
namespace Go.Proofs.YthhibcfljekibaaDoor
open Go.RowKit
set_option linter.unusedVariables false
namespace KW
open KP
/-- The program's tables. -/
structure TT (w : World) : Prop where
  ft : FT w
  at_ : AT w
  pt : PT w
theorem TT.far {w w' : World} (h : TT w) (f : MM.Far [] w w') : TT w' := ⟨h.ft.far f, h.at_.far f, h.pt.far f⟩
/-- What Check answers. -/
def ChQ (R : Int × Int × Int) (w : World) (e : Ending) (w' : World) : Prop := e = .returned (.tuple #[num R.1, num R.2.1, num R.2.2]) ∧ MM.Far [] w w'
structure Wb (b : Kb) : Prop where
  len : b.l.length < 1000000000
  wf : ∀ x ∈ b.l, Wf x
theorem Br.at {w : World} {S : List Nat} {A : Option Addr} {l : List Kb} (h : Br w S A l) {i : Nat} (hi : i < l.length) : ∃ b o A' c, A = some ⟨b, o, none⟩ ∧ b ∉ S ∧ b < w.heap.size ∧ w.cell? ⟨b, o + i * 2, none⟩ = some (num l[i].many) ∧ w.cell? ⟨b, o + i * 2 + 1, none⟩ = some (.slice A' l[i].l.length c) ∧ l[i].l.length ≤ c ∧ c ≤ maxLen ∧ Ir w S A' l[i].l :=
  h i _ (List.getElem?_eq_getElem hi)
set_option maxHeartbeats 8000000 in
set_option maxRecDepth 20000 in
theorem check_any (l : List Kb) (n : Nat) (hn : l.length = n) (h9 : n < 1000000000) (hl : ∀ b ∈ l, Wb b) (A : Option Addr) (c : Nat) (w : World) (hT : TT w) (hB : Br w [] A l) :
    Calls Tryd.prog 10 #[.slice A n c] w (ChQ (check l) w) := by
  obtain ⟨R, hR⟩ : ∃ R, check l = R := ⟨_, rfl⟩
  rw [hR]
  have HR := Lib.hid hR
  have HN := Lib.hid hn
  have HL := Lib.hid hl
  have HT := Lib.hid hT
  have HB := Lib.hid hB
  have HAr := Lib.hid (arities_any w hT.at_ hT.pt)
  clear hR hn hl hT hB
  go_enter Tryd.func10, Tryd.ntmps10
  by_cases h0 : n = 0
  · obtain rfl : l = [] := List.length_eq_zero_iff.1 (HN.out.trans h0)
    obtain rfl : R = (0, 0, 1) := HR.out.symm
    subst h0
    go_wp2_with (fail)
    go_ret3
    exact ⟨rfl, MM.Far.refl _ _⟩
  · have hn0 : ((n : Int) == 0) = false := by simpa using h0
    have HR0 : Hid (checkL n (l.drop 0) 0 (mst 0 0) = R) := Lib.hid (by
      have := HR.out
      rw [check_cons (fun h => h0 (by rw [← HN.out, h]; rfl)), HN.out] at this
      exact this)
    clear HR
    go_wp2_with (first
      | (go_at_call 14
         refine HAr.out.mono ?_
         rintro e w1 ⟨mb, rfl, hM1, hmb, hF1⟩
         have HM1 := Lib.hid hM1
         have HF1 := Lib.hid hF1
         clear hM1 hF1))
    have FC := (MM.Far.refl [] w1).alloc (.cells #[num n, .map (some mb)] 50)
    have HM2 := Lib.hid (HM1.out.far FC (by simp))
    have HF2 := Lib.hid (HF1.out.trans FC (by simp))
    have HBC := Lib.hid (MM.Row.new w1 50 [num n, .map (some mb)])
    clear HM1 HF1 HAr FC
    obtain ⟨bc, hbc⟩ : ∃ bc, w1.heap.size = bc := ⟨_, rfl⟩
    rw [hbc] at HBC
    rw [hbc]
    generalize w1.alloc (.cells #[num n, .map (some mb)] 50) = w2 at *
    clear hbc hmb
    have F0 : Hid (MM.Far [] w2 w2) := Lib.hid (MM.Far.refl _ _)
    go_loopw [6, 20] (fun s6 s20 wr => ∃ k : Nat, k ≤ n ∧ s6 = num (mst k 0) ∧ s20 = num k ∧ Hid (MM.Far [] w2 wr) ∧ Hid (checkL n (l.drop k) k (mst k 0) = R)) (fun _ s20 _ => n - (intOf s20).toNat)
    case atStart => exact ⟨0, by omega, rfl, rfl, F0, HR0⟩
    case round =>
      obtain ⟨k, hk, rfl, rfl, HFr, HE⟩ := hrel
      by_cases hlt : k < n
      · have hkl : k < l.length := by rw [HN.out]; exact hlt
        obtain ⟨b, o, A', c', rfl, -, hb, c0, c1, k1, k2, hI⟩ := (HB.out.far (HF2.out.trans HFr.out (by simp)) (by simp)).at hkl
        have hE := HE.out
        rw [List.drop_eq_getElem_cons hkl] at hE
        have hwb := HL.out _ (List.getElem_mem hkl)
        generalize l[k] = x at *
        unfold KP.checkL at hE
        have hmst : mst (k + 1) 0 = 100 := rfl
        have HMS := Lib.hid hmst
        have hB2 := HBC.out.far HFr.out (by simp)
        have y0 : wr.cell? ⟨bc, 0, none⟩ = some (num n) := hB2.at (i := 0) rfl
        have y1 : wr.cell? ⟨bc, 1, none⟩ = some (.map (some mb)) := hB2.at (i := 1) rfl
        have hbcl := hB2.lt
        obtain ⟨m, hm⟩ : ∃ m, x.l.length = m := ⟨_, rfl⟩
        rw [hm] at c1
        have HWr := Lib.hid (fun W (h1 : FT W) (h2 : MapI W mb arity) (h3 : Ir W [] A' x.l) => wrong_any n (mst k 0) x m hm (by rw [← hm]; exact hwb.len) hwb.wf A' c' mb W h1 h2 h3)
        have HIr := Lib.hid hI
        have FW := (MM.Far.refl [] wr).alloc (.cells #[num x.many, .slice A' m c'] 31)
        have HTW := Lib.hid ((HT.out.far (HF2.out.trans HFr.out (by simp))).far FW)
        have HMW := Lib.hid ((HM2.out.far HFr.out (by simp)).far FW (by simp))
        have HIW := Lib.hid (hI.far FW (by simp))
        have HFW := Lib.hid (HFr.out.trans FW (by simp))
        generalize KP.wrongAt n x (mst k 0) = wo at *
        obtain ⟨ms, hms⟩ : ∃ ms, mst k 0 = ms := ⟨_, rfl⟩
        rw [hms] at HWr ⊢
        obtain ⟨many, xl⟩ := x
        simp only at c0 c1 hm
        have HE2 := Lib.hid hE
        clear hE hmst hms hm hI FW hB2 hwb hkl HE
        cases wo with
        | some at' =>
          obtain rfl : R = ((k : Int), (at' : Int), 110) := HE2.out.symm
          go_wp2_with (first
            | (go_at_call 15
               refine (HWr.out _ HTW.out.ft HMW.out HIW.out).mono ?_
               rintro e w5 ⟨rfl, hF5⟩))
          go_ret3
          exact ⟨rfl, (HF2.out.trans HFW.out (by simp)).trans hF5 (by simp)⟩
        | none =>
          have HE3 : Hid (checkL n (l.drop (k + 1)) (k + 1) (mst (k + 1) 0) = R) := Lib.hid HE2.out
          clear HE2
          go_wp2_with (first
            | (go_at_call 15
               refine (HWr.out _ HTW.out.ft HMW.out HIW.out).mono ?_
               rintro e w5 ⟨rfl, hF5⟩
               have HF5 := Lib.hid (HFW.out.trans hF5 (by simp))
               clear hF5))
          go_roundw
          case rel => exact ⟨k + 1, by omega, by rw [HMS.out], by go_num, HF5, HE3⟩
          case measure => simp [intOf]; omega
      · obtain rfl : k = n := by omega
        obtain rfl : R = (0, 0, 0) := by
          have := HE.out
          rw [List.drop_eq_nil_of_le (by rw [HN.out]; omega)] at this
          rw [← this]; rfl
        go_wp2_with (fail)
        go_ret3
        exact ⟨rfl, HF2.out.trans HFr.out (by simp)⟩
end KW
end Go.Proofs.YthhibcfljekibaaDoor
