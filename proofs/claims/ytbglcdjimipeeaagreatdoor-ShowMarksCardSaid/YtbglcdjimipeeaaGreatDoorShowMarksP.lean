/-
  P7.2's law of marks: words of each kind are shown by their signs. Condition: the numbers' table.
-/
import Derived.Test.YtbglcdjimipeeaaGreatDoorShowLawKit
import Derived.Test.YtbglcdjimipeeaaGreatDoorShowMap
import Derived.Test.YtbglcdjimipeeaaGreatDoorShowDraw
import Derived.Test.YtbglcdjimipeeaaGreatDoorNamesLaws1
import Derived.Deep.RegionHeld3
import Derived.Deep.DeepCutAuto
import Derived.IntWalk
namespace Go.Proofs.YtbglcdjimipeeaaGreatDoor
open Go.RowKit
set_option linter.unusedVariables false
namespace SW
open LX RX RW6 SX
theorem nms_of7 {w : World} {g : Nat} {S : List Nat} {L : List ByteArray} {mv sv : Value} (h : NW.Nm w g S L mv sv) : Nms w (NW.ptr g) (NP.textS L) (NP.textB L) := by
  refine ⟨fun i => ?_, fun wx f i => NW.text_any (h.nil f) i⟩
  unfold NP.textS
  split
  · rw [List.getD_eq_getElem?_getD]
    rename_i hi
    rw [List.getElem?_eq_getElem (show i.toNat < L.length by omega)]
    have := (h.ok.each _ (List.getElem_mem (show i.toNat < L.length by omega))).2
    simp only [Option.getD_some]
    omega
  · exact Nat.zero_le _
def nameB : ByteArray := ⟨#[110, 97, 109, 101]⟩
/-- The words of the law, each with the text that it wants. -/
def PV (k m : Nat) : List (Int × ByteArray) :=
  [(WP.encW (k : Int), str (Lib.itoa (k : Int))), (WP.encW (-(k : Int)), pickT ((⟨#[45]⟩ : ByteArray) ++ str (Lib.itoa (k : Int))) (decide (0 < k))), (2, ⟨#[40, 41]⟩), (18, ⟨#[35, 116]⟩), (10, ⟨#[35, 102]⟩), (26, ⟨#[35, 117]⟩), (3, ⟨#[110, 97, 109, 101]⟩),
    (((k : Int) + 1) * 8 + 3, (⟨#[35, 110]⟩ : ByteArray) ++ str (Lib.itoa ((k : Int) + 1))), ((k : Int) * 8 + 4, (⟨#[35, 104]⟩ : ByteArray) ++ str (Lib.itoa (k : Int))), (1, (⟨#[35]⟩ : ByteArray) ++ str (Lib.itoa ((m : Int) + 2))), (((k : Int) + 5) * 8 + 1, ⟨#[35, 63]⟩), (7, ⟨#[35, 63]⟩)]
def pc (l : List (Int × ByteArray)) : List Value := l.flatMap fun x => [.int .u64 x.1, .string x.2]
theorem pc_at : ∀ (l : List (Int × ByteArray)) (j : Nat) (h : j < l.length), (pc l)[j * 2]? = some (.int .u64 l[j].1) ∧ (pc l)[j * 2 + 1]? = some (.string l[j].2) := by
  intro l
  induction l with
  | nil => intro j h; simp at h
  | cons x l ih =>
    intro j h
    have e : pc (x :: l) = .int .u64 x.1 :: .string x.2 :: pc l := by simp [pc]
    rw [e]
    cases j with
    | zero => exact ⟨rfl, rfl⟩
    | succ j =>
      have := ih j (by simpa using h)
      rw [show (j + 1) * 2 = j * 2 + 1 + 1 by omega]
      simpa using this
def RAW (k : Nat) (dk dk1 dm dn : ByteArray) : List Value :=
  [.int .u64 (IntKind.u64.wrap (IntKind.u64.wrap (k : Int) * 8)), .string dk, .int .u64 (IntKind.u64.wrap (IntKind.u64.wrap (-IntKind.u64.wrap (k : Int)) * 8)), .string (pickT dn (decide (0 < k))), .int .u64 2, .string ⟨#[40, 41]⟩, .int .u64 18, .string ⟨#[35, 116]⟩, .int .u64 10, .string ⟨#[35, 102]⟩, .int .u64 26, .string ⟨#[35, 117]⟩,
    .int .u64 (bits .or .u64 (IntKind.u64.wrap (IntKind.u64.wrap 0 * 8)) 3), .string ⟨#[110, 97, 109, 101]⟩, .int .u64 (bits .or .u64 (IntKind.u64.wrap (IntKind.u64.wrap ((k : Int) + 1) * 8)) 3), .string ((⟨#[35, 110]⟩ : ByteArray) ++ dk1),
    .int .u64 (bits .or .u64 (IntKind.u64.wrap (IntKind.u64.wrap (k : Int) * 8)) 4), .string ((⟨#[35, 104]⟩ : ByteArray) ++ dk), .int .u64 1, .string ((⟨#[35]⟩ : ByteArray) ++ dm), .int .u64 (bits .or .u64 (IntKind.u64.wrap (IntKind.u64.wrap ((k : Int) + 5) * 8)) 1), .string ⟨#[35, 63]⟩, .int .u64 7, .string ⟨#[35, 63]⟩]
theorem enc_small (x : Int) (h0 : 0 ≤ x) (h1 : x ≤ 1000000) : IntKind.u64.wrap (IntKind.u64.wrap x * 8) = x * 8 := by
  rw [enc_wrap]
  unfold WP.encW
  omega
theorem enc_neg (k : Nat) (h : k < 1000) : IntKind.u64.wrap (IntKind.u64.wrap (-IntKind.u64.wrap (k : Int)) * 8) = WP.encW (-(k : Int)) := by
  unfold WP.encW
  simp only [IntKind.wrap, IntKind.signed, IntKind.bits]
  simp
  omega
theorem raw_pc (k m : Nat) (hk : k < 1000) : RAW k (str (Lib.itoa (k : Int))) (str (Lib.itoa ((k : Int) + 1))) (str (Lib.itoa ((m : Int) + 2))) ((⟨#[45]⟩ : ByteArray) ++ str (Lib.itoa (k : Int))) = pc (PV k m) := by
  unfold RAW
  rw [enc_neg k hk, enc_small ((k : Int) + 1) (by omega) (by omega), enc_small ((k : Int) + 5) (by omega) (by omega), enc_small 0 (by omega) (by omega)]
  rw [WP.orN (0 * 8) 3 (by omega) (by omega) (by omega) (by omega) (by omega), WP.orN (((k : Int) + 1) * 8) 3 (by omega) (by omega) (by omega) (by omega) (by omega), WP.orN (((k : Int) + 5) * 8) 1 (by omega) (by omega) (by omega) (by omega) (by omega)]
  have e4 : bits .or .u64 (IntKind.u64.wrap (IntKind.u64.wrap (k : Int) * 8)) 4 = (k : Int) * 8 + 4 := by
    rw [enc_small (k : Int) (by omega) (by omega), WP.orN _ 4 (by omega) (by omega) (by omega) (by omega) (by omega)]
  rw [e4, enc_wrap]
  rfl
/-- What the law's things are. -/
def mT (m : Nat) : List AP.Th := [⟨(m : Int) + 2, [0]⟩]
theorem look_mT (m : Nat) (x : Int) (h : WP.toB 1 x = true → (WP.toN 1 x).toNat ≠ 0) : AW.look (mT m) x = none := by
  unfold AW.look
  split
  · rename_i hb
    have hn := h hb
    generalize (WP.toN 1 x).toNat = a at hn
    unfold mT
    simp [AP.idx, hn]
  · rfl
theorem kind_none {m : Nat} {x : Int} (h : AW.look (mT m) x = none) : AW.kindN (mT m) x = 0 := by unfold AW.kindN; rw [h]
theorem look_one (m : Nat) : AW.look (mT m) 1 = some 0 := by
  unfold AW.look
  rw [if_pos (by decide)]
  rfl
theorem kind_one (m : Nat) : AW.kindN (mT m) 1 = (m : Int) + 2 := by
  unfold AW.kindN
  rw [look_one]
  rfl
theorem pr_kind {ts : List AP.Th} {x : Int} (h : AW.kindN ts x ≠ 1) : prB ts x = false := by unfold prB; rw [decide_eq_false h]; rfl
theorem sg_tag {tS : Int → ByteArray} {tB : Int → Bool} {ts : List AP.Th} (x : Int) (h : x ≠ 2 ∧ x ≠ 26 ∧ x ≠ 18 ∧ x ≠ 10) (h8 : x % 8 ≠ 0) : sg tS tB ts x = if WP.toB 3 x = true then nmT tS tB (WP.toN 3 x) else if WP.toB 4 x = true then 35 :: 104 :: Lib.itoa (WP.toN 4 x) else if AW.kindN ts x = 0 then [35, 63] else 35 :: Lib.itoa (AW.kindN ts x) := by
  unfold sg
  rw [if_neg h.1, if_neg h.2.1, if_neg h.2.2.1, if_neg h.2.2.2, if_neg (by rw [WP.toIntB_iff]; omega)]
theorem to_no (k x : Int) (h : x % 8 ≠ k) : ¬ WP.toB k x = true := by rw [WP.toB_iff]; omega
theorem to_yes (k x : Int) (hk : k = 1 ∨ k = 3 ∨ k = 4) (h : x % 8 = k) (h2 : x / 8 < 1099511627776) : WP.toB k x = true ∧ WP.toN k x = x / 8 := by
  have h1 : WP.toB k x = true := by rw [WP.toB_iff]; exact ⟨hk, h, h2⟩
  exact ⟨h1, by unfold WP.toN; rw [if_pos h1]⟩
theorem str_cons (a : UInt8) (l : List UInt8) : str (a :: l) = (⟨#[a]⟩ : ByteArray) ++ str l := (str_two [a] l).symm
theorem pv_ok (k m : Nat) (hk : k < 1000) (hm : m < 8) : ∀ x ∈ PV k m, WP.U x.1 ∧ prB (mT m) x.1 = false ∧ str (sg (NP.textS [nameB]) (NP.textB [nameB]) (mT m) x.1) = x.2 := by
  have hkn : ∀ x : Int, x % 8 ≠ 1 → AW.kindN (mT m) x = 0 := fun x hx => kind_none (look_mT m x (fun h => absurd ((WP.toB_iff 1 x).1 h).2.1 hx))
  intro x hx
  simp only [PV, List.mem_cons, List.not_mem_nil, or_false] at hx
  rcases hx with rfl | rfl | rfl | rfl | rfl | rfl | rfl | rfl | rfl | rfl | rfl | rfl
  · have hr : WP.inR (k : Int) = true := by rw [WP.inR_iff]; omega
    exact ⟨enc_u _, pr_no _ _ (by have := (enc_int _ hr).2.2; omega), by rw [sg_int _ _ _ _ hr]⟩
  · have hr : WP.inR (-(k : Int)) = true := by rw [WP.inR_iff]; omega
    refine ⟨enc_u _, pr_no _ _ (by have := (enc_int _ hr).2.2; omega), ?_⟩
    simp only
    rw [sg_int _ _ _ _ hr]
    unfold pickT
    by_cases h0 : 0 < k
    · rw [decide_eq_true h0, if_pos rfl]
      have e : Lib.itoa (-(k : Int)) = 45 :: Lib.itoa (k : Int) := by
        unfold Lib.itoa
        rw [if_pos (by omega), if_neg (by omega)]
        congr 2; omega
      rw [e, str_cons]
    · obtain rfl : k = 0 := by omega
      rw [decide_eq_false h0, show (-((0 : Nat) : Int)) = ((0 : Nat) : Int) by simp, SX.itoa_dig 0 (by decide)]
      rfl
  · exact ⟨by unfold WP.U; omega, pr_no _ _ (by decide), rfl⟩
  · exact ⟨by unfold WP.U; omega, pr_no _ _ (by decide), rfl⟩
  · exact ⟨by unfold WP.U; omega, pr_no _ _ (by decide), rfl⟩
  · exact ⟨by unfold WP.U; omega, pr_no _ _ (by decide), rfl⟩
  · refine ⟨by unfold WP.U; omega, pr_no _ _ (by decide), ?_⟩
    simp only
    rw [sg_tag 3 (by omega) (by omega), if_pos (by decide)]
    rfl
  · refine ⟨by unfold WP.U; simp only; omega, pr_no _ _ (by simp only; omega), ?_⟩
    simp only
    obtain ⟨t1, t2⟩ := to_yes 3 (((k : Int) + 1) * 8 + 3) (by omega) (by omega) (by omega)
    rw [sg_tag _ (by omega) (by omega), if_pos t1, t2, show (((k : Int) + 1) * 8 + 3) / 8 = (k : Int) + 1 by omega]
    unfold nmT
    rw [if_neg (by unfold NP.textB; simp; omega)]
    exact (str_two [35, 110] _).symm
  · refine ⟨by unfold WP.U; simp only; omega, pr_no _ _ (by simp only; omega), ?_⟩
    simp only
    obtain ⟨t1, t2⟩ := to_yes 4 ((k : Int) * 8 + 4) (by omega) (by omega) (by omega)
    rw [sg_tag _ (by omega) (by omega), if_neg (to_no 3 _ (by omega)), if_pos t1, t2, show ((k : Int) * 8 + 4) / 8 = (k : Int) by omega]
    exact (str_two [35, 104] _).symm
  · refine ⟨by unfold WP.U; omega, pr_kind (by simp only; rw [kind_one]; omega), ?_⟩
    simp only
    rw [sg_tag 1 (by omega) (by omega), if_neg (to_no 3 _ (by omega)), if_neg (to_no 4 _ (by omega)), kind_one, if_neg (by omega)]
    exact str_cons 35 _
  · have hl : AW.kindN (mT m) (((k : Int) + 5) * 8 + 1) = 0 := kind_none (look_mT m _ (fun h => by
      unfold WP.toN
      rw [if_pos h]
      omega))
    refine ⟨by unfold WP.U; simp only; omega, pr_kind (by simp only; rw [hl]; omega), ?_⟩
    simp only
    rw [sg_tag _ (by omega) (by omega), if_neg (to_no 3 _ (by omega)), if_neg (to_no 4 _ (by omega)), hl, if_pos rfl]
    rfl
  · refine ⟨by unfold WP.U; omega, pr_no _ _ (by decide), ?_⟩
    simp only
    rw [sg_tag 7 (by omega) (by omega), if_neg (to_no 3 _ (by omega)), if_neg (to_no 4 _ (by omega)), hkn 7 (by omega), if_pos rfl]
    rfl
theorem pv_small (k m : Nat) (hk : k < 1000) (hm : m < 8) : ∀ x ∈ PV k m, x.2.size ≤ 100 := by
  have a1 := hsz_itoa (k : Int) (by omega) (by omega)
  have a2 := hsz_itoa ((k : Int) + 1) (by omega) (by omega)
  have a3 := hsz_itoa ((m : Int) + 2) (by omega) (by omega)
  intro x hx
  simp only [PV, List.mem_cons, List.not_mem_nil, or_false] at hx
  rcases hx with rfl | rfl | rfl | rfl | rfl | rfl | rfl | rfl | rfl | rfl | rfl | rfl
  · simp only; omega
  · simp only
    unfold pickT
    split
    · rw [ByteArray.size_append]
      show 1 + _ ≤ 100
      omega
    · decide
  · decide
  · decide
  · decide
  · decide
  · decide
  · simp only
    rw [ByteArray.size_append]
    show 2 + _ ≤ 100
    omega
  · simp only
    rw [ByteArray.size_append]
    show 2 + _ ≤ 100
    omega
  · simp only
    rw [ByteArray.size_append]
    show 1 + _ ≤ 100
    omega
  · show (⟨#[35, 63]⟩ : ByteArray).size ≤ 100
    decide
  · decide
end SW
end Go.Proofs.YtbglcdjimipeeaaGreatDoor
