/-
  Layer 8's law of many parts: how the law counts them. Conditions: sizes.
-/
import Derived.Test.YtpbfgfadickgbaaExpLong1
import Derived.Test.YtpbfgfadickgbaaExpCount
namespace Go.Proofs.Ytpbfgfadickgbaa
open Go.RowKit
namespace EW
open LX SX RW6 EX
theorem rep_size (e : ByteArray) (k : Nat) : (rep e k).size = k * e.size := by
  induction k with
  | zero => rw [Nat.zero_mul]; rfl
  | succ k ih =>
    unfold rep
    rw [ByteArray.size_append, ih, Nat.succ_mul]
theorem textK_size (s e t : ByteArray) (k : Nat) : (textK s e t k).size = s.size + k * e.size + t.size := by
  unfold textK
  rw [ByteArray.size_append, ByteArray.size_append, rep_size]
theorem rep_next (s e : ByteArray) (j : Nat) : s ++ rep e j ++ e = s ++ rep e (j + 1) := by
  rw [show rep e (j + 1) = rep e j ++ e from rfl, ByteArray.append_assoc]
def cntF (fs : List Fm) (kd : Int) : Nat := (fs.map (·.kind)).count kd
theorem cnt_next {fs : List Fm} {j : Nat} (h : j < fs.length) : (fun x => if x = (fs[j]).kind then cntF (fs.take j) (fs[j]).kind + 1 else cntF (fs.take j) x) = cntF (fs.take (j + 1)) := by
  funext x
  unfold cntF
  rw [List.take_succ_eq_append_getElem h, List.map_append, List.count_append, List.map_cons, List.map_nil, List.count_singleton]
  by_cases e : x = (fs[j]).kind
  · subst e; simp
  · rw [if_neg e]
    have : ((fs[j]).kind == x) = false := by simp; exact fun h => e h.symm
    simp [this]
def LongQ (w : World) (t : ByteArray) (e : Ending) (w' : World) : Prop := ∃ mb, e = .returned (.map (some mb)) ∧ MapC w' mb (cntK (ofM t)) ∧ MM.Far [] w w'
set_option maxRecDepth 20000 in
set_option maxHeartbeats 4000000 in
theorem long1_any (w : World) (s e t : ByteArray) (k b : Nat) (hk : k ≤ 30) (hsz : s.size + k * e.size + t.size ≤ 3000) (hb : w.cell? ⟨b, 0, none⟩ = some (.int .i64 k)) :
    Calls Try.prog 14 #[.string s, .string e, .string t, .pointer (some ⟨b, 0, none⟩)] w (LongQ w (textK s e t k)) := by
  have HOF := Lib.hid (of_any (textK s e t k) (by rw [textK_size]; exact hsz))
  have hmk := @run_makeMap Try.prog
  have hQ : LongQ w (textK s e t k) = fun e' w' => ∃ mb, e' = .returned (.map (some mb)) ∧ MapC w' mb (cntK (ofM (s ++ rep e k ++ t))) ∧ MM.Far [] w w' := rfl
  rw [hQ]
  unfold textK at HOF
  have hre : (rep e k).size = k * e.size := rep_size e k
  have HRE := Lib.hid (fun j (hj : j ≤ k) => (show (rep e j).size ≤ 3000 from by rw [rep_size]; exact Nat.le_trans (Nat.mul_le_mul_right _ hj) (by omega)))
  have hs3 : s.size ≤ 3000 := by omega
  have he3 : e.size ≤ 3000 ∨ k = 0 := by
    by_cases h0 : k = 0
    · exact .inr h0
    · left
      have : 1 * e.size ≤ k * e.size := Nat.mul_le_mul_right _ (by omega)
      omega
  have ht3 : t.size ≤ 3000 := by omega
  generalize ofM (s ++ rep e k ++ t) = R at *
  clear hQ hsz hre
  go_enter Try.func14, Try.ntmps14
  go_wp2
  go_loopw [0, 16] (fun s0 s16 wr => ∃ j : Nat, j ≤ k ∧ s16 = .int .i64 (j : Int) ∧ s0 = .string (s ++ rep e j) ∧ wr = w) (fun _ s16 _ => k - (intOf s16).toNat)
  case atStart => exact ⟨0, by omega, rfl, by rw [show s ++ rep e 0 = s from ByteArray.append_empty], rfl⟩
  case round =>
    obtain ⟨j, hj, rfl, rfl, rfl⟩ := hrel
    by_cases hlt : j < k
    · obtain ⟨z, hz⟩ : ∃ z, s ++ rep e j = z := ⟨_, rfl⟩
      have hzs : z.size ≤ 6000 := by rw [← hz, ByteArray.size_append]; have := HRE.out j hj; omega
      have he4 : e.size ≤ 3000 := by omega
      have HZ := Lib.hid (rep_next s e j)
      rw [hz] at HZ ⊢
      clear hz
      go_wp2
      go_roundw
      case rel => exact ⟨j + 1, by omega, by go_num, by rw [HZ.out], trivial⟩
      case measure => simp [intOf]; omega
    · obtain rfl : j = k := by omega
      obtain ⟨z, hz⟩ : ∃ z, s ++ rep e j = z := ⟨_, rfl⟩
      have hzs : z.size ≤ 6000 := by rw [← hz, ByteArray.size_append]; have := HRE.out j (Nat.le_refl _); omega
      rw [hz] at HOF ⊢
      clear hz
      cases R with
      | error a =>
        go_wp2_with (first
          | (go_at_call 8; (with_reducible refine (HOF.out _).mono ?_); rintro e w1 hX; obtain ⟨rfl, hF1⟩ : e = .returned (.tuple #[.slice none 0 0, .slice none 0 0, .int .i64 a, .int .i64 80]) ∧ MM.Far [] wr w1 := hX; have HF1 := Lib.hid hF1; clear hF1))
        go_ret
        exact ⟨_, rfl, MapC.new w1, HF1.out.alloc _⟩
      | ok r =>
        go_wp2_with (first
          | (go_at_call 8; (with_reducible refine (HOF.out _).mono ?_); rintro e w1 ⟨fv, tv, rs, rfl, hD, hrs⟩; have hFR := hD.rows; have hTR := hD.tops_row; obtain ⟨FA, fc, rfl, hfl, hfm, -, hF⟩ := hFR; obtain ⟨TA, tc, rfl, -, -, -, hT⟩ := hTR; have HRL : Hid (r.1.length = rs.length) := Lib.hid (by rw [← hrs, List.length_map]); rw [hrs] at hF; have HFM := Lib.hid hF; have HF1 := Lib.hid hD.far; clear hD hrs hF hT))
        obtain ⟨fs, tt⟩ := r
        obtain ⟨n, hn⟩ : ∃ n, rs.length = n := ⟨_, rfl⟩
        rw [hn] at HRL hfl ⊢
        unfold maxLen at hfm
        have hn47 : n ≤ 9223372036854775807 := by omega
        obtain ⟨mb, hmb⟩ : ∃ mb, w1.heap.size = mb := ⟨_, rfl⟩
        have HM0 : Hid (MapC (w1.alloc (.map #[] 0)) mb (cntF (fs.take 0))) := Lib.hid (by
          rw [← hmb]
          have : cntF (fs.take 0) = fun _ => 0 := by funext x; rfl
          rw [this]
          exact MapC.new w1)
        have HFA : Hid (MM.Far [] w1 (w1.alloc (.map #[] 0))) := Lib.hid ((MM.Far.refl [] w1).alloc _)
        have HMB : Hid (w1.heap.size ≤ mb) := Lib.hid (by omega)
        rw [hmb]
        generalize w1.alloc (.map #[] 0) = w2 at *
        clear hn hfl hfm hmb hmk
        go_loopw [37] (fun s37 wz => ∃ k : Nat, k ≤ n ∧ s37 = .int .i64 (k : Int) ∧ Hid (MapC wz mb (cntF (fs.take k)) ∧ MM.Far [] w1 wz)) (fun s37 _ => n - (intOf s37).toNat)
        case atStart => exact ⟨0, by omega, rfl, Lib.hid ⟨HM0.out, HFA.out⟩⟩
        case round =>
          obtain ⟨k, hk, rfl, hM⟩ := hrel
          obtain ⟨wz, rfl⟩ : ∃ wz, wz = wr := ⟨_, rfl⟩
          clear HM0 HFA
          by_cases hlt2 : k < n
          · have hk2 : k < fs.length := by have := HRL.out; simp only at this; omega
            obtain ⟨b1, o1, P1, p1, L1, e1, rfl, hb1, a0, a1, a2, a3, a4, a5, a6, a7, s1, i1⟩ := (HFM.out.far hM.out.2) k hk2
            have HNX := Lib.hid (cnt_next hk2)
            have hcl : cntF (fs.take k) (fs[k]).kind ≤ k := by
              unfold cntF
              refine Nat.le_trans (List.count_le_length ..) ?_
              rw [List.length_map, List.length_take]; omega
            generalize fs[k] = f at *
            obtain ⟨kd, at_, nn, ss, pp, l⟩ := f
            simp only at a0 a1 a2 a3 a4 a5 a6 a7 s1 i1 HNX hcl
            obtain ⟨m, hm2⟩ : ∃ m, l.length = m := ⟨_, rfl⟩
            obtain ⟨np, hnp⟩ : ∃ np, pp.length = np := ⟨_, rfl⟩
            rw [hm2] at a7
            rw [hnp] at a5
            have hM3 := hM.out.1.far ((MM.Far.refl [] wz).alloc (.cells #[.int .u8 kd, .int .i64 at_, .int .i64 nn, .int .i64 0, .string ss, .slice P1 np p1, .int .u64 0, .slice L1 m e1] 32))
            have hF3 := hM.out.2.alloc (.cells #[.int .u8 kd, .int .i64 at_, .int .i64 nn, .int .i64 0, .string ss, .slice P1 np p1, .int .u64 0, .slice L1 m e1] 32)
            have hlook := hM3.look kd
            obtain ⟨w4, hup, hset, hfar⟩ := hM3.up kd
            rw [HNX.out] at hset
            have HS := Lib.hid hset
            have HF4 := Lib.hid (hF3.trans hfar (fun b hb hl => by have h1 := HMB.out; have h2 : b = mb := (by simpa using hb); omega))
            clear hset hfar hF3 hM3 s1 i1 hm2 hnp hk2 hM HNX
            obtain ⟨cv, hcv⟩ : ∃ cv, cntF (fs.take k) kd = cv := ⟨_, rfl⟩
            rw [hcv] at hup hlook hcl
            clear hcv
            go_wp2
            go_roundw
            case rel => exact ⟨k + 1, by omega, by go_num, Lib.hid ⟨HS.out, HF4.out⟩⟩
            case measure => simp [intOf]; omega
          · obtain rfl : k = n := by omega
            have HE : Hid (MapC wz mb (cntK (.ok (fs, tt))) ∧ MM.Far [] w1 wz) := Lib.hid (by
              have h := hM.out
              have e : fs.take k = fs := List.take_of_length_le (by have := HRL.out; simp only at this; omega)
              rw [e] at h
              exact h)
            clear hM
            go_wp2
            go_ret
            exact ⟨mb, rfl, HE.out.1, HF1.out.trans HE.out.2 (by simp)⟩
end EW
end Go.Proofs.Ytpbfgfadickgbaa
