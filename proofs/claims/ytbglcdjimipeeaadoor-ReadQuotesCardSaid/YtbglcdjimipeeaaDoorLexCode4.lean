/-
  Contracts of the code's own parts of layer 5: boolean, first: the token that a text begins with. Condition: a text is no longer than 5000 bytes.
-/
import Derived.Test.YtbglcdjimipeeaaDoorLexCode3
namespace Go.Proofs.YtbglcdjimipeeaaDoor
open Go.RowKit
namespace LW
open LX
/-- What the code's first gives: a token without its place, and how many bytes it has; or what is wrong. -/
def FirstP (w : World) (x : St) (e : Ending) (w' : World) : Prop :=
  MM.Far [] w w' ∧ match x with
  | .tok kd n s k => e = .returned (.tuple #[tokV kd 0 n s, .int .i64 (k : Int), .int .i64 0])
  | .err x => ∃ c : Int, e = .returned (.tuple #[tokV 0 0 0 emp, .int .i64 c, .int .i64 x])
  | .skip _ => False
theorem slice_one (s x : ByteArray) (h : s.extract 1 s.size = x) (h1 : 1 ≤ s.size) (hm : s.size ≤ 5000) (W : World) : (Instr.slice 9 (.string s) (some (.int .i64 1)) none none).run Tryd.prog W = .ok (.string x) W := by
  rw [run_slice_string_from_if W 9 s .i64 _ Tryd.underlying9, if_pos ⟨by omega, by omega⟩, ← h]; rfl
set_option maxHeartbeats 2000000 in
theorem boolean_any (s : ByteArray) (r : List UInt8) (hb : bts s = 35 :: r) (hm : s.size ≤ 5000) (w : World) : Calls Tryd.prog 17 #[.string s] w (FirstP w (if LX.word r = [116] then .tok 5 1 emp 2 else if LX.word r = [102] then .tok 5 0 emp 2 else .err 50)) := by
  have hln : r.length + 1 = s.size := by rw [← bts_len, hb]; rfl
  have hx : s.extract 1 s.size = str r := by
    rw [← hln, show r.length + 1 = 1 + r.length from by omega, cut_str, hb]; simp
  have hs1 : 1 ≤ s.size := by omega
  have hsl := slice_one s _ hx hs1 hm
  have hC := chars_any (str r)
  rw [bts_str] at hC
  have hxs := str_size r
  have hxb := bts_str r
  have hwl := word_le r
  generalize str r = x at hsl hC hxs hxb
  clear hx hb hln
  obtain ⟨n, hn⟩ : ∃ n, (LX.word r).length = n := ⟨_, rfl⟩
  rw [hn] at hC
  by_cases h1 : n = 1
  · have h0 : 0 < x.size := by omega
    have hw : LX.word r = [x[0]'h0] := by
      cases hr : r with
      | nil => rw [hr] at hn; simp [LX.word] at hn; omega
      | cons c q =>
        have hd := data_at x 0 h0
        rw [hxb, hr] at hd
        have hc : c = x[0] := by simpa using hd
        rw [hr] at hn
        rw [← hc]
        unfold LX.word at hn ⊢
        by_cases hl : let_ c = true
        · simp only [List.takeWhile_cons, hl, if_true, List.length_cons] at hn ⊢
          rw [List.eq_nil_of_length_eq_zero (show (List.takeWhile let_ q).length = 0 by omega)]
        · simp only [List.takeWhile_cons, hl] at hn; simp at hn; omega
    rw [hw]
    obtain ⟨c, hc⟩ : ∃ c, x[0]'h0 = c := ⟨_, rfl⟩
    rw [hc]
    subst h1
    have HC : Hid (∀ w, Calls Tryd.prog 18 #[.string x] w fun e w' => e = .returned (.int .i64 1) ∧ MM.Far [] w w') := Lib.hid hC
    have HX := Lib.hid hxs
    clear hC hwl hw hn hxb hxs
    by_cases h116 : c = 116
    · have d1 : (((x[0]'h0).toNat : Int) == 116) = true := eq_yes (d := 116) (hc.trans h116) rfl
      rw [if_pos (by rw [h116])]
      clear hc h116
      go_enter Tryd.func17, Tryd.ntmps17
      go_wp2_with (go_at_call 18; refine (HC.out _).mono ?_; rintro e w2 ⟨rfl, hF⟩; obtain ⟨c0, c1, c2, c3, f0, f1, f2, f3⟩ := Cel.new w _ w2 hF; have HF := Lib.hid hF; clear hF; simp only at c0 c1 c2 c3)
      obtain ⟨hR, hF⟩ := new_row w _ w2 HF.out
      have HS := Cel.set hR hF 5 0 1 emp
      clear c0 c1 c2 c3 f0 f1 f2 f3 HF
      rw [show emp = ⟨#[]⟩ from rfl] at HS
      generalize ((((w2.setCell ⟨w.heap.size, 0, none⟩ (.int .u8 5)).setCell ⟨w.heap.size, 1, none⟩ (.int .i64 0)).setCell ⟨w.heap.size, 2, none⟩ (.int .i64 1)).setCell ⟨w.heap.size, 3, none⟩ (.string ⟨#[]⟩)) = w3 at HS ⊢
      obtain ⟨⟨c0, c1, c2, c3, _, _, _, _⟩, hF3⟩ := HS
      exact bodyPost_ret (v := .tuple #[.agg #[.int .u8 5, .int .i64 0, .int .i64 1, .string ⟨#[]⟩], .int .i64 2, .int .i64 0]) (by simp [results, Tryd.results17, go_sem, c0, c1, c2, c3]) rfl ⟨hF3, rfl⟩
    · have d1 : (((x[0]'h0).toNat : Int) == 116) = false := eq_no (d := 116) (fun e => h116 (hc.symm.trans e)) rfl
      rw [if_neg (by simpa using h116)]
      by_cases h102 : c = 102
      · have d2 : (((x[0]'h0).toNat : Int) == 102) = true := eq_yes (d := 102) (hc.trans h102) rfl
        rw [if_pos (by rw [h102])]
        clear hc h116 h102
        go_enter Tryd.func17, Tryd.ntmps17
        go_wp2_with (go_at_call 18; refine (HC.out _).mono ?_; rintro e w2 ⟨rfl, hF⟩; obtain ⟨c0, c1, c2, c3, f0, f1, f2, f3⟩ := Cel.new w _ w2 hF; have HF := Lib.hid hF; clear hF; simp only at c0 c1 c2 c3)
        obtain ⟨hR, hF⟩ := new_row w _ w2 HF.out
        have HS := Cel.set hR hF 5 0 0 emp
        clear c0 c1 c2 c3 f0 f1 f2 f3 HF
        rw [show emp = ⟨#[]⟩ from rfl] at HS
        generalize ((((w2.setCell ⟨w.heap.size, 0, none⟩ (.int .u8 5)).setCell ⟨w.heap.size, 1, none⟩ (.int .i64 0)).setCell ⟨w.heap.size, 2, none⟩ (.int .i64 0)).setCell ⟨w.heap.size, 3, none⟩ (.string ⟨#[]⟩)) = w3 at HS ⊢
        obtain ⟨⟨c0, c1, c2, c3, _, _, _, _⟩, hF3⟩ := HS
        exact bodyPost_ret (v := .tuple #[.agg #[.int .u8 5, .int .i64 0, .int .i64 0, .string ⟨#[]⟩], .int .i64 2, .int .i64 0]) (by simp [results, Tryd.results17, go_sem, c0, c1, c2, c3]) rfl ⟨hF3, rfl⟩
      · have d2 : (((x[0]'h0).toNat : Int) == 102) = false := eq_no (d := 102) (fun e => h102 (hc.symm.trans e)) rfl
        rw [if_neg (by simpa using h102)]
        clear hc h116 h102
        go_enter Tryd.func17, Tryd.ntmps17
        go_wp2_with (go_at_call 18; refine (HC.out _).mono ?_; rintro e w2 ⟨rfl, hF⟩; obtain ⟨c0, c1, c2, c3, f0, f1, f2, f3⟩ := Cel.new w _ w2 hF; have HF := Lib.hid hF; clear hF; simp only at c0 c1 c2 c3)
        obtain ⟨hR, hF⟩ := new_row w _ w2 HF.out
        have HS := Cel.set hR hF 0 0 0 emp
        clear c0 c1 c2 c3 f0 f1 f2 f3 HF
        rw [show emp = ⟨#[]⟩ from rfl] at HS
        generalize ((((w2.setCell ⟨w.heap.size, 0, none⟩ (.int .u8 0)).setCell ⟨w.heap.size, 1, none⟩ (.int .i64 0)).setCell ⟨w.heap.size, 2, none⟩ (.int .i64 0)).setCell ⟨w.heap.size, 3, none⟩ (.string ⟨#[]⟩)) = w3 at HS ⊢
        obtain ⟨⟨c0, c1, c2, c3, _, _, _, _⟩, hF3⟩ := HS
        exact bodyPost_ret (v := .tuple #[.agg #[.int .u8 0, .int .i64 0, .int .i64 0, .string ⟨#[]⟩], .int .i64 0, .int .i64 50]) (by simp [results, Tryd.results17, go_sem, c0, c1, c2, c3]) rfl ⟨hF3, 0, rfl⟩
  · rw [if_neg (fun e => h1 (by rw [← hn, e]; rfl)), if_neg (fun e => h1 (by rw [← hn, e]; rfl))]
    have d1 : ((n : Int) == 1) = false := by rw [beq_eq_false_iff_ne]; omega
    have HC := Lib.hid hC
    clear hC hwl hn hxb hxs h1
    go_enter Tryd.func17, Tryd.ntmps17
    go_wp2_with (go_at_call 18; refine (HC.out _).mono ?_; rintro e w2 ⟨rfl, hF⟩; obtain ⟨c0, c1, c2, c3, f0, f1, f2, f3⟩ := Cel.new w _ w2 hF; have HF := Lib.hid hF; clear hF; simp only at c0 c1 c2 c3)
    obtain ⟨hR, hF⟩ := new_row w _ w2 HF.out
    have HS := Cel.set hR hF 0 0 0 emp
    clear c0 c1 c2 c3 f0 f1 f2 f3 HF
    rw [show emp = ⟨#[]⟩ from rfl] at HS
    generalize ((((w2.setCell ⟨w.heap.size, 0, none⟩ (.int .u8 0)).setCell ⟨w.heap.size, 1, none⟩ (.int .i64 0)).setCell ⟨w.heap.size, 2, none⟩ (.int .i64 0)).setCell ⟨w.heap.size, 3, none⟩ (.string ⟨#[]⟩)) = w3 at HS ⊢
    obtain ⟨⟨c0, c1, c2, c3, _, _, _, _⟩, hF3⟩ := HS
    exact bodyPost_ret (v := .tuple #[.agg #[.int .u8 0, .int .i64 0, .int .i64 0, .string ⟨#[]⟩], .int .i64 0, .int .i64 50]) (by simp [results, Tryd.results17, go_sem, c0, c1, c2, c3]) rfl ⟨hF3, 0, rfl⟩
theorem mark_no {c : UInt8} (h : LX.mark c = 0) : c ≠ 40 ∧ c ≠ 41 ∧ c ≠ 39 := by
  unfold LX.mark at h
  refine ⟨?_, ?_, ?_⟩ <;> (rintro rfl; exact absurd h (by decide))
theorem mark_yes {c : UInt8} (h : LX.mark c ≠ 0) : c = 40 ∨ c = 41 ∨ c = 39 := by
  unfold LX.mark at h
  by_cases h1 : c = 40
  · exact .inl h1
  · by_cases h2 : c = 41
    · exact .inr (.inl h2)
    · by_cases h3 : c = 39
      · exact .inr (.inr h3)
      · rw [if_neg h1, if_neg h2, if_neg h3] at h; exact absurd rfl h
theorem slice_to (s x : ByteArray) (n : Nat) (h : s.extract 0 n = x) (h1 : n ≤ s.size) (W : World) : (Instr.slice 9 (.string s) none (some (.int .i64 (n : Int))) none).run Tryd.prog W = .ok (.string x) W := by
  subst h
  simp [Instr.slice, Instr.sliceBounds, Instr.sliceBound, asIntOf, run_underlying Tryd.underlying9, h1]
set_option maxHeartbeats 4000000 in
theorem first_any (s : ByteArray) (c : UInt8) (r : List UInt8) (hb : bts s = c :: r) (h1 : LX.blank c = false) (h2 : c ≠ 59) (hm : s.size ≤ 5000) (w : World) : Calls Tryd.prog 12 #[.string s] w (FirstP w (LX.step (c :: r))) := by
  have hln : r.length + 1 = s.size := by rw [← bts_len, hb]; rfl
  have hp : 0 < s.size := by omega
  have hd0 := data_at s 0 hp
  rw [hb] at hd0
  have hc : s[0]'hp = c := by simpa using hd0.symm
  by_cases h3 : LX.mark c = 0
  · obtain ⟨n1, n2, n3⟩ := mark_no h3
    have d1 : (((s[0]'hp).toNat : Int) == 40) = false := eq_no (d := 40) (fun e => n1 (hc.symm.trans e)) rfl
    have d2 : (((s[0]'hp).toNat : Int) == 41) = false := eq_no (d := 41) (fun e => n2 (hc.symm.trans e)) rfl
    have d3 : (((s[0]'hp).toNat : Int) == 39) = false := eq_no (d := 39) (fun e => n3 (hc.symm.trans e)) rfl
    by_cases h4 : c = 35
    · have d4 : (((s[0]'hp).toNat : Int) == 35) = true := eq_yes (d := 35) (hc.trans h4) rfl
      rw [step_hash h1 h2 h3 h4]
      have hB := boolean_any s r (by rw [hb, h4]) hm
      generalize hx : (if LX.word r = [116] then St.tok 5 1 emp 2 else if LX.word r = [102] then St.tok 5 0 emp 2 else St.err 50) = x at hB ⊢
      cases x with
      | skip k => split at hx <;> (try split at hx) <;> cases hx
      | err x =>
        have HB : Hid (∀ w, Calls Tryd.prog 17 #[.string s] w fun e w' => MM.Far [] w w' ∧ ∃ c : Int, e = .returned (.tuple #[.agg #[.int .u8 0, .int .i64 0, .int .i64 0, .string ⟨#[]⟩], .int .i64 c, .int .i64 x])) := Lib.hid hB
        clear hB hx hb h1 h2 h3 h4 n1 n2 n3 hc hd0 hln
        go_enter Tryd.func12, Tryd.ntmps12
        go_wp2_with (go_at_call 17; refine (HB.out _).mono ?_; rintro e w2 ⟨hF, cc, rfl⟩; obtain ⟨c0, c1, c2, c3, f0, f1, f2, f3⟩ := Cel.new w _ w2 hF; have HF := Lib.hid hF; clear hF; simp only at c0 c1 c2 c3)
        obtain ⟨hR, hF⟩ := new_row w _ w2 HF.out
        have HS := Cel.set hR hF 0 0 0 emp
        clear c0 c1 c2 c3 f0 f1 f2 f3 HF
        rw [show emp = ⟨#[]⟩ from rfl] at HS
        generalize ((((w2.setCell ⟨w.heap.size, 0, none⟩ (.int .u8 0)).setCell ⟨w.heap.size, 1, none⟩ (.int .i64 0)).setCell ⟨w.heap.size, 2, none⟩ (.int .i64 0)).setCell ⟨w.heap.size, 3, none⟩ (.string ⟨#[]⟩)) = w3 at HS ⊢
        obtain ⟨⟨c0, c1, c2, c3, _, _, _, _⟩, hF3⟩ := HS
        exact bodyPost_ret (v := .tuple #[.agg #[.int .u8 0, .int .i64 0, .int .i64 0, .string ⟨#[]⟩], .int .i64 cc, .int .i64 x]) (by simp [results, Tryd.results12, go_sem, c0, c1, c2, c3]) rfl ⟨hF3, cc, rfl⟩
      | tok kd n sv k =>
        have HB : Hid (∀ w, Calls Tryd.prog 17 #[.string s] w fun e w' => MM.Far [] w w' ∧ e = .returned (.tuple #[.agg #[.int .u8 kd, .int .i64 0, .int .i64 n, .string sv], .int .i64 (k : Int), .int .i64 0])) := Lib.hid hB
        clear hB hx hb h1 h2 h3 h4 n1 n2 n3 hc hd0 hln
        go_enter Tryd.func12, Tryd.ntmps12
        go_wp2_with (go_at_call 17; refine (HB.out _).mono ?_; rintro e w2 ⟨hF, rfl⟩; obtain ⟨c0, c1, c2, c3, f0, f1, f2, f3⟩ := Cel.new w _ w2 hF; have HF := Lib.hid hF; clear hF; simp only at c0 c1 c2 c3)
        obtain ⟨hR, hF⟩ := new_row w _ w2 HF.out
        have HS := Cel.set hR hF kd 0 n sv
        clear c0 c1 c2 c3 f0 f1 f2 f3 HF
        generalize ((((w2.setCell ⟨w.heap.size, 0, none⟩ (.int .u8 kd)).setCell ⟨w.heap.size, 1, none⟩ (.int .i64 0)).setCell ⟨w.heap.size, 2, none⟩ (.int .i64 n)).setCell ⟨w.heap.size, 3, none⟩ (.string sv)) = w3 at HS ⊢
        obtain ⟨⟨c0, c1, c2, c3, _, _, _, _⟩, hF3⟩ := HS
        exact bodyPost_ret (v := .tuple #[.agg #[.int .u8 kd, .int .i64 0, .int .i64 n, .string sv], .int .i64 (k : Int), .int .i64 0]) (by simp [results, Tryd.results12, go_sem, c0, c1, c2, c3]) rfl ⟨hF3, rfl⟩
    · have d4 : (((s[0]'hp).toNat : Int) == 35) = false := eq_no (d := 35) (fun e => h4 (hc.symm.trans e)) rfl
      have hC := chars_any s
      rw [hb] at hC
      by_cases h5 : let_ c = true
      · rw [step_one h1 h2 h3 h4 h5]
        have hn0 := word_pos (r := r) h5
        have hn1 := word_le (c :: r)
        rw [show (c :: r).length = s.size from hln] at hn1
        have hx : s.extract 0 (LX.word (c :: r)).length = str (LX.word (c :: r)) := by
          rw [show (LX.word (c :: r)).length = 0 + (LX.word (c :: r)).length from by omega, cut_str, hb, List.drop_zero]
          congr 1
          exact (tw_take let_ (c :: r)).symm
        have hsl := slice_to s _ _ hx hn1
        have hW := cword_any (str (LX.word (c :: r))) (by rw [str_size]; omega)
        rw [bts_str] at hW
        have hk : ∀ kd n sv k, LX.one (LX.word (c :: r)) = .tok kd n sv k → k = (LX.word (c :: r)).length := fun kd n sv k h => one_k h
        generalize str (LX.word (c :: r)) = x at hsl hW
        generalize LX.word (c :: r) = y at *
        obtain ⟨n, hn⟩ : ∃ n, y.length = n := ⟨_, rfl⟩
        rw [hn] at hC hn0 hn1 hsl hk
        have dn : ((n : Int) == 0) = false := by rw [beq_eq_false_iff_ne]; omega
        cases h9 : LX.one y with
        | skip k => exact (one_skip h9).elim
        | err z =>
          rw [h9] at hW
          have HW : Hid (∀ w, Calls Tryd.prog 19 #[.string x] w fun e w' => e = .returned (.tuple #[.agg #[.int .u8 0, .int .i64 0, .int .i64 0, .string ⟨#[]⟩], .int .i64 z]) ∧ MM.Far [] w w') := Lib.hid hW
          have HC := Lib.hid hC
          clear hC hW hb h1 h2 h3 h4 h5 h9 n1 n2 n3 hc hd0 hln hx hk hn
          go_enter Tryd.func12, Tryd.ntmps12
          go_wp2_with (first | (go_at_call 18; refine (HC.out _).mono ?_; rintro e w1 ⟨rfl, hF1⟩; have HF1 := Lib.hid hF1; clear hF1) | (go_at_call 19; refine (HW.out _).mono ?_; rintro e w2 ⟨rfl, hF2⟩; have hF := HF1.out.trans hF2 (by simp); clear HF1 hF2; obtain ⟨c0, c1, c2, c3, f0, f1, f2, f3⟩ := Cel.of ((new_row w _ w2 hF).1.alloc (.cells #[.int .u8 0, .int .i64 0, .int .i64 0, .string ⟨#[]⟩] 43)); have HF := Lib.hid hF; clear hF; simp only at c0 c1 c2 c3))
          obtain ⟨hR, hF⟩ := new_row w _ w2 HF.out
          have HS := Cel.set (hR.alloc (.cells #[.int .u8 0, .int .i64 0, .int .i64 0, .string ⟨#[]⟩] 43)) (hF.alloc _) 0 0 0 emp
          clear c0 c1 c2 c3 f0 f1 f2 f3 HF
          rw [show emp = ⟨#[]⟩ from rfl] at HS
          generalize (((((w2.alloc (.cells #[.int .u8 0, .int .i64 0, .int .i64 0, .string ⟨#[]⟩] 43)).setCell ⟨w.heap.size, 0, none⟩ (.int .u8 0)).setCell ⟨w.heap.size, 1, none⟩ (.int .i64 0)).setCell ⟨w.heap.size, 2, none⟩ (.int .i64 0)).setCell ⟨w.heap.size, 3, none⟩ (.string ⟨#[]⟩)) = w3 at HS ⊢
          obtain ⟨⟨c0, c1, c2, c3, _, _, _, _⟩, hF3⟩ := HS
          exact bodyPost_ret (v := .tuple #[.agg #[.int .u8 0, .int .i64 0, .int .i64 0, .string ⟨#[]⟩], .int .i64 n, .int .i64 z]) (by simp [results, Tryd.results12, go_sem, c0, c1, c2, c3]) rfl ⟨hF3, n, rfl⟩
        | tok kd m sv k =>
          obtain rfl := hk kd m sv k h9
          rw [h9] at hW
          have HW : Hid (∀ w, Calls Tryd.prog 19 #[.string x] w fun e w' => e = .returned (.tuple #[.agg #[.int .u8 kd, .int .i64 0, .int .i64 m, .string sv], .int .i64 0]) ∧ MM.Far [] w w') := Lib.hid hW
          have HC := Lib.hid hC
          clear hC hW hb h1 h2 h3 h4 h5 h9 n1 n2 n3 hc hd0 hln hx hk hn
          go_enter Tryd.func12, Tryd.ntmps12
          go_wp2_with (first | (go_at_call 18; refine (HC.out _).mono ?_; rintro e w1 ⟨rfl, hF1⟩; have HF1 := Lib.hid hF1; clear hF1) | (go_at_call 19; refine (HW.out _).mono ?_; rintro e w2 ⟨rfl, hF2⟩; have hF := HF1.out.trans hF2 (by simp); clear HF1 hF2; obtain ⟨c0, c1, c2, c3, f0, f1, f2, f3⟩ := Cel.of ((new_row w _ w2 hF).1.alloc (.cells #[.int .u8 kd, .int .i64 0, .int .i64 m, .string sv] 43)); have HF := Lib.hid hF; clear hF; simp only at c0 c1 c2 c3))
          obtain ⟨hR, hF⟩ := new_row w _ w2 HF.out
          have HS := Cel.set (hR.alloc (.cells #[.int .u8 kd, .int .i64 0, .int .i64 m, .string sv] 43)) (hF.alloc _) kd 0 m sv
          clear c0 c1 c2 c3 f0 f1 f2 f3 HF
          generalize (((((w2.alloc (.cells #[.int .u8 kd, .int .i64 0, .int .i64 m, .string sv] 43)).setCell ⟨w.heap.size, 0, none⟩ (.int .u8 kd)).setCell ⟨w.heap.size, 1, none⟩ (.int .i64 0)).setCell ⟨w.heap.size, 2, none⟩ (.int .i64 m)).setCell ⟨w.heap.size, 3, none⟩ (.string sv)) = w3 at HS ⊢
          obtain ⟨⟨c0, c1, c2, c3, _, _, _, _⟩, hF3⟩ := HS
          exact bodyPost_ret (v := .tuple #[.agg #[.int .u8 kd, .int .i64 0, .int .i64 m, .string sv], .int .i64 k, .int .i64 0]) (by simp [results, Tryd.results12, go_sem, c0, c1, c2, c3]) rfl ⟨hF3, rfl⟩
      · have h5 : let_ c = false := by simpa using h5
        rw [step_bad h1 h2 h3 h4 h5]
        have h0 : (LX.word (c :: r)).length = 0 := by unfold LX.word; simp [h5]
        rw [h0] at hC
        have HC : Hid (∀ w, Calls Tryd.prog 18 #[.string s] w fun e w' => e = .returned (.int .i64 0) ∧ MM.Far [] w w') := Lib.hid hC
        clear hC hb h1 h2 h3 h4 h5 h0 n1 n2 n3 hc hd0 hln
        go_enter Tryd.func12, Tryd.ntmps12
        go_wp2_with (go_at_call 18; refine (HC.out _).mono ?_; rintro e w2 ⟨rfl, hF⟩; obtain ⟨c0, c1, c2, c3, f0, f1, f2, f3⟩ := Cel.new w _ w2 hF; have HF := Lib.hid hF; clear hF; simp only at c0 c1 c2 c3)
        obtain ⟨hR, hF⟩ := new_row w _ w2 HF.out
        have HS := Cel.set hR hF 0 0 0 emp
        clear c0 c1 c2 c3 f0 f1 f2 f3 HF
        rw [show emp = ⟨#[]⟩ from rfl] at HS
        generalize ((((w2.setCell ⟨w.heap.size, 0, none⟩ (.int .u8 0)).setCell ⟨w.heap.size, 1, none⟩ (.int .i64 0)).setCell ⟨w.heap.size, 2, none⟩ (.int .i64 0)).setCell ⟨w.heap.size, 3, none⟩ (.string ⟨#[]⟩)) = w3 at HS ⊢
        obtain ⟨⟨c0, c1, c2, c3, _, _, _, _⟩, hF3⟩ := HS
        exact bodyPost_ret (v := .tuple #[.agg #[.int .u8 0, .int .i64 0, .int .i64 0, .string ⟨#[]⟩], .int .i64 0, .int .i64 50]) (by simp [results, Tryd.results12, go_sem, c0, c1, c2, c3]) rfl ⟨hF3, 0, rfl⟩
  · rw [step_mark h1 h2 h3]
    rcases mark_yes h3 with rfl | rfl | rfl
    · have d1 : (((s[0]'hp).toNat : Int) == 40) = true := eq_yes (d := 40) hc rfl
      clear hc hd0 hb hln
      go_enter Tryd.func12, Tryd.ntmps12
      go_wp2
      exact bodyPost_ret (v := .tuple #[.agg #[.int .u8 1, .int .i64 0, .int .i64 0, .string ⟨#[]⟩], .int .i64 1, .int .i64 0]) (by simp [results, Tryd.results12, go_sem]) rfl ⟨(MM.Far.refl _ _).alloc _, rfl⟩
    · have d1 : (((s[0]'hp).toNat : Int) == 40) = false := eq_no (d := 40) (by rw [hc]; decide) rfl
      have d2 : (((s[0]'hp).toNat : Int) == 41) = true := eq_yes (d := 41) hc rfl
      clear hc hd0 hb hln
      go_enter Tryd.func12, Tryd.ntmps12
      go_wp2
      exact bodyPost_ret (v := .tuple #[.agg #[.int .u8 2, .int .i64 0, .int .i64 0, .string ⟨#[]⟩], .int .i64 1, .int .i64 0]) (by simp [results, Tryd.results12, go_sem]) rfl ⟨(MM.Far.refl _ _).alloc _, rfl⟩
    · have d1 : (((s[0]'hp).toNat : Int) == 40) = false := eq_no (d := 40) (by rw [hc]; decide) rfl
      have d2 : (((s[0]'hp).toNat : Int) == 41) = false := eq_no (d := 41) (by rw [hc]; decide) rfl
      have d3 : (((s[0]'hp).toNat : Int) == 39) = true := eq_yes (d := 39) hc rfl
      clear hc hd0 hb hln
      go_enter Tryd.func12, Tryd.ntmps12
      go_wp2
      exact bodyPost_ret (v := .tuple #[.agg #[.int .u8 3, .int .i64 0, .int .i64 0, .string ⟨#[]⟩], .int .i64 1, .int .i64 0]) (by simp [results, Tryd.results12, go_sem]) rfl ⟨(MM.Far.refl _ _).alloc _, rfl⟩
end LW
end Go.Proofs.YtbglcdjimipeeaaDoor
