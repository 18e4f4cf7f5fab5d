/-
  Contracts of the code's own parts of layer 5: isNumber, number (with strings.TrimPrefix and strconv.Atoi at a number of at most 13 letters), word. Condition: a word has at most 5000 letters.
-/
import Derived.Test.YtbglcdjimipeeaaDoorLexCode2
import Derived.Test.YtbglcdjimipeeaaDoorClone
import Derived.Lib.ConvBytes
namespace Go.Proofs.YtbglcdjimipeeaaDoor
open Go.RowKit
namespace LW
open LX
theorem trim_yes (s : ByteArray) (r : List UInt8) (h : bts s = 45 :: r) (w : World) : Calls Tryd.prog 28 #[.string s, .string ⟨#[45]⟩] w fun e w' => e = .returned (.string (str r)) ∧ w = w' := by
  have hsz : s.size = r.length + 1 := by rw [← bts_len, h]; rfl
  have h1 : 1 ≤ s.size := by omega
  have h2 : ((s.extract 0 1).toList == [45]) = true := by
    rw [show (1 : Nat) = 0 + 1 from rfl, cut_str, h, list_eq, bts_str]; simp
  have hx : s.extract 1 s.size = str r := by
    rw [hsz, show r.length + 1 = 1 + r.length from by omega, cut_str, h]; simp
  have HX := Lib.hid hx
  clear hx h hsz
  go_enter Tryd.func28, Tryd.ntmps28
  go_wp2
  go_ret
  exact ⟨ret_str (by rw [← HX.out]), rfl⟩
theorem trim_no (s : ByteArray) (h : ∀ r, bts s ≠ 45 :: r) (w : World) : Calls Tryd.prog 28 #[.string s, .string ⟨#[45]⟩] w fun e w' => e = .returned (.string s) ∧ w = w' := by
  by_cases h1 : 1 ≤ s.size
  · have h2 : ((s.extract 0 1).toList == [45]) = false := by
      rw [show (1 : Nat) = 0 + 1 from rfl, cut_str, list_eq, bts_str, List.drop_zero, beq_eq_false_iff_ne]
      intro e
      cases hb : bts s with
      | nil => rw [hb] at e; simp at e
      | cons c r => rw [hb] at e; simp at e; exact h r (by rw [hb, e])
    clear h
    go_enter Tryd.func28, Tryd.ntmps28
    go_wp2
    go_ret
    exact ⟨rfl, rfl⟩
  · clear h
    go_enter Tryd.func28, Tryd.ntmps28
    go_wp2
    go_ret
    exact ⟨rfl, rfl⟩
theorem trim_any (s : ByteArray) (w : World) : Calls Tryd.prog 28 #[.string s, .string ⟨#[45]⟩] w fun e w' => e = .returned (.string (str (unsign (bts s)))) ∧ w = w' := by
  cases hb : bts s with
  | nil =>
    have := trim_no s (by intro r; rw [hb]; simp) w
    rw [← str_bts s, hb] at this
    rw [← str_bts s, hb]; exact this
  | cons c r =>
    by_cases hc : c = 45
    · subst hc; exact trim_yes s r hb w
    · have := trim_no s (by intro r2 e; rw [hb] at e; injection e with e; exact hc e) w
      rw [← str_bts s, hb] at this
      rw [← str_bts s, hb, show unsign (c :: r) = c :: r by unfold unsign; simp [hc]]; exact this
theorem dig_n (c : UInt8) : dig c = (decide ((48 : Int) ≤ (c.toNat : Int)) && decide ((c.toNat : Int) ≤ 57)) := by
  unfold dig
  congr 1 <;> (apply Bool.eq_iff_iff.2; simp; omega)
set_option maxHeartbeats 2000000 in
theorem isNumber_any (s : ByteArray) (w : World) : Calls Tryd.prog 23 #[.string s] w fun e w' => e = .returned (.bool (LX.number (bts s))) ∧ MM.Far [] w w' := by
  have HT := Lib.hid (trim_any s)
  have hres : LX.number (bts s) = ((bts (str (unsign (bts s)))).all dig && decide (0 < (str (unsign (bts s))).size)) := by rw [bts_str, str_size]; rfl
  rw [hres]
  clear hres
  generalize str (unsign (bts s)) = x at HT ⊢
  have HB := Lib.hid (It.begin w x)
  obtain ⟨n, hn⟩ : ∃ n, x.size = n := ⟨_, rfl⟩
  rw [hn]
  go_enter Tryd.func23, Tryd.ntmps23
  go_wp2_with (go_at_call 28; refine (HT.out _).mono ?_; rintro e w2 ⟨rfl, rfl⟩)
  go_loopw [] (fun wr => ∃ pos : Nat, pos ≤ n ∧ Hid (It w x pos wr ∧ Digs x pos)) (fun wr => n - wr.iterPos w.heap.size)
  case atStart => exact ⟨0, by omega, Lib.hid ⟨HB.out, fun j h hj => absurd hj (by omega)⟩⟩
  case round =>
    obtain ⟨pos, hp, hI⟩ := hrel
    have hit := hI.out.1.it
    have HP := Lib.hid hI.out.1.pos
    by_cases hlt : pos < x.size
    · by_cases ha : (x[pos]).toNat < 128
      · have hnx : ∀ ty, (Instr.next (.pointer (some ⟨w.heap.size, 0, none⟩)) true ty).run Tryd.prog wr = _ := fun ty => Lib.run_next_ascii_at wr w.heap.size x pos ty hit hlt ha
        have HI2 := Lib.hid (hI.out.1.next (pos + 1))
        have hL := isDigit_any ((x[pos]).toNat : Int)
        rw [← dig_n] at hL
        by_cases hg : dig x[pos] = true
        · rw [hg] at hL
          have HD := Lib.hid (digs_step hI.out.2 hlt hg)
          have HL := Lib.hid hL
          clear hL hit ha hI hg
          go_wp2_with (go_at_call 26; refine (HL.out _).mono ?_; rintro e w2 ⟨rfl, rfl⟩)
          go_roundw
          case rel => exact ⟨pos + 1, by omega, Lib.hid ⟨HI2.out, HD.out⟩⟩
          case measure => rw [HI2.out.pos, HP.out]; omega
        · have hg : dig x[pos] = false := by simpa using hg
          rw [hg] at hL
          have HNo := Lib.hid (digs_no hlt hg)
          have HL := Lib.hid hL
          clear hL hit ha hI hg
          go_wp2_with (go_at_call 26; refine (HL.out _).mono ?_; rintro e w2 ⟨rfl, rfl⟩)
          go_ret
          exact ⟨ret_bool (by rw [HNo.out]; rfl), HI2.out.far⟩
      · have ha : 128 ≤ (x[pos]).toNat := by omega
        have hg : dig x[pos] = false := by unfold dig; simp; omega
        have hd := (decode_high x pos hlt ha).1
        have HNo := Lib.hid (digs_no hlt hg)
        have hnx : ∀ ty, (Instr.next (.pointer (some ⟨w.heap.size, 0, none⟩)) true ty).run Tryd.prog wr = _ := fun ty => Lib.run_next_any_at wr w.heap.size x pos ty hit hlt
        have HI2 := Lib.hid (hI.out.1.next (pos + (Utf8.decode x pos).2))
        generalize Utf8.decode x pos = d at *
        have hL := isDigit_any (d.1 : Int)
        rw [show decide ((d.1 : Int) ≤ 57) = false by simp; omega, Bool.and_false] at hL
        have HL := Lib.hid hL
        clear hL hit ha hI hg hd
        go_wp2_with (go_at_call 26; refine (HL.out _).mono ?_; rintro e w2 ⟨rfl, rfl⟩)
        go_ret
        exact ⟨ret_bool (by rw [HNo.out]; rfl), HI2.out.far⟩
    · have hpn : pos = n := by omega
      have HA := Lib.hid (digs_all (s := x) (by rw [hn, ← hpn]; exact hI.out.2))
      have HF := Lib.hid hI.out.1.far
      have hnx : ∀ ty, (Instr.next (.pointer (some ⟨w.heap.size, 0, none⟩)) true ty).run Tryd.prog wr = _ := fun ty => Lib.run_next_end_at wr w.heap.size x pos ty hit hlt
      clear hit hI hpn
      by_cases h0 : n = 0
      · have e1 : (x.toList == []) = true := by
          rw [list_eq, beq_iff_eq]; exact List.eq_nil_of_length_eq_zero (by rw [bts_len]; omega)
        have HZ := Lib.hid h0
        clear h0 hn
        go_wp2
        go_ret
        exact ⟨ret_bool (by rw [HZ.out]; simp), HF.out⟩
      · have e1 : (x.toList == []) = false := by
          rw [list_eq, beq_eq_false_iff_ne]; intro e
          have := bts_len x
          rw [e] at this; simp at this; omega
        have HZ := Lib.hid (show 0 < n by omega)
        clear h0 hn
        go_wp2
        go_ret
        exact ⟨ret_bool (by rw [HA.out]; simp [HZ.out]), HF.out⟩
theorem far_bytes (w : World) (e : TypeId) (s : ByteArray) : MM.Far [] w (Lib.bytesWorld w e s) := ⟨rfl, rfl, rfl, by rw [Lib.bytesWorld_size]; omega, fun k hk _ => Lib.bytesWorld_at_old w e s k hk⟩
/-- The bytes of x, as a row that is new since w. -/
structure By (w w1 : World) (x : ByteArray) : Prop where
  far : MM.Far [] w w1
  cell : ∀ j (h : j < x.size), w1.cell? ⟨w.heap.size, j, none⟩ = some (.int .u8 ((x[j]'h).toNat : Int))
theorem By.of (w : World) (e : TypeId) (x : ByteArray) : By w (Lib.bytesWorld w e x) x := by
  refine ⟨far_bytes w e x, fun j h => ?_⟩
  rw [Lib.bytesWorld_cell w e x j h]
  have h1 := data_at x j h
  unfold bts at h1
  rw [List.getD_eq_getElem?_getD, h1]; rfl
set_option maxRecDepth 20000 in
set_option maxHeartbeats 4000000 in
theorem atoi_pos (x : ByteArray) (hp : 0 < x.size) (hn : x.size ≤ 13) (hd : (bts x).all dig = true) (w : World) : Calls Tryd.prog 33 #[.string x] w fun e w' => e = .returned (.tuple #[.int .i64 (LX.val (bts x)), .nilIface]) ∧ MM.Far [] w w' := by
  obtain ⟨g1, g2⟩ := dig_yes (dig_at hd hp)
  have h45 : (((x[0]'hp).toNat : Int) == 45) = false := by rw [beq_eq_false_iff_ne]; omega
  have h43 : (((x[0]'hp).toNat : Int) == 43) = false := by rw [beq_eq_false_iff_ne]; omega
  have HD := Lib.hid hd
  obtain ⟨n, hls⟩ : ∃ n, x.size = n := ⟨_, rfl⟩
  have hres : LX.val (bts x) = LX.val ((bts x).take n) := by rw [List.take_of_length_le]; rw [bts_len, hls]; exact Nat.le_refl _
  rw [hres]
  have HV0 := Lib.hid (show LX.val ((bts x).take 0) = 0 by rw [List.take_zero]; rfl)
  have hcv := Lib.run_convert_string_bytes (P := Tryd.prog) w 9 22 5 x (u := .string) Tryd.underlying9 Tryd.underlying22 Tryd.underlying5
  have HB := Lib.hid (By.of w 5 x)
  generalize Lib.bytesWorld w 5 x = w1 at hcv HB
  clear hd hres g1 g2
  go_enter Tryd.func33, Tryd.ntmps33
  go_wp2
  go_loop [6, 8, 49] (fun a c i => ∃ k : Nat, k ≤ n ∧ a = .int .i64 (LX.val ((bts x).take k)) ∧ i = .int .i64 (k : Int)) (fun a c i => n - (intOf i).toNat)
  case atStart => exact ⟨0, by omega, by rw [HV0.out], rfl⟩
  case round =>
    obtain ⟨k, hk, rfl, rfl⟩ := hrel
    by_cases hlt : k < n
    · have hks : k < x.size := by omega
      have hcell := HB.out.cell k hks
      have HS := Lib.hid (val_step hks)
      obtain ⟨b1, b2⟩ := val_take (k := k) HD.out (by omega)
      obtain ⟨g1, g2⟩ := dig_yes (dig_at HD.out hks)
      generalize LX.val ((bts x).take k) = v at *
      obtain ⟨q, hq⟩ : ∃ q : Nat, (x[k]).toNat = q := ⟨_, rfl⟩
      rw [hq] at g1 g2 hcell
      have HQ := Lib.hid hq
      clear hq h45 h43
      go_wp2
      go_round
      case rel => exact ⟨k + 1, by omega, by rw [HS.out, HQ.out] <;> go_num, by go_num⟩
      case measure => simp [intOf]; omega
    · obtain rfl : k = n := by omega
      go_wp2
      go_ret2
      exact ⟨rfl, HB.out.far⟩
set_option maxRecDepth 20000 in
set_option maxHeartbeats 4000000 in
theorem atoi_neg (s x : ByteArray) (hp : 0 < s.size) (h45 : (((s[0]'hp).toNat : Int) == 45) = true) (hx : s.extract 1 s.size = x) (hsx : s.size = x.size + 1) (hp2 : 0 < x.size) (hn : s.size ≤ 13) (hd : (bts x).all dig = true) (w : World) : Calls Tryd.prog 33 #[.string s] w fun e w' => e = .returned (.tuple #[.int .i64 (- LX.val (bts x)), .nilIface]) ∧ MM.Far [] w w' := by
  have HD := Lib.hid hd
  obtain ⟨n, hls⟩ : ∃ n, x.size = n := ⟨_, rfl⟩
  have hres : LX.val (bts x) = LX.val ((bts x).take n) := by rw [List.take_of_length_le]; rw [bts_len, hls]; exact Nat.le_refl _
  rw [hres]
  have HV0 := Lib.hid (show LX.val ((bts x).take 0) = 0 by rw [List.take_zero]; rfl)
  have hsl : ∀ W, (Instr.slice 9 (.string s) (some (.int .i64 1)) none none).run Tryd.prog W = .ok (.string x) W := fun W => by
    rw [run_slice_string_from_if W 9 s .i64 _ Tryd.underlying9, if_pos ⟨by omega, by omega⟩, ← hx]; rfl
  have hcv := Lib.run_convert_string_bytes (P := Tryd.prog) w 9 22 5 x (u := .string) Tryd.underlying9 Tryd.underlying22 Tryd.underlying5
  have HB := Lib.hid (By.of w 5 x)
  generalize Lib.bytesWorld w 5 x = w1 at hcv HB
  have hs1 : 1 ≤ s.size := hp
  have hs9 : s.size ≤ 13 := hn
  clear hd hres hx
  have HSX := Lib.hid hsx
  have hm : n ≤ 12 := by omega
  clear hsx
  go_enter Tryd.func33, Tryd.ntmps33
  go_wp2
  go_loop [6, 8, 49] (fun a c i => ∃ k : Nat, k ≤ n ∧ a = .int .i64 (LX.val ((bts x).take k)) ∧ i = .int .i64 (k : Int)) (fun a c i => n - (intOf i).toNat)
  case atStart => exact ⟨0, by omega, by rw [HV0.out], rfl⟩
  case round =>
    obtain ⟨k, hk, rfl, rfl⟩ := hrel
    by_cases hlt : k < n
    · have hks : k < x.size := by omega
      have hcell := HB.out.cell k hks
      have HS := Lib.hid (val_step hks)
      obtain ⟨b1, b2⟩ := val_take (k := k) HD.out (by omega)
      obtain ⟨g1, g2⟩ := dig_yes (dig_at HD.out hks)
      generalize LX.val ((bts x).take k) = v at *
      obtain ⟨q, hq⟩ : ∃ q : Nat, (x[k]).toNat = q := ⟨_, rfl⟩
      rw [hq] at g1 g2 hcell
      have HQ := Lib.hid hq
      clear hq h45
      go_wp2
      go_round
      case rel => exact ⟨k + 1, by omega, by rw [HS.out, HQ.out] <;> go_num, by go_num⟩
      case measure => simp [intOf]; omega
    · obtain rfl : k = n := by omega
      obtain ⟨b1, b2⟩ := val_take (k := k) HD.out (by omega)
      go_wp2
      go_ret2
      exact ⟨rfl, HB.out.far⟩
theorem atoi_in (s : ByteArray) (hn : s.size ≤ 13) (hd : LX.number (bts s) = true) (w : World) : Calls Tryd.prog 33 #[.string s] w fun e w' => e = .returned (.tuple #[.int .i64 (LX.value (bts s)), .nilIface]) ∧ MM.Far [] w w' := by
  cases hb : bts s with
  | nil => rw [hb] at hd; cases hd
  | cons c r =>
    rw [hb] at hd
    have hln : r.length + 1 = s.size := by rw [← bts_len, hb]; rfl
    have hp : 0 < s.size := by omega
    have hd0 := data_at s 0 hp
    rw [hb] at hd0
    have hc0 : c = s[0] := by simpa using hd0
    by_cases hc : c = 45
    · have h1 : (((s[0]'hp).toNat : Int) == 45) = true := by rw [← hc0, hc]; rfl
      have hx : s.extract 1 s.size = str r := by
        rw [← hln, show r.length + 1 = 1 + r.length from by omega, cut_str, hb]; simp
      have e2 : LX.number (c :: r) = (r.all dig && decide (0 < r.length)) := by subst hc; rfl
      rw [e2, Bool.and_eq_true] at hd
      have e3 : LX.value (c :: r) = - LX.val r := by subst hc; rfl
      rw [e3]
      have := atoi_neg s (str r) hp h1 hx (by rw [str_size]; omega) (by rw [str_size]; simpa using hd.2) hn (by rw [bts_str]; exact hd.1) w
      rw [bts_str] at this; exact this
    · have e2 : LX.number (c :: r) = ((c :: r).all dig && decide (0 < (c :: r).length)) := by unfold LX.number unsign; simp only [if_neg hc]
      rw [e2, Bool.and_eq_true] at hd
      have e3 : LX.value (c :: r) = LX.val (c :: r) := by unfold LX.value; simp only [if_neg hc]
      rw [e3, ← hb]
      exact atoi_pos s hp hn (by rw [hb]; exact hd.1) w
theorem atoi_any (s : ByteArray) (hn : s.size ≤ 13) (hd : LX.number (bts s) = true) (w : World) : Calls Tryd.prog 29 #[.string s] w fun e w' => e = .returned (.tuple #[.int .i64 (LX.value (bts s)), .nilIface]) ∧ MM.Far [] w w' := by
  have H := Lib.hid (atoi_in s hn hd)
  generalize LX.value (bts s) = v at *
  clear hd
  go_enter Tryd.func29, Tryd.ntmps29
  go_wp2_with (go_at_call 33; refine (H.out _).mono ?_; rintro e w2 ⟨rfl, hF⟩; have HF := Lib.hid hF; clear hF)
  go_ret2
  exact ⟨rfl, HF.out⟩
/-- What the code's word gives: a token without its place, or what is wrong. -/
def wordV : St → Value
  | .tok kd n s _ => .tuple #[tokV kd 0 n s, .int .i64 0]
  | .err e => .tuple #[tokV 0 0 0 emp, .int .i64 e]
  | .skip _ => .bool false
/-- A token's cells, in block b, to be read and written. -/
structure Cel (w : World) (b : Nat) (t : Tk) : Prop where
  c0 : w.cell? ⟨b, 0, none⟩ = some (.int .u8 t.kind)
  c1 : w.cell? ⟨b, 1, none⟩ = some (.int .i64 t.at_)
  c2 : w.cell? ⟨b, 2, none⟩ = some (.int .i64 t.n)
  c3 : w.cell? ⟨b, 3, none⟩ = some (.string t.s)
  f0 : w.frozen? ⟨b, 0, none⟩ = false
  f1 : w.frozen? ⟨b, 1, none⟩ = false
  f2 : w.frozen? ⟨b, 2, none⟩ = false
  f3 : w.frozen? ⟨b, 3, none⟩ = false
theorem Cel.of {w : World} {b : Nat} {T : TypeId} {t : Tk} (h : MM.Row w b T (cellsT t)) : Cel w b t :=
  ⟨h.at rfl, h.at rfl, h.at rfl, h.at rfl, h.frozen 0, h.frozen 1, h.frozen 2, h.frozen 3⟩
theorem Cel.new (w : World) (T : TypeId) (w2 : World) (F : MM.Far [] (w.alloc (.cells #[.int .u8 0, .int .i64 0, .int .i64 0, .string ⟨#[]⟩] T)) w2) : Cel w2 w.heap.size ⟨0, 0, 0, emp⟩ :=
  Cel.of ((MM.Row.new w T (cellsT ⟨0, 0, 0, emp⟩)).far F (by simp))
theorem Row.cel {w : World} {b : Nat} {T : TypeId} {x0 x1 x2 x3 : Value} {w' : World} {kd a n : Int} {s : ByteArray} (h : MM.Row w b T [x0, x1, x2, x3]) (e : w' = (((w.setCell ⟨b, 0, none⟩ (.int .u8 kd)).setCell ⟨b, 1, none⟩ (.int .i64 a)).setCell ⟨b, 2, none⟩ (.int .i64 n)).setCell ⟨b, 3, none⟩ (.string s)) : MM.Row w' b T (cellsT ⟨kd, a, n, s⟩) := by
  subst e
  exact (((h.put 0 _).put 1 _).put 2 _).put 3 _
/-- A token is written into the call's own first block. -/
theorem Cel.set {w w2 : World} {T : TypeId} {t : Tk} (R : MM.Row w2 w.heap.size T (cellsT t)) (F : MM.Far [] w w2) (kd a n : Int) (s : ByteArray) :
    Cel ((((w2.setCell ⟨w.heap.size, 0, none⟩ (.int .u8 kd)).setCell ⟨w.heap.size, 1, none⟩ (.int .i64 a)).setCell ⟨w.heap.size, 2, none⟩ (.int .i64 n)).setCell ⟨w.heap.size, 3, none⟩ (.string s)) w.heap.size ⟨kd, a, n, s⟩ ∧
    MM.Far [] w ((((w2.setCell ⟨w.heap.size, 0, none⟩ (.int .u8 kd)).setCell ⟨w.heap.size, 1, none⟩ (.int .i64 a)).setCell ⟨w.heap.size, 2, none⟩ (.int .i64 n)).setCell ⟨w.heap.size, 3, none⟩ (.string s)) := by
  refine ⟨Cel.of (Row.cel R rfl), ?_⟩
  exact (((F.setCell (fun h => absurd h (Nat.lt_irrefl _)) _).setCell (fun h => absurd h (Nat.lt_irrefl _)) _).setCell (fun h => absurd h (Nat.lt_irrefl _)) _).setCell (fun h => absurd h (Nat.lt_irrefl _)) _
theorem new_row (w : World) (T : TypeId) (w2 : World) (F : MM.Far [] (w.alloc (.cells #[.int .u8 0, .int .i64 0, .int .i64 0, .string ⟨#[]⟩] T)) w2) : MM.Row w2 w.heap.size T (cellsT ⟨0, 0, 0, emp⟩) ∧ MM.Far [] w w2 :=
  ⟨(MM.Row.new w T (cellsT ⟨0, 0, 0, emp⟩)).far F (by simp), ((MM.Far.refl [] w).alloc _).trans F (by simp)⟩
set_option maxHeartbeats 1000000 in
theorem cnumber_any (s : ByteArray) (hd : LX.number (bts s) = true) (w : World) : Calls Tryd.prog 24 #[.string s] w fun e w' => e = .returned (wordV (LX.one (bts s))) ∧ MM.Far [] w w' := by
  have hlen := bts_len s
  have hb' : ¬ (LX.number (bts s) = false) := by rw [hd]; decide
  by_cases h13 : 13 < s.size
  · have e1 : LX.one (bts s) = .err 51 := by unfold LX.one; rw [if_neg hb', if_pos (by omega)]
    rw [e1]
    clear e1 hd hb' hlen
    go_enter Tryd.func24, Tryd.ntmps24
    go_wp2
    exact bodyPost_ret (v := .tuple #[.agg #[.int .u8 0, .int .i64 0, .int .i64 0, .string ⟨#[]⟩], .int .i64 51]) (by simp [results, Tryd.results24, go_sem]) rfl ⟨rfl, (MM.Far.refl _ _).alloc _⟩
  · have hV := Lib.hid (atoi_any s (by omega) hd)
    obtain ⟨v, hv⟩ : ∃ v, LX.value (bts s) = v := ⟨_, rfl⟩
    rw [hv] at hV
    by_cases h1 : v ≤ -1099511627776
    · have e1 : LX.one (bts s) = .err 51 := by unfold LX.one; rw [if_neg hb', if_neg (by omega), hv, if_pos (.inl h1)]
      rw [e1]
      clear e1 hd hb' hlen hv
      go_enter Tryd.func24, Tryd.ntmps24
      go_wp2_with (go_at_call 29; refine (hV.out _).mono ?_; rintro e w2 ⟨rfl, hF⟩; obtain ⟨c0, c1, c2, c3, f0, f1, f2, f3⟩ := Cel.new w _ w2 hF; have HF := Lib.hid hF; clear hF; simp only at c0 c1 c2 c3)
      obtain ⟨hR, hF⟩ := new_row w _ w2 HF.out
      have HS := Cel.set hR hF 0 0 0 emp
      clear c0 c1 c2 c3 f0 f1 f2 f3 HF
      rw [show emp = ⟨#[]⟩ from rfl] at HS
      generalize ((((w2.setCell ⟨w.heap.size, 0, none⟩ (.int .u8 0)).setCell ⟨w.heap.size, 1, none⟩ (.int .i64 0)).setCell ⟨w.heap.size, 2, none⟩ (.int .i64 0)).setCell ⟨w.heap.size, 3, none⟩ (.string ⟨#[]⟩)) = w3 at HS ⊢
      obtain ⟨⟨c0, c1, c2, c3, _, _, _, _⟩, hF3⟩ := HS
      exact bodyPost_ret (v := .tuple #[.agg #[.int .u8 0, .int .i64 0, .int .i64 0, .string ⟨#[]⟩], .int .i64 51]) (by simp [results, Tryd.results24, go_sem, c0, c1, c2, c3]) rfl ⟨rfl, hF3⟩
    · by_cases h2 : 1099511627776 ≤ v
      · have e1 : LX.one (bts s) = .err 51 := by unfold LX.one; rw [if_neg hb', if_neg (by omega), hv, if_pos (.inr h2)]
        rw [e1]
        clear e1 hd hb' hlen hv
        go_enter Tryd.func24, Tryd.ntmps24
        go_wp2_with (go_at_call 29; refine (hV.out _).mono ?_; rintro e w2 ⟨rfl, hF⟩; obtain ⟨c0, c1, c2, c3, f0, f1, f2, f3⟩ := Cel.new w _ w2 hF; have HF := Lib.hid hF; clear hF; simp only at c0 c1 c2 c3)
        obtain ⟨hR, hF⟩ := new_row w _ w2 HF.out
        have HS := Cel.set hR hF 0 0 0 emp
        clear c0 c1 c2 c3 f0 f1 f2 f3 HF
        rw [show emp = ⟨#[]⟩ from rfl] at HS
        generalize ((((w2.setCell ⟨w.heap.size, 0, none⟩ (.int .u8 0)).setCell ⟨w.heap.size, 1, none⟩ (.int .i64 0)).setCell ⟨w.heap.size, 2, none⟩ (.int .i64 0)).setCell ⟨w.heap.size, 3, none⟩ (.string ⟨#[]⟩)) = w3 at HS ⊢
        obtain ⟨⟨c0, c1, c2, c3, _, _, _, _⟩, hF3⟩ := HS
        exact bodyPost_ret (v := .tuple #[.agg #[.int .u8 0, .int .i64 0, .int .i64 0, .string ⟨#[]⟩], .int .i64 51]) (by simp [results, Tryd.results24, go_sem, c0, c1, c2, c3]) rfl ⟨rfl, hF3⟩
      · have e1 : LX.one (bts s) = .tok 4 v emp (bts s).length := by unfold LX.one; rw [if_neg hb', if_neg (by omega), hv, if_neg (by omega)]
        rw [e1]
        clear e1 hd hb' hlen hv
        go_enter Tryd.func24, Tryd.ntmps24
        go_wp2_with (go_at_call 29; refine (hV.out _).mono ?_; rintro e w2 ⟨rfl, hF⟩; obtain ⟨c0, c1, c2, c3, f0, f1, f2, f3⟩ := Cel.new w _ w2 hF; have HF := Lib.hid hF; clear hF; simp only at c0 c1 c2 c3)
        obtain ⟨hR, hF⟩ := new_row w _ w2 HF.out
        have HS := Cel.set hR hF 4 0 v emp
        clear c0 c1 c2 c3 f0 f1 f2 f3 HF
        rw [show emp = ⟨#[]⟩ from rfl] at HS
        generalize ((((w2.setCell ⟨w.heap.size, 0, none⟩ (.int .u8 4)).setCell ⟨w.heap.size, 1, none⟩ (.int .i64 0)).setCell ⟨w.heap.size, 2, none⟩ (.int .i64 v)).setCell ⟨w.heap.size, 3, none⟩ (.string ⟨#[]⟩)) = w3 at HS ⊢
        obtain ⟨⟨c0, c1, c2, c3, _, _, _, _⟩, hF3⟩ := HS
        exact bodyPost_ret (v := .tuple #[.agg #[.int .u8 4, .int .i64 0, .int .i64 v, .string ⟨#[]⟩], .int .i64 0]) (by simp [results, Tryd.results24, go_sem, c0, c1, c2, c3]) rfl ⟨rfl, hF3⟩
set_option maxHeartbeats 1000000 in
theorem cword_any (s : ByteArray) (hm : s.size ≤ 5000) (w : World) : Calls Tryd.prog 19 #[.string s] w fun e w' => e = .returned (wordV (LX.one (bts s))) ∧ MM.Far [] w w' := by
  have hN := Lib.hid (isNumber_any s)
  have hlen := bts_len s
  by_cases hb : LX.number (bts s) = true
  · rw [hb] at hN
    have hC := cnumber_any s hb
    cases h9 : LX.one (bts s) with
    | skip k => exact (one_skip h9).elim
    | err x =>
      rw [h9] at hC
      have HC : Hid (∀ w, Calls Tryd.prog 24 #[.string s] w fun e w' => e = .returned (.tuple #[.agg #[.int .u8 0, .int .i64 0, .int .i64 0, .string ⟨#[]⟩], .int .i64 x]) ∧ MM.Far [] w w') := Lib.hid hC
      clear hC h9 hb hlen
      go_enter Tryd.func19, Tryd.ntmps19
      go_wp2_with (first | (go_at_call 23; refine (hN.out _).mono ?_; rintro e w1 ⟨rfl, hF1⟩; have HF1 := Lib.hid hF1; clear hF1) | (go_at_call 24; refine (HC.out _).mono ?_; rintro e w2 ⟨rfl, hF2⟩; have hF := HF1.out.trans hF2 (by simp); clear HF1 hF2; obtain ⟨c0, c1, c2, c3, f0, f1, f2, f3⟩ := Cel.new w _ w2 hF; have HF := Lib.hid hF; clear hF; simp only at c0 c1 c2 c3))
      obtain ⟨hR, hF⟩ := new_row w _ w2 HF.out
      have HS := Cel.set hR hF 0 0 0 emp
      clear c0 c1 c2 c3 f0 f1 f2 f3 HF
      rw [show emp = ⟨#[]⟩ from rfl] at HS
      generalize ((((w2.setCell ⟨w.heap.size, 0, none⟩ (.int .u8 0)).setCell ⟨w.heap.size, 1, none⟩ (.int .i64 0)).setCell ⟨w.heap.size, 2, none⟩ (.int .i64 0)).setCell ⟨w.heap.size, 3, none⟩ (.string ⟨#[]⟩)) = w3 at HS ⊢
      obtain ⟨⟨c0, c1, c2, c3, _, _, _, _⟩, hF3⟩ := HS
      exact bodyPost_ret (v := .tuple #[.agg #[.int .u8 0, .int .i64 0, .int .i64 0, .string ⟨#[]⟩], .int .i64 x]) (by simp [results, Tryd.results19, go_sem, c0, c1, c2, c3]) rfl ⟨rfl, hF3⟩
    | tok kd n sv k =>
      rw [h9] at hC
      have HC : Hid (∀ w, Calls Tryd.prog 24 #[.string s] w fun e w' => e = .returned (.tuple #[.agg #[.int .u8 kd, .int .i64 0, .int .i64 n, .string sv], .int .i64 0]) ∧ MM.Far [] w w') := Lib.hid hC
      clear hC h9 hb hlen
      go_enter Tryd.func19, Tryd.ntmps19
      go_wp2_with (first | (go_at_call 23; refine (hN.out _).mono ?_; rintro e w1 ⟨rfl, hF1⟩; have HF1 := Lib.hid hF1; clear hF1) | (go_at_call 24; refine (HC.out _).mono ?_; rintro e w2 ⟨rfl, hF2⟩; have hF := HF1.out.trans hF2 (by simp); clear HF1 hF2; obtain ⟨c0, c1, c2, c3, f0, f1, f2, f3⟩ := Cel.new w _ w2 hF; have HF := Lib.hid hF; clear hF; simp only at c0 c1 c2 c3))
      obtain ⟨hR, hF⟩ := new_row w _ w2 HF.out
      have HS := Cel.set hR hF kd 0 n sv
      clear c0 c1 c2 c3 f0 f1 f2 f3 HF
      generalize ((((w2.setCell ⟨w.heap.size, 0, none⟩ (.int .u8 kd)).setCell ⟨w.heap.size, 1, none⟩ (.int .i64 0)).setCell ⟨w.heap.size, 2, none⟩ (.int .i64 n)).setCell ⟨w.heap.size, 3, none⟩ (.string sv)) = w3 at HS ⊢
      obtain ⟨⟨c0, c1, c2, c3, _, _, _, _⟩, hF3⟩ := HS
      exact bodyPost_ret (v := .tuple #[.agg #[.int .u8 kd, .int .i64 0, .int .i64 n, .string sv], .int .i64 0]) (by simp [results, Tryd.results19, go_sem, c0, c1, c2, c3]) rfl ⟨rfl, hF3⟩
  · have hb : LX.number (bts s) = false := by simpa using hb
    rw [hb] at hN
    by_cases h32 : 32 < s.size
    · have e1 : LX.one (bts s) = .err 3 := by unfold LX.one; rw [if_pos hb, hlen, if_pos h32]
      rw [e1]
      clear e1 hb hlen
      go_enter Tryd.func19, Tryd.ntmps19
      go_wp2_with (go_at_call 23; refine (hN.out _).mono ?_; rintro e w2 ⟨rfl, hF⟩; obtain ⟨c0, c1, c2, c3, f0, f1, f2, f3⟩ := Cel.new w _ w2 hF; have HF := Lib.hid hF; clear hF; simp only at c0 c1 c2 c3)
      obtain ⟨hR, hF⟩ := new_row w _ w2 HF.out
      have HS := Cel.set hR hF 0 0 0 emp
      clear c0 c1 c2 c3 f0 f1 f2 f3 HF
      rw [show emp = ⟨#[]⟩ from rfl] at HS
      generalize ((((w2.setCell ⟨w.heap.size, 0, none⟩ (.int .u8 0)).setCell ⟨w.heap.size, 1, none⟩ (.int .i64 0)).setCell ⟨w.heap.size, 2, none⟩ (.int .i64 0)).setCell ⟨w.heap.size, 3, none⟩ (.string ⟨#[]⟩)) = w3 at HS ⊢
      obtain ⟨⟨c0, c1, c2, c3, _, _, _, _⟩, hF3⟩ := HS
      exact bodyPost_ret (v := .tuple #[.agg #[.int .u8 0, .int .i64 0, .int .i64 0, .string ⟨#[]⟩], .int .i64 3]) (by simp [results, Tryd.results19, go_sem, c0, c1, c2, c3]) rfl ⟨rfl, hF3⟩
    · have e1 : LX.one (bts s) = .tok 6 0 s (bts s).length := by unfold LX.one; rw [if_pos hb, hlen, if_neg h32, str_bts]
      rw [e1]
      clear e1 hb hlen
      go_enter Tryd.func19, Tryd.ntmps19
      go_wp2_with (first | (go_at_call 23; refine (hN.out _).mono ?_; rintro e w1 ⟨rfl, hF1⟩; have HF1 := Lib.hid hF1; clear hF1) | (go_at_call 25; refine (MC.clone_any s _ (by omega)).mono ?_; rintro e w2 ⟨rfl, hF2⟩; have hF := HF1.out.trans hF2 (by simp); clear HF1 hF2; obtain ⟨c0, c1, c2, c3, f0, f1, f2, f3⟩ := Cel.new w _ w2 hF; have HF := Lib.hid hF; clear hF; simp only at c0 c1 c2 c3))
      obtain ⟨hR, hF⟩ := new_row w _ w2 HF.out
      have HS := Cel.set hR hF 6 0 0 s
      clear c0 c1 c2 c3 f0 f1 f2 f3 HF
      generalize ((((w2.setCell ⟨w.heap.size, 0, none⟩ (.int .u8 6)).setCell ⟨w.heap.size, 1, none⟩ (.int .i64 0)).setCell ⟨w.heap.size, 2, none⟩ (.int .i64 0)).setCell ⟨w.heap.size, 3, none⟩ (.string s)) = w3 at HS ⊢
      obtain ⟨⟨c0, c1, c2, c3, _, _, _, _⟩, hF3⟩ := HS
      exact bodyPost_ret (v := .tuple #[.agg #[.int .u8 6, .int .i64 0, .int .i64 0, .string s], .int .i64 0]) (by simp [results, Tryd.results19, go_sem, c0, c1, c2, c3]) rfl ⟨rfl, hF3⟩
end LW
end Go.Proofs.YtbglcdjimipeeaaDoor
