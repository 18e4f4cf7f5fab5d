/-
  P5.2's law of tokens that are written again. No condition.
-/
import Derived.Test.YtiebebbahbiloaaDoorLexGood
import Derived.Deep.RegionHeld3
namespace Go.Proofs.YtiebebbahbiloaaDoor
open Go.RowKit
namespace LW
open LX
theorem setCell_size (w : World) (p : Addr) (v : Value) : (w.setCell p v).heap.size = w.heap.size := by simp [World.setCell]
theorem far_cell {w w' : World} {p : Addr} {v : Value} (hF : MM.Far [] w w') (h : w.cell? p = some v) : w'.cell? p = some v := (hF.cell (World.block_lt_of_cell? w _ h) (by simp)).trans h
theorem far_dt {a w w2 w' : World} (h : MM.Far [] a w) (hF : MM.Far [] w2 w') (e : w2 = w.drew ∨ w2 = w) : MM.Far [] a w' := by
  rcases e with rfl | rfl
  · exact h.drew.trans hF (by simp)
  · exact h.trans hF (by simp)
theorem row_dt {w w2 w' : World} {b : Nat} {T : TypeId} {l : List Value} (h : MM.Row w b T l) (hF : MM.Far [] w2 w') (e : w2 = w.drew ∨ w2 = w) : MM.Row w' b T l := by
  rcases e with rfl | rfl
  · exact h.drew.far hF (by simp)
  · exact h.far hF (by simp)
theorem lx_push2 {ops : Array Oper} {rest : List Oper} {o : Oper} {a : Act} {Q : Exit → Act → World → Prop} (w0 w : World) (v : Value) (out : List Tk) (t : Tk) (hL : Lx w0 w v out) (hlen : out.length ≤ 100000)
    (hgd : o.guard = none) (s x : Operand) (ho : o.op = .call { callee := .builtin .append, args := #[s, x], argTypes := #[23, 23] })
    (hs : a.eval s = v) (hx : a.eval x = .slice (some ⟨w.heap.size, 0, none⟩) 1 1)
    (h : ∀ v' w', Lx w0 w' v' (out ++ [t]) → MM.Far v.ownBlock.toList (w.alloc (.cells #[.int .u8 t.kind, .int .i64 t.at_, .int .i64 t.n, .string t.s] 30)) w' → wpList Tryd.prog ops Q rest (a.put o.dst v') w') :
    wpList Tryd.prog ops Q (o :: rest) a (w.alloc (.cells #[.int .u8 t.kind, .int .i64 t.at_, .int .i64 t.n, .string t.s] 30)) := by
  have hF : MM.Far [] w (w.alloc (.cells #[.int .u8 t.kind, .int .i64 t.at_, .int .i64 t.n, .string t.s] 30)) := (MM.Far.refl [] w).alloc _
  have hL2 := hL.to hF
  have hb := hL2.far.size
  refine MO.wpList_append _ hgd s x 23 ho w0.heap.size 30 (.agg #[.int .u8 0, .int .i64 0, .int .i64 0, .string ⟨#[]⟩]) 4 40 toks_slice tok_info rfl (by omega) v out.length (tks out) hs hL2.own (some ⟨w.heap.size, 0, none⟩) 1 1 (cellsT t) hx rfl (fun h => by cases h) [] ?_ (cellsT_one t) ?_ ?_ hb ?_
  · exact MM.Src.row (MM.Row.new w 30 (cellsT t)) (by simp) _ (fun j u hu => hu)
  · simp only [maxLen]; omega
  · omega
  · intro v' w' hv hg hat
    have hFg := MM.Far.of_grown (S := v.ownBlock.toList) hg (fun b hb _ => by simp [hb])
    refine h v' w' ⟨?_, ?_⟩ hFg
    · rw [tks_snoc, List.length_append]; exact hv
    · refine hL2.far.trans hFg ?_
      intro b hb hlt
      have := (MM.own_lt hL.own b (by simpa using hb)).2
      omega
theorem far_four {w w' : World} {p0 p1 p2 p3 : Addr} {v0 v1 v2 v3 : Value} (hF : MM.Far [] w w') (h : w.cell? p0 = some v0 ∧ w.cell? p1 = some v1 ∧ w.cell? p2 = some v2 ∧ w.cell? p3 = some v3) :
    w'.cell? p0 = some v0 ∧ w'.cell? p1 = some v1 ∧ w'.cell? p2 = some v2 ∧ w'.cell? p3 = some v3 := ⟨far_cell hF h.1, far_cell hF h.2.1, far_cell hF h.2.2.1, far_cell hF h.2.2.2⟩
theorem slice_both (s z : ByteArray) (a b : Int) (m n : Nat) (h : s.extract m n = z) (ha : a = (m : Int)) (hb : b = (n : Int)) (h1 : m ≤ n) (h2 : n ≤ s.size) (W : World) : (Instr.slice 9 (.string s) (some (.int .i64 a)) (some (.int .i64 b)) none).run Tryd.prog W = .ok (.string z) W := by
  subst h ha hb
  simp [Instr.slice, Instr.sliceBounds, Instr.sliceBound, asIntOf, run_underlying Tryd.underlying9, h1, h2]
set_option maxRecDepth 20000 in
set_option maxHeartbeats 4000000 in
theorem back_any (s : ByteArray) (w : World) : Calls Tryd.prog 4 #[.string s] w fun e w' => e = .returned (.bool true) ∧ Below w.heap.size w w' := by
  have HS := Lib.hid shown_any
  by_cases h5 : 1000 < s.size
  · go_enter Tryd.func4, Tryd.ntmps4
    go_wp2_with (go_at_call 9; refine (HS.out _).mono ?_; rintro e w1 ⟨rfl, hF1⟩)
    go_ret
    exact ⟨rfl, hF1.below_nil⟩
  · have H1 := Lib.hid (lex_q s (by omega))
    obtain ⟨R, hR⟩ : ∃ R, LX.lex s = R := ⟨_, rfl⟩
    rw [hR] at H1
    cases R with
    | error pe =>
      obtain ⟨p, x⟩ := pe
      have de := lex_errne hR
      have de1 : ¬ (x = 0) := by rwa [beq_eq_false_iff_ne] at de
      have de2 : (x != 0) = true := by simp [bne, de]
      clear hR
      go_enter Tryd.func4, Tryd.ntmps4
      go_wp2_with (first
        | (go_at_call 9; refine (HS.out _).mono ?_; rintro e w1 ⟨rfl, hF1⟩; have HF1 := Lib.hid hF1; clear hF1)
        | (go_at_call 10; refine (H1.out _).mono ?_; rintro e w2 ⟨hF2, A1, c1, rfl, -⟩; have HF2 := Lib.hid hF2; clear hF2))
      go_ret
      exact ⟨rfl, (HF1.out.trans HF2.out (by simp)).below_nil⟩
    | ok ts =>
      have hlen := (lex_len hR).1
      have HIN := Lib.hid (lex_in_s hR)
      obtain ⟨nt, hnt⟩ : ∃ n, ts.length = n := ⟨_, rfl⟩
      have HNT := Lib.hid hnt
      unfold LexQ at H1
      simp only [hnt] at H1
      rw [hnt] at hlen
      clear hR hnt
      go_enter Tryd.func4, Tryd.ntmps4
      go_wp2_with (first
        | (go_at_call 9; refine (HS.out _).mono ?_; rintro e w1 ⟨rfl, hF1⟩; have HF1 := Lib.hid hF1; clear hF1)
        | (go_at_call 10; refine (H1.out _).mono ?_; rintro e w2 ⟨hF2, A1, c1, rfl, -, -, -, h4⟩; have HF2 := Lib.hid hF2; have HT1 := Lib.hid (TkRow.of_src h4); clear hF2 h4))
      have HFa := Lib.hid (HF1.out.trans HF2.out (by simp))
      clear HF1 HF2
      go_loopw [7, 8, 9, 36] (fun s7 s8 s9 s36 wr => ∃ (k : Nat) (v : Value) (last : Int), k ≤ nt ∧ s7 = .string (str (againL (ts.take k))) ∧ v = s8 ∧ s9 = .int .i64 last ∧ s36 = .int .i64 k ∧ Hid (Lx w2 wr v (wantF (ts.take k) 0) ∧ ∀ t ∈ ts.drop k, last < t.at_)) (fun _ _ _ s36 _ => nt - (intOf s36).toNat)
      case atStart => exact ⟨0, _, -1, by omega, rfl, rfl, rfl, rfl, Lib.hid ⟨Lx.begin w2, fun t ht => by have := (HIN.out.1 t ht).pos; omega⟩⟩
      case round =>
        obtain ⟨k, v, last, hk, rfl, rfl, rfl, rfl, hI⟩ := hrel
        by_cases hlt : k < nt
        · have hk2 : k < ts.length := by rw [HNT.out]; exact hlt
          obtain ⟨b1, o1, rfl, hb1, a0, a1, a2, a3⟩ := (HT1.out.far hI.out.1.far) k hk2
          have hin := HIN.out.1 _ (List.getElem_mem hk2)
          have hdrop : ts.drop k = ts[k] :: ts.drop (k + 1) := List.drop_eq_getElem_cons hk2
          have hlast : last < ts[k].at_ := hI.out.2 _ (by rw [hdrop]; exact List.mem_cons_self ..)
          have HLN : Hid (∀ t ∈ ts.drop (k + 1), ts[k].at_ < t.at_) := Lib.hid (by
            have hp := HIN.out.2
            rw [← List.take_append_drop k ts, hdrop, List.pairwise_append] at hp
            have := hp.2.1
            rw [List.pairwise_cons] at this
            exact this.1)
          have HTK : Hid (ts.take (k + 1) = ts.take k ++ [ts[k]]) := Lib.hid (by rw [List.take_succ_eq_append_getElem hk2])
          have hgood : ∀ t ∈ ts.take k, GoodT t := fun t ht => (HIN.out.1 t (List.mem_of_mem_take ht)).good
          have hal := againL_len _ hgood
          rw [List.length_take, HNT.out, Nat.min_eq_left hk] at hal
          have HWL : Hid ((wantF (ts.take k) 0).length ≤ 1000) := Lib.hid (by rw [wantF_len, List.length_take]; omega)
          have HL := Lib.hid hI.out.1
          generalize ts[k] = t at *
          clear hk2 hdrop hgood hI
          obtain ⟨kd, at_, nn, ss⟩ := t
          have HW2 : Hid (wantF (ts.take (k + 1)) 0 = wantF (ts.take k) 0 ++ [⟨kd, ((str (againL (ts.take k))).size : Nat), nn, ss⟩]) := Lib.hid (by rw [HTK.out, wantF_snoc, Nat.zero_add, str_size])
          have HA2 : Hid (str (againL (ts.take (k + 1))) = str (againL (ts.take k)) ++ (tkB ⟨kd, at_, nn, ss⟩ ++ ⟨#[32]⟩)) := Lib.hid (by rw [HTK.out, againL_snoc, str_cat, str_cat, str_bts]; rfl)
          have hg := hin.good
          have HTX := Lib.hid (text_any kd at_ nn ss hg.kind hg.lo hg.hi)
          have hTX2 := text_any kd ((str (againL (ts.take k))).size : Int) nn ss hg.kind hg.lo hg.hi
          rw [show tkB ⟨kd, ((str (againL (ts.take k))).size : Int), nn, ss⟩ = tkB ⟨kd, at_, nn, ss⟩ from rfl] at hTX2
          have HTX2 := Lib.hid hTX2
          clear hTX2
          have hsz := hg.size
          have hp0 := hin.pos
          have hp1 := hin.lt
          have hfits := hin.fits
          simp only at a0 a1 a2 a3 hlast hp0 hp1 hfits HLN
          have hys : (str (againL (ts.take k))).size ≤ 33000 := by rw [str_size]; omega
          have HOL := Lib.hid (fun b hb => MM.own_lt HL.out.own b hb)
          generalize str (againL (ts.take k)) = y at *
          clear hal
          generalize hz : tkB ⟨kd, at_, nn, ss⟩ = z at *
          clear hz hg hin
          by_cases hk4 : kd = 4
          · subst hk4
            obtain ⟨m, rfl⟩ := Int.eq_ofNat_of_zero_le hp0
            have g1 : decide ((m : Int) ≤ last) = false := by simp; omega
            have g2 : decide ((s.size : Int) ≤ (m : Int)) = false := by simp; omega
            have g2' : decide (s.size ≤ m) = false := by simp; omega
            have HRZ0 := Lib.hid (MM.Row.new wr 30 [.int .u8 4, .int .i64 (m : Int), .int .i64 nn, .string ss])
            have HFZ0 := Lib.hid ((MM.Far.refl [] wr).alloc (.cells #[.int .u8 4, .int .i64 (m : Int), .int .i64 nn, .string ss] 30))
            clear hfits hp0
            go_wp2
            go_quiet (fail)
            have HRZ := Lib.hid (HRZ0.out.drewN nq)
            have HFZ := Lib.hid (HFZ0.out.drewN nq)
            clear HRZ0 HFZ0
            rw [show ([.int .u8 4, .int .i64 (m : Int), .int .i64 nn, .string ss] : List Value).toArray = #[.int .u8 4, .int .i64 (m : Int), .int .i64 nn, .string ss] from rfl] at HRZ
            generalize (wr.alloc (.cells #[.int .u8 4, .int .i64 (m : Int), .int .i64 nn, .string ss] 30)).drewN nq = w5 at HRZ HFZ ⊢
            have hRZ := HRZ.out
            have HRS := Lib.hid (hRZ.put 1 (.int .i64 (y.size : Int)))
            have HFS := Lib.hid (HFZ.out.setCell (p := ⟨wr.heap.size, 1, none⟩) (fun h => absurd h (Nat.lt_irrefl _)) (.int .i64 (y.size : Int)))
            obtain ⟨c0, c1, c2, c3, q0, q1, q2, q3⟩ := Cel.of (t := ⟨4, m, nn, ss⟩) hRZ
            simp only at c0 c1 c2 c3
            clear hRZ
            have HLS := Lib.hid (HL.out.to HFS.out)
            go_wp2_with (first
              | (refine lx_push2 w2 _ v _ ⟨4, (y.size : Int), nn, ss⟩ HLS.out (by have := HWL.out; omega) rfl (.tmp 87) (.tmp 89) rfl rfl (by rw [setCell_size]; rfl) ?_; intro v' w7 hL7 hF7; have HL7 := Lib.hid hL7; have HR7 := Lib.hid ((HRS.out.alloc (.cells #[.int .u8 4, .int .i64 (y.size : Int), .int .i64 nn, .string ss] 30)).far hF7 (fun hm => absurd (HOL.out _ (by simpa using hm)).1 (Nat.lt_irrefl _))); have e0 := HR7.out.at (i := 0) rfl; have e1 := HR7.out.at (i := 1) rfl; have e2 := HR7.out.at (i := 2) rfl; have e3 := HR7.out.at (i := 3) rfl; clear hL7 hF7)
              | (go_at_call 13; refine (HTX2.out _).mono ?_; rintro e w8 ⟨rfl, hF8⟩; have HL8 := Lib.hid (HL7.out.to hF8); clear hF8))
            go_roundw
            case rel => exact ⟨k + 1, v', (m : Int), by omega, by rw [HA2.out], rfl, rfl, by go_num, Lib.hid ⟨by rw [HW2.out]; exact HL8.out, HLN.out⟩⟩
            case measure => simp [intOf]; omega
          · obtain ⟨f1, f2⟩ := hfits hk4
            obtain ⟨m, rfl⟩ := Int.eq_ofNat_of_zero_le hp0
            rw [show ((m : Nat) : Int).toNat = m from rfl] at f2
            have hmz : m + z.size ≤ s.size := by omega
            have g1 : decide ((m : Int) ≤ last) = false := by simp; omega
            have g2 : decide ((s.size : Int) ≤ (m : Int)) = false := by simp; omega
            have g2' : decide (s.size ≤ m) = false := by simp; omega
            have g5' : decide (s.size < m + z.size) = false := by simp; omega
            have g3 : (kd != 4) = true := by rw [bne_iff_ne]; exact hk4
            have g4 : IntKind.i64.wrap ((m : Int) + (z.size : Int)) = (m : Int) + (z.size : Int) := IntWalk.i64_in _ (by omega)
            have g5 : decide ((s.size : Int) < (m : Int) + (z.size : Int)) = false := by simp; omega
            have hsl := slice_both s z (m : Int) ((m : Int) + (z.size : Int)) m (m + z.size) f2 rfl (by omega) (by omega) hmz
            have hR := MM.Row.new wr 30 [.int .u8 kd, .int .i64 (m : Int), .int .i64 nn, .string ss]
            have z0 := hR.at (i := 0) rfl
            have z1 := hR.at (i := 1) rfl
            have z2 := hR.at (i := 2) rfl
            have z3 := hR.at (i := 3) rfl
            have HRZ := Lib.hid hR
            have HFZ := Lib.hid ((MM.Far.refl [] wr).alloc (.cells #[.int .u8 kd, .int .i64 (m : Int), .int .i64 nn, .string ss] 30))
            clear hR f2 hfits hp0
            go_wp2
            go_region_held3 (fun w' => w'.cell? ⟨wr.heap.size, 0, none⟩ = some (.int .u8 kd) ∧ w'.cell? ⟨wr.heap.size, 1, none⟩ = some (.int .i64 (m : Int)) ∧ w'.cell? ⟨wr.heap.size, 2, none⟩ = some (.int .i64 nn) ∧ w'.cell? ⟨wr.heap.size, 3, none⟩ = some (.string ss)) (go_keep) (first
              | (go_at_call 13
                 (with_reducible refine (HTX.out _).mono ?_)
                 rintro e w5 ⟨rfl, hF5⟩
                 have hS5 : w5.cell? ⟨wr.heap.size, 0, none⟩ = some (.int .u8 kd) ∧ w5.cell? ⟨wr.heap.size, 1, none⟩ = some (.int .i64 (m : Int)) ∧ w5.cell? ⟨wr.heap.size, 2, none⟩ = some (.int .i64 nn) ∧ w5.cell? ⟨wr.heap.size, 3, none⟩ = some (.string ss) := far_four hF5 (by assumption)
                 obtain ⟨z0, z1, z2, z3⟩ := hS5
                 have HFZ := Lib.hid (far_dt HFZ.out hF5 (by first | exact .inl rfl | exact .inr rfl))
                 have HRZ := Lib.hid (row_dt HRZ.out hF5 (by first | exact .inl rfl | exact .inr rfl))
                 clear hF5))
            have hRZ := HRZ.out
            have HRS := Lib.hid (hRZ.put 1 (.int .i64 (y.size : Int)))
            have HFS := Lib.hid (HFZ.out.setCell (p := ⟨wr.heap.size, 1, none⟩) (fun h => absurd h (Nat.lt_irrefl _)) (.int .i64 (y.size : Int)))
            obtain ⟨c0, c1, c2, c3, q0, q1, q2, q3⟩ := Cel.of (t := ⟨kd, m, nn, ss⟩) hRZ
            simp only at c0 c1 c2 c3
            clear hRZ z0 z1 z2 z3
            have HLS := Lib.hid (HL.out.to HFS.out)
            go_wp2_with (first
              | (refine lx_push2 w2 _ v _ ⟨kd, (y.size : Int), nn, ss⟩ HLS.out (by have := HWL.out; omega) rfl (.tmp 87) (.tmp 89) rfl rfl (by rw [setCell_size]; rfl) ?_; intro v' w7 hL7 hF7; have HL7 := Lib.hid hL7; have HR7 := Lib.hid ((HRS.out.alloc (.cells #[.int .u8 kd, .int .i64 (y.size : Int), .int .i64 nn, .string ss] 30)).far hF7 (fun hm => absurd (HOL.out _ (by simpa using hm)).1 (Nat.lt_irrefl _))); have e0 := HR7.out.at (i := 0) rfl; have e1 := HR7.out.at (i := 1) rfl; have e2 := HR7.out.at (i := 2) rfl; have e3 := HR7.out.at (i := 3) rfl; clear hL7 hF7)
              | (go_at_call 13; refine (HTX2.out _).mono ?_; rintro e w8 ⟨rfl, hF8⟩; have HL8 := Lib.hid (HL7.out.to hF8); clear hF8))
            go_roundw
            case rel => exact ⟨k + 1, v', (m : Int), by omega, by rw [HA2.out], rfl, rfl, by go_num, Lib.hid ⟨by rw [HW2.out]; exact HL8.out, HLN.out⟩⟩
            case measure => simp [intOf]; omega
        · obtain rfl : k = nt := by omega
          have hT : ts.take k = ts := List.take_of_length_le (by rw [HNT.out]; exact Nat.le_refl _)
          have hgood : ∀ t ∈ ts, GoodT t := fun t ht => (HIN.out.1 t ht).good
          have hal := againL_len _ hgood
          rw [HNT.out] at hal
          have hL := hI.out.1
          rw [hT] at hL
          rw [hT]
          have HLX := Lib.hid (fun h => lex_want hgood h)
          have hys : (str (againL ts)).size = (againL ts).length := str_size _
          obtain ⟨A5, c5, rfl, _, _, _, hsrc, _⟩ := MO.form hL.own
          have HT5 := Lib.hid (TkRow.of_src (hsrc [] (by simp)))
          have HF5 := Lib.hid hL.far
          have hwl : (wantF ts 0).length = k := by rw [wantF_len]; exact HNT.out
          rw [hwl]
          clear hI hL hsrc hT hgood hlt
          by_cases h4 : (againL ts).length ≤ 4000
          · have HX := Lib.hid (HLX.out h4)
            generalize wantF ts 0 = us at *
            have HWL := Lib.hid hwl
            rw [← hys] at h4 hal
            have H2 := Lib.hid (lex_q (str (againL ts)) (by omega))
            rw [HX.out] at H2
            unfold LexQ at H2
            simp only [hwl] at H2
            generalize str (againL ts) = y at *
            clear hwl hys HLX hal
            go_wp2_with (first
              | (go_at_call 10; refine (H2.out _).mono ?_; rintro e w6 ⟨hF6, A6, c6, rfl, -, -, -, h6⟩; have HF6 := Lib.hid hF6; have HT6 := Lib.hid (TkRow.of_src h6); clear hF6 h6)
              | (go_at_call 12; (with_reducible refine (same_yes us k HWL.out (by omega) A6 A5 c6 c5 w6 HT6.out (HT5.out.far HF6.out)).mono ?_); rintro e w7 ⟨rfl, hF7⟩))
            go_ret
            exact ⟨rfl, (((HFa.out.trans HF5.out (by simp)).trans HF6.out (by simp)).trans hF7 (by simp)).below_nil⟩
          · rw [← hys] at h4 hal
            generalize str (againL ts) = y at *
            clear hwl hys HLX
            go_wp2
            go_ret
            exact ⟨rfl, (HFa.out.trans HF5.out (by simp)).below_nil⟩
end LW
end Go.Proofs.YtiebebbahbiloaaDoor
