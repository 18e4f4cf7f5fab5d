/-
  Contract of layer 3's copyFields. Condition: the copier is as the lists say.
-/
import Derived.Test.YtcfepiihjbbnaaaMoveWalks3
namespace Go.Proofs.Ytcfepiihjbbnaaa
open Go.RowKit Go.Maps
namespace MW
open AW AP
section
variable {w : World} {B c mb p g h n p' g' h' : Nat} {ts : List Th} {s : MP.St}
theorem off_lt_sz (us : List Th) (j : Nat) : sz (us.take j) < sz us ↔ j < us.length := by
  induction us generalizing j with
  | nil => simp [sz]
  | cons t us ih =>
    cases j with
    | zero => simp [sz]; omega
    | succ j => simp only [List.take_succ_cons, sz, List.length_cons]; have := ih j; omega
theorem off_succ (us : List Th) (j : Nat) (h : j < us.length) : sz (us.take (j + 1)) = sz (us.take j) + (th us j).l.length + 1 := by
  rw [List.take_add_one, MP.th_get us h, Option.toList_some, sz_snoc]
theorem Co.set {w w' : World} (hC : Co w B c mb p g h n ts p' g' h' s) {j k : Nat} {v : Int} (hv : WP.U v) (hA : Ar w' p' g' h' n (put s.us j k v)) (f : MM.Far [g'] w w') : Co w' B c mb p g h n ts p' g' h' ⟨put s.us j k v, s.od⟩ := by
  have hne := hC.ne
  have hl := hC.low
  have hn := hC.new
  refine ⟨MP.inv_put hC.inv j k hv, hC.src.far f (by simp; omega) (by simp; omega) (by simp; omega), hA, hC.head.far f (by simp; omega), ?_, hl, hn⟩
  obtain ⟨q, D, hO, hq, hM⟩ := hC.map
  exact ⟨q, D, owns_far hO f (by simp; omega), hq, mapok_us hM _ (fun p _ => pl_put _ _ _ _ _)⟩
/-- Inside a thing: k of its words have been replaced. -/
structure Inner (w wr : World) (B c mb p g h n : Nat) (ts : List Th) (p' g' h' fb j : Nat) (xs : List Int) (X : Int) (fin : MP.St) (k : Nat) (sk : MP.St) : Prop where
  co : Co wr B c mb p g h n ts p' g' h' sk
  row : MM.Row wr fb 42 (U64s xs)
  far : MM.Far [mb, p', g', h'] w wr
  eq : MP.flds ts j k (xs.drop k) sk = fin
  lt : j < sk.us.length
  pl : pl sk.us j = X
  len : (th sk.us j).l.length = xs.length
  ne : fb ≠ mb ∧ fb ≠ p' ∧ fb ≠ g' ∧ fb ≠ h'
theorem Inner.next {wr w2 w3 : World} {fb j k : Nat} {xs : List Int} {X : Int} {fin sk : MP.St} (hI : Inner w wr B c mb p g h n ts p' g' h' fb j xs X fin k sk) (hk : k < xs.length) (hx : WP.U xs[k])
    (hC2 : Co w2 B c mb p g h n ts p' g' h' (MP.cwS ts sk xs[k])) (hF2 : MM.Far [mb, p', g', h'] wr.drew w2) (hA3 : Ar w3 p' g' h' n (put (MP.cwS ts sk xs[k]).us j k (MP.cwW ts sk xs[k]))) (hF3 : MM.Far [g'] w2 w3) :
    Inner w w3 B c mb p g h n ts p' g' h' fb j xs X fin (k + 1) (MP.fld ts j k sk xs[k]) := by
  have hF : MM.Far [mb, p', g', h'] wr w3 := (((MM.Far.refl [mb, p', g', h'] wr).drew).trans hF2 (fun b hb _ => hb)).trans hF3 (by simp)
  have h4 := MP.fld_len ts sk xs[k] j k hI.lt
  refine ⟨hC2.set (MP.cwW_u _ hx) hA3 hF3, hI.row.far hF (by simp; have := hI.ne; omega), hI.far.trans hF (fun b hb _ => hb), ?_, h4.1, ?_, h4.2.trans hI.len, hI.ne⟩
  · rw [← hI.eq, List.drop_eq_getElem_cons hk]; rfl
  · rw [← hI.pl]
    have hE := (MP.ext_cw hI.co.inv xs[k]).trans (MP.ext_put (MP.cwS ts sk xs[k]) j k (MP.cwW ts sk xs[k]))
    exact hE.pl j (by rw [← hI.co.inv.len]; exact hI.lt)
/-- Between two things: j of them have been gone through. -/
structure Outer (w wr : World) (B c mb p g h n : Nat) (ts : List Th) (p' g' h' : Nat) (fin : MP.St) (a j : Nat) (sj : MP.St) : Prop where
  co : Co wr B c mb p g h n ts p' g' h' sj
  far : MM.Far [mb, p', g', h'] w wr
  eq : MP.goF ts (ts.length + 1 - j) j sj = fin
  le : j ≤ sj.us.length
  at_ : sz (sj.us.take j) = a
theorem look_in (hC : Co w B c mb p g h n ts p' g' h' s) {j : Nat} (hj : j < s.us.length) : AW.look s.us (pl s.us j) = some j := look_pl hC.dst.ok hj
theorem set_fld {w : World} (hC : Co w B c mb p g h n ts p' g' h' s) {j k : Nat} {X v : Int} (hj : j < s.us.length) (hX : pl s.us j = X) (hk : k < (th s.us j).l.length) (hv : WP.U v) :
    Calls Try.prog 37 #[ptr p', .int .u64 X, .int .i64 k, .int .u64 v] w fun e w' => e = .returned (.int .i64 0) ∧ Ar w' p' g' h' n (put s.us j k v) ∧ MM.Far [g'] w w' := by
  have hl := look_in hC hj
  have hu := pl_u s.us j
  rw [hX] at hl hu
  have := set_any hC.dst X hu k v hv
  rw [show getE s.us X k = 0 by simp [getE, hl, hk], show setT s.us X k v = put s.us j k v by simp [setT, hl, hk]] at this
  exact this
set_option maxHeartbeats 4000000 in
theorem fields_all (hC : Co w B c mb p g h n ts p' g' h' s) :
    Calls Try.prog 24 #[ptr c] w fun e w' => e = .returned (.tuple #[]) ∧ Co w' B c mb p g h n ts p' g' h' (MP.goF ts (ts.length + 1) 0 s) ∧ MM.Far [mb, p', g', h'] w w' := by
  obtain ⟨fin, hfin⟩ : ∃ fin, MP.goF ts (ts.length + 1) 0 s = fin := ⟨_, rfl⟩
  have HFin := Lib.hid hfin
  rw [hfin]
  have HC := Lib.hid hC
  clear hC hfin
  go_enter Try.func24, Try.ntmps24
  go_wp2_with (fail)
  go_loopw [2] (fun s2 wr => ∃ (a j : Nat) (sj : MP.St), s2 = .int .i64 a ∧ Outer w wr B c mb p g h n ts p' g' h' fin a j sj) (fun s2 _ => 65536 - (intOf s2).toNat)
  case atStart => exact ⟨0, 0, s, rfl, HC.out, MM.Far.refl _ _, HFin.out, Nat.zero_le _, by simp [sz]⟩
  case round =>
    obtain ⟨a, j, sj, rfl, hO⟩ := hrel
    have c1 := hO.co.head.at (i := 1) rfl
    have HU := Lib.hid (used_any hO.co.dst)
    have hsz6 : sz sj.us ≤ 65536 := by have := hO.co.dst.ok.room; have := hO.co.dst.ok.size; omega
    have hlt2 := off_lt_sz sj.us j
    rw [hO.at_] at hlt2
    by_cases hlt : j < sj.us.length
    · have hau : a < sz sj.us := hlt2.2 hlt
      have ha6 : a ≤ 65536 := by omega
      have HOf := Lib.hid (fun w2 : World => of_at a ha6 w2)
      obtain ⟨X, hX⟩ : ∃ X, pl sj.us j = X := ⟨_, rfl⟩
      have hXa : WP.ofW 1 (a : Int) = X := by rw [← hX]; unfold pl; rw [hO.at_]
      rw [hXa] at HOf
      have hXu : WP.U X := by rw [← hX]; exact pl_u _ _
      have HX := Lib.hid hX
      have HXu := Lib.hid hXu
      have HFo := Lib.hid (fields_of hO.co.dst hXu (by rw [← hX]; exact look_in hO.co hlt))
      obtain ⟨xs, hxs⟩ : ∃ xs, (th sj.us j).l = xs := ⟨_, rfl⟩
      have hxl : xs.length ≤ 255 := by rw [← hxs]; exact (hO.co.dst.ok.each j hlt).2.2.1
      have HXS := Lib.hid hxs
      have HUx := Lib.hid (show ∀ x ∈ xs, WP.U x by rw [← hxs]; exact (hO.co.dst.ok.each j hlt).2.2.2)
      rw [hxs] at HFo
      have hcnt := MP.count hO.co.inv
      have HO := Lib.hid hO
      generalize hN : sz sj.us = N at HU hsz6 hau
      have HN := Lib.hid hN
      clear hO hX hXa hXu hxs hlt2 hN
      go_wp2_with (first
        | (go_at_call 17; refine HU.out.mono ?_; rintro e w' ⟨rfl, rfl⟩)
        | (go_at_call 32; refine (HOf.out _).mono ?_; rintro e w' ⟨rfl, rfl⟩)
        | (go_at_call 36; refine HFo.out.mono ?_; rintro e w5 ⟨rfl, hR5, hF5⟩; have HR5 := Lib.hid hR5; have HF5 := Lib.hid hF5; clear hR5 hF5))
      go_loopw [26] (fun s26 w2 => ∃ (k : Nat) (sk : MP.St), k ≤ xs.length ∧ s26 = .int .i64 k ∧ Inner w w2 B c mb p g h n ts p' g' h' wr.heap.size j xs X (MP.doTh ts j sj) k sk) (fun s26 _ => xs.length - (intOf s26).toNat)
      case atStart =>
        have hs := HO.out.co.size
        exact ⟨0, sj, Nat.zero_le _, rfl, HO.out.co.far_nil HF5.out, HR5.out, HO.out.far.trans HF5.out (by simp), by unfold MP.doTh; rw [HXS.out]; rfl, hlt, HX.out, by rw [HXS.out], by omega⟩
      case round =>
        clear c1
        obtain ⟨k, sk, hk, rfl, hI⟩ := hrel
        have c1 := hI.co.head.at (i := 1) rfl
        by_cases hlk : k < xs.length
        · have hcell := row_word hI.row hlk
          have hu := HUx.out _ (List.getElem_mem hlk)
          have HW := Lib.hid (word_any (co_drew hI.co) hu)
          have HI := Lib.hid hI
          have HSt := Lib.hid (fun (w2 : World) (hC2 : Co w2 B c mb p g h n ts p' g' h' (MP.cwS ts sk xs[k])) => set_fld hC2 (X := X) (MP.cw_len ts sk xs[k] j hI.lt).1
            (by rw [← hI.pl]; exact (MP.ext_cw hI.co.inv xs[k]).pl j (by rw [← hI.co.inv.len]; exact hI.lt)) (k := k) (by rw [(MP.cw_len ts sk xs[k] j hI.lt).2, hI.len]; exact hlk) (MP.cwW_u (ts := ts) sk hu))
          have HNx := Lib.hid (fun (w2 w3 : World) a1 a2 a3 a4 => Inner.next (w2 := w2) (w3 := w3) hI hlk hu a1 a2 a3 a4)
          generalize xs[k] = x at hcell HW HSt HNx
          clear hI hu
          go_wp2_with (fail)
          go_region_held3 (fun w' => w'.cell? ⟨c, 1, none⟩ = some (ptr p')) (go_keep) (first
            | (go_at_call 23
               (with_reducible refine HW.out.mono ?_)
               rintro e w6 ⟨rfl, hC6, hF6⟩
               have HC6 := Lib.hid hC6
               have HF6 := Lib.hid hF6
               have y1 := HC6.out.head.at (i := 1) rfl
               clear hC6 hF6)
            | (go_at_call 37
               (with_reducible refine (HSt.out w6 HC6.out).mono ?_)
               rintro e w7 ⟨rfl, hA7, hF7⟩
               have HE := Lib.hid (HNx.out w6 w7 HC6.out HF6.out hA7 hF7)
               have z1 := HE.out.co.head.at (i := 1) rfl
               clear hA7 hF7))
          all_goals
            go_wp2_with (fail)
            go_roundw
            case rel => exact ⟨k + 1, _, by omega, by go_num, HE.out⟩
            case measure => simp [intOf]; omega
        · obtain rfl : k = xs.length := by omega
          have hskE : sk = MP.doTh ts j sj := by
            have := hI.eq
            rw [List.drop_length] at this
            exact this
          have HL := Lib.hid (len_any hI.co.dst X HXu.out)
          have hll : lenN sk.us X = xs.length := by
            have := look_in hI.co hI.lt
            rw [hI.pl] at this
            simp [lenN, this, hI.len]
          rw [hll] at HL
          have hnext : Outer w wr B c mb p g h n ts p' g' h' fin (a + (1 + xs.length)) (j + 1) sk := by
            refine ⟨hI.co, hI.far, ?_, hI.lt, ?_⟩
            · rw [← HO.out.eq, show ts.length + 1 - j = (ts.length + 1 - (j + 1)) + 1 by omega, MP.goF_step _ _ _ _ hlt, hskE]
            · rw [off_succ _ _ hI.lt, hI.len]
              have h1 : sz (sk.us.take j) = a := by
                have e1 := HO.out.at_
                have h2 : pl sk.us j = pl sj.us j := by rw [hI.pl, HX.out]
                have t1 := (pl_to hI.co.dst.ok j).2
                have t2 := (pl_to HO.out.co.dst.ok j).2
                rw [h2, t2, e1] at t1
                omega
              omega
          have hbound : a + (1 + xs.length) ≤ 65536 := by
            have h1 := hnext.at_
            have h2 := sz_take_le sk.us (j + 1)
            have h3 := hnext.co.dst.ok.room
            have h4 := hnext.co.dst.ok.size
            omega
          have HNext := Lib.hid hnext
          clear hI hskE hll hnext hlk hk
          go_wp2_with (first
            | (go_at_call 15; refine HL.out.mono ?_; rintro e w' ⟨rfl, rfl⟩))
          go_roundw
          case rel => exact ⟨a + (1 + xs.length), j + 1, sk, by go_num, HNext.out⟩
          case measure => simp [intOf]; omega
    · have hstop := MP.goF_stop ts (ts.length + 1 - j) j sj hlt
      rw [hO.eq] at hstop
      have hge : sz sj.us ≤ a := by omega
      have HO := Lib.hid hO
      have HSt := Lib.hid hstop
      generalize sz sj.us = N at HU hsz6 hge
      clear hO hstop hlt2
      go_wp2_with (first
        | (go_at_call 17; refine HU.out.mono ?_; rintro e w' ⟨rfl, rfl⟩))
      go_end0
      rw [HSt.out]
      exact ⟨rfl, HO.out.co, HO.out.far⟩
end
end MW
end Go.Proofs.Ytcfepiihjbbnaaa
