/-
  Contracts of the code's reader: begin, finish. Conditions: there are no more than 20000 data.
-/
import Derived.Test.YtbglcdjimipeeaaDoorReadC3
import Derived.Test.YtbglcdjimipeeaaDoorReadBound
namespace Go.Proofs.YtbglcdjimipeeaaDoor
open Go.RowKit
namespace RC6
open LX RX RW6
open RM6 (Kin ndC kinsN kinsP ints_snoc ints_len ndC_snoc own_off one_far)
/-- The reader at q is r. -/
def Has (w0 w : World) (q : Nat) (r : Rd) : Prop := ∃ rv tv ov rs os, Rdr w0 w q rv tv ov rs r.tops os [] ∧ rs.map (·.1) = r.row ∧ os.map (·.1) = r.op
/-- What a token comes to. -/
def TokC (w0 w : World) (q : Nat) (X : Except Int Rd) (e : Ending) (w' : World) : Prop := match X with
  | .error z => e = .returned (.int .i64 z) ∧ MM.Far [] w w'
  | .ok r => e = .returned (.int .i64 0) ∧ KeepT w w' ∧ Has w0 w' q r
theorem PutC.has {w0 w w' : World} {q : Nat} {R : Rd} {e : Ending} (h : PutC w0 w q R [] e w') : Has w0 w' q R := by
  obtain ⟨_, _, rv, tv, ov, rs, os, h1, h2, h3⟩ := h
  exact ⟨rv, tv, ov, rs, os, h1, h2, h3⟩
theorem Has.to {w0 w w1 : World} {q : Nat} {r : Rd} (h : Has w0 w q r) (f : MM.Far [] w w1) : Has w0 w1 q r := by
  obtain ⟨rv, tv, ov, rs, os, h1, h2, h3⟩ := h
  exact ⟨rv, tv, ov, rs, os, h1.to f, h2, h3⟩
/-- Behind the append to what is open. -/
def CutP (w0 w : World) (q : Nat) (rv tv : Value) (rs : List (Nd × Value)) (tops : List Nat) (os : List (Pt × Value)) (a : Int) (b : Bool) (wx : World) : Prop :=
  KeepT w wx ∧ ∃ ov', Rdr w0 wx q rv tv ov' rs tops ((⟨a, b, []⟩, .slice none 0 0) :: os) []
section
variable {w0 w : World} {q : Nat} {rv tv ov : Value} {rs : List (Nd × Value)} {tops : List Nat} {os : List (Pt × Value)} {ex : List (Value × List Nat)}
theorem pt_one (a : Int) (b : Bool) : ∀ u ∈ [Value.int .u8 4, .int .i64 a, .int .i64 0, .string ⟨#[]⟩, .slice none 0 0, .bool b], u.oneCell' = true := by
  intro u hu
  simp only [List.mem_cons, List.not_mem_nil, or_false] at hu
  rcases hu with rfl | rfl | rfl | rfl | rfl | rfl <;> rfl
set_option maxHeartbeats 4000000 in
set_option maxRecDepth 20000 in
theorem begin_any (t : Tk) (htk : t.kind = 1 ∨ t.kind = 3) (r : Rd) (h : Has w0 w q r) (hbd : Bd r 19990) :
    Calls Tryd.prog 13 #[.pointer (some ⟨q, 0, none⟩), .agg #[.int .u8 t.kind, .int .i64 t.at_, .int .i64 t.n, .string t.s]] w
      (TokC w0 w q (token r t)) := by
  obtain ⟨rv, tv, ov, rs, os, hR, hrs, hos⟩ := h
  obtain ⟨oA, oc, rfl⟩ := form_ w0 hR.op
  have hrl : rs.length = r.row.length := by rw [← hrs, List.length_map]
  have hol : os.length = r.op.length := by rw [← hos, List.length_map]
  have hsum : rs.length + os.length ≤ 19990 := by rw [hrl, hol]; exact hbd.sum
  have htop := hbd.tops
  have hls : ∀ p ∈ os, p.1.l.length ≤ 19990 := fun p hp => hbd.lists _ (by rw [← hos]; exact List.mem_map_of_mem hp)
  obtain ⟨bq, hbq⟩ : ∃ bq, bq = (t.kind == 3) := ⟨_, rfl⟩
  have HBQ := Lib.hid hbq
  have hkq : (t.kind == 3) = bq := hbq.symm
  have HR := Lib.hid (hR.to ((MM.Far.refl [] w).alloc (.cells #[.int .u8 t.kind, .int .i64 t.at_, .int .i64 t.n, .string t.s] 43)))
  have HK := Lib.hid (KeepT.nil ((MM.Far.refl [] w).alloc (.cells #[.int .u8 t.kind, .int .i64 t.at_, .int .i64 t.n, .string t.s] 43)))
  have HF := Lib.hid ((MM.Far.refl [] w).alloc (.cells #[.int .u8 t.kind, .int .i64 t.at_, .int .i64 t.n, .string t.s] 43))
  have HB := Lib.hid (MM.Row.new w 43 [.int .u8 t.kind, .int .i64 t.at_, .int .i64 t.n, .string t.s])
  have c2 := HR.out.head.at (i := 2) rfl
  have f2 := HR.out.head.frozen 2
  have z0 := HB.out.at (i := 0) rfl
  have z1 := HB.out.at (i := 1) rfl
  have HRS := Lib.hid hrs
  have HOS := Lib.hid hos
  have HOL := Lib.hid hol
  have HRL := Lib.hid hrl
  have HTK := Lib.hid htk
  have HLS := Lib.hid hls
  clear hR hbq hrs hos hol hrl htk hbd hls
  have hbW := HR.out.far.size
  by_cases hd : 50 ≤ os.length
  · have hd1 : decide ((50 : Int) ≤ (os.length : Int)) = true := by simp; omega
    have HT : Hid (token r t = .error 62) := Lib.hid (by
      unfold token
      have h50 : 50 ≤ r.op.length := by rw [← HOL.out]; exact hd
      rcases HTK.out with e | e <;> simp [e, h50])
    clear hkq HBQ
    go_enter Tryd.func13, Tryd.ntmps13
    go_wp2
    go_ret
    rw [HT.out]
    exact ⟨rfl, HF.out⟩
  · have hd1 : decide ((50 : Int) ≤ (os.length : Int)) = false := by simp; omega
    go_enter Tryd.func13, Tryd.ntmps13
    go_wp2
    rw [show w.alloc (.cells [Value.int .u8 t.kind, .int .i64 t.at_, .int .i64 t.n, .string t.s].toArray 43) = w.alloc (.cells #[.int .u8 t.kind, .int .i64 t.at_, .int .i64 t.n, .string t.s] 43) from rfl] at HB
    obtain ⟨tb, htb⟩ : ∃ tb, w.heap.size = tb := ⟨_, rfl⟩
    rw [htb] at HB z0 z1
    rw [htb]
    clear htb
    generalize hWE : w.alloc (.cells #[.int .u8 t.kind, .int .i64 t.at_, .int .i64 t.n, .string t.s] 43) = W at *
    clear hWE
    have c2a := (HR.out.to ((MM.Far.refl [] W).alloc (.cells #[.int .u8 4, .int .i64 t.at_, .int .i64 0, .string ⟨#[]⟩, .slice none 0 0, .bool bq] 56))).head.at (i := 2) rfl
    go_cut [] (fun wx => CutP w0 W q rv tv rs r.tops os t.at_ bq wx)
    case first =>
      go_region_law (
        refine MO.step_append ?_ (.tmp 19) (.tmp 25) 39 ?_ w0.heap.size 56 _ 6 72 opens_slice open_info rfl (by omega) (.slice oA os.length oc) os.length (ptC os.reverse) ?_ ?_ (some ⟨W.heap.size, 0, none⟩) 1 1 [.int .u8 4, .int .i64 t.at_, .int .i64 0, .string ⟨#[]⟩, .slice none 0 0, .bool bq] ?_ rfl (fun h => by cases h) [] ?_ (pt_one t.at_ bq) ?_ ?_ ?_ ?_
        · rfl
        · rfl
        · rfl
        · exact HR.out.op.alloc _
        · rfl
        · exact (MM.Src.row (MM.Row.new W 56 [.int .u8 4, .int .i64 t.at_, .int .i64 0, .string ⟨#[]⟩, .slice none 0 0, .bool bq]) (by simp) _ (fun j u hu => hu))
        · simp only [maxLen]; omega
        · omega
        · simp; omega
        intro v2 w2 hv2 hg2 hat2
        obtain ⟨A2, c2, rfl⟩ := form_ w0 hv2
        have F2 : MM.Far (Value.slice oA os.length oc).ownBlock.toList W w2 := far_app hg2
        have HH2 : Hid (MM.Row w2 q 41 _) := Lib.hid (HR.out.head.far F2 (fun hm => MM.own_row_ne HR.out.op HR.out.head (by decide) (by simpa using hm)))
        have d2W := HH2.out.at (i := 2) rfl
        have e2W := HH2.out.frozen 2
        have HN := Lib.hid (HR.out.push (w1 := w2) ⟨t.at_, bq, []⟩ rfl hv2 F2)
        have HK2 := Lib.hid (KeepT.far F2 (fun b hb _ => by
          obtain ⟨l, r2⟩ := own_row HR.out.op b (by simpa using hb)
          exact ⟨_, l, r2, by decide⟩))
        clear hg2 hv2 hat2)
      all_goals
        go_wp2_with fail
        go_meet
        exact ⟨HK2.out.trans (KeepT.one (one_far w2 q 2 _) HH2.out (by decide)), _, HN.out⟩
    case rest =>
      obtain ⟨hKc, ov', hRc⟩ := hcut
      have HKc := Lib.hid (HK.out.trans hKc)
      have HRc := Lib.hid hRc
      have HBc := Lib.hid (hKc.tok tb _ HB.out)
      have y1 := HBc.out.at (i := 1) rfl
      have hnd : ¬ 50 ≤ r.op.length := by rw [← HOL.out]; exact hd
      have HND := Lib.hid hnd
      clear hKc hRc z0 z1 c2 f2 c2a hbW HR HK HF HB hd hd1 hnd
      cases bq with
      | false =>
        have hk1 : t.kind = 1 := by
          have := HBQ.out
          rcases HTK.out with e | e
          · exact e
          · rw [e] at this; cases this
        have HT : Hid (token r t = .ok ⟨r.row, r.tops, ⟨t.at_, false, []⟩ :: r.op⟩) := Lib.hid (by
          unfold token
          simp [hk1, HND.out])
        clear hk1 hkq
        go_wp2
        go_ret
        rw [HT.out]
        exact ⟨rfl, HKc.out, rv, tv, ov', rs, _, HRc.out, HRS.out, by rw [List.map_cons, HOS.out]⟩
      | true =>
        have hk1 : t.kind = 3 := by
          have := HBQ.out
          rcases HTK.out with e | e
          · rw [e] at this; cases this
          · exact e
        have HT : Hid (token r t = .ok (put ⟨r.row, r.tops, ⟨t.at_, true, []⟩ :: r.op⟩ ⟨3, t.at_, 0, quoteB, []⟩)) := Lib.hid (by
          unfold token
          simp [hk1, HND.out])
        clear hk1 hkq
        have HA := Lib.hid (add_any ⟨3, t.at_, 0, quoteB, []⟩ none 0 HRc.out.ex_none (by rw [List.length_cons]; omega) (by omega) (by
          intro p hp
          rcases List.mem_cons.1 hp with rfl | hp
          · simp
          · have := HLS.out p hp; omega))
        go_wp2_with (first
          | (go_at_call 15; refine HA.out.mono ?_; rintro e w7 ⟨rfl, hK7, hH7⟩; have HK7 := Lib.hid hK7; have HH7 := Lib.hid hH7; clear hK7 hH7))
        go_ret
        rw [HT.out]
        obtain ⟨rv7, tv7, ov7, rs7, os7, h1, h2, h3⟩ := HH7.out
        rw [List.map_cons, HOS.out, HRS.out] at h1 h2 h3
        exact ⟨rfl, HKc.out.trans HK7.out, rv7, tv7, ov7, rs7, os7, h1, h2, h3⟩
set_option maxHeartbeats 4000000 in
set_option maxRecDepth 20000 in
theorem finish_any (t : Tk) (htk : t.kind = 2) (r : Rd) (h : Has w0 w q r) (hbd : Bd r 19990) :
    Calls Tryd.prog 14 #[.pointer (some ⟨q, 0, none⟩)] w (TokC w0 w q (token r t)) := by
  obtain ⟨rv, tv, ov, rs, os, hR, hrs, hos⟩ := h
  obtain ⟨oA, oc, rfl⟩ := form_ w0 hR.op
  have hrl : rs.length = r.row.length := by rw [← hrs, List.length_map]
  have hol : os.length = r.op.length := by rw [← hos, List.length_map]
  have hsum : rs.length + os.length ≤ 19990 := by rw [hrl, hol]; exact hbd.sum
  have htop := hbd.tops
  have hls : ∀ p ∈ os, p.1.l.length ≤ 19990 := fun p hp => hbd.lists _ (by rw [← hos]; exact List.mem_map_of_mem hp)
  have HR := Lib.hid hR
  have c2 := HR.out.head.at (i := 2) rfl
  by_cases ho : os.length = 0
  · have d0 : decide ((os.length : Int) = 0) = true := by simp [ho]
    have hop : r.op = [] := List.eq_nil_of_length_eq_zero (by omega)
    have HT : Hid (token r t = .error 61) := Lib.hid (by
      unfold token inQ
      simp [htk, hop])
    have d1 : (((os.length : Nat) : Int) == 0) = true := by simp [ho]
    clear hR hrs hos hrl hol hsum htop hls hbd hop htk ho
    go_enter Tryd.func14, Tryd.ntmps14
    go_wp2
    go_ret
    rw [HT.out]
    exact ⟨rfl, MM.Far.refl _ _⟩
  · obtain ⟨⟨p, hp⟩, os1, rfl⟩ : ∃ z os1, os = z :: os1 := by
      cases os with
      | nil => exact absurd rfl ho
      | cons z l => exact ⟨z, l, rfl⟩
    obtain ⟨og, oc2, e, hc1, hc2, c0, c1, c2', c3, c4, c5, hfz, hog, hog0⟩ := open_at HR.out
    injection e with e1 e2 e3
    subst e1 e3
    have hop : r.op = p :: os1.map (·.1) := by rw [← hos, List.map_cons]
    rw [List.length_cons] at c2 hsum
    have d0 : decide (((os1.length : Nat) : Int) + 1 = 0) = false := by simp; omega
    obtain ⟨bq, hbq⟩ : ∃ bq, p.q = bq := ⟨_, rfl⟩
    have HQ := Lib.hid c2
    have HBQ := Lib.hid hbq
    have HC5 := Lib.hid (hbq ▸ c5)
    have HOP := Lib.hid hop
    have HRS := Lib.hid hrs
    have HTK := Lib.hid htk
    have HLS := Lib.hid hls
    have hos1 : os1.length ≤ 20000 := by omega
    clear hR hrs hos hrl hol hls hbd hop htk ho e2 c0 c1 c2' c3 c4 c5 hfz hbq
    cases bq with
    | true =>
      have HT : Hid (token r t = .error 63) := Lib.hid (by
        unfold token inQ
        simp [HTK.out, HOP.out, HBQ.out])
      have c5 := HC5.out
      go_enter Tryd.func14, Tryd.ntmps14
      go_wp2_with (first
        | (go_at_call 16; refine (inner_any _ HQ.out hos1).mono ?_; rintro e w3 ⟨rfl, d, rfl⟩))
      go_ret
      rw [HT.out]
      exact ⟨rfl, (MM.Far.refl [] w).drewN d⟩
    | false =>
      have HT : Hid (token r t = .ok (putO (os1.map (·.1)) r.row r.tops ⟨4, p.at_, 0, emp, p.l⟩)) := Lib.hid (by
        unfold token inQ close
        simp [HTK.out, HOP.out, HBQ.out])
      have c5 := HC5.out
      go_enter Tryd.func14, Tryd.ntmps14
      go_wp2_with (first
        | (go_at_call 16; refine (inner_any _ HQ.out hos1).mono ?_; rintro e w3 ⟨rfl, d, rfl⟩; have HRd := Lib.hid (HR.out.to ((MM.Far.refl [] w).drewN d))))
      refine (pop_any HRd.out hos1).mono ?_
      rintro e w4 ⟨rfl, hF4, ov4, hR4⟩
      have HK4 := Lib.hid ((KeepT.nil ((MM.Far.refl [] w).drewN d)).trans (KeepT.one hF4 HRd.out.head (by decide)))
      obtain ⟨hA, hc, rfl⟩ : ∃ A c, hp = .slice A p.l.length c := form_ w0 (hR4.kin.each (hp, p.l) (by simp))
      have HA := Lib.hid (add_any ⟨4, p.at_, 0, emp, p.l⟩ hA hc hR4 (by omega) (by omega) (fun z hz => by have := HLS.out z (List.mem_cons_of_mem _ hz); omega))
      clear hF4 hR4
      dsimp only
      go_wp2_with (first
        | (go_at_call 15; refine HA.out.mono ?_; rintro e w7 ⟨rfl, hK7, hH7⟩; have HK7 := Lib.hid hK7; have HH7 := Lib.hid hH7; clear hK7 hH7))
      go_ret
      rw [HT.out]
      obtain ⟨rv7, tv7, ov7, rs7, os7, h1, h2, h3⟩ := HH7.out
      rw [HRS.out] at h1 h2 h3
      exact ⟨rfl, HK4.out.trans HK7.out, rv7, tv7, ov7, rs7, os7, h1, h2, h3⟩
end
end RC6
end Go.Proofs.YtbglcdjimipeeaaDoor
