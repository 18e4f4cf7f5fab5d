/-
  Several texts in one: ScoMach, ScoMem.
-/
import Derived.Test.YtedbaegdmianaaaDoorQScoBnd
import Derived.Test.YtedbaegdmianaaaDoorQNamesAll
import Derived.Test.YtedbaegdmianaaaDoorQReadMems
import Derived.Test.YtedbaegdmianaaaDoorQScoMap
namespace Go.Proofs.YtedbaegdmianaaaDoor
namespace SC
open LX RX SX EX
structure Oq where
  f : Rf
  ps : List Sp
def Oq.add (o : Oq) (i : Nat) : Oq := ⟨{ o.f with l := o.f.l ++ [i] }, o.ps⟩
structure Sq where
  row : List Rf
  tops : List Nat
  R : Rws
  op : List Oq
  next : Option Sp
def popR (k : Int) (R : Rws) : Rws := if k = 6 then R.tail else R
def goOnS (row : List Rf) (tops : List Nat) (R : Rws) : List Oq → Sq
  | [] => ⟨row, tops, R, [], none⟩
  | o :: os =>
    if h : o.f.l.length < o.ps.length then ⟨row, tops, R, o :: os, some o.ps[o.f.l.length]⟩
    else match os with
      | [] => ⟨row ++ [o.f], tops ++ [row.length], popR o.f.kind R, [], none⟩
      | o2 :: os2 => goOnS (row ++ [o.f]) tops (popR o.f.kind R) (o2.add row.length :: os2)
  termination_by os => os.length
theorem goOnS_nil (row : List Rf) (tops : List Nat) (R : Rws) : goOnS row tops R [] = ⟨row, tops, R, [], none⟩ := by rw [goOnS.eq_def]
theorem goOnS_next (row : List Rf) (tops : List Nat) (R : Rws) (o : Oq) (os : List Oq) (h : o.f.l.length < o.ps.length) : goOnS row tops R (o :: os) = ⟨row, tops, R, o :: os, some o.ps[o.f.l.length]⟩ := by
  rw [goOnS.eq_def]
  simp only []
  rw [dif_pos h]
theorem goOnS_fin (row : List Rf) (tops : List Nat) (R : Rws) (o : Oq) (os : List Oq) (h : ¬ o.f.l.length < o.ps.length) : goOnS row tops R (o :: os) = match os with
      | [] => ⟨row ++ [o.f], tops ++ [row.length], popR o.f.kind R, [], none⟩
      | o2 :: os2 => goOnS (row ++ [o.f]) tops (popR o.f.kind R) (o2.add row.length :: os2) := by
  rw [goOnS.eq_def]
  simp only []
  rw [dif_neg h]
def putS (row : List Rf) (tops : List Nat) (R : Rws) (i : Nat) : List Oq → Sq
  | [] => ⟨row, tops ++ [i], R, [], none⟩
  | o :: os => goOnS row tops R (o.add i :: os)
abbrev Fin := Except Er (List ByteArray × List Rf × List Nat)
def goS (C : Cx) : Nat → List ByteArray → Sq → Option Fin
  | m, N, s => match s.next with
    | none => some (.ok (N, s.row, s.tops))
    | some p => match m with
      | 0 => none
      | m + 1 => match evS C s.R N p with
        | (.bad a e, N') => some (.error (a, e, N'))
        | (.mk f R' ps, N') => goS C m N' (goOnS s.row s.tops R' (⟨{ f with l := [] }, ps⟩ :: s.op))
theorem goS_none (C : Cx) (m : Nat) (N : List ByteArray) (row : List Rf) (tops : List Nat) (R : Rws) (op : List Oq) : goS C m N ⟨row, tops, R, op, none⟩ = some (.ok (N, row, tops)) := by cases m <;> rfl
theorem goS_zero (C : Cx) (N : List ByteArray) (row : List Rf) (tops : List Nat) (R : Rws) (op : List Oq) (p : Sp) : goS C 0 N ⟨row, tops, R, op, some p⟩ = none := rfl
theorem goS_succ (C : Cx) (m : Nat) (N : List ByteArray) (row : List Rf) (tops : List Nat) (R : Rws) (op : List Oq) (p : Sp) : goS C (m + 1) N ⟨row, tops, R, op, some p⟩ = match evS C R N p with
        | (.bad a e, N') => some (.error (a, e, N'))
        | (.mk f R' ps, N') => goS C m N' (goOnS row tops R' (⟨{ f with l := [] }, ps⟩ :: op)) := rfl
theorem goS_mono {C : Cx} : ∀ (m : Nat) (N : List ByteArray) (s : Sq) (x : Fin), goS C m N s = some x → ∀ k, goS C (m + k) N s = some x := by
  intro m
  induction m with
  | zero =>
    intro N s x h k
    obtain ⟨row, tops, R, op, nx⟩ := s
    cases nx with
    | none => rw [goS_none] at h ⊢; exact h
    | some p => rw [goS_zero] at h; cases h
  | succ m ih =>
    intro N s x h k
    obtain ⟨row, tops, R, op, nx⟩ := s
    cases nx with
    | none => rw [goS_none] at h ⊢; exact h
    | some p =>
      rw [show m + 1 + k = (m + k) + 1 by omega, goS_succ]
      rw [goS_succ] at h
      generalize evS C R N p = y at h ⊢
      obtain ⟨pl, N'⟩ := y
      cases pl with
      | bad a e => exact h
      | mk f R' ps => exact ih _ _ _ h k
def afterS (C : Cx) (tops : List Nat) (R : Rws) (os : List Oq) (k : Nat) : Out → Option Fin
  | .error e => some (.error e)
  | .ok (N', row', i) => goS C k N' (putS row' tops R i os)
theorem putS_done (row : List Rf) (tops : List Nat) (R : Rws) (f : Rf) (ps : List Sp) (os : List Oq) (h : f.l.length = ps.length) : goOnS row tops R (⟨f, ps⟩ :: os) = putS (row ++ [f]) tops (popR f.kind R) row.length os := by
  rw [goOnS_fin _ _ _ _ _ (by simp [h])]
  cases os <;> rfl
theorem pop_ne {k : Int} (h : k ≠ 6) (R : Rws) : popR k R = R := if_neg h
theorem ev_pop {C : Cx} {R : Rws} {N : List ByteArray} {p : Sp} {f : Rf} {R' : Rws} {ps : List Sp} {N' : List ByteArray} (h : evS C R N p = (.mk f R' ps, N')) : popR f.kind R' = R := by
  have hql : ∀ a l, quoL R a l = .mk f R' ps → popR f.kind R' = R := by
    intro a l e
    cases l <;> (simp only [quoL, Sn.mk.injEq] at e; obtain ⟨rfl, rfl, -⟩ := e; rfl)
  have hq : ∀ a i, quo C.ns R N a i = (.mk f R' ps, N') → popR f.kind R' = R := by
    intro a i e
    unfold quo at e
    split at e
    · simp only [Prod.mk.injEq, Sn.mk.injEq] at e; obtain ⟨⟨rfl, rfl, -⟩, -⟩ := e; rfl
    split at e
    · simp only [Prod.mk.injEq, Sn.mk.injEq] at e; obtain ⟨⟨rfl, rfl, -⟩, -⟩ := e; rfl
    split at e
    · simp only [Prod.mk.injEq, Sn.mk.injEq] at e; obtain ⟨⟨rfl, rfl, -⟩, -⟩ := e; rfl
    · simp only [Prod.mk.injEq] at e; exact hql _ _ e.1
  cases p with
  | qd a i => exact hq a i h
  | ql a l => simp only [evS, Prod.mk.injEq] at h; exact hql a l h.1
  | form i =>
    simp only [evS] at h
    generalize fmAt C.fs i = g at h
    have fin : ∀ {x : Rf} {R1 : Rws} {qs : List Sp} {M : List ByteArray}, ((.mk x R1 qs, M) : Sn × List ByteArray) = (.mk f R' ps, N') → popR x.kind R1 = R → popR f.kind R' = R := by
      intro x R1 qs M e e2
      simp only [Prod.mk.injEq, Sn.mk.injEq] at e
      obtain ⟨⟨rfl, rfl, -⟩, -⟩ := e
      exact e2
    unfold evF at h
    split at h
    · exact fin h rfl
    split at h
    · exact fin h rfl
    split at h
    · exact hq _ _ h
    split at h
    · unfold nameP at h
      split at h
      · exact fin h rfl
      · split at h
        · exact fin h rfl
        · cases h
    split at h
    · exact fin h rfl
    split at h
    · unfold setP' at h
      split at h
      · exact fin h rfl
      · split at h
        · exact fin h rfl
        · cases h
    split at h
    · unfold defP at h
      split at h
      · cases h
      · exact fin h rfl
    split at h
    · unfold callP at h
      split at h
      · split at h
        · cases h
        · exact fin h rfl
      · exact fin h rfl
    · rename_i h6 _ _ _
      exact fin h (pop_ne h6 R)
theorem machS {C : Cx} (h : Fw C) : ∀ (f : Nat) (p : Sp), wgt C p ≤ f → ∀ (N : List ByteArray) (row : List Rf) (tops : List Nat) (R : Rws) (os : List Oq) (k : Nat) (x : Fin),
    afterS C tops R os k (ex C f R p N row) = some x → goS C (k + wgt C p) N ⟨row, tops, R, os, some p⟩ = some x := by
  intro f
  induction f with
  | zero => intro p hp; have := wgt_pos C p; omega
  | succ f ih =>
  intro p hp N row tops R os k x hx
  have hwp := wgt_pos C p
  have hw := ev_wg h R N p
  have hpop := @ev_pop C R N p
  obtain ⟨w, hwe⟩ : ∃ w, wgt C p = w + 1 := ⟨wgt C p - 1, by omega⟩
  rw [hwe, show k + (w + 1) = (k + w) + 1 by omega, goS_succ]
  rw [hwe] at hw hp
  rw [ex] at hx
  generalize evS C R N p = y at hw hpop hx ⊢
  obtain ⟨pl, N1⟩ := y
  cases pl with
  | bad a e => exact hx
  | mk fm R1 ps =>
    simp only [wgn] at hw
    have hpop := hpop rfl
    simp only
    have hparts : ∀ (rest : List Sp) (done : List Sp) (M : List ByteArray) (st : List Rf) (l : List Nat), ps = done ++ rest → l.length = done.length → wgts C rest ≤ f →
        (match (match execs (ex C f R1) rest M st l with | .error e => Except.error e | .ok (N', st', l') => .ok (N', st' ++ [{ fm with l := l' }], st'.length) : Out) with
          | .error e => some (.error e) | .ok (N', row', i) => goS C k N' (putS row' tops R i os)) = some x →
        goS C (k + wgts C rest) M (goOnS st tops R1 (⟨{ fm with l := l }, ps⟩ :: os)) = some x := by
      intro rest
      induction rest with
      | nil =>
        intro done M st l hps hl _ hxx
        rw [putS_done _ _ _ _ _ _ (by rw [hps]; simp [hl])]
        simp only
        rw [hpop]
        exact hxx
      | cons q rest ihr =>
        intro done M st l hps hl hw2 hxx
        rw [wgts_cons] at hw2
        rw [wgts_cons]
        have hlt : l.length < ps.length := by rw [hps]; simp [hl]
        have hq : ps[l.length] = q := by simp [hps, hl]
        rw [goOnS_next _ _ _ _ _ hlt]
        simp only [hq]
        unfold execs at hxx
        rw [show k + (wgt C q + wgts C rest) = (k + wgts C rest) + wgt C q by omega]
        refine ih q (by omega) M st tops R1 _ (k + wgts C rest) x ?_
        cases hr : ex C f R1 q M st with
        | error e => rw [hr] at hxx; exact hxx
        | ok z =>
          obtain ⟨N', st', i⟩ := z
          rw [hr] at hxx
          exact ihr (done ++ [q]) N' st' (l ++ [i]) (by rw [hps]; simp) (by simp [hl]) (by omega) hxx
    have := hparts ps [] N1 row [] rfl rfl (by omega) hx
    rw [show k + w = (k + wgts C ps) + (w - wgts C ps) by omega]
    exact goS_mono _ _ _ _ this _
end SC
end Go.Proofs.YtedbaegdmianaaaDoor
namespace Go.Proofs.YtedbaegdmianaaaDoor
open Go.RowKit
set_option linter.unusedVariables false
namespace SM
open LX RW6 EX SC
open EW (Sl Bx ptr num strs)
open RX (Nd)
open RM6 (Kin)
inductive Ip (w : World) (Z : List Nat) (q : Nat) : Value → Sp → Prop where
  | form {bx bi i : Nat} (h1 : Bx w Z bx 80 (ptr q)) (h2 : Bx w Z bi 3 (num i)) : Ip w Z q (.func (.func 56) #[] #[ptr bx, ptr bi]) (.form i)
  | qd {bx ba bl : Nat} {a : Int} {v : Value} {i : Nat} {l : List Nat} (h1 : Bx w Z bx 80 (ptr q)) (h2 : Bx w Z ba 3 (num a)) (h3 : Bx w Z bl 24 v) (h4 : Sl w Z v (ints (i :: l))) :
      Ip w Z q (.func (.func 87) #[] #[ptr bx, ptr ba, ptr bl]) (.qd a i)
  | ql {bx ba bl : Nat} {a : Int} {v : Value} {i : Nat} {l : List Nat} (h1 : Bx w Z bx 80 (ptr q)) (h2 : Bx w Z ba 3 (num a)) (h3 : Bx w Z bl 24 v) (h4 : Sl w Z v (ints (i :: l))) :
      Ip w Z q (.func (.func 88) #[] #[ptr bx, ptr ba, ptr bl]) (.ql a l)
section
variable {w w' : World} {Z Z' S : List Nat} {q : Nat} {v : Value} {p : Sp}
theorem Ip.far (h : Ip w Z q v p) (f : MM.Far S w w') (hS : ∀ b ∈ S, b < w.heap.size → b ∈ Z) : Ip w' Z q v p := by
  cases h with
  | form h1 h2 => exact .form (h1.far f hS) (h2.far f hS)
  | qd h1 h2 h3 h4 => exact .qd (h1.far f hS) (h2.far f hS) (h3.far f hS) (h4.far f hS)
  | ql h1 h2 h3 h4 => exact .ql (h1.far f hS) (h2.far f hS) (h3.far f hS) (h4.far f hS)
theorem Ip.more (h : Ip w Z q v p) (hZ : ∀ b ∈ Z', b ∈ Z ∨ w.heap.size ≤ b) : Ip w Z' q v p := by
  cases h with
  | form h1 h2 => exact .form (h1.more hZ) (h2.more hZ)
  | qd h1 h2 h3 h4 => exact .qd (h1.more hZ) (h2.more hZ) (h3.more hZ) (h4.more hZ)
  | ql h1 h2 h3 h4 => exact .ql (h1.more hZ) (h2.more hZ) (h3.more hZ) (h4.more hZ)
theorem Ip.func (h : Ip w Z q v p) : ∃ f l, v = .func (.func f) #[] l := by
  cases h <;> exact ⟨_, _, rfl⟩
end
def Ips (w : World) (Z : List Nat) (q : Nat) (vs : List Value) (ps : List Sp) : Prop := vs.length = ps.length ∧ ∀ (k : Nat) (v : Value) (p : Sp), vs[k]? = some v → ps[k]? = some p → Ip w Z q v p
section
variable {w w' : World} {Z Z' S : List Nat} {q : Nat} {v : Value} {p : Sp} {vs : List Value} {ps : List Sp}
theorem Ips.far (h : Ips w Z q vs ps) (f : MM.Far S w w') (hS : ∀ b ∈ S, b < w.heap.size → b ∈ Z) : Ips w' Z q vs ps := ⟨h.1, fun k v p h1 h2 => (h.2 k v p h1 h2).far f hS⟩
theorem Ips.more (h : Ips w Z q vs ps) (hZ : ∀ b ∈ Z', b ∈ Z ∨ w.heap.size ≤ b) : Ips w Z' q vs ps := ⟨h.1, fun k v p h1 h2 => (h.2 k v p h1 h2).more hZ⟩
theorem Ips.nil (w : World) (Z : List Nat) (q : Nat) : Ips w Z q [] [] := ⟨rfl, fun k v p h => by simp at h⟩
theorem Ips.cons (h : Ip w Z q v p) (hs : Ips w Z q vs ps) : Ips w Z q (v :: vs) (p :: ps) := ⟨by simp [hs.1], fun k x y h1 h2 => by
  cases k with
  | zero => simp at h1 h2; subst h1; subst h2; exact h
  | succ k => exact hs.2 k x y (by simpa using h1) (by simpa using h2)⟩
theorem Ips.snoc (hs : Ips w Z q vs ps) (h : Ip w Z q v p) : Ips w Z q (vs ++ [v]) (ps ++ [p]) := ⟨by simp [hs.1], fun k x y h1 h2 => by
  have hl := hs.1
  rcases Nat.lt_trichotomy k vs.length with hk | hk | hk
  · rw [List.getElem?_append_left hk] at h1
    rw [List.getElem?_append_left (by omega)] at h2
    exact hs.2 k x y h1 h2
  · rw [List.getElem?_append_right (by omega), hk, Nat.sub_self] at h1
    rw [List.getElem?_append_right (by omega), show k - ps.length = 0 by omega] at h2
    simp at h1 h2; subst h1; subst h2; exact h
  · rw [List.getElem?_append_right (by omega), List.getElem?_eq_none (by simp; omega)] at h1
    cases h1⟩
end
def snV (e : Int) (f : Rf) (parts : Value) : Value := .agg #[.int .i64 e, .int .u8 f.kind, num f.at_, num f.n, num f.a, .string f.s, .slice none 0 0, .int .u64 f.w, .slice none 0 0, parts]
def snL (e : Int) (f : Rf) (parts : Value) : List Value := [.int .i64 e, .int .u8 f.kind, num f.at_, num f.n, num f.a, .string f.s, .slice none 0 0, .int .u64 f.w, .slice none 0 0, parts]
def badF (a : Int) : Rf := ⟨0, a, 0, 0, emp, 0, []⟩
def Isn (w : World) (Z : List Nat) (q : Nat) (v : Value) : Sn → Prop
  | .bad a e => v = snV e (badF a) (.slice none 0 0) ∧ e ≠ 0
  | .mk f _ ps => f.l = [] ∧ ∃ parts vs, v = snV 0 f parts ∧ Sl w Z parts vs ∧ Ips w Z q vs ps
section
variable {w w' : World} {Z Z' S : List Nat} {q : Nat} {v : Value} {sn : Sn}
theorem Isn.far (h : Isn w Z q v sn) (f : MM.Far S w w') (hS : ∀ b ∈ S, b < w.heap.size → b ∈ Z) : Isn w' Z q v sn := by
  cases sn with
  | bad a e => exact h
  | mk fm R ps =>
    obtain ⟨h0, parts, vs, e, h2, h3⟩ := h
    exact ⟨h0, parts, vs, e, h2.far f hS, h3.far f hS⟩
theorem Isn.more (h : Isn w Z q v sn) (hZ : ∀ b ∈ Z', b ∈ Z ∨ w.heap.size ≤ b) : Isn w Z' q v sn := by
  cases sn with
  | bad a e => exact h
  | mk fm R ps =>
    obtain ⟨h0, parts, vs, e, h2, h3⟩ := h
    exact ⟨h0, parts, vs, e, h2.more hZ, h3.more hZ⟩
theorem Isn.form (h : Isn w Z q v sn) : ∃ e f A m c, v = snV e f (.slice A m c) ∧ f.l = [] := by
  cases sn with
  | bad a e => exact ⟨_, _, _, _, _, h.1, rfl⟩
  | mk fm R ps =>
    obtain ⟨h0, parts, vs, rfl, h2, h3⟩ := h
    obtain ⟨A2, c2, rfl, _⟩ := h2.form
    exact ⟨_, _, _, _, _, rfl, h0⟩
end
def SnQ (w : World) (Z : List Nat) (q : Nat) (sn : Sn) (e : Ending) (w' : World) : Prop := ∃ v, e = .returned v ∧ Isn w' Z q v sn ∧ MM.Far [] w w'
theorem sn_size (W : World) : (sizeOf 109).run Tryd.prog W = .ok 10 W := by kernel_rfl
theorem sn_agg (W : World) : (isAgg 109).run Tryd.prog W = .ok true W := by kernel_rfl
theorem run_loadSn {w : World} {b : Nat} {e : Int} {f : Rf} {parts : Value} (hR : MM.Row w b 109 (snL e f parts)) : (loadVar 109 ⟨b, 0, none⟩).run Tryd.prog w = .ok (snV e f parts) w := by
  have hl := run_loadCellsFrom (P := Tryd.prog) (w := w) ⟨b, 0, none⟩ (fun j => (snL e f parts).getD j undef) 10 0 #[] (fun j hj => by
    rw [MM.head_add]
    refine hR.at ?_
    rw [List.getD_eq_getElem?_getD, Nat.zero_add, List.getElem?_eq_getElem (by simpa [snL] using hj)]; rfl)
  simp only [loadVar, Sem.run_bind, sn_agg, sn_size, Result.andThen, if_true, loadCells]
  rw [hl]
  rfl
theorem bodyPost_sn {fn : Func} {a : Act} {w : World} {post : Ending → World → Prop} {b t : Nat} {e : Int} {f : Rf} {parts : Value} (hr : fn.results = #[.cell t 109]) (ha : a.tmps.getD t undef = .pointer (some ⟨b, 0, none⟩)) (hd : a.defers = [])
    (hR : MM.Row w b 109 (snL e f parts)) (h : post (.returned (snV e f parts)) w) : bodyPost Tryd.prog fn post .ret a w := by
  refine bodyPost_ret (v := snV e f parts) ?_ hd h
  have ha2 : a.tmps[t]?.getD undef = .pointer (some ⟨b, 0, none⟩) := by rw [← Array.getD_eq_getD_getElem?]; exact ha
  simp only [results, hr]
  simp [ha2, asAddr, run_loadSn hR]
abbrev setSn (w : World) (b : Nat) (e kind at_ n a : Int) (s : ByteArray) (wd : Int) (parts : Value) : World :=
  (((((((((w.setCell ⟨b, 0, none⟩ (.int .i64 e)).setCell ⟨b, 1, none⟩ (.int .u8 kind)).setCell ⟨b, 2, none⟩ (.int .i64 at_)).setCell ⟨b, 3, none⟩ (.int .i64 n)).setCell ⟨b, 4, none⟩ (.int .i64 a)).setCell ⟨b, 5, none⟩ (.string s)).setCell ⟨b, 6, none⟩ (.slice none 0 0)).setCell ⟨b, 7, none⟩ (.int .u64 wd)).setCell ⟨b, 8, none⟩ (.slice none 0 0)).setCell ⟨b, 9, none⟩ parts
theorem far_setSn (w : World) (b : Nat) (e kind at_ n a : Int) (s : ByteArray) (wd : Int) (parts : Value) : MM.Far [b] w (setSn w b e kind at_ n a s wd parts) :=
  (((((((((((MM.Far.refl [b] w).setCell (p := ⟨b, 0, none⟩) (by simp) _).setCell (p := ⟨b, 1, none⟩) (by simp) _).setCell (p := ⟨b, 2, none⟩) (by simp) _).setCell (p := ⟨b, 3, none⟩) (by simp) _).setCell (p := ⟨b, 4, none⟩) (by simp) _).setCell (p := ⟨b, 5, none⟩) (by simp) _).setCell (p := ⟨b, 6, none⟩) (by simp) _).setCell (p := ⟨b, 7, none⟩) (by simp) _).setCell (p := ⟨b, 8, none⟩) (by simp) _).setCell (p := ⟨b, 9, none⟩) (by simp) _)
structure SnBox (w : World) (b : Nat) : Prop where
  row : ∃ v0 v1 v2 v3 v4 v5 v6 v7 v8 v9, MM.Row w b 109 [v0, v1, v2, v3, v4, v5, v6, v7, v8, v9]
abbrev zS : Obj := .cells #[.int .i64 0, .int .u8 0, .int .i64 0, .int .i64 0, .int .i64 0, .string ⟨#[]⟩, .slice none 0 0, .int .u64 0, .slice none 0 0, .slice none 0 0] 109
theorem SnBox.far {S : List Nat} {w w' : World} {b : Nat} (h : SnBox w b) (f : MM.Far S w w') (hb : b ∉ S) : SnBox w' b := by
  obtain ⟨v0, v1, v2, v3, v4, v5, v6, v7, v8, v9, h⟩ := h.row
  exact ⟨v0, v1, v2, v3, v4, v5, v6, v7, v8, v9, h.far f hb⟩
theorem SnBox.new {w : World} {k : Nat} (hk : w.heap.size = k) : SnBox (w.alloc zS) k := ⟨_, _, _, _, _, _, _, _, _, _, by subst hk; exact MM.Row.new w 109 [.int .i64 0, .int .u8 0, .int .i64 0, .int .i64 0, .int .i64 0, .string ⟨#[]⟩, .slice none 0 0, .int .u64 0, .slice none 0 0, .slice none 0 0]⟩
theorem SnBox.lt {w : World} {b : Nat} (h : SnBox w b) : b < w.heap.size := by
  obtain ⟨v0, v1, v2, v3, v4, v5, v6, v7, v8, v9, h⟩ := h.row
  exact h.lt
theorem SnBox.cells {w : World} {b : Nat} (h : SnBox w b) : ∃ v0 v1 v2 v3 v4 v5 v6 v7 v8 v9, w.cell? ⟨b, 0, none⟩ = some v0 ∧ w.cell? ⟨b, 1, none⟩ = some v1 ∧ w.cell? ⟨b, 2, none⟩ = some v2 ∧ w.cell? ⟨b, 3, none⟩ = some v3 ∧ w.cell? ⟨b, 4, none⟩ = some v4 ∧
    w.cell? ⟨b, 5, none⟩ = some v5 ∧ w.cell? ⟨b, 6, none⟩ = some v6 ∧ w.cell? ⟨b, 7, none⟩ = some v7 ∧ w.cell? ⟨b, 8, none⟩ = some v8 ∧ w.cell? ⟨b, 9, none⟩ = some v9 ∧ ∀ i, w.frozen? ⟨b, i, none⟩ = false := by
  obtain ⟨v0, v1, v2, v3, v4, v5, v6, v7, v8, v9, h⟩ := h.row
  exact ⟨v0, v1, v2, v3, v4, v5, v6, v7, v8, v9, h.at (i := 0) rfl, h.at (i := 1) rfl, h.at (i := 2) rfl, h.at (i := 3) rfl, h.at (i := 4) rfl, h.at (i := 5) rfl, h.at (i := 6) rfl, h.at (i := 7) rfl, h.at (i := 8) rfl, h.at (i := 9) rfl, h.frozen⟩
theorem SnBox.set {w : World} {b : Nat} (h : SnBox w b) (e kind at_ n a : Int) (s : ByteArray) (wd : Int) (parts : Value) : MM.Row (setSn w b e kind at_ n a s wd parts) b 109 [.int .i64 e, .int .u8 kind, .int .i64 at_, .int .i64 n, .int .i64 a, .string s, .slice none 0 0, .int .u64 wd, .slice none 0 0, parts] := by
  obtain ⟨v0, v1, v2, v3, v4, v5, v6, v7, v8, v9, h⟩ := h.row
  exact (((((((((h.put 0 (.int .i64 e)).put 1 (.int .u8 kind)).put 2 (.int .i64 at_)).put 3 (.int .i64 n)).put 4 (.int .i64 a)).put 5 (.string s)).put 6 (.slice none 0 0)).put 7 (.int .u64 wd)).put 8 (.slice none 0 0)).put 9 parts
theorem fin_sn {fn : Func} {a : Act} {w w1 : World} {Z : List Nat} {q b t : Nat} {sn : Sn} {e kind at_ n aa wd : Int} {s : ByteArray} {parts : Value} (hr : fn.results = #[.cell t 109]) (ha : a.tmps.getD t undef = .pointer (some ⟨b, 0, none⟩)) (hd : a.defers = [])
    (hB : SnBox w1 b) (hF : MM.Far [] w w1) (hb : w.heap.size ≤ b) (h : Isn w1 (b :: Z) q (snV e ⟨kind, at_, n, aa, s, wd, []⟩ parts) sn) :
    bodyPost Tryd.prog fn (SnQ w Z q sn) .ret a (setSn w1 b e kind at_ n aa s wd parts) := by
  refine bodyPost_sn (f := ⟨kind, at_, n, aa, s, wd, []⟩) hr ha hd (hB.set e kind at_ n aa s wd parts) ⟨_, rfl, ?_, ?_⟩
  · exact (h.far (far_setSn w1 b e kind at_ n aa s wd parts) (by simp)).more (fun x hx => .inl (List.mem_cons_of_mem _ hx))
  · exact hF.trans (far_setSn w1 b e kind at_ n aa s wd parts) (fun x hx hl => by
      have : x = b := by simpa using hx
      omega)
end SM
end Go.Proofs.YtedbaegdmianaaaDoor
