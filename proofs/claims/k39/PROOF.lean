import PyProof.Rows.All
import Wide.All
import OpenK.AllK
import Wide.FinOn
import HandS.ForMost
import HandS.ForExc
import HandS.ExcInit
import HandS.ExcField
import HandS.TryMany
import HandS.ClsMeth
import HandS.Lambda
import HandS.IsInst
import HandS.Wide
import HandS.Flow
import HandS.Defaults
import HandS.Set
import HandS.Comp
import HandS.SetBool
import HandS.TupSets
import PyProof.Rows.StrMeet
import HandS.Codes
import HandS.EndTab
import HandS.NoneIn
import HandS.WideBits
import HandS.FStr
import HandS.Iter
import HandS.Walk
import HandS.Dict
import HandS.Star
import HandS.More
import HandS.DictComp
import HandS.Style
import HandS.Small
import PySem.Challenge.RW_nevernought_k39_reckonings_put_for_lette
set_option Elab.async false
set_option linter.all false
/-! Whole numbers: the greatest common divisor and fractions in lowest terms. -/
namespace Nv
theorem gcd_step (a b : Int) : Int.gcd b (a.fmod b) = Int.gcd a b := by
  rw [Int.fmod_def, Int.mul_comm, Int.gcd_sub_mul_right_right, Int.gcd_comm]
theorem fmod_small (a : Int) {b : Int} (hb : b ≠ 0) : (a.fmod b).natAbs < b.natAbs := by
  have h1 := Int.emod_nonneg a hb
  have h2 := Int.emod_lt a hb
  rw [Int.fmod_eq_emod]
  split
  · omega
  · rename_i h
    have hn : ¬ b ∣ a := fun d => h (.inr d)
    have hz : a % b ≠ 0 := fun z => hn (Int.dvd_of_emod_eq_zero z)
    omega
theorem gcd_zero (a : Int) : (if a < 0 then -a else a) = ((Int.gcd a 0 : Nat) : Int) := by
  rw [Int.gcd_zero_right]
  split <;> omega
/-- what both numbers are divided by -/
def per (t b : Int) : Int := if b < 0 then -((Int.gcd t b : Nat) : Int) else ((Int.gcd t b : Nat) : Int)
def frT (t b : Int) : Int := t.fdiv (per t b)
def frB (t b : Int) : Int := b.fdiv (per t b)
theorem gcd_pos (t : Int) {b : Int} (hb : b ≠ 0) : 0 < Int.gcd t b := Int.gcd_pos_of_ne_zero_right t hb
theorem per_ne (t : Int) {b : Int} (hb : b ≠ 0) : per t b ≠ 0 := by
  have := gcd_pos t hb
  unfold per
  split <;> omega
theorem per_le (t : Int) {b : Int} (hb : b ≠ 0) : (per t b).natAbs ≤ b.natAbs := by
  have := Int.gcd_le_natAbs_right t hb
  unfold per
  split <;> omega
theorem per_dvd_l (t b : Int) : per t b ∣ t := by
  unfold per
  split
  · exact Int.neg_dvd.mpr (Int.gcd_dvd_left t b)
  · exact Int.gcd_dvd_left t b
theorem per_dvd_r (t b : Int) : per t b ∣ b := by
  unfold per
  split
  · exact Int.neg_dvd.mpr (Int.gcd_dvd_right t b)
  · exact Int.gcd_dvd_right t b
theorem fdiv_mul {x d : Int} (h : d ∣ x) : x.fdiv d * d = x := by
  rw [Int.fdiv_eq_ediv_of_dvd h]
  exact Int.ediv_mul_cancel h
theorem abs_le_of_mul {q d x : Int} (hd : d ≠ 0) (e : q * d = x) : q.natAbs ≤ x.natAbs := by
  rw [← e, Int.natAbs_mul]
  exact Nat.le_mul_of_pos_right _ (by omega)
theorem frT_le (t : Int) {b : Int} (hb : b ≠ 0) : (frT t b).natAbs ≤ t.natAbs := abs_le_of_mul (per_ne t hb) (fdiv_mul (per_dvd_l t b))
theorem frB_le (t : Int) {b : Int} (hb : b ≠ 0) : (frB t b).natAbs ≤ b.natAbs := abs_le_of_mul (per_ne t hb) (fdiv_mul (per_dvd_r t b))
theorem frB_pos (t : Int) {b : Int} (hb : b ≠ 0) : 0 < frB t b := by
  have e : frB t b * per t b = b := fdiv_mul (per_dvd_r t b)
  have hp := per_ne t hb
  have hg := gcd_pos t hb
  rcases Int.lt_or_lt_of_ne hb with h | h
  · have hn : per t b < 0 := by unfold per; rw [if_pos h]; omega
    rcases Int.lt_trichotomy (frB t b) 0 with q | q | q
    · have := Int.mul_pos_of_neg_of_neg q hn
      omega
    · rw [q, Int.zero_mul] at e
      omega
    · exact q
  · have hn : 0 < per t b := by unfold per; rw [if_neg (by omega)]; omega
    rcases Int.lt_trichotomy (frB t b) 0 with q | q | q
    · have := Int.mul_neg_of_neg_of_pos q hn
      omega
    · rw [q, Int.zero_mul] at e
      omega
    · exact q
theorem per_one (t : Int) : per t 1 = 1 := by
  unfold per
  rw [if_neg (by omega), Int.gcd_one_right]
  rfl
theorem frT_one (t : Int) : frT t 1 = t := by
  unfold frT
  rw [per_one, Int.fdiv_one]
theorem frB_one (t : Int) : frB t 1 = 1 := by
  unfold frB
  rw [per_one, Int.fdiv_one]
end Nv

set_option maxRecDepth 100000
set_option maxHeartbeats 4000000
/-! Rules that the layer lacks: great divisors of either sign, an own exception made without arguments, a def read off an own class and called, several except clauses with names. -/
namespace Nv
open PySem PySem.Spec PyProof.Rows L2
section
variable {X : Cx}
def DivOk (_ j : Int) : Prop := j ≠ 0 ∧ j.natAbs < 2 ^ 8000
theorem op_div : OpR X (binaryOp .FloorDiv) (rI DivOk fun i j => .int (i.fdiv j)) :=
  opI fun _ _ _ _ _ _ _ hc q => floordiv_int hc.1 q (.inl (PyProof.noPylong_of_log2 (Nat.lt_trans (PySem.Flt.log2_lt_of (by decide) hc.2) (by decide))))
/-- C.m(a, ..): the class at C holds the def g under m -/
theorem pe_clsdef {CX : CXT} {k : Nat} {C g : Addr} {mc : Value} {fd : FuncData} {ps : List Str} {sp : Sp} {ds : List Value} {dvs : List V} {E : XK} {o e : Expr} {es : List Expr} {m : Str} {pos apos : Pos} {ta : TE} {t : TA} {pl : Sem Bool}
    (ho : PE X o ta) (rd : ClX.CRead X.K C mc) (cv : ClX.CVal X.K C mc m (.ref g) (.ref g)) (kp : PySem.W.keepIn X.K (.ref g) = true)
    (G : FnOk X.prog X.w X.K X.mg X.base CX k g fd ps sp) (hr : Room k X.A) (hb : Binds X.K fd ps ds) (hd : Vals dvs ds) (hx : Passes CX X E) (ha : PA X (e :: es) t)
    (hst : starEach (e :: es) X.env = (false, eval e X.env) :: starEach es X.env := by rfl) (hpl : (backTo pos (starEach es X.env)).any (·.1) = false := by rfl)
    (ht : eval (.Call (.Attribute o m apos) (e :: es) [] pos) X.env = (do
      let cv ← eval o X.env
      standAt apos.atName
      let (fn, before) ← holding [cv] (getMethod cv m pl)
      callWith pos fn before (backTo pos (starEach (e :: es) X.env)) (backToKw pos (keywordEach [] X.env))) := by rfl) :
    PE X (.Call (.Attribute o m apos) (e :: es) [] pos) (fun σ H Q => ta σ H fun x H1 => x = .ref C ∧ t σ H1 fun vs H2 => sp (vs ++ dvs) H2 Q E) := by
  refine ⟨fun pins s σ H Q I h => ?_⟩
  refine PySem.W.methodCall_KW (pl := pl) (thn (ho.run pins s σ H _ I h) fun u s1 hh => ?_) ht
  obtain ⟨x, H1, I1, rx, ex, q⟩ := hh
  subst ex
  obtain rfl : u = Value.ref C := rx
  refine PySem.W.method_cls I1.kIn rd.ga (ClX.getcval_ok I1 rd cv fun s2 I2 => ?_)
  refine PySem.W.callWith_K (first := []) (h₀ := X.base) I.ok.mod.kin kp (thn (ha.run pos pins s2 σ H1 _ I2 q) fun us s3 hh => ?_) hst hpl
  obtain ⟨vs, H2, I3, rv, q2⟩ := hh
  exact ⟨I3.kIn, run_fn G hr hb hd hx I3 rv q2⟩
/-- C(), an own exception whose __init__ is a def -/
theorem pmk_bare {CX : CXT} {x : Str} {C g : Addr} {k : Nat} {fd : FuncData} {ps : List Str} {sp : Sp} {p pos : Pos} (T : OexC X.K C) (hi : PySem.W.findIn X.K (.ref C) "__init__" = some (some (.ref g)))
    (hti : PySem.W.typeIn X.K (.ref g) = some (.type "function")) (G : FnOk X.prog X.w X.K X.mg X.base CX k g fd ps sp) (hr : Room (k + 1) X.A) (hb : Binds X.K fd ps []) (hx : Passes CX X (fun _ _ _ => False))
    (hg : Gl X x) (hm : X.mg x = some (.ref C)) (hdb : (x == ("__debug__" : Str)) = false := by decide) : PMk X (.Call (.Name x p) [] [] pos) (tMkO C sp [] tNil) := by
  intro pins s σ H Q I h
  obtain ⟨nm, qn, N, bs, bm, sn, sub, ab, col, dd, a0, a1, a2, a3, a5, hC, hbm⟩ := T.cls
  refine wpAny_Call_Name_kw (ld_glob I hg hm ?_ hdb)
  refine PySem.W.callWith_K0 I.kIn T.kC ?_
  obtain ⟨hp, gs, dr, tk, os⟩ := s
  have up : hp.objs.size ≤ hp.objs.size + 1 := Nat.le_succ _
  have fresh : H (hp.objs.size + 1) = none := I.hok.fresh up
  have said := h.2 (hp.objs.size + 1) fresh
  have keep : ∀ b o, hp.get? b = some o → ((hp.push (PySem.W.kdv_tup [])).push (PySem.HandSPX.excO C hp.objs.size)).get? b = some o :=
    fun b o z => Heap.get?_push_of_some _ (Heap.get?_push_of_some _ z)
  have here : ((hp.push (PySem.W.kdv_tup [])).push (PySem.HandSPX.excO C hp.objs.size)).get? (hp.objs.size + 1) = some (PySem.HandSPX.excO C hp.objs.size) := by heap_get
  have I2 := I.laid (t' := tk) (a := hp.objs.size + 1) (o := exo (hp.objs.size + 1) C none) (h' := (hp.push (PySem.W.kdv_tup [])).push (PySem.HandSPX.excO C hp.objs.size)) keep up (exo_ok here)
  have one : Vals [V.ref (hp.objs.size + 1)] [Value.ref (hp.objs.size + 1)] := .cons rfl .nil
  have many : [Value.ref (hp.objs.size + 1)].length = ps.length := by
    have z := G.len _ _ _ _ said
    exact z
  have run := G.run (X.A.under (.builtin "type.__call__" ⟨[.ref C], []⟩)) X.stack _ _ ⟨[Value.ref (hp.objs.size + 1)], []⟩ [Value.ref (hp.objs.size + 1)] _ _ (fun _ _ _ => False) (hr.make C [] []) (I2.env0.make C [] [])
    (by have z := hb _ [Value.ref (hp.objs.size + 1)] I2.kIn many; exact z) one said
  refine wpAny_call (PySem.HandSPX.call_own F.excBase_ValueError (fun Y => PySem.HandSPX.refsVE_contains Y bm hbm) (I.kIn _ _ hC) (PySem.W.looks_findIn I.kIn hi) (fun self => PySem.W.bind_fn I.kIn self hti) (Nat.zero_le _)
    (codeAny_mono run fun r s' hq => ?_))
  cases r with
  | error er => exact hx pins σ _ _ er s' I2 hq
  | ok fl =>
    cases fl with
    | ret u =>
      obtain ⟨v, H2, os2, bare2, un2, hok2, rv, ev, d, fs, ea, ed, hd1, q2⟩ := hq
      subst ev
      obtain ⟨h2, g2, d2, t2, os'⟩ := s'
      exact ⟨rv, mk_end (raises_own T.exC T.tyC) I up keep un2 hok2 os2 bare2 ea ed hd1 q2⟩
    | next => exact False.elim hq
    | brk => exact False.elim hq
    | cont => exact False.elim hq
end
end Nv

set_option maxRecDepth 100000
set_option maxHeartbeats 4000000
namespace Nv
open PySem PySem.Spec PyProof.Rows L2
/-! Several except clauses, each with a name for what is caught (slot i), for one class or for two in a tuple; nothing leaves the last one that is told of. -/
abbrev Clause := List Value × Nat × (Addr → Value → Option Addr → TS)
def gone (i : Nat) (D : Ends) : Ends := { nx := fun σ H => D.nx (σ.set i none) H, rt := D.rt, bk := fun σ H => D.bk (σ.set i none) H, ct := fun σ H => D.ct (σ.set i none) H }
/-- whether one of the classes is told to match -/
def Hits (K : PySem.W.Frag) (cls : Value) : List Value → Bool → Prop
  | [c], b => PySem.W.exmOne K cls c = some b
  | cs, b => PySem.W.exmAny K cls cs = some b
def wNamed (K : PySem.W.Frag) (D : Ends) : List Clause → WX
  | [] => fun _ _ _ _ => False
  | (cs, i, ts) :: r => fun cls d σ H => ∃ b, Hits K cls cs b ∧ (b = true → ∀ a, H a = none → ts a cls d (gone i D) (σ.set i (some (.ref a))) H) ∧ (b = false → wNamed K D r cls d σ H)
def Suite (X : Cx) (ts : Addr → Value → Option Addr → TS) (sts : List Stmt) : Prop :=
  ∀ (a : Addr) (oe : Obj) (cls : Value) (d : Option Addr) (pn : List (Addr × Obj)), Zc cls d oe → (∃ vs, oe.data = .fields vs) → PSs (X.suite a ((a, oe) :: pn)) sts (ts a cls d)
inductive Named (X : Cx) : List ExceptHandler → List Clause → Prop
  | stop {hds : List ExceptHandler} : Named X hds []
  | one {x n : Str} {c : Value} {i : Nat} {ts : Addr → Value → Option Addr → TS} {st : Stmt} {sts : List Stmt} {q1 q2 : Pos} {hds : List ExceptHandler} {cl : List Clause} (hi : X.N[i]? = some n) (hl : X.env.kindOf n = some .local) (hc : Names X x c)
      (su : Suite X ts (st :: sts)) (r : Named X hds cl) : Named X (.ExceptHandler (some (.Name x q1)) (some n) (st :: sts) q2 :: hds) (([c], i, ts) :: cl)
  | two {x y n : Str} {c e : Addr} {i kt : Nat} {ts : Addr → Value → Option Addr → TS} {st : Stmt} {sts : List Stmt} {q1 q2 q3 qt : Pos} {hds : List ExceptHandler} {cl : List Clause} (hi : X.N[i]? = some n) (hl : X.env.kindOf n = some .local)
      (gx : Gl X x) (dx : (x == ("__debug__" : Str)) = false) (hx : X.mg x = some (.ref c)) (gy : Gl X y) (dy : (y == ("__debug__" : Str)) = false) (hy : X.mg y = some (.ref e))
      (su : Suite X ts (st :: sts)) (r : Named X hds cl) : Named X (.ExceptHandler (some (.Tuple [.Name x q1, .Name y q3] kt qt)) (some n) (st :: sts) q2 :: hds) (([.ref c, .ref e], i, ts) :: cl)
  | three {x y z n : Str} {c e g : Addr} {i kt : Nat} {ts : Addr → Value → Option Addr → TS} {st : Stmt} {sts : List Stmt} {q1 q2 q3 q4 qt : Pos} {hds : List ExceptHandler} {cl : List Clause} (hi : X.N[i]? = some n) (hl : X.env.kindOf n = some .local)
      (gx : Gl X x) (dx : (x == ("__debug__" : Str)) = false) (hx : X.mg x = some (.ref c)) (gy : Gl X y) (dy : (y == ("__debug__" : Str)) = false) (hy : X.mg y = some (.ref e)) (gz : Gl X z) (dz : (z == ("__debug__" : Str)) = false) (hz : X.mg z = some (.ref g))
      (su : Suite X ts (st :: sts)) (r : Named X hds cl) : Named X (.ExceptHandler (some (.Tuple [.Name x q1, .Name y q3, .Name z q4] kt qt)) (some n) (st :: sts) q2 :: hds) (([.ref c, .ref e, .ref g], i, ts) :: cl)
section
variable {X : Cx} {body : List Stmt} {hd : ExceptHandler} {hds : List ExceptHandler} {cl : List Clause} {pos : Pos} {tb : WX → TS}
theorem fly_keep {B h h' : Heap} {l : List Env} {a : Addr} {Z : Obj → Prop} (k : ∀ b o, h.get? b = some o → h'.get? b = some o) (fl : HandSPX.FlyingZ B l a Z h) : HandSPX.FlyingZ B l a Z h' := by
  obtain ⟨f1, f2, f3, oe, vs, T, oT, ts, g1, g2, g3, g4, g5, g6, g7, g8, g9⟩ := fl
  exact ⟨fun b o e => k b o (f1 b o e), f2, Heap.FunFrames.of_keeps (fun b o e _ => ⟨o, k b o e, rfl⟩) f3, oe, vs, T, oT, ts, k _ _ g1, g2, g3, g4, g5, g6, k _ _ g7, g8, g9⟩
/-- what stands when an exception has come down to the clauses -/
structure Down (X : Cx) (pins : List (Addr × Obj)) (σ : L2.St) (H : Hp) (a : Addr) (cls : Value) (d : Option Addr) (s : Shared) : Prop where
  free : H a = none
  loc : a ≠ X.env.locals
  frm : a ∉ X.fs
  fly : ∃ (B : Heap) (sI : Shared), Inv X pins σ H sI ∧ (∀ b o, sI.heap.get? b = some o → b ∉ frs X.stack → B.get? b = some o) ∧ sI.heap.UpToSlots s.heap ∧ HandSPX.FlyingZ B (X.env :: X.outer) a (Zc cls d) s.heap ∧ s.os = sI.os ∧ AllBare s.gens
theorem Down.keep {pins : List (Addr × Obj)} {σ : L2.St} {H : Hp} {a : Addr} {cls : Value} {d : Option Addr} {s : Shared} {h' : Heap} (Z : Down X pins σ H a cls d s) (k : ∀ b o, s.heap.get? b = some o → h'.get? b = some o) : Down X pins σ H a cls d { s with heap := h' } := by
  obtain ⟨B, sI, J, nb, up, fl, os, ag⟩ := Z.fly
  exact ⟨Z.free, Z.loc, Z.frm, B, sI, J, nb, up.trans (.of_keeps k), fly_keep k fl, os, ag⟩
theorem handle (hf : X.env.frame = some X.env.locals) (nd : X.N.Nodup) {pins : List (Addr × Obj)} {σ : L2.St} {H : Hp} {a : Addr} {cls : Value} {d : Option Addr} {D : Ends} (ok : X.Ok) :
    ∀ {hds : List ExceptHandler} {cl : List Clause}, Named X hds cl → ∀ {s : Shared}, Down X pins σ H a cls d s → wNamed X.K D cl cls d σ H → wpAny (model X.prog X.w) X.A (handleBy (.ref a) X.env hds) (SP X pins D) X.xe s := by
  intro hds cl hk
  induction hk with
  | stop => intro s Z w; exact w.elim
  | @one x n c i ts st sts q1 q2 hds2 cl2 hi hl hc su r ih =>
    intro s Z w
    obtain ⟨b, hb1, yes, no⟩ := w
    obtain ⟨B, sI, J, nb, up, fl, os, ag⟩ := Z.fly
    obtain ⟨oe, vs, he, hz, hdt⟩ := fl.there
    have I3 : Inv X pins σ H s := J.landed nb fl.1 up os ag
    have S3 := I3.suite he hdt Z.free Z.loc Z.frm
    refine wpAny_handleBy_cons (codeAny_handlers_test ?_) (by intro q; cases q)
    have kind : PySem.W.Looks (model X.prog X.w) s.heap (typeOf (.ref a)) cls := fun A Q E s k q => wpAny_typeOf_ref (k _ _ he) (by rw [hz.1]; exact q)
    have hit := PySem.W.exm_one (M := model X.prog X.w) I3.kIn kind hb1
    have named : ∀ {Q : Value → Shared → Prop} {E : Value → Shared → Prop}, Q c s → wpAny (model X.prog X.w) (X.A.mark (some (.ref a))) (eval (.Name x q1) X.env) Q E s := fun {Q E} q => by
      obtain ⟨hg, hdbg, hm | ⟨hm, hv, hnn⟩⟩ := hc
      · exact ld_glob (X := X.suite a ((a, oe) :: (X.pn ++ pins))) S3 hg hm q hdbg
      · exact ld_blt (X := X.suite a ((a, oe) :: (X.pn ++ pins))) S3 hg hm hv q hnn hdbg
    refine named (hit.here ?_)
    cases b with
    | false => exact ih Z (no rfl)
    | true =>
      refine codeAny_handlers_suite_as ?_
      refine HandSPX.lands_againZ fl fun h4 fl4 up4 => ?_
      have J4 : Inv X pins σ H { s with heap := h4 } := J.landed nb fl4.1 (up.trans up4) os ag
      obtain ⟨oe4, vs4, he4, hz4, hd4⟩ := fl4.there
      have S4 := J4.suite he4 hd4 Z.free Z.loc Z.frm
      refine store_ok (X := X.suite a ((a, oe4) :: (X.pn ++ pins))) (v := .ref a) S4 nd hi (.inl hl) rfl (fun s5 S5 => ?_) (.inr hl)
      refine wpAny_mono ((su a oe4 cls d (X.pn ++ pins) hz4 ⟨_, hd4⟩).run [] s5 _ H _ S5 (yes rfl a Z.free)) (fun f s6 hsp => ?_) (fun _ _ z => False.elim z)
      have unname : ∀ {σ6 : L2.St} {H6 : Hp} {Q : Shared → Prop}, Inv (X.suite a ((a, oe4) :: (X.pn ++ pins))) [] σ6 H6 s6 → (∀ s7, Inv X pins (σ6.set i none) H6 s7 → Q s7) →
          wpAny (model X.prog X.w) X.A (do bindName X.env n .none; unbindBehindTheSuite X.env n q2) (fun _ s7 => Q s7) X.xe s6 := fun S6 hq => gone_ok (S6.unsuite ok) nd hi hl hq
      cases f with
      | ret u =>
        obtain ⟨v6, σ6, H6, S6, r6, q6⟩ := hsp
        exact unname S6 fun s7 J7 => ⟨_, _, _, J7, r6, q6⟩
      | next =>
        obtain ⟨σ6, H6, S6, q6⟩ := hsp
        exact unname S6 fun s7 J7 => ⟨_, _, J7, q6⟩
      | brk =>
        obtain ⟨σ6, H6, S6, q6⟩ := hsp
        exact unname S6 fun s7 J7 => ⟨_, _, J7, q6⟩
      | cont =>
        obtain ⟨σ6, H6, S6, q6⟩ := hsp
        exact unname S6 fun s7 J7 => ⟨_, _, J7, q6⟩
  | @two x y n c e i kt ts st sts q1 q2 q3 qt hds2 cl2 hi hl gx dx hx gy dy hy su r ih =>
    intro s Z0 w
    obtain ⟨b, hb1, yes, no⟩ := w
    have S0 : ∃ oe, Inv (X.suite a ((a, oe) :: (X.pn ++ pins))) [] σ H s := by
      obtain ⟨B, sI, J, nb, up, fl, os, ag⟩ := Z0.fly
      obtain ⟨oe, vs, he, hz, hdt⟩ := fl.there
      exact ⟨oe, (J.landed nb fl.1 up os ag).suite he hdt Z0.free Z0.loc Z0.frm⟩
    obtain ⟨oe0, S0⟩ := S0
    refine wpAny_handleBy_cons (codeAny_handlers_test ?_) (by intro q; cases q)
    refine wpAny_Tuple_spliced (spliced_more (ld_glob (X := X.suite a ((a, oe0) :: (X.pn ++ pins))) S0 gx hx (spliced_more (ld_glob (X := X.suite a ((a, oe0) :: (X.pn ++ pins))) S0 gy hy (spliced_none ⟨(by show 2 ≤ sizeLine; decide), ?_⟩) dy)) dx))
    have Z := Z0.keep (h' := s.heap.push { cls := .type "tuple", data := .seq [Value.ref c, Value.ref e].toArray }) (fun b o z => Heap.get?_push_of_some _ z)
    have there : (s.heap.push { cls := .type "tuple", data := .seq [Value.ref c, Value.ref e].toArray }).get? s.heap.objs.size = some { cls := .type "tuple", data := .seq [Value.ref c, Value.ref e].toArray } := Heap.get?_push_size _ rfl
    obtain ⟨B, sI, J, nb, up, fl, os, ag⟩ := Z.fly
    obtain ⟨oe, vs, he, hz, hdt⟩ := fl.there
    have I3 : Inv X pins σ H _ := J.landed nb fl.1 up os ag
    have kind : PySem.W.Looks (model X.prog X.w) (s.heap.push { cls := .type "tuple", data := .seq [Value.ref c, Value.ref e].toArray }) (typeOf (.ref a)) cls := fun A Q E s k q => wpAny_typeOf_ref (k _ _ he) (by rw [hz.1]; exact q)
    have hit := PySem.W.exm_tup2 (M := model X.prog X.w) I3.kIn kind there hb1
    refine hit.here ?_
    cases b with
    | false => exact ih Z (no rfl)
    | true =>
      refine codeAny_handlers_suite_as ?_
      refine HandSPX.lands_againZ fl fun h4 fl4 up4 => ?_
      have J4 : Inv X pins σ H { s with heap := h4 } := J.landed nb fl4.1 (up.trans up4) os ag
      obtain ⟨oe4, vs4, he4, hz4, hd4⟩ := fl4.there
      have S4 := J4.suite he4 hd4 Z.free Z.loc Z.frm
      refine store_ok (X := X.suite a ((a, oe4) :: (X.pn ++ pins))) (v := .ref a) S4 nd hi (.inl hl) rfl (fun s5 S5 => ?_) (.inr hl)
      refine wpAny_mono ((su a oe4 cls d (X.pn ++ pins) hz4 ⟨_, hd4⟩).run [] s5 _ H _ S5 (yes rfl a Z.free)) (fun f s6 hsp => ?_) (fun _ _ z => False.elim z)
      have unname : ∀ {σ6 : L2.St} {H6 : Hp} {Q : Shared → Prop}, Inv (X.suite a ((a, oe4) :: (X.pn ++ pins))) [] σ6 H6 s6 → (∀ s7, Inv X pins (σ6.set i none) H6 s7 → Q s7) →
          wpAny (model X.prog X.w) X.A (do bindName X.env n .none; unbindBehindTheSuite X.env n q2) (fun _ s7 => Q s7) X.xe s6 := fun S6 hq => gone_ok (S6.unsuite ok) nd hi hl hq
      cases f with
      | ret u =>
        obtain ⟨v6, σ6, H6, S6, r6, q6⟩ := hsp
        exact unname S6 fun s7 J7 => ⟨_, _, _, J7, r6, q6⟩
      | next =>
        obtain ⟨σ6, H6, S6, q6⟩ := hsp
        exact unname S6 fun s7 J7 => ⟨_, _, J7, q6⟩
      | brk =>
        obtain ⟨σ6, H6, S6, q6⟩ := hsp
        exact unname S6 fun s7 J7 => ⟨_, _, J7, q6⟩
      | cont =>
        obtain ⟨σ6, H6, S6, q6⟩ := hsp
        exact unname S6 fun s7 J7 => ⟨_, _, J7, q6⟩
  | @three x y z n c e g i kt ts st sts q1 q2 q3 q4 qt hds2 cl2 hi hl gx dx hx gy dy hy gz dz hzz su r ih =>
    intro s Z0 w
    obtain ⟨b, hb1, yes, no⟩ := w
    have S0 : ∃ oe, Inv (X.suite a ((a, oe) :: (X.pn ++ pins))) [] σ H s := by
      obtain ⟨B, sI, J, nb, up, fl, os, ag⟩ := Z0.fly
      obtain ⟨oe, vs, he, hz, hdt⟩ := fl.there
      exact ⟨oe, (J.landed nb fl.1 up os ag).suite he hdt Z0.free Z0.loc Z0.frm⟩
    obtain ⟨oe0, S0⟩ := S0
    refine wpAny_handleBy_cons (codeAny_handlers_test ?_) (by intro q; cases q)
    refine wpAny_Tuple_spliced (spliced_more (ld_glob (X := X.suite a ((a, oe0) :: (X.pn ++ pins))) S0 gx hx (spliced_more (ld_glob (X := X.suite a ((a, oe0) :: (X.pn ++ pins))) S0 gy hy (spliced_more (ld_glob (X := X.suite a ((a, oe0) :: (X.pn ++ pins))) S0 gz hzz (spliced_none ⟨(by show 3 ≤ sizeLine; decide), ?_⟩) dz)) dy)) dx))
    have Z := Z0.keep (h' := s.heap.push { cls := .type "tuple", data := .seq [Value.ref c, Value.ref e, Value.ref g].toArray }) (fun b o z => Heap.get?_push_of_some _ z)
    have there : (s.heap.push { cls := .type "tuple", data := .seq [Value.ref c, Value.ref e, Value.ref g].toArray }).get? s.heap.objs.size = some { cls := .type "tuple", data := .seq [Value.ref c, Value.ref e, Value.ref g].toArray } := Heap.get?_push_size _ rfl
    obtain ⟨B, sI, J, nb, up, fl, os, ag⟩ := Z.fly
    obtain ⟨oe, vs, he, hz, hdt⟩ := fl.there
    have I3 : Inv X pins σ H _ := J.landed nb fl.1 up os ag
    have kind : PySem.W.Looks (model X.prog X.w) (s.heap.push { cls := .type "tuple", data := .seq [Value.ref c, Value.ref e, Value.ref g].toArray }) (typeOf (.ref a)) cls := fun A Q E s k q => wpAny_typeOf_ref (k _ _ he) (by rw [hz.1]; exact q)
    have hit := PySem.W.exm_tup3 (M := model X.prog X.w) I3.kIn kind there hb1
    refine hit.here ?_
    cases b with
    | false => exact ih Z (no rfl)
    | true =>
      refine codeAny_handlers_suite_as ?_
      refine HandSPX.lands_againZ fl fun h4 fl4 up4 => ?_
      have J4 : Inv X pins σ H { s with heap := h4 } := J.landed nb fl4.1 (up.trans up4) os ag
      obtain ⟨oe4, vs4, he4, hz4, hd4⟩ := fl4.there
      have S4 := J4.suite he4 hd4 Z.free Z.loc Z.frm
      refine store_ok (X := X.suite a ((a, oe4) :: (X.pn ++ pins))) (v := .ref a) S4 nd hi (.inl hl) rfl (fun s5 S5 => ?_) (.inr hl)
      refine wpAny_mono ((su a oe4 cls d (X.pn ++ pins) hz4 ⟨_, hd4⟩).run [] s5 _ H _ S5 (yes rfl a Z.free)) (fun f s6 hsp => ?_) (fun _ _ z => False.elim z)
      have unname : ∀ {σ6 : L2.St} {H6 : Hp} {Q : Shared → Prop}, Inv (X.suite a ((a, oe4) :: (X.pn ++ pins))) [] σ6 H6 s6 → (∀ s7, Inv X pins (σ6.set i none) H6 s7 → Q s7) →
          wpAny (model X.prog X.w) X.A (do bindName X.env n .none; unbindBehindTheSuite X.env n q2) (fun _ s7 => Q s7) X.xe s6 := fun S6 hq => gone_ok (S6.unsuite ok) nd hi hl hq
      cases f with
      | ret u =>
        obtain ⟨v6, σ6, H6, S6, r6, q6⟩ := hsp
        exact unname S6 fun s7 J7 => ⟨_, _, _, J7, r6, q6⟩
      | next =>
        obtain ⟨σ6, H6, S6, q6⟩ := hsp
        exact unname S6 fun s7 J7 => ⟨_, _, J7, q6⟩
      | brk =>
        obtain ⟨σ6, H6, S6, q6⟩ := hsp
        exact unname S6 fun s7 J7 => ⟨_, _, J7, q6⟩
      | cont =>
        obtain ⟨σ6, H6, S6, q6⟩ := hsp
        exact unname S6 fun s7 J7 => ⟨_, _, J7, q6⟩
theorem ps_try_named (hs : X.stack = X.env :: X.outer) (hf : X.env.frame = some X.env.locals) (nd : X.N.Nodup)
    (hb : ∀ (W : WX) (pn : List (Addr × Obj)) (xe : Value → Shared → Prop), Takes (X.tr pn xe) W → PassesOwn (model X.prog X.w) X.A X.env xe → PSs (X.tr pn xe) body (tb W)) (hh : Named X (hd :: hds) cl) :
    PS X (.Try body (hd :: hds) [] [] pos) (fun D σ H => tb (wNamed X.K D cl) D σ H) := by
  refine ⟨fun pins s σ H D I h => ?_⟩
  have ok := I.ok
  have hfr : X.A.frames = some (X.env :: X.outer) := by rw [ok.frames, hs]
  refine wpAny_Try_except ?_
  have inner := hb (wNamed X.K D cl) (X.pn ++ pins) (fun e s₁ => wpAny (model X.prog X.w) X.A (noteFrame e X.env) (fun _ s₂ => wpAny (model X.prog X.w) X.A (setFlight e none) (fun _ s₃ =>
    wpAny (model X.prog X.w) X.A (handleBy e X.env (hd :: hds)) (SP X pins D) X.xe s₃) X.xe s₂) X.xe s₁) (fun u s' xx => by
      obtain ⟨a, B, sI, pins', σ', H', cls, d, rfl, J', nb, up, sky, na, os, ag, w⟩ := xx
      have J : Inv X pins σ' H' sI := J'.ofTry ok
      rw [hs] at sky
      refine Sky.land Zc.steady hfr hf sky fun h3 fl3 up3 => ?_
      obtain ⟨oe3, vs3, he3, hz3, hd3⟩ := fl3.there
      have nfr : a ∉ frs (X.env :: X.outer) := fun hm => by
        obtain ⟨_, o', e', hnf⟩ := fl3.2.2.1.mem hm
        rw [he3] at e'
        cases e'
        exact hnf _ hd3
      refine handle hf nd (D := D) ok hh ⟨na, fun z => nfr (List.mem_filterMap.mpr ⟨X.env, List.mem_cons_self, by rw [hf, z]⟩), fun hm => ?_, B, sI, J, nb, up.trans up3, fl3, os, ag⟩ w
      obtain ⟨e, hin, q⟩ := List.mem_filterMap.mp hm
      exact nfr (List.mem_filterMap.mpr ⟨e, List.mem_cons_of_mem _ hin, q⟩)) PassesOwn.looking
  refine wpAny_mono (inner.run [] s σ H D (I.toTry _) h) (fun f s1 hsp => ?_) (fun e s1 he => he)
  cases f with
  | ret u =>
    obtain ⟨v, σ', H', J', r, q⟩ := hsp
    exact ⟨v, σ', H', J'.ofTry ok, r, q⟩
  | next =>
    obtain ⟨σ', H', J', q⟩ := hsp
    exact wpAny_execs_nil ⟨σ', H', J'.ofTry ok, q⟩
  | brk =>
    obtain ⟨σ', H', J', q⟩ := hsp
    exact ⟨σ', H', J'.ofTry ok, q⟩
  | cont =>
    obtain ⟨σ', H', J', q⟩ := hsp
    exact ⟨σ', H', J'.ofTry ok, q⟩
end
end Nv

set_option maxRecDepth 100000
set_option maxHeartbeats 4000000
/-! Sets of texts: made, added to, comprehended, sorted. -/
namespace NvSet
open PySem PySem.Spec PyProof.Rows L2
/-- the text of a member -/
def txOf (e : Int × Value) : Str := match e.2 with
  | .str x _ => x
  | _ => ""
/-- a member of a set of texts: the text and its hash in this world -/
structure Mem (w : World) (e : Int × Value) : Prop where
  is : ∃ x t, e = (hashStr w x, Value.str x t)
/-- a set that can be walked is so laid -/
structure Walk' (w : World) (tb : SetTable) (n : Nat) : Prop where
  fit : tb.fits n = true
  ris : Ris tb.place.toList
  led : w.params.followText "set-order" = true ∨ tb.led = true
/-- the set of texts at a, its members xs in some order -/
structure Txs (w : World) (h : Heap) (a : Addr) (xs : List Str) : Prop where
  ex : ∃ ob es ep tb, h.get? a = some ob ∧ ob.ExactSet ∧ ob.data = .set es ep tb ∧ (∀ e ∈ es.toList, Mem w e) ∧ (es.toList.map txOf).Perm xs ∧ xs.Nodup ∧ es.size < scanBound ∧ Walk' w tb es.size
/-- a text more -/
def more (x : Str) (xs : List Str) : List Str := if x ∈ xs then xs else x :: xs
section
variable {P : Program} {w : World} {h h' : Heap} {a : Addr} {xs : List Str}
theorem Mem.tx {e : Int × Value} (m : Mem w e) : ∃ t, e.2 = Value.str (txOf e) t ∧ e.1 = hashStr w (txOf e) := by
  obtain ⟨x, t, rfl⟩ := m.is
  exact ⟨t, rfl, rfl⟩
theorem str_is (x : Str) (t : Tok) : (strKind P w).is x (.str x t) = true := by show Value.isStrOf x (.str x t) = true; simp [Value.isStrOf]
theorem mem_elems {l : List (Int × Value)} (g : ∀ e ∈ l, Mem w e) : ElemsOf (strKind P w) l := fun e he => by
  obtain ⟨x, t, rfl⟩ := (g e he).is
  exact ⟨⟨x, str_is x t, rfl⟩, rfl⟩
theorem mem_is {e : Int × Value} (m : Mem w e) (x : Str) : (strKind P w).is x e.2 = true ↔ txOf e = x := by
  obtain ⟨y, t, rfl⟩ := m.is
  constructor
  · intro q
    exact (strKind P w).inj _ _ _ (str_is y t) q
  · rintro rfl
    exact str_is _ t
theorem Txs.keeps (R : Txs w h a xs) (k : ∀ o, h.get? a = some o → h'.get? a = some o) : Txs w h' a xs := by
  obtain ⟨ob, es, ep, tb, h1, r⟩ := R.ex
  exact ⟨ob, es, ep, tb, k ob h1, r⟩
theorem Txs.there (R : Txs w h a xs) : ∃ o, h.get? a = some o := by
  obtain ⟨ob, es, ep, tb, h1, r⟩ := R.ex
  exact ⟨ob, h1⟩
theorem Txs.type {s : Shared} (R : Txs w s.heap a xs) : s.TypeIs (.ref a) "set" := by
  obtain ⟨ob, es, ep, tb, h1, h2, _⟩ := R.ex
  exact ⟨ob, h1, h2.1⟩
theorem Txs.nodict (R : Txs w h a xs) : ∀ b, Value.ref a = .ref b → ∃ ob, h.get? b = some ob ∧ ob.dict = none := fun b e => by
  obtain ⟨ob, es, ep, tb, h1, h2, _⟩ := R.ex
  cases e
  exact ⟨ob, h1, h2.2.1⟩
theorem more_nodup {x : Str} (n : xs.Nodup) : (more x xs).Nodup := by
  unfold more
  split
  · exact n
  · exact List.nodup_cons.mpr ⟨‹_›, n⟩
theorem mem_more {x y : Str} : y ∈ more x xs ↔ y = x ∨ y ∈ xs := by
  unfold more
  split
  · exact ⟨.inr, fun z => z.elim (fun e => e ▸ ‹_›) id⟩
  · exact List.mem_cons
end
section
variable {P : Program} {w : World} {A : Around} {E : Value → Shared → Prop} {s : Shared} {a : Addr} {xs : List Str}
/-- what stands behind a member's laying -/
theorem lay_end {give : Bool → Sem Unit} (hgive : ∀ (b : Bool) (z : Shared) (R : Unit → Shared → Prop), R () z → wpAny (model P w) A (give b) R E z) {ob : Obj} {es fs : Array (Int × Value)} {ep : Nat} {tb tc : SetTable} {ys : List Str} (h1 : s.heap.get? a = some ob) (h2 : ob.ExactSet) (h3 : ob.data = .set es ep tb)
    (m : ∀ e ∈ fs.toList, Mem w e) (pm : (fs.toList.map txOf).Perm ys) (nd : ys.Nodup) (sm : fs.size < scanBound) (wk : Walk' w tc fs.size) {dm : Bool} {G : Option Bool → Shared → Prop}
    (k : ∀ hp, Heap.SameBut a s.heap hp → Txs w hp a ys → G (some true) { s with heap := hp }) :
    wpAny (model P w) A (do
        storeSet a fs tc
        if (!dm && tc.tooFull) = true then do
            give (relayAll tc fs (SetTable.grown fs.size)).2.2
            storeSet a (relayAll tc fs (SetTable.grown fs.size)).1 (relayAll tc fs (SetTable.grown fs.size)).2.1
            pure (some true)
          else pure (some true)) G E s := by
  refine wpAny_bind (wpAny_storeSet_of h1 h3 ?_ (fits_of_scanBound sm))
  have g1 := store_at (es' := fs) (t' := tc) h1 h3
  have u1 := Heap.SameBut.update s.heap a (Obj.putSet fs tc)
  split
  · have r1 := relayAll_perm tc fs (SetTable.grown fs.size)
    have r2 : Walk' w (relayAll tc fs (SetTable.grown fs.size)).2.1 (relayAll tc fs (SetTable.grown fs.size)).1.size := ⟨relayAll_fits tc fs (SetTable.grown fs.size), relayAll_ris tc fs (SetTable.grown fs.size), wk.led.imp id fun z => (relayAll_led tc fs (SetTable.grown fs.size)).trans z⟩
    generalize relayAll tc fs (SetTable.grown fs.size) = Y at r1 r2 ⊢
    obtain ⟨gs, td, gv⟩ := Y
    have z1 : gs.size = fs.size := by simpa using r1.length_eq
    have z2 : gs.size < scanBound := z1 ▸ sm
    refine wpAny_bind (hgive _ _ _ (wpAny_bind (wpAny_storeSet_of g1 rfl ?_ (fits_of_scanBound z2))))
    have g2 := store_at (es' := gs) (t' := td) g1 rfl
    exact wpAny_pure (k _ (u1.trans (Heap.SameBut.update _ a _)) ⟨_, gs, _, td, g2, h2, rfl, fun e he => m e (r1.mem_iff.mp he), (r1.map txOf).trans pm, nd, z2, r2⟩)
  · exact wpAny_pure (k _ u1 ⟨_, fs, _, tc, g1, h2, rfl, m, pm, nd, sm, wk⟩)
theorem add_laid {x : Str} {t : Tok} {Q : Bool → Shared → Prop} (R : Txs w s.heap a xs) (room : xs.length + 1 < scanBound) (k : ∀ hp b, Heap.SameBut a s.heap hp → Txs w hp a (more x xs) → Q b { s with heap := hp }) :
    wpAny (model P w) A (setAddHashed a (.str x t) ((strKind P w).hash x)) Q E s := by
  obtain ⟨ob, es, ep, tb, h1, h2, h3, m, pm, nd, sm, wk⟩ := R.ex
  have kx : (strKind P w).is x (.str x t) = true := str_is x t
  have sc : (Value.str x t).scannable = true := rfl
  have el : ElemsOf (strKind P w) es.toList := mem_elems m
  unfold setAddHashed setAddHashedIn
  refine wpAny_holding (wpAny_bind (wpAny_setState_of h1 h3 wk.fit ?_))
  dsimp only
  rw [byScan_of sc sm el]
  simp only [↓reduceIte]
  unfold setAddByScan
  refine wpAny_bind (wpAny_bind (wpAny_rule (wpAny_bind (wpAny_setScan_of kx h1 h3 wk.fit el ?_))))
  have inn : x ∈ xs ↔ ∃ e ∈ es.toList, (strKind P w).is x e.2 = true := by
    rw [← pm.mem_iff, List.mem_map]
    exact ⟨fun ⟨e, he, q⟩ => ⟨e, he, (mem_is (m e he) x).2 q⟩, fun ⟨e, he, q⟩ => ⟨e, he, (mem_is (m e he) x).1 q⟩⟩
  cases hf : List.findIdx? (fun e => (strKind P w).is x e.2) es.toList with
  | some j =>
    obtain ⟨hj, pj, _⟩ := List.findIdx?_eq_some_iff_getElem.mp hf
    have hx : x ∈ xs := inn.2 ⟨es.toList[j], List.getElem_mem hj, pj⟩
    refine wpAny_pure (wpAny_pure (k s.heap _ (Heap.SameBut.refl a s.heap) ?_))
    unfold more
    rw [if_pos hx]
    exact R
  | none =>
    have hx : x ∉ xs := fun z => by
      obtain ⟨e, he, q⟩ := inn.1 z
      have c := List.findIdx?_eq_none_iff.mp hf e he
      rw [q] at c
      cases c
    have gw : ∀ (b : Bool) {z : Shared} {G : Unit → Shared → Prop}, G () z → wpAny (model P w) A (match b with | true => rule "set.scan.the-table-gave-way" | false => pure ()) G E z :=
      fun b z G q => by cases b <;> first | exact wpAny_pure q | exact wpAny_rule q
    have l1 := layNew_perm tb es ((strKind P w).hash x) (.str x t)
    have l2 := layNew_fits tb es ((strKind P w).hash x) (.str x t)
    have l3 := layNew_ris tb es ((strKind P w).hash x) (.str x t) wk.ris
    have l4 := layNew_led tb es ((strKind P w).hash x) (.str x t)
    generalize layNew tb es ((strKind P w).hash x) (.str x t) = Y at l1 l2 l3 l4 ⊢
    obtain ⟨fs, tc, dm, gv⟩ := Y
    dsimp only at l1 l2 l3 l4 ⊢
    rw [Array.toList_push] at l1
    have pc := l1.trans (List.perm_append_singleton _ _)
    have m2 : ∀ e ∈ fs.toList, Mem w e := fun e he => by
      rcases List.mem_cons.mp (pc.mem_iff.mp he) with z | z
      · exact ⟨x, t, z⟩
      · exact m e z
    have p2 : (fs.toList.map txOf).Perm (more x xs) := by
      unfold more
      rw [if_neg hx]
      exact (pc.map txOf).trans (List.Perm.cons x pm)
    have z1 : fs.size = xs.length + 1 := by
      have := p2.length_eq
      unfold more at this
      rw [if_neg hx] at this
      simpa using this
    have z2 : fs.size < scanBound := z1 ▸ room
    have ld : w.params.followText "set-order" = true ∨ tc.led = true := wk.led.imp id fun z => l4.trans z
    refine wpAny_bind (gw _ ?_)
    split
    · refine wpAny_bind ?_
      rw [hashByValue_scannable 8 sc]
      refine wpAny_pure ?_
      refine lay_end ?_ h1 h2 h3 m2 p2 (more_nodup nd) z2 ?_ ?_
      · intro b z G q; cases b <;> first | exact wpAny_pure q | exact wpAny_rule q
      · split
        · exact ⟨by first | exact SetTable.fits_plain_off l2 | exact l2, l3, ld⟩
        · exact ⟨by first | exact l2 | exact SetTable.fits_plain_off l2, l3, ld⟩
      · intro hp sb r; exact wpAny_pure (k hp _ sb r)
    · refine wpAny_bind (wpAny_pure ?_)
      simp only [↓reduceIte]
      refine lay_end ?_ h1 h2 h3 m2 p2 (more_nodup nd) z2 ⟨l2, l3, ld⟩ ?_
      · intro b z G q; cases b <;> first | exact wpAny_pure q | exact wpAny_rule q
      · intro hp sb r; exact wpAny_pure (k hp _ sb r)
end
end NvSet

set_option maxRecDepth 100000
set_option maxHeartbeats 4000000
namespace NvSet
open PySem PySem.Spec PyProof.Rows L2
/-- the tracked set of texts -/
def TxO (w : World) (a : Addr) (xs : List Str) : HO := .ext fun h => Txs w h a xs
/-- a set's object when it is new -/
def newS (w : World) : Obj := { cls := .type "set", dict := none, data := .set #[] 0 (.fresh 0 0 (!w.params.followText "set-order")) }
theorem txs_new {w : World} {h : Heap} {a : Addr} (e : h.get? a = some (newS w)) : Txs w h a [] :=
  ⟨_, #[], 0, _, e, ⟨rfl, rfl, rfl⟩, rfl, (fun x hx => by simp at hx), List.Perm.nil, List.nodup_nil, by decide, ⟨rfl, List.Pairwise.nil, by
    show _ ∨ (!w.params.followText "set-order") = true
    cases w.params.followText "set-order"
    · exact .inr rfl
    · exact .inl rfl⟩⟩
theorem txo_ok {P : Program} {w : World} {H : Hp} {h : Heap} {a : Addr} {xs : List Str} (R : Txs w h a xs) : ObjOk P w H h a (TxO w a xs) := ⟨R, R.there, fun _ _ p k => p.keeps k⟩
/-- so many texts, from the first on -/
def gather : List Str → List Str
  | [] => []
  | x :: r => more x (gather r)
theorem mem_gather {y : Str} : ∀ {xs : List Str}, y ∈ gather xs ↔ y ∈ xs
  | [] => Iff.rfl
  | x :: r => by
    show y ∈ more x (gather r) ↔ _
    rw [mem_more, mem_gather, List.mem_cons]
theorem gather_len : ∀ xs : List Str, (gather xs).length ≤ xs.length
  | [] => Nat.le_refl _
  | x :: r => by
    have := gather_len r
    show (more x (gather r)).length ≤ r.length + 1
    unfold more
    split
    · omega
    · rw [List.length_cons]
      omega
section
variable {P : Program} {w : World} {A : Around} {E : Value → Shared → Prop} {s : Shared} {a : Addr} {xs : List Str}
/-- found.add(x) -/
theorem add_call {x : Str} {t : Tok} {Q : Value → Shared → Prop} (R : Txs w s.heap a xs) (room : xs.length + 1 < scanBound)
    (k : ∀ hp, Heap.SameBut a s.heap hp → Txs w hp a (more x xs) → Q .none { s with heap := hp, toks := s.toks + 1 }) :
    wpAny (model P w) A (call (.builtin "set.add") [.ref a, .str x t]) Q E s := by
  refine wpAny_call_entry F.slot_set_add R.type F.entry_set_add ?_ (F.args_set_add_2 _ _)
  unfold Builtin.«set.add» Builtin.Frozenset.oneOther
  simp only [List.isEmpty_nil, bind_assoc]
  unfold Builtin.Frozenset.addrOf setAdd
  refine wpAny_bind (wpAny_pure ?_)
  try dsimp only
  refine wpAny_bind (wpAny_pure ?_)
  try dsimp only
  refine wpAny_bind (wpAny_holding (wpAny_bind ((strKind P w).pyHash (str_is x t) ?_)))
  exact add_laid (s := { s with toks := s.toks + 1 }) R room fun hp b sb r => (show wpAny _ _ (ret Value.none) _ _ _ from wpAny_pure ⟨_, rfl, k hp sb r⟩)
/-- the loop behind set(xs): n texts, of which i are in -/
theorem update_loop {I : Addr} {fp wr : List Addr} {G : Array GenState → Array GenState → Prop} {n : Nat} {Pv : Nat → Value → Prop} {St : Nat → Shared → Prop} {R : Result → Shared → Prop} (W : WalksS P w A.in1 I fp wr G n Pv St) (S : Addr) (hSf : S ∉ fp) (ks : List Str) (hn : n = ks.length)
    (few : ks.length < 1000) (hval : ∀ i v, Pv i v → ∃ x t, ks[i]? = some x ∧ v = .str x t) (h0 : Heap) (free : ∀ b ∈ S :: wr, h0.get? b = none) :
    ∀ (j i : Nat) (s : Shared) (ys : List Str), i + j = n → St i s → (∀ b o, h0.get? b = some o → s.heap.get? b = some o) → Txs w s.heap S ys → ys.length ≤ i → (∀ y, y ∈ ys ↔ y ∈ ks.take i) →
      (∀ z ys, Moved (S :: wr) G s z → Txs w z.heap S ys → (∀ y, y ∈ ys ↔ y ∈ ks) → (∀ b o, h0.get? b = some o → z.heap.get? b = some o) → R (.ok (.ret .none)) z) →
      codeAny (model P w) A (.builtin "set.update.loop" ⟨[.ref S, .ref I], []⟩) R s := by
  have sw : S ∉ wr := fun z => hSf (W.sub _ z)
  have up : ∀ b ∈ wr, b ∈ S :: wr := fun b hb => List.mem_cons_of_mem _ hb
  have stay : ∀ {u v : Shared}, Moved wr G u v → (∀ b o, h0.get? b = some o → u.heap.get? b = some o) → ∀ b o, h0.get? b = some o → v.heap.get? b = some o := fun mv kp b o e =>
    mv.heap b o (fun z => by rw [free b (up b z)] at e; cases e) (kp b o e)
  intro j
  induction j with
  | zero =>
    intro i s ys hij st kp T _ hy hR
    obtain rfl : i = n := by omega
    refine codeAny_builtin F.entry_set_update_loop ?_
    rw [Around.under_plainId F.plain_set_update_loop _]
    show wpAny _ A.in1 (pyNext (.ref I) >>= _) _ _ s
    refine wpAny_bind (W.done s _ _ st fun z mv => ?_)
    show wpAny _ A.in1 (ret Value.none) _ _ z
    refine wpAny_pure (hR z ys (mv.mono up) (T.keeps fun o e => mv.heap S o sw e) (fun y => ?_) (stay mv kp))
    rw [hy y, hn, List.take_length]
  | succ j ih =>
    intro i s ys hij st kp T hl hy hR
    refine codeAny_builtin F.entry_set_update_loop ?_
    rw [Around.under_plainId F.plain_set_update_loop _]
    show wpAny _ A.in1 (pyNext (.ref I) >>= _) _ _ s
    refine wpAny_bind (W.item i s _ _ (by omega) st fun v z hv st2 mv => ?_)
    obtain ⟨x, t, hx, rfl⟩ := hval i v hv
    show wpAny _ A.in1 (holding [Value.str x t] (setAdd S (.str x t)) >>= _) _ _ z
    refine wpAny_bind (wpAny_holding ?_)
    unfold setAdd
    refine wpAny_holding (wpAny_bind ((strKind P w).pyHash (str_is x t) ?_))
    have T2 : Txs w z.heap S ys := T.keeps fun o e => mv.heap S o sw e
    refine add_laid (s := { z with toks := z.toks + 1 }) T2 (by unfold scanBound; omega) fun hp b sb T3 => ?_
    refine wpAny_pure ⟨plainId_quiet F.plain_set_update_loop _, ih (i + 1) _ (more x ys) (by omega) (W.frame _ z _ _ st2 (Nat.le_add_right _ _) fun b hb o e => ?_) (fun b o e => ?_) T3 ?_ (fun y => ?_) fun z2 ys2 mv2 T4 hy2 kp2 => ?_⟩
    · exact (sb.2 b (fun q : b = S => hSf (q ▸ hb))).trans e
    · exact (sb.2 b (fun q : b = S => by rw [q, free S List.mem_cons_self] at e; cases e)).trans (stay mv kp b o e)
    · unfold more
      split
      · omega
      · rw [List.length_cons]
        omega
    · rw [mem_more, hy y, List.take_add_one, hx]
      show _ ↔ y ∈ List.take i ks ++ [x]
      rw [List.mem_append, List.mem_singleton]
      exact Or.comm
    · refine hR z2 ys2 (Moved.trans W.gtrans ((mv.mono up).then_heap (Nat.le_add_right _ _) fun b o hb e => ?_) mv2) T4 hy2 kp2
      exact (sb.2 b (fun q : b = S => hb (q ▸ List.mem_cons_self))).trans e
/-- sorted(set) -/
theorem sorted_txs {Q : Value → Shared → Prop} (R : Txs w s.heap a xs) (hh : A.handled = none) (few : xs.length < 64)
    (k : ∀ z p (out : Array Value) (c : Nat) (ys : List Str), (∀ b o, s.heap.get? b = some o → z.heap.get? b = some o) → z.gens = s.gens → z.os = s.os → s.heap.objs.size ≤ p → z.heap.get? p = some (seqObj "list" out c) →
      StrsAre out.toList ys → ys.Perm xs → sortedS ys = true → Q (.ref p) z) : wpAny (model P w) A (call (.builtin "sorted") [.ref a]) Q E s := by
  obtain ⟨ob, es, ep, tb, h1, h2, h3, m, pm, nd, sm, wk⟩ := R.ex
  refine Calls.call_function_entry kind_sorted plain_sorted entry_sorted (args_sorted1 _) ?_
  unfold Builtin.«sorted»
  refine wpAny_bind (m := checkCount "sorted" 1 1 _) (wpAny_pure (wpAny_bind (collect_set (A := A.in1) hh ⟨ob, h1, h2.1, h3⟩ wk.fit sm wk.ris wk.led fun z vs k1 hz g1 o1 pv => ?_)))
  have allS : ∀ l : List Value, (∀ v ∈ l, ∃ e, Mem w e ∧ v = e.2) → ∃ ys, StrsAre l ys ∧ ∀ f : Value → Str, (∀ e, Mem w e → f e.2 = txOf e) → ys = l.map f := by
    intro l
    induction l with
    | nil => intro _; exact ⟨[], .nil, fun _ _ => rfl⟩
    | cons v l ih =>
      intro hv
      obtain ⟨ys, h1, h2⟩ := ih fun u hu => hv u (List.mem_cons_of_mem _ hu)
      obtain ⟨e, me, rfl⟩ := hv v List.mem_cons_self
      obtain ⟨t, e1, _⟩ := me.tx
      refine ⟨txOf e :: ys, ?_, fun f hf => ?_⟩
      · rw [e1]
        exact .cons _ _ h1
      · rw [List.map_cons, hf e me, ← h2 f hf]
  obtain ⟨ys, sy, fy⟩ := allS vs fun v hv => by
    obtain ⟨e, he, q⟩ := List.mem_map.mp (pv.mem_iff.mp hv)
    exact ⟨e, m e he, q.symm⟩
  have ey := fy (fun v => match v with | .str x _ => x | _ => "") (fun e me => rfl)
  have py : ys.Perm xs := by
    rw [ey]
    refine (pv.map _).trans ?_
    rw [List.map_map]
    exact pm
  have lv : vs.length = xs.length := by rw [← py.length_eq, ey, List.length_map]
  refine wpAny_bind (wpAny_newList ?_ (by rw [lv, sizeLine_eq]; omega))
  have hoL : (z.heap.push (seqObj "list" vs.toArray 0)).get? z.heap.objs.size = some (seqObj "list" vs.toArray 0) := Heap.get?_push_size _ rfl
  refine wpAny_bind (wpAny_holding (wpAny_call_entry slot_list_sort ⟨_, hoL, rfl⟩ entry_list_sort (list_sort_treeK strKind_oneLt hoL sy.keysOf (fun v₁ v₂ rest e => keyKind_strs (by rw [← e]; exact sy)) (by rw [lv]; exact few) fun st a1 a2 => ⟨_, rfl, ?_⟩) (args_list_sort _)))
  obtain ⟨ys', b1, b2, b3⟩ := sorted_out_str sy a1 a2
  obtain ⟨c, hc⟩ := sortedHeap_at (vs := vs) (out := (arrOf st).map (·.2)) hoL
  refine wpAny_pure ⟨_, rfl, k _ z.heap.objs.size _ c ys' (fun b u e => ?_) g1 o1 hz hc b1 (b2.trans py) b3⟩
  have q := k1 b u e
  have hlt := Heap.lt_size q
  show (sortedHeap (z.heap.push (seqObj "list" vs.toArray 0)) z.heap.objs.size vs _).get? b = some u
  exact (sortedHeap_old (Nat.ne_of_lt hlt) (by rw [size_push']; exact Nat.lt_succ_of_lt hlt)).trans (Heap.get?_push_of_some _ q)
end
end NvSet

set_option maxRecDepth 100000
set_option maxHeartbeats 8000000
namespace NvSet
open PySem PySem.Spec PyProof.Rows L2
section
variable {P : Program} {w : World} {A : Around} {E : Value → Shared → Prop} {s : Shared}
/-- set(xs) of a list of texts -/
theorem set_call {l : Addr} {items : Array Value} (ks : List Str) {Q : Value → Shared → Prop} (hh : A.handled = none) (hl : s.heap.IsList l items) (hlen : items.size = ks.length) (hval : ∀ (i : Nat) (v : Value), items[i]? = some v → ∃ x t, ks[i]? = some x ∧ v = Value.str x t) (few : ks.length < 1000)
    (k : ∀ (hp : Heap) (tk : Nat) ys, Txs w hp s.heap.objs.size ys → (∀ y, y ∈ ys ↔ y ∈ ks) → (∀ b o, s.heap.get? b = some o → hp.get? b = some o) → Q (.ref s.heap.objs.size) { s with heap := hp, toks := tk }) :
    wpAny (model P w) A (call (.type "set") [.ref l]) Q E s := by
  obtain ⟨c, tl, hmro⟩ := F.called_set.mro
  have hmade := F.called_set.made
  have hsub := F.called_set.sub
  refine wpAny_call (codeAny_of_tree ?_)
  show wpAny _ _ (callAny (.type "set") _) _ _ _
  refine wpAny_pure ⟨Code.quiet_builtin _ (by decide +kernel), codeAny_builtin F.entry_type_call ?_⟩
  rw [Around.under_plain (weight_type_call_type "set" [.ref l] []) rfl]
  have h1 := F.called_set.notType
  have h2 := F.called_set.canCreate
  have hct := F.typeCall_set_1 (.ref l)
  repeat (any_goals (first | assumption | wp_step))
  refine codeAny_mono (code_set_led1 (.ref l) (E := E) (Q₁ := fun obj z => obj = .ref s.heap.objs.size ∧ z = { s with heap := s.heap.push (newS w) }) ⟨rfl, rfl⟩) fun r z hr => ?_
  cases r with
  | error e => exact hr
  | ok fl =>
    cases fl with
    | ret obj =>
      obtain ⟨rfl, rfl⟩ := hr
      have at0 : (s.heap.push (newS w)).get? s.heap.objs.size = some (newS w) := Heap.get?_push_size _ rfl
      have ty0 : Shared.TypeIs { s with heap := s.heap.push (newS w) } (.ref s.heap.objs.size) "set" := ⟨_, at0, rfl⟩
      have hli := F.called_set.init.lookup
      have hbi := F.called_set.init.bind (.ref s.heap.objs.size)
      repeat (any_goals (first | assumption | wp_step))
      refine codeAny_mono (codeAny_call_builtin (R := wants (fun r z => r = .none ∧ ∃ hp tk ys, z = { s with heap := hp, toks := tk } ∧ Txs w hp s.heap.objs.size ys ∧ (∀ y, y ∈ ys ↔ y ∈ ks) ∧ ∀ b o, s.heap.get? b = some o → hp.get? b = some o) E)
        F.called_set.init.plain F.entry_set_init (check_set_init_1 ty0 ?_)) fun r z hr => ?_
      · obtain ⟨ol, hol, hcl, nl, hdl⟩ := hl
        obtain ⟨ocls, odict, odata, oslots⟩ := ol
        simp only at hcl hdl
        subst hcl; subst hdl
        have hol' : (s.heap.push (newS w)).get? l = some { cls := .type "list", dict := odict, data := .seq items nl, slots := oslots } := Heap.get?_push_of_some _ hol
        have hsls := F.sub_list_set
        have hslf := F.sub_list_frozenset
        have hne : (Value.type "list" == Value.type "dict") = false := by decide
        have hl1 : (s.heap.push (newS w)).IsList l items := ⟨_, hol', rfl, nl, rfl⟩
        unfold Builtin.«set.__init__» noKeywords Builtin.Frozenset.updateFrom
        generalize hPI : pyIter = PI
        wp_walk
        subst hPI
        refine wpAny_pyIter_list hl1 (wpAny_bind (wpAny_runValue ?_))
        have lS : l < s.heap.objs.size := Heap.lt_size hol
        have sz : (s.heap.push (newS w)).objs.size = s.heap.objs.size + 1 := Heap.size_push ..
        have nI : l ≠ (s.heap.push (newS w)).objs.size := by rw [sz]; exact Nat.ne_of_lt (Nat.lt_succ_of_lt lS)
        have nS : s.heap.objs.size ∉ [(s.heap.push (newS w)).objs.size, l] := by
          rw [sz]
          intro z
          rcases List.mem_cons.mp z with z | z
          · exact absurd z (Nat.ne_of_lt (Nat.lt_succ_self _))
          · exact absurd (List.mem_singleton.mp z) (Nat.ne_of_gt lS)
        have none_of : ∀ b, s.heap.objs.size ≤ b → s.heap.get? b = none := fun b hb => by
          cases q : s.heap.get? b with
          | none => rfl
          | some o => exact absurd (Nat.lt_of_lt_of_le (Heap.lt_size q) hb) (Nat.lt_irrefl _)
        have hh3 : A.in1.in1.in1.handled = none := by simp [hh]
        refine update_loop ((Walks.list hh3 _ l nI items).toS) s.heap.objs.size nS ks hlen few hval s.heap (fun b hb => ?_) items.size 0 _ [] (by omega) ⟨⟨_, Heap.get?_push_size _ rfl, rfl, rfl⟩, (hl1.push _)⟩ (fun b o e => Heap.get?_push_of_some _ (Heap.get?_push_of_some _ e))
          (txs_new (Heap.get?_push_of_some _ at0)) (Nat.zero_le _) (fun y => by simp) ?_
        · rcases List.mem_cons.mp hb with z | z
          · rw [z]
            exact none_of _ (Nat.le_refl _)
          · rw [List.mem_singleton.mp z, sz]
            exact none_of _ (Nat.le_succ _)
        · intro z ys mv T hy kp
          obtain ⟨h', g2, d', tk', os'⟩ := z
          have eg : g2 = s.gens := mv.gens
          have ed : d' = s.drawn := mv.drawn
          have eo : os' = s.os := mv.os
          subst eg; subst ed; subst eo
          show wpAny _ _ _ _ _ _
          refine wpAny_pure ?_
          show wpAny _ _ (ret Value.none) _ _ _
          exact wpAny_pure ⟨rfl, h', tk', ys, rfl, T, hy, kp⟩
      · cases r with
        | error e => exact hr
        | ok f2 =>
          cases f2 with
          | ret r =>
            obtain ⟨rfl, hp, tk, ys, rfl, T, hy, kp⟩ := hr
            repeat (any_goals (first | assumption | wp_step))
            exact k _ _ _ T hy kp
          | _ => exact hr.elim
    | _ => exact hr.elim
end
section
variable {X : Cx}
/-- set(xs), a list of texts -/
def rSetTx (K : PySem.W.Frag) (w : World) : List V → Hp → VK → Prop := fun vs H Q => ∃ (l : Addr) (ks : List Str), vs = [V.ref l] ∧ SqL K H l (ks.map V.str) ∧ ks.length < 1000 ∧ ∀ a ys, H a = none → ys.Nodup → (∀ y, y ∈ ys ↔ y ∈ ks) → Q (.ref a) (upd H a (TxO w a ys))
theorem str_at : ∀ {ks : List Str} {its : List Value}, Vals (ks.map V.str) its → ∀ (i : Nat) (v : Value), its[i]? = some v → ∃ x t, ks[i]? = some x ∧ v = .str x t
  | [], _, .nil, i, v, h => by cases h
  | x :: ks, _, .cons r rr, 0, v, h => by
    obtain ⟨t, e⟩ := (show RelV (V.str x) _ from r)
    have := Option.some.inj h
    exact ⟨x, t, rfl, this ▸ e⟩
  | x :: ks, _, .cons r rr, i + 1, v, h => str_at rr i v h
theorem cr_setTx (hc : X.calm = true) : CallR X (.type "set") (rSetTx X.K X.w) := by
  intro pins s σ H xs us Q I r h
  obtain ⟨l, ks, rfl, hl, few, q⟩ := h
  rw [Vals.ref1 r]
  obtain ⟨its, rv, pl, hz⟩ := I.list hl
  have nw : H s.heap.objs.size = none := I.hok.fresh (Nat.le_refl _)
  have hlen : its.toArray.size = ks.length := by
    have := rv.length
    rw [List.length_map] at this
    simpa using this.symm
  refine set_call (P := X.prog) (w := X.w) ks (I.ok.hd hc) pl.isList hlen (fun i v hv => str_at rv i v (by simpa using hv)) few fun hp tk ys T hy kp => ?_
  obtain ⟨_, _, _, _, _, _, _, _, _, nd, _⟩ := T.ex
  exact ⟨.ref s.heap.objs.size, upd H s.heap.objs.size (TxO X.w s.heap.objs.size ys), I.laid (t' := tk) kp (Nat.le_refl _) (txo_ok T), rfl, q _ ys nw nd hy⟩
/-- sorted(set) of texts -/
def rSortedTx (w : World) : List V → Hp → VK → Prop := fun vs H Q => ∃ (a : Addr) (xs : List Str), vs = [V.ref a] ∧ H a = some (TxO w a xs) ∧ xs.length < 64 ∧
  ∀ (ys : List Str) (p : Addr), ys.Perm xs → xs.Nodup → sortedS ys = true → H p = none → Q (.ref p) (upd H p (.lst (ys.map V.str)))
theorem cr_sortedTx (hc : X.calm = true) : CallR X (.builtin "sorted") (rSortedTx X.w) := by
  intro pins s σ H vs us Q I r h
  obtain ⟨a, xs, rfl, ha, few, q⟩ := h
  have R : Txs X.w s.heap a xs := (I.hok a _ ha).1
  rw [Vals.ref1 r]
  refine sorted_txs R (I.ok.hd hc) few fun z p out c ys kp g o hp hg so pm srt => ?_
  have hlen : (ys.map V.str).length ≤ sizeLine := by rw [List.length_map, pm.length_eq, sizeLine_eq]; omega
  have hn : H p = none := I.hok.fresh hp
  have J : Inv X pins σ (upd H p (.lst (ys.map V.str))) { s with heap := z.heap, gens := z.gens, drawn := z.drawn, toks := z.toks } :=
    I.call (ch := []) (Un.laid kp hp hn) (I.hok.laid kp hp ⟨hlen, out.toList, c, vals_of_strs so, hg⟩) (by rw [g]; exact I.bare) (fun _ z => nomatch z)
  have e : z = { s with heap := z.heap, gens := z.gens, drawn := z.drawn, toks := z.toks } := by
    cases z
    cases s
    cases o
    rfl
  obtain ⟨_, _, _, _, _, _, _, _, _, nd, _⟩ := R.ex
  rw [e]
  exact ⟨.ref p, _, J, rfl, q ys p pm nd srt hn⟩
/-- an added text -/
theorem add_ok {pins : List (Addr × Obj)} {σ : L2.St} {H : Hp} {s : Shared} {E : Value → Shared → Prop} {D : Addr} {xs : List Str} {y : Str} {u : Value} {Q : Value → Shared → Prop} (I : Inv X pins σ H s) (ry : RelV (.str y) u) (hD : H D = some (TxO X.w D xs)) (room : xs.length + 1 < scanBound)
    (k : ∀ z, Inv X pins σ (upd H D (TxO X.w D (more y xs))) z → Q .none z) : wpAny (model X.prog X.w) X.A (call (.builtin "set.add") [.ref D, u]) Q E s := by
  obtain ⟨t, rfl⟩ := ry
  exact add_call (I.hok D _ hD).1 room fun hp sb T => k _ (I.write (e := D) (t' := s.toks + 1) (by rw [hD]; trivial) (.inl rfl) (fun b v hb hv => (sb.2 b hb).trans hv) T.there (txo_ok T))
end
end NvSet

set_option maxRecDepth 100000
set_option maxHeartbeats 8000000
namespace NvSet
open PySem PySem.Spec PyProof.Rows L2 PpSet
section
variable {X : Cx}
/-- {elt for tg in iter if ..}, texts: D the set that is made -/
def tScT (w : World) (wi : TI) (g : TG) (tt : TT) (te : TE) (vs : List Nat) : TE := fun σ H Q => wi σ H fun J H1 => ∀ D, H1 D = none → ∃ W : Nat → Nat → Hp → Prop, (∃ m, W 0 m (upd H1 D (TxO w D []))) ∧ ∀ i m H, W i m H →
  (J.stop i H ∧ Q (.ref D) H) ∨ (J.go i H ∧ ∃ Nx : Hp → Prop, (∀ H', Nx H' → ∃ m', m' < m ∧ W (i + 1) m' H') ∧ ∀ x H', J.yld i H x H' → g x (wipe σ vs) H' fun τ H2 => wipe τ vs = wipe σ vs ∧ tt τ H2 fun b H3 =>
    if b = true then te τ H3 fun y H4 => ∃ (c : Str) (xs : List Str), y = .str c ∧ H4 D = some (TxO w D xs) ∧ xs.length + 1 < scanBound ∧ Nx (upd H4 D (TxO w D (more c xs))) else Nx H3)
/-- the blocks of a comprehension, for every start -/
abbrev InBlk (X : Cx) (sc : Scope) (F : Cx → Prop) : Prop := ∀ (s : Shared) (H : Hp) (C : Addr) (cl : List (PySem.Str × Addr)) (fp : List Addr), F (X.blk s H sc (compEnvC sc cl C X.env) fp)
theorem pe_scT {elt tg iter : Expr} {ifs : List Expr} {sc : Scope} {own : List (PySem.Str × Nat)} {pos : Pos} {wi : TI} {g : TG} {tt : TT} {te : TE} (hc : X.calm = true) (hN : X.N.Nodup) (hi : PI X tg iter wi) (ok : BlkOk X.N X.env.scope sc own)
    (hg : InBlk X sc fun Y => PG Y tg g) (ht : InBlk X sc fun Y => PTs Y ifs tt) (he : InBlk X sc fun Y => PE Y elt te) (hs : ∀ x, foldedSetIterable iter X.env x = pure x := by intro _; rfl) :
    PE X (.SetComp elt [⟨tg, iter, ifs, 0⟩] sc pos) (tScT X.w wi g tt te (own.map (·.2))) := by
  refine ⟨fun pins s σ H Q I h => ?_⟩
  rw [eval_SetComp]
  have free : ∀ y ∈ sc.names, y.2 = .free → ∃ c, X.env.cells.lookup y.1 = some c := fun y hy e => (ok.free y hy e).elim (fun z => I.ok.has _ (.inl z)) fun z => I.ok.has _ (.inr z)
  refine wpAny_comprehension_free (use := none) rfl hs (closure_ok free) ok.kind (fun y hy e => by rw [ok.uniq y hy, e]) (thn (hi.run pins s σ H _ I h) fun xv s1 hx => thn hx fun itv s2 hj => ?_)
  obtain ⟨it, fp, tn, J, H2, rfl, I2, T, st2, f2, q⟩ := hj
  refine newSet_ok (newEnv_comp ?_)
  generalize eD : s2.heap.objs.size = D
  have nD : H2 D = none := I2.hok.fresh (Nat.le_of_eq eD)
  obtain ⟨W, ⟨m0, w0⟩, turn⟩ := q D nD
  generalize e3 : ({ s2 with heap := s2.heap.push { cls := .type "set", dict := none, data := .set #[] 0 (.fresh 0 0 (!X.w.params.followText "set-order")) } } : Shared) = s3
  have p3 : s3.heap = s2.heap.push (newS X.w) := by rw [← e3]; rfl
  generalize eH : upd H2 D (TxO X.w D []) = H3 at w0
  have I3 : Inv X pins σ H3 s3 := by
    rw [← e3, ← eH]
    refine I2.laid (t' := s2.toks) (fun b o e => Heap.get?_push_of_some _ e) (Nat.le_of_eq eD) (txo_ok (txs_new ?_))
    rw [← eD]
    exact Heap.get?_push_size _ rfl
  have below : ∀ b ∈ fp, b < s2.heap.objs.size := fun b hb => by
    obtain ⟨o, e, _⟩ := T.obj _ _ st2 b hb
    exact Heap.lt_size e
  have f3 : ∀ b ∈ fp, FpOk X pins H3 b ∧ b < s3.heap.objs.size := fun b hb => by
    have lt := below b hb
    refine ⟨⟨?_, (f2 b hb).2⟩, by rw [p3, Heap.size_push]; exact Nat.lt_succ_of_lt lt⟩
    rw [← eH, upd_ne (by rw [← eD]; exact Nat.ne_of_lt lt)]
    exact (f2 b hb).1
  have st3 : tn 0 s3.heap := T.keep _ _ _ st2 fun b _ o e => by rw [p3]; exact Heap.get?_push_of_some _ e
  have I4 := block_start I3 ok hN f3
  have pg := hg s3 H3 s3.heap.objs.size (cellsFrom (s3.heap.objs.size + 1) sc.names (cloFrom X.env.cells sc.names [])) fp
  have pt := ht s3 H3 s3.heap.objs.size (cellsFrom (s3.heap.objs.size + 1) sc.names (cloFrom X.env.cells sc.names [])) fp
  have pe := he s3 H3 s3.heap.objs.size (cellsFrom (s3.heap.objs.size + 1) sc.names (cloFrom X.env.cells sc.names [])) fp
  show codeAny _ _ (.compStart (.SetComp elt [⟨tg, iter, ifs, 0⟩] sc pos) 0 (.ref it) (.ref D) (compEnvC sc (cellsFrom (s3.heap.objs.size + 1) sc.names (cloFrom X.env.cells sc.names [])) s3.heap.objs.size X.env)) (compPost (model X.prog X.w) X.A X.xe none _ (.ref D) s3.heap.objs.size) { s3 with heap := pushCells (s3.heap.push { cls := .type "dict", data := .dict #[] }) sc.names }
  generalize ec : compEnvC sc (cellsFrom (s3.heap.objs.size + 1) sc.names (cloFrom X.env.cells sc.names [])) s3.heap.objs.size X.env = ce at I4 pg pt pe ⊢
  have lc : ce.locals = s3.heap.objs.size := by subst ec; rfl
  generalize e4 : ({ s3 with heap := pushCells (s3.heap.push { cls := .type "dict", data := .dict #[] }) sc.names } : Shared) = s4 at I4 ⊢
  have st4 : tn 0 s4.heap := T.keep _ _ _ st3 fun b _ o e => by rw [← e4]; exact pushCells_keeps _ _ _ _ (Heap.get?_push_of_some _ e)
  have foot : ∀ {τ : L2.St} {G : Hp} {z : Shared}, Inv (X.blk s3 H3 sc ce fp) [] τ G z → (∀ b ∈ fp, G b = none) → ∀ b ∈ fp, FpOk (X.blk s3 H3 sc ce fp) [] G b := fun {τ G z} J' hn b hb =>
    ⟨hn b hb, (J'.ok.exf b hb).1, J'.ok.exfs b hb, .inl hb, fun x c e => (J'.ok.exf b hb).2 x c e, fun p hp => absurd (show p ∈ ([] : List (Addr × Obj)) ++ [] from hp) (by simp)⟩
  refine codeAny_compStart_set ?lp (T.self X.A 0 _ _ _ st4 ?lp)
  refine compLoopS_any (fun n z => ∃ i G, Inv (X.blk s3 H3 sc ce fp) [] (wipe σ (own.map (·.2))) G z ∧ tn i z.heap ∧ (∀ b ∈ fp, G b = none) ∧ W i n G) ?_ m0 ⟨0, H3, I4, st4, fun b hb => (f3 b hb).1.1, w0⟩
  rintro n s5 ⟨i, H5, I5, st5, n5, w5⟩
  rcases turn i n H5 w5 with ⟨stop, qq⟩ | ⟨go, Nx, hNx, step⟩
  · refine thnF (T.done (X.blk s3 H3 sc ce fp) rfl rfl rfl hc i [] s5 _ H5 (fun _ _ => False) I5 (foot I5 n5) st5 stop) fun r s6 ⟨hr, I6⟩ => ?_
    subst hr
    have I7 : Inv X pins σ H5 s6 := I3.call' (ch := fp) I6.os I6.base I6.hok I6.bare fun b hb => ⟨(f3 b hb).1.2.2.2.1, (f3 b hb).1.2.1, (f3 b hb).1.2.2.2.2.1, (f3 b hb).1.2.2.2.2.2⟩
    have nC : H5 s3.heap.objs.size = none := lc ▸ (show H5 ce.locals = none from I6.free)
    obtain ⟨m, hn, _⟩ := I6.loc
    have hn : s6.heap.Ns s3.heap.objs.size m := lc ▸ (show s6.heap.Ns ce.locals m from hn)
    refine ⟨m, hn, fun hp sb => ?_⟩
    obtain ⟨k0, k1, k2, k3, k4, k5⟩ := I3.fpOk (Nat.le_refl _) nC
    exact ⟨.ref D, H5, I7.turned (t' := s6.toks) (fun b o hb e => (sb.2 b hb).trans e) k0 k1 k3 k4 k5, rfl, qq⟩
  · refine thnF (T.item (X.blk s3 H3 sc ce fp) rfl rfl rfl hc i [] s5 _ H5 (fun _ _ => False) I5 (foot I5 n5) st5 go) fun r s6 ⟨u, hr, h6⟩ => ?_
    subst hr
    refine thnF h6 fun _ s7 ⟨x, H7, I7, r7, y7, st7, n7⟩ => ?_
    refine thnF (pg.run _ s7 _ H7 x u _ (I7.pinned (foot I7 n7) (T.obj _ _ st7)) r7 (step x H7 y7)) fun _ s8 ⟨τ, H8, I8, hw, q8⟩ => ?_
    refine thnF (pt.run _ s8 τ H8 _ I8 q8) fun b s9 ⟨H9, I9, q9⟩ => ?_
    have fin : ∀ {z : Shared} {G : Hp}, Inv (X.blk s3 H3 sc ce fp) ([] ++ pinsAt fp s7.heap) τ G z → Nx G → ∃ m, m < n ∧ ∃ i G, Inv (X.blk s3 H3 sc ce fp) [] (wipe σ (own.map (·.2))) G z ∧ tn i z.heap ∧ (∀ b ∈ fp, G b = none) ∧ W i m G := fun {z G} J' nx => by
      obtain ⟨m', hm, w'⟩ := hNx G nx
      have pin : ∀ b ∈ fp, ∀ o, s7.heap.get? b = some o → z.heap.get? b = some o ∧ G b = none := fun b hb o e =>
        let y := J'.pin (b, o) (List.mem_append_right _ (List.mem_append_right _ (mem_pinsAt hb e)))
        ⟨y.1, y.2.1⟩
      refine ⟨m', hm, i + 1, G, (J'.unpinned (pins := [])).weak (by rw [← hw, wipe_length]) (fun j v e => ?_), T.keep _ _ _ st7 fun b hb o e => (pin b hb o e).1, fun b hb => ?_, w'⟩
      · rw [← hw] at e
        exact (wipe_some e).1
      · obtain ⟨o, e, _⟩ := T.obj _ _ st7 b hb
        exact (pin b hb o e).2
    cases b with
    | false =>
      simp only [Bool.false_eq_true, if_false] at q9 ⊢
      exact fin I9 q9
    | true =>
      simp only [if_true] at q9 ⊢
      refine thnF (pe.run _ s9 τ H9 _ I9 q9) fun z s10 ⟨yv, H10, I10, r10, c, xs, ey, hD, room, nx⟩ => ?_
      subst ey
      exact add_ok (X := X.blk s3 H3 sc ce fp) I10 r10 hD room fun s11 I11 => fin I11 nx
end
end NvSet

set_option maxRecDepth 100000
namespace NvSet
open PySem PySem.Spec PyProof.Rows L2
theorem str_of_list {a b : Str} (h : a.cps.toList = b.cps.toList) : a = b := by
  cases a; cases b
  exact congrArg Str.mk (Array.toList_inj.mp h)
/-- no earlier than -/
def Le (a b : Str) : Prop := ¬ b.cps.toList < a.cps.toList
theorem Le.trans {a b c : Str} (h1 : Le a b) (h2 : Le b c) : Le a c := List.not_lt.mpr (List.le_trans (List.not_lt.mp h1) (List.not_lt.mp h2))
theorem Le.anti {a b : Str} (h1 : Le a b) (h2 : Le b a) : a = b := str_of_list (List.le_antisymm (List.not_lt.mp h1) (List.not_lt.mp h2))
theorem le_of {a b : Str} (h : (!ltCps b.cps.toList a.cps.toList) = true) : Le a b := fun z => by
  rw [ltCps_eq, decide_eq_true z] at h
  cases h
theorem rising_pw : ∀ (l : List Str) (p : Str), risingS p l = true → (p :: l).Pairwise Le
  | [], p, _ => List.pairwise_singleton _ _
  | x :: r, p, h => by
    have h' : (!ltCps x.cps.toList p.cps.toList && risingS x r) = true := h
    rw [Bool.and_eq_true] at h'
    have ih := rising_pw r x h'.2
    have px := le_of h'.1
    refine List.pairwise_cons.mpr ⟨fun y hy => ?_, ih⟩
    rcases List.mem_cons.mp hy with e | e
    · rw [e]; exact px
    · exact px.trans ((List.pairwise_cons.mp ih).1 y e)
theorem sorted_pw : ∀ {l : List Str}, sortedS l = true → l.Pairwise Le
  | [], _ => List.Pairwise.nil
  | x :: r, h => rising_pw r x h
theorem pw_unique : ∀ {l m : List Str}, l.Pairwise Le → m.Pairwise Le → l.Nodup → m.Nodup → (∀ y, y ∈ l ↔ y ∈ m) → l = m
  | [], [], _, _, _, _, _ => rfl
  | [], y :: m, _, _, _, _, h => by cases (h y).2 List.mem_cons_self
  | x :: l, [], _, _, _, _, h => by cases (h x).1 List.mem_cons_self
  | x :: l, y :: m, h1, h2, n1, n2, h => by
    obtain ⟨a1, b1⟩ := List.pairwise_cons.mp h1
    obtain ⟨a2, b2⟩ := List.pairwise_cons.mp h2
    obtain ⟨c1, d1⟩ := List.nodup_cons.mp n1
    obtain ⟨c2, d2⟩ := List.nodup_cons.mp n2
    have e : x = y := by
      rcases List.mem_cons.mp ((h x).1 List.mem_cons_self) with e | e
      · exact e
      · rcases List.mem_cons.mp ((h y).2 List.mem_cons_self) with e' | e'
        · exact e'.symm
        · exact (a1 y e').anti (a2 x e)
    subst e
    refine congrArg (List.cons x) (pw_unique b1 b2 d1 d2 fun z => ⟨fun hz => ?_, fun hz => ?_⟩)
    · rcases List.mem_cons.mp ((h z).1 (List.mem_cons_of_mem _ hz)) with e | e
      · exact absurd (e ▸ hz) c1
      · exact e
    · rcases List.mem_cons.mp ((h z).2 (List.mem_cons_of_mem _ hz)) with e | e
      · exact absurd (e ▸ hz) c2
      · exact e
/-- the texts xs, each once, rising -/
structure Rising (ys xs : List Str) : Prop where
  srt : sortedS ys = true
  nd : ys.Nodup
  mem : ∀ y, y ∈ ys ↔ y ∈ xs
theorem Rising.eq {ys zs xs : List Str} (a : Rising ys xs) (b : Rising zs xs) : ys = zs := pw_unique (sorted_pw a.srt) (sorted_pw b.srt) a.nd b.nd fun y => (a.mem y).trans (b.mem y).symm
/-- a comprehension of texts over a list that stays -/
theorem sc_list {w : World} {K : PySem.W.Frag} {a : Addr} {xs : List V} {g : TG} {tt : TT} {te : TE} {vs : List Nat} {σ : L2.St} {H1 : Hp} {D : Addr} {Qd : Hp → Prop} (Pv : Nat → Hp → Prop) (h0 : Pv 0 (upd H1 D (TxO w D []))) (hl : ∀ i H, i ≤ xs.length → Pv i H → SqL K H a xs)
    (hs : ∀ i x H, xs[i]? = some x → Pv i H → g x (wipe σ vs) H fun τ H2 => wipe τ vs = wipe σ vs ∧ tt τ H2 fun b H3 =>
      if b = true then te τ H3 fun y H4 => ∃ (c : Str) (us : List Str), y = .str c ∧ H4 D = some (TxO w D us) ∧ us.length + 1 < scanBound ∧ Pv (i + 1) (upd H4 D (TxO w D (more c us))) else Pv (i + 1) H3) (hd : ∀ H, Pv xs.length H → Qd H) :
    ∃ W : Nat → Nat → Hp → Prop, (∃ m, W 0 m (upd H1 D (TxO w D []))) ∧ ∀ i m H, W i m H →
      ((Itl K a).stop i H ∧ Qd H) ∨ ((Itl K a).go i H ∧ ∃ Nx : Hp → Prop, (∀ H', Nx H' → ∃ m', m' < m ∧ W (i + 1) m' H') ∧ ∀ x H', (Itl K a).yld i H x H' → g x (wipe σ vs) H' fun τ H2 => wipe τ vs = wipe σ vs ∧ tt τ H2 fun b H3 =>
        if b = true then te τ H3 fun y H4 => ∃ (c : Str) (us : List Str), y = .str c ∧ H4 D = some (TxO w D us) ∧ us.length + 1 < scanBound ∧ Nx (upd H4 D (TxO w D (more c us))) else Nx H3) := by
  refine ⟨fun i m H => m + i = xs.length ∧ Pv i H, ⟨xs.length, rfl, h0⟩, ?_⟩
  rintro i m H ⟨hm, p⟩
  have st := hl i H (by omega) p
  by_cases lt : i < xs.length
  · refine .inr ⟨⟨xs, xs[i], st, List.getElem?_eq_getElem lt⟩, Pv (i + 1), fun H' p' => ⟨m - 1, by omega, by omega, p'⟩, ?_⟩
    rintro x H' ⟨rfl, y⟩
    exact hs i x _ (y xs st) p
  · obtain rfl : i = xs.length := by omega
    exact .inl ⟨⟨xs, st, Nat.le_refl _⟩, hd H p⟩
end NvSet

set_option maxRecDepth 100000
set_option maxHeartbeats 4000000
/-! Reckonings as they stand in memory. -/
namespace Nv
open PySem PySem.Spec PyProof.Rows L2
inductive Op where
  | plus | less | times
  deriving DecidableEq
def Op.word : Op → Str
  | .plus => "plus"
  | .less => "less"
  | .times => "times"
/-- a reckoning with the addresses of its tuples -/
inductive AT where
  | sh (p q : Addr) (t b : Int)
  | le (p : Addr) (x : Str)
  | two (p : Addr) (o : Op) (A B : AT)
  | un (p : Addr) (A : AT)
def AT.at_ : AT → Addr
  | .sh p _ _ _ => p
  | .le p _ => p
  | .two p _ _ _ => p
  | .un p _ => p
def AT.v (T : AT) : V := .ref T.at_
def AT.word : AT → Str
  | .sh _ _ _ _ => "share"
  | .le _ _ => "letter"
  | .two _ o _ _ => o.word
  | .un _ _ => "undo"
def AT.kids : AT → List AT
  | .sh _ _ _ _ => []
  | .le _ _ => []
  | .two _ _ A B => [A, B]
  | .un _ A => [A]
/-- what stands in its tuple behind the word -/
def AT.rest : AT → List V
  | .sh _ q _ _ => [.ref q]
  | .le _ x => [.str x]
  | .two _ _ A B => [A.v, B.v]
  | .un _ A => [A.v]
def AT.items (T : AT) : List V := .str T.word :: T.rest
/-- its tuples stand so -/
def AT.In (H : Hp) : AT → Prop
  | .sh p q t b => H p = some (.tup [.str "share", .ref q]) ∧ H q = some (.tup [.int t, .int b])
  | .le p x => H p = some (.tup [.str "letter", .str x])
  | .two p o A B => H p = some (.tup [.str o.word, A.v, B.v]) ∧ A.In H ∧ B.In H
  | .un p A => H p = some (.tup [.str "undo", A.v]) ∧ A.In H
def AT.parts : AT → List AT
  | .two p o A B => .two p o A B :: (A.parts ++ B.parts)
  | .un p A => .un p A :: A.parts
  | T => [T]
def AT.count : AT → Nat
  | .two _ _ A B => 1 + A.count + B.count
  | .un _ A => 1 + A.count
  | _ => 1
def AT.deep : AT → Nat
  | .two _ _ A B => max A.deep B.deep
  | .un _ A => A.deep + 1
  | _ => 0
/-- its letters, by places -/
def AT.lets : AT → List Str
  | .le _ x => [x]
  | .two _ _ A B => A.lets ++ B.lets
  | .un _ A => A.lets
  | _ => []
def AT.undos : AT → Nat → List Nat
  | .two _ _ A B, n => A.undos (n + 1) ++ B.undos (n + 1 + A.count)
  | .un _ A, n => A.undos (n + 1) ++ [n]
  | _, _ => []
/-- a letter is a text of 1 to 6 small letters -/
structure Small (x : Str) : Prop where
  lo : 1 ≤ x.length
  hi : x.length ≤ 6
  all : ∀ c ∈ x.cps.toList, c ∈ (Str.ofString "abcdefghijklmnopqrstuvwxyz").cps.toList
structure ShOk (t b : Int) : Prop where
  top : t.natAbs < 10 ^ 12
  bot : b < 10 ^ 12
  pos : 1 ≤ b
  low : Int.gcd t b = 1
/-- its shares and letters are such -/
def AT.Ok : AT → Prop
  | .sh _ _ t b => ShOk t b
  | .le _ x => Small x
  | .two _ _ A B => A.Ok ∧ B.Ok
  | .un _ A => A.Ok
/-- tuples stay -/
def TupKeep (H H' : Hp) : Prop := ∀ a xs, H a = some (.tup xs) → H' a = some (.tup xs)
theorem TupKeep.refl (H : Hp) : TupKeep H H := fun _ _ h => h
theorem TupKeep.trans {H H1 H2 : Hp} (x : TupKeep H H1) (y : TupKeep H1 H2) : TupKeep H H2 := fun a xs h => y a xs (x a xs h)
theorem Same.tk {H H' : Hp} (s : Same H H') : TupKeep H H' := fun a xs h => s a _ h
theorem tk_new {H : Hp} {p : Addr} {o : HO} (h : H p = none) : TupKeep H (upd H p o) := fun a xs e => by
  rw [upd_ne (ne_of_none e h)]
  exact e
/-- a list is stored to -/
theorem tk_lst {H : Hp} {p : Addr} {ys : List V} {o : HO} (h : H p = some (.lst ys)) : TupKeep H (upd H p o) := fun a xs e => by
  rw [upd_ne (fun z => by rw [z, h] at e; cases e)]
  exact e
theorem AT.In.keep {H H' : Hp} (k : TupKeep H H') : ∀ {T : AT}, T.In H → T.In H'
  | .sh _ _ _ _, h => ⟨k _ _ h.1, k _ _ h.2⟩
  | .le _ _, h => k _ _ h
  | .two _ _ _ _, h => ⟨k _ _ h.1, h.2.1.keep k, h.2.2.keep k⟩
  | .un _ _, h => ⟨k _ _ h.1, h.2.keep k⟩
theorem AT.In.tup {H : Hp} : ∀ {T : AT}, T.In H → H T.at_ = some (.tup T.items)
  | .sh _ _ _ _, h => h.1
  | .le _ _, h => h
  | .two _ _ _ _, h => h.1
  | .un _ _, h => h.1
theorem AT.In.kid {H : Hp} : ∀ {T : AT}, T.In H → ∀ A ∈ T.kids, A.In H
  | .sh _ _ _ _, _, _, hA => nomatch hA
  | .le _ _, _, _, hA => nomatch hA
  | .two _ _ _ _, h, A, hA => by
    rcases List.mem_cons.mp hA with e | e
    · rw [e]; exact h.2.1
    · rw [List.mem_singleton.mp e]; exact h.2.2
  | .un _ _, h, A, hA => by rw [List.mem_singleton.mp hA]; exact h.2
theorem AT.Ok.kid : ∀ {T : AT}, T.Ok → ∀ A ∈ T.kids, A.Ok
  | .sh _ _ _ _, _, _, hA => nomatch hA
  | .le _ _, _, _, hA => nomatch hA
  | .two _ _ _ _, h, A, hA => by
    rcases List.mem_cons.mp hA with e | e
    · rw [e]; exact h.1
    · rw [List.mem_singleton.mp e]; exact h.2
  | .un _ _, h, A, hA => by rw [List.mem_singleton.mp hA]; exact h
theorem AT.count_pos : ∀ T : AT, 1 ≤ T.count
  | .sh _ _ _ _ => Nat.le_refl _
  | .le _ _ => Nat.le_refl _
  | .two _ _ A B => by show 1 ≤ 1 + A.count + B.count; omega
  | .un _ A => by show 1 ≤ 1 + A.count; omega
theorem AT.parts_len : ∀ T : AT, T.parts.length = T.count
  | .sh _ _ _ _ => rfl
  | .le _ _ => rfl
  | .two _ _ A B => by
    show (A.parts ++ B.parts).length + 1 = 1 + A.count + B.count
    rw [List.length_append, A.parts_len, B.parts_len]
    omega
  | .un _ A => by
    show A.parts.length + 1 = 1 + A.count
    rw [A.parts_len]
    omega
theorem AT.parts_eq : ∀ T : AT, T.parts = T :: (T.kids.map AT.parts).flatten
  | .sh _ _ _ _ => rfl
  | .le _ _ => rfl
  | .two _ _ A B => by simp [AT.parts, AT.kids]
  | .un _ A => by simp [AT.parts, AT.kids]
theorem AT.count_eq : ∀ T : AT, T.count = 1 + (T.kids.map AT.count).sum
  | .sh _ _ _ _ => rfl
  | .le _ _ => rfl
  | .two _ _ A B => by simp [AT.count, AT.kids]; omega
  | .un _ A => by simp [AT.count, AT.kids]
theorem AT.kid_count : ∀ {T A : AT}, A ∈ T.kids → A.count < T.count
  | .sh _ _ _ _, _, h => nomatch h
  | .le _ _, _, h => nomatch h
  | .two _ _ A B, C, h => by
    show C.count < 1 + A.count + B.count
    rcases List.mem_cons.mp h with e | e
    · rw [e]; omega
    · rw [List.mem_singleton.mp e]; omega
  | .un _ A, C, h => by
    show C.count < 1 + A.count
    rw [List.mem_singleton.mp h]
    omega
theorem AT.In.parts {H : Hp} : ∀ {T : AT}, T.In H → ∀ A ∈ T.parts, A.In H
  | .sh _ _ _ _, h, A, hA => by rw [List.mem_singleton.mp hA]; exact h
  | .le _ _, h, A, hA => by rw [List.mem_singleton.mp hA]; exact h
  | .two _ _ _ _, h, A, hA => by
    rcases List.mem_cons.mp hA with e | e
    · rw [e]; exact h
    · rcases List.mem_append.mp e with e | e
      · exact h.2.1.parts A e
      · exact h.2.2.parts A e
  | .un _ _, h, A, hA => by
    rcases List.mem_cons.mp hA with e | e
    · rw [e]; exact h
    · exact h.2.parts A e
theorem AT.kids_len : ∀ T : AT, T.kids.length ≤ 2
  | .sh _ _ _ _ => Nat.zero_le _
  | .le _ _ => Nat.zero_le _
  | .two _ _ _ _ => Nat.le_refl _
  | .un _ _ => by show 1 ≤ 2; omega
/-- the letters, by the parts -/
theorem AT.lets_parts : ∀ T : AT, T.lets = (T.parts.filterMap fun A => match A with | .le _ x => some x | _ => none)
  | .sh _ _ _ _ => rfl
  | .le _ _ => rfl
  | .two p o A B => by
    show A.lets ++ B.lets = _
    rw [A.lets_parts, B.lets_parts]
    show _ = (List.filterMap _ (AT.two p o A B :: (A.parts ++ B.parts)))
    rw [List.filterMap_cons_none rfl, List.filterMap_append]
  | .un p A => by
    show A.lets = _
    rw [A.lets_parts]
    show _ = (List.filterMap _ (AT.un p A :: A.parts))
    rw [List.filterMap_cons_none rfl]
end Nv

set_option maxRecDepth 100000
set_option maxHeartbeats 4000000
namespace Nv
open PySem PySem.Spec PyProof.Rows L2
def topS (i : Nat) : Stmt := PySem.Challenge.pw_nevernought_k39_reckonings_put_for_lette.main.body.getD i (.Pass ⟨0, 0, 0, 0⟩)
abbrev sNE : Stmt := inClass (topS 1) 0
theorem scNE : FnScope ["self", "word", "message"] ["self", "word", "message"] (defScope sNE) := ⟨rfl, rfl, rfl, by decide +kernel, rfl, by decide +kernel, by decide +kernel⟩
/-- the fields of an exception that has its word alone -/
def wordOf (w : Str) : List (Str × V) := [(Str.ofString "word", .str w)]
/-- an exception that is being made gets its word -/
def made (a C : Addr) (w : Str) (H : Hp) (Q : VK) : Prop := ∀ dx, H dx = none → dx ≠ a → Q .non (upd (upd H dx (exd dx (wordOf w))) a (exo a C (some dx)))
def spNE (K : PySem.W.Frag) : Sp := fun vs H Q _ => ∃ (a C : Addr) (w m : Str), vs = [.ref a, .str w, .str m] ∧ OexC K C ∧ PySem.W.findIn K (.ref C) "word" = some none ∧ H a = some (exo a C none) ∧ made a C w H Q
theorem same_new {H : Hp} {p : Addr} {o : HO} (h : H p = none) : Same H (upd H p o) := fun b x e => by
  rw [upd_ne (ne_of_none e h)]
  exact e
/-- a new pair of numbers is told; all that stood stands -/
def newSh (H : Hp) (Q : VK) (t b : Int) : Prop := ∀ (p : Addr) (H' : Hp), Same H H' → H p = none → H' p = some (.tup [.int t, .int b]) → Q (.ref p) H'
theorem newSh.at_ {H : Hp} {Q : VK} {t b : Int} (q : newSh H Q t b) : ∀ p, H p = none → Q (.ref p) (upd H p (.tup [.int t, .int b])) := fun p hp => q p _ (same_new hp) hp upd_same
/-! The law's bag: [the script's numbers, a place, what is left of a great one, a salt, a count]. -/
def bagL (l : Addr) (i j s n : Int) : List V := [.ref l, .int i, .int j, .int s, .int n]
structure BagAt (l b : Addr) (H : Hp) : Prop where
  ex : ∃ i j s n : Int, H b = some (.lst (bagL l i j s n)) ∧ 0 ≤ i ∧ 0 ≤ j ∧ 0 ≤ s ∧ s < 2147483647
structure Bag (l b : Addr) (H : Hp) : Prop where
  ex : ∃ ns : List Int, l ≠ b ∧ H l = some (.lst (ns.map V.int)) ∧ BagAt l b H
/-- but for b all is as it was -/
def But (b : Addr) (H H' : Hp) : Prop := ∀ a, a ≠ b → H' a = H a
theorem But.refl (b : Addr) (H : Hp) : But b H H := fun _ _ => rfl
theorem But.trans {b : Addr} {H H1 H2 : Hp} (x : But b H H1) (y : But b H1 H2) : But b H H2 := fun a n => (y a n).trans (x a n)
theorem But.upd {b : Addr} {H H1 : Hp} {o : HO} (x : But b H H1) : But b H (upd H1 b o) := fun a n => (upd_ne n).trans (x a n)
theorem keep {a b : TS} {D : Ends} {σ : L2.St} {H : Hp} (M : L2.St → Hp → Prop) (h : ∀ σ' H', M σ' H' → b D σ' H') (k : (∀ σ' H', M σ' H' → b D σ' H') → a { D with nx := b D } σ H) : tSeq a b D σ H := k h
def spPull : Sp := fun vs H Q _ => ∃ (l b : Addr) (m : Int), vs = [.ref b, .int m] ∧ 0 < m ∧ m.natAbs < 2 ^ 8000 ∧ Bag l b H ∧ ∀ (r : Int) (H' : Hp), 0 ≤ r → r < m → Bag l b H' → But b H H' → Q (.int r) H'
/-- a number that is reckoned with -/
def Fit (i : Int) : Prop := i.natAbs < 2 ^ 1000
theorem Fit.mulOk {i j : Int} (a : Fit i) (b : Fit j) : CMulW i j := wide_mul a b (by decide) (by decide) (by decide)
theorem Fit.mul {i j : Int} (a : Fit i) (b : Fit j) : (i * j).natAbs < 2 ^ 8000 := Nat.lt_of_lt_of_le (wide_lt a b) (Nat.pow_le_pow_right (by decide) (by decide))
/-- but for b all that was tracked is as it was -/
def Grow (b : Addr) (H H' : Hp) : Prop := ∀ a o, a ≠ b → H a = some o → H' a = some o
theorem Grow.refl (b : Addr) (H : Hp) : Grow b H H := fun _ _ _ h => h
theorem Grow.trans {b : Addr} {H H1 H2 : Hp} (x : Grow b H H1) (y : Grow b H1 H2) : Grow b H H2 := fun a o n h => y a o n (x a o n h)
theorem But.grow {b : Addr} {H H' : Hp} (x : But b H H') : Grow b H H' := fun a o n h => by rw [x a n]; exact h
theorem Same.grow {b : Addr} {H H' : Hp} (x : Same H H') : Grow b H H' := fun a o _ h => x a o h
theorem Bag.is {l b : Addr} {H : Hp} (B : Bag l b H) : ∃ o, H b = some o := by
  obtain ⟨ns, _, _, ⟨i, j, s, n, hb, _⟩⟩ := B
  exact ⟨_, hb⟩
theorem Bag.ne {l b p : Addr} {H : Hp} (B : Bag l b H) (h : H p = none) : p ≠ b := fun z => by
  obtain ⟨o, e⟩ := B.is
  rw [z, e] at h
  cases h
theorem Grow.free {b p : Addr} {H H' : Hp} (x : Grow b H H') (n : p ≠ b) (h : H' p = none) : H p = none := by
  cases e : H p with
  | none => rfl
  | some o =>
    rw [x p o n e] at h
    cases h
/-- a bag stays one where all else only grows -/
theorem Bag.same {l b : Addr} {H H' : Hp} (B : Bag l b H) (x : Same H H') : Bag l b H' := by
  obtain ⟨ns, nl, hl, ⟨i, j, s, n, hb, r⟩⟩ := B
  exact ⟨ns, nl, x _ _ hl, ⟨i, j, s, n, x _ _ hb, r⟩⟩
/-- a share that the law draws -/
structure Drawn (t b : Int) : Prop where
  top : t.natAbs < 2 ^ 45
  bot : b.natAbs < 2 ^ 45
  pos : 0 < b
theorem Drawn.fitT {t b : Int} (d : Drawn t b) : Fit t := Nat.lt_of_lt_of_le d.top (Nat.pow_le_pow_right (by decide) (by decide))
theorem Drawn.fitB {t b : Int} (d : Drawn t b) : Fit b := Nat.lt_of_lt_of_le d.bot (Nat.pow_le_pow_right (by decide) (by decide))
theorem drawn_fr {t b : Int} (ht : t.natAbs < 2 ^ 45) (hb : b.natAbs < 2 ^ 45) (h0 : b ≠ 0) : Drawn (frT t b) (frB t b) := ⟨Nat.lt_of_le_of_lt (frT_le t h0) ht, Nat.lt_of_le_of_lt (frB_le t h0) hb, frB_pos t h0⟩
theorem fit8 {i : Int} {n : Nat} (h : i.natAbs < 2 ^ n) (hn : n ≤ 8000) : i.natAbs < 2 ^ 8000 := Nat.lt_of_lt_of_le h (Nat.pow_le_pow_right (by decide) hn)
def spDraw : Sp := fun vs H Q _ => ∃ l b : Addr, vs = [.ref b] ∧ Bag l b H ∧ ∀ (p : Addr) (t d : Int) (H' : Hp), Drawn t d → Bag l b H' → Grow b H H' → H p = none → H' p = some (.tup [.int t, .int d]) → Q (.ref p) H'
section
variable {P : Program} {w : World} {K : PySem.W.Frag} {mg : Str → Option Value} {base : Heap}
theorem ok_NE {f : Addr} {fd : FuncData} {k : Nat} {dvs : List V} (F : FunD K "__init__" "NeverError.__init__" (defArgs sNE) (defBody sNE) (defScope sNE) dvs [] f fd) (mv : mg "ValueError" = none)
    (vV : PySem.W.findCls K (.type "ValueError") (.type "type") "__init__" = some (.val (.builtin "ValueError.__init__"))) : FnOk P w K mg base CX0 (k + 1) f fd ["self", "word", "message"] (spNE K) := by
  refine F.ok scNE (fun vs H Q E h => ?_) (fun cdv A outer s H vs Q E hr h => ?_)
  · obtain ⟨a, C, w, m, rfl, _⟩ := h
    rfl
  · obtain ⟨a, C, w, m, rfl, ho, hn, ha, q⟩ := h
    refine ⟨_, pss_cons (ps_expr (pe_veinit (by rfl) mv vV (pa_cons (pv 0) (pa_cons (pv 2) pa_nil)))) (pss_one (ps_ost (pv 0) (pv 1))), ?_⟩
    refine ⟨_, rfl, _, rfl, a, C, [.str m], rfl, (by show 1 ≤ 1000; decide), ho, ha, ?_⟩
    exact ⟨_, rfl, _, rfl, a, C, rfl, ho, hn, .inl ⟨ha, fun dx n ne => q dx n ne⟩⟩
def spGcd : Sp := fun vs H Q _ => ∃ a b : Int, vs = [.int a, .int b] ∧ Q (.int ((Int.gcd a b : Nat) : Int)) H
def mGcd (σ : L2.St) (_ : Hp) : Nat := match σ with
  | [_, some (.int y)] => y.natAbs
  | _ => 0
abbrev sLGcd : Stmt := topS 52
theorem scLGcd : FnScope ["_law_one", "_law_other"] ["_law_one", "_law_other"] (defScope sLGcd) := ⟨rfl, rfl, rfl, by decide +kernel, rfl, by decide +kernel, by decide +kernel⟩
theorem ok_law_gcd {f : Addr} {fd : FuncData} {k : Nat} (F : Fun K "_law_gcd" "_law_gcd" sLGcd f fd) (ma : mg "abs" = none) : FnOk P w K mg base CX0 (k + 1) f fd ["_law_one", "_law_other"] spGcd := by
  refine F.ok scLGcd (fun vs H Q E h => ?_) (fun cdv A outer s H vs Q E hr h => ?_)
  · obtain ⟨a, b, rfl, _⟩ := h
    rfl
  · obtain ⟨a, b, rfl, q⟩ := h
    refine ⟨_, pss_cons (ps_while PassesOwn.never (pt_cmpR op_ne (pv 1) pe_int (nomark _))
        (pss_one (ps_par (i := 0) (j := 1) (by rfl) scLGcd.nd rfl rfl (by decide) rfl rfl (pa_cons (pv 1) (pa_cons (pe_op op_modN (pv 0) (pv 1)) pa_nil)) (by rfl))))
      (pss_one (ps_ret (pe_callB call_abs (by rfl) ma (by decide +kernel) (pa_cons (pv 0) pa_nil)))), ?_⟩
    refine while_by (fun σ H' => ∃ x y : Int, σ = [some (.int x), some (.int y)] ∧ H' = H ∧ Int.gcd x y = Int.gcd a b) mGcd ⟨a, b, rfl, rfl, rfl⟩ (fun σ H' hP => ?_) (fun σ H Q Q' hh hc => ?_)
    · obtain ⟨x, y, rfl, rfl, e⟩ := hP
      refine ⟨_, rfl, rfl, _, rfl, ?_⟩
      refine ite2 (fun c => ?_) (fun c => ?_)
      · have hy : y ≠ 0 := fun z => by
          subst z
          exact absurd c (by decide)
        refine ⟨_, rfl, _, rfl, _, rfl, x, y, rfl, rfl, hy, _, _, rfl, ⟨y, x.fmod y, rfl, rfl, ?_⟩, fmod_small x hy⟩
        rw [gcd_step]
        exact e
      · have hy : y = 0 := Classical.byContradiction fun z => c (by
          show (!decide (V.int y = V.int 0)) = true
          rw [decide_eq_false (fun q => z (V.int.inj q))]
          rfl)
        subst hy
        refine ⟨_, rfl, x, rfl, ?_⟩
        rw [gcd_zero, e]
        exact q
    · obtain ⟨v, e1, e2, k, e3, e4⟩ := hc
      exact ⟨v, e1, e2, k, e3, hh _ _ e4⟩
abbrev sGcd : Stmt := topS 26
def spPGcd : Sp := fun vs H Q _ => ∃ a b : Int, vs = [.int a, .int b] ∧ b.natAbs < 2 ^ 6000 ∧ Q (.int ((Int.gcd a b : Nat) : Int)) H
theorem scGcd : FnScope ["one", "other"] ["one", "other"] (defScope sGcd) := ⟨rfl, rfl, rfl, by decide +kernel, rfl, by decide +kernel, by decide +kernel⟩
/-- numbers of at most 6000 bits are divided as ever -/
theorem ok_gcd {f : Addr} {fd : FuncData} {k : Nat} (F : Fun K "common_divisor" "common_divisor" sGcd f fd) (ma : mg "abs" = none) (mL : ∃ t, mg "LONG" = some (.int 6000 t)) : FnOk P w K mg base CX0 (k + 1) f fd ["one", "other"] spPGcd := by
  obtain ⟨tL, hL⟩ := mL
  refine F.ok scGcd (fun vs H Q E h => ?_) (fun cdv A outer s H vs Q E hr h => ?_)
  · obtain ⟨a, b, rfl, _⟩ := h
    rfl
  · obtain ⟨a, b, rfl, hb, q⟩ := h
    refine ⟨_, pss_cons (ps_if (pt_cmpR op_gt (pe_bits (pv 1)) (pe_glob (v := .int 6000) (by rfl) hL ⟨_, rfl⟩) (nomark _)) pss_never pss_nil)
      (pss_cons (ps_while PassesOwn.never (pt_cmpR op_ne (pv 1) pe_int (nomark _))
        (pss_one (ps_par (i := 0) (j := 1) (by rfl) scGcd.nd rfl rfl (by decide) rfl rfl (pa_cons (pv 1) (pa_cons (pe_op op_modN (pv 0) (pv 1)) pa_nil)) (by rfl))))
      (pss_one (ps_ret (pe_callB call_abs (by rfl) ma (by decide +kernel) (pa_cons (pv 0) pa_nil))))), ?_⟩
    have hs : ¬ (6000 : Int) < ((Builtin.Int.intBits b : Nat) : Int) := by
      have := PyProof.Rows.intBits_le hb
      omega
    refine ⟨_, rfl, b, rfl, _, 6000, rfl, rfl, _, rfl, ite2 (fun c => absurd (of_decide_eq_true c) hs) (fun _ => ?_)⟩
    refine while_by (fun σ H' => ∃ x y : Int, σ = [some (.int x), some (.int y)] ∧ H' = H ∧ Int.gcd x y = Int.gcd a b) mGcd ⟨a, b, rfl, rfl, rfl⟩ (fun σ H' hP => ?_) (fun σ H Q Q' hh hc => ?_)
    · obtain ⟨x, y, rfl, rfl, e⟩ := hP
      refine ⟨_, rfl, rfl, _, rfl, ?_⟩
      refine ite2 (fun c => ?_) (fun c => ?_)
      · have hy : y ≠ 0 := fun z => by
          subst z
          exact absurd c (by decide)
        refine ⟨_, rfl, _, rfl, _, rfl, x, y, rfl, rfl, hy, _, _, rfl, ⟨y, x.fmod y, rfl, rfl, ?_⟩, fmod_small x hy⟩
        rw [gcd_step]
        exact e
      · have hy : y = 0 := Classical.byContradiction fun z => c (by
          show (!decide (V.int y = V.int 0)) = true
          rw [decide_eq_false (fun q => z (V.int.inj q))]
          rfl)
        subst hy
        refine ⟨_, rfl, x, rfl, ?_⟩
        rw [gcd_zero, e]
        exact q
    · obtain ⟨v, e1, e2, k, e3, e4⟩ := hc
      exact ⟨v, e1, e2, k, e3, hh _ _ e4⟩
def spFr : Sp := fun vs H Q _ => ∃ t b : Int, vs = [.int t, .int b] ∧ b ≠ 0 ∧ b.natAbs < 2 ^ 8000 ∧ newSh H Q (frT t b) (frB t b)
theorem at0 {a b : V} : atI [a, b] 0 = some a := rfl
theorem at1 {a b : V} : atI [a, b] 1 = some b := rfl
abbrev sLFr : Stmt := topS 53
theorem scLFr : FnScope ["_law_top", "_law_bottom", "_law_per"] ["_law_top", "_law_bottom"] (defScope sLFr) := ⟨rfl, rfl, rfl, by decide +kernel, rfl, by decide +kernel, by decide +kernel⟩
theorem ok_law_fr {f : Addr} {fd : FuncData} (F : Fun K "_law_fr" "_law_fr" sLFr f fd) (GG : C8.Cal P w K mg base 1 "_law_gcd" spGcd []) : FnOk P w K mg base CX0 2 f fd ["_law_top", "_law_bottom"] spFr := by
  refine F.ok scLFr (fun vs H Q E h => ?_) (fun cdv A outer s H vs Q E hr h => ?_)
  · obtain ⟨a, b, rfl, _⟩ := h
    rfl
  · obtain ⟨t, b, rfl, e, hb, q1⟩ := h
    refine ⟨_, pss_cons (ps_set (i := 2) scLFr.nd rfl (.inl rfl) (C8.pe_c GG hr (by decide) (by rfl) (pa_cons (pv 0) (pa_cons (pv 1) pa_nil))))
      (pss_cons (ps_set (i := 2) scLFr.nd rfl (.inl rfl) (pe_ifExp (pt_cmpR op_lt (pv 1) pe_int (nomark _)) (pe_op op_sub pe_int (pv 2)) (pv 2)))
      (pss_one (ps_ret (pe_tup (pa_cons (pe_op op_div (pv 0) (pv 2)) (pa_cons (pe_op op_div (pv 1) (pv 2)) pa_nil)))))), ?_⟩
    refine ⟨_, rfl, _, rfl, t, b, rfl, ?_⟩
    have fin : ∀ d : Int, d = per t b → tRet (tTup (tCons (tOp (rI DivOk fun i j => .int (i.fdiv j)) (tVar 0) (tVar 2)) (tCons (tOp (rI DivOk fun i j => .int (i.fdiv j)) (tVar 1) (tVar 2)) tNil)))
        { nx := fun _ H' => Q .non H', rt := Q } [some (.int t), some (.int b), some (.int d)] H := fun d hd => by
      have ok : DivOk t d := ⟨by rw [hd]; exact per_ne t e, by rw [hd]; exact Nat.lt_of_le_of_lt (per_le t e) hb⟩
      refine ⟨_, rfl, _, rfl, t, d, rfl, rfl, ok, _, rfl, _, rfl, b, d, rfl, rfl, ok, (by show 2 ≤ sizeLine; decide), fun p hp => ?_⟩
      rw [hd]
      exact q1.at_ p hp
    refine ⟨_, rfl, b, 0, rfl, rfl, _, rfl, ite2 (fun c2 => ?_) (fun c2 => ?_)⟩
    · have l : b < 0 := of_decide_eq_true c2
      refine ⟨_, rfl, 0, _, rfl, rfl, ?_⟩
      exact fin _ (by unfold per; rw [if_pos l]; omega)
    · have l : ¬ b < 0 := fun z => c2 (decide_eq_true z)
      refine ⟨_, rfl, ?_⟩
      exact fin _ (by unfold per; rw [if_neg l])
abbrev sPull : Stmt := topS 48
theorem scPull : FnScope ["_law_bag_here", "_law_sides", "_law_cell", "_law_got", "_law_seed"] ["_law_bag_here", "_law_sides"] (defScope sPull) := ⟨rfl, rfl, rfl, by decide +kernel, rfl, by decide +kernel, by decide +kernel⟩
theorem at_in {xs : List V} {r : Int} (h0 : 0 ≤ r) (h : r.toNat < xs.length) : atI xs r = some xs[r.toNat] := by
  obtain ⟨n, rfl⟩ := Int.eq_ofNat_of_zero_le h0
  exact atI_nat (List.getElem?_eq_getElem h)
theorem ok_pull {f : Addr} {fd : FuncData} {k : Nat} (F : Fun K "_law_pull" "_law_pull" sPull f fd) (ml : mg "len" = none) : FnOk P w K mg base CX0 (k + 1) f fd ["_law_bag_here", "_law_sides"] spPull := by
  refine F.ok scPull (fun vs H Q E h => ?_) (fun cdv A outer s H vs Q E hr h => ?_)
  · obtain ⟨l, b, m, rfl, _⟩ := h
    rfl
  · obtain ⟨l, b, m, rfl, hm, hm9, ⟨ns, nlb, hl, ⟨i, j, sa, n, hb, hi, hj, hs, hs2⟩⟩, q⟩ := h
    have hm8 : CDivW 0 m := wide_div hm hm9 (by decide) (by decide)
    refine ⟨_, pss_cons (ps_if (PW.pt (pw_and (pt_cmpR op_eq (pe_ix ix_list (pv 0) pe_int (fun _ _ => rfl)) pe_int (nomark _))
          (pw_and1 (pt_cmpR op_lt (pe_ix ix_list (pv 0) pe_int (fun _ _ => rfl)) (pe_callB call_len_seq (by rfl) ml PySem.boot_len (pa_cons (pe_ix ix_list (pv 0) pe_int (fun _ _ => rfl)) pa_nil)) (nomark _)))))
        (pss_cons (ps_set (i := 2) scPull.nd rfl (.inl rfl) (pe_ix ix_list (pe_ix ix_list (pv 0) pe_int (fun _ _ => rfl)) (pe_ix ix_list (pv 0) pe_int (fun _ _ => rfl)) (fun _ _ => rfl)))
        (pss_cons (ps_asg (pe_op op_add (pe_ix ix_list (pv 0) pe_int (fun _ _ => rfl)) pe_int) (pg_sub (pv 0) pe_int set_list))
        (pss_one (ps_if (pt_cmpR op_ge (pv 2) (pe_op op_pow pe_int pe_int) (nomark _)) (pss_one (ps_asg (pv 2) (pg_sub (pv 0) pe_int set_list)))
          (pss_one (ps_asg (pe_op op_mod (pe_op op_add (pe_op op_add (pe_op op_mul (pe_ix ix_list (pv 0) pe_int (fun _ _ => rfl)) pe_int) (pe_op op_mod (pv 2) pe_int)) pe_int) pe_int) (pg_sub (pv 0) pe_int set_list)))))))
        pss_nil)
      (pss_cons (ps_if (pt_cmpR op_gt (pe_ix ix_list (pv 0) pe_int (fun _ _ => rfl)) pe_int (nomark _))
        (pss_cons (ps_set (i := 3) scPull.nd rfl (.inl rfl) (pe_op op_mod (pe_ix ix_list (pv 0) pe_int (fun _ _ => rfl)) (pv 1)))
        (pss_cons (ps_asg (pe_op op_fdivW (pe_ix ix_list (pv 0) pe_int (fun _ _ => rfl)) (pv 1)) (pg_sub (pv 0) pe_int set_list))
        (pss_one (ps_ret (pv 3))))) pss_nil)
      (pss_cons (ps_asg (pe_op op_add (pe_ix ix_list (pv 0) pe_int (fun _ _ => rfl)) pe_int) (pg_sub (pv 0) pe_int set_list))
      (pss_cons (ps_set (i := 4) scPull.nd rfl (.inl rfl) (pe_op op_mod (pe_op op_add (pe_ix ix_list (pv 0) pe_int (fun _ _ => rfl)) (pe_op op_mul (pe_ix ix_list (pv 0) pe_int (fun _ _ => rfl)) pe_int)) pe_int))
      (pss_cons (ps_asg (pe_op op_mod (pe_op op_add (pe_op op_add (pe_op op_mul (pe_op op_mod (pe_op op_mul (pv 4) (pv 4)) pe_int) (pe_op op_add (pe_op op_mod (pv 4) pe_int) pe_int)) (pe_op op_mul pe_int (pv 4))) pe_int) pe_int) (pg_sub (pv 0) pe_int set_list))
      (pss_one (ps_ret (pe_op op_mod (pe_op op_add (pe_op op_fdiv (pe_ix ix_list (pv 0) pe_int (fun _ _ => rfl)) pe_int) (pe_op op_mul (pe_op op_mod (pe_ix ix_list (pv 0) pe_int (fun _ _ => rfl)) pe_int) pe_int)) (pv 1)))))))), ?_⟩
    refine keep (fun σ' H' => ∃ (i j sa n : Int) (y : Option V), σ' = [some (.ref b), some (.int m), y, none, none] ∧ H' b = some (.lst (bagL l i j sa n)) ∧ 0 ≤ i ∧ 0 ≤ j ∧ 0 ≤ sa ∧ sa < 2147483647 ∧ But b H H') (fun σ' H1 hM => ?_) (fun rest => ?_)
    · obtain ⟨i, j, sa, n, y, rfl, hb, hi, hj, hs, hs2, bt⟩ := hM
      have bagOf : ∀ (H2 : Hp), But b H H2 → BagAt l b H2 → Bag l b H2 := fun H2 bt2 x => ⟨ns, nlb, by rw [bt2 l nlb]; exact hl, x⟩
      refine ⟨_, rfl, b, _, 2, _, rfl, rfl, SqL.of hb, rfl, j, 0, rfl, rfl, _, rfl, ite2 (fun c => ?_) (fun c => ?_)⟩
      · -- what is left of a great number
        refine ⟨_, rfl, b, _, 2, _, rfl, rfl, SqL.of hb, rfl, _, rfl, j, m, rfl, rfl, hm, ?_⟩
        refine ⟨_, rfl, b, _, 2, _, rfl, rfl, SqL.of hb, rfl, _, rfl, j, m, rfl, rfl, hm8, _, rfl, b, _, 2, 2, rfl, rfl, hb, rfl, ?_⟩
        refine ⟨_, rfl, ?_⟩
        exact q _ _ (Int.emod_nonneg j (by omega)) (Int.emod_lt_of_pos j hm) (bagOf _ bt.upd ⟨⟨i, j / m, sa, n, upd_same, hi, Int.ediv_nonneg hj (by omega), hs, hs2⟩⟩) bt.upd
      · refine ⟨_, rfl, b, _, 4, _, rfl, rfl, SqL.of hb, rfl, n, 1, rfl, rfl, _, rfl, b, _, 4, 4, rfl, rfl, hb, rfl, ?_⟩
        have hb2 : (upd H1 b (.lst (bagL l i j sa (n + 1)))) b = some (.lst (bagL l i j sa (n + 1))) := upd_same
        refine ⟨_, rfl, b, _, 3, _, rfl, rfl, SqL.of hb2, rfl, _, rfl, b, _, 4, _, rfl, rfl, SqL.of hb2, rfl, n + 1, 7211, rfl, rfl, .inr ⟨by decide, by decide⟩, sa, _, rfl, rfl, _, 2147483647, rfl, rfl, (by show (0 : Int) < _; decide), ?_⟩
        have r0 := Int.emod_nonneg (sa + (n + 1) * 7211) (show (2147483647 : Int) ≠ 0 by decide)
        have r1 := Int.emod_lt_of_pos (sa + (n + 1) * 7211) (show (0 : Int) < 2147483647 by decide)
        show tSeq _ _ _ [some (.ref b), some (.int m), y, none, some (.int ((sa + (n + 1) * 7211) % 2147483647))] _
        generalize (sa + (n + 1) * 7211) % 2147483647 = sd at r0 r1 ⊢
        have t0 := Int.emod_nonneg (sd * sd) (show (2147483629 : Int) ≠ 0 by decide)
        have t1 := Int.emod_lt_of_pos (sd * sd) (show (0 : Int) < 2147483629 by decide)
        refine ⟨_, rfl, _, rfl, sd, sd, rfl, rfl, .inl ⟨by omega, by omega⟩, _, 2147483629, rfl, rfl, (by show (0 : Int) < _; decide), _, rfl, sd, 30011, rfl, rfl, (by show (0 : Int) < _; decide), _, 5, rfl, rfl, _, _, rfl, rfl, .inl ⟨by omega, by omega⟩, _, rfl, 20011, sd, rfl, rfl, .inl ⟨by decide, by decide⟩, _, _, rfl, rfl, _, 977, rfl, rfl, _, 2147483647, rfl, rfl, (by show (0 : Int) < _; decide), _, rfl, b, _, 3, 3, rfl, rfl, hb2, rfl, ?_⟩
        have s0 := Int.emod_nonneg (sd * sd % 2147483629 * (sd % 30011 + 5) + 20011 * sd + 977) (show (2147483647 : Int) ≠ 0 by decide)
        have s1 := Int.emod_lt_of_pos (sd * sd % 2147483629 * (sd % 30011 + 5) + 20011 * sd + 977) (show (0 : Int) < 2147483647 by decide)
        have hb3 : (upd (upd H1 b (.lst (bagL l i j sa (n + 1)))) b (.lst (bagL l i j ((sd * sd % 2147483629 * (sd % 30011 + 5) + 20011 * sd + 977) % 2147483647) (n + 1)))) b = some (.lst (bagL l i j ((sd * sd % 2147483629 * (sd % 30011 + 5) + 20011 * sd + 977) % 2147483647) (n + 1))) := upd_same
        refine ⟨_, rfl, b, _, 3, _, rfl, rfl, SqL.of hb3, rfl, _, 71, rfl, rfl, ⟨by decide, by decide⟩, _, rfl, b, _, 3, _, rfl, rfl, SqL.of hb3, rfl, _, 8191, rfl, rfl, (by show (0 : Int) < _; decide), _, 41, rfl, rfl, .inr ⟨by decide, by decide⟩, _, _, rfl, rfl, _, rfl, _, m, rfl, rfl, hm, ?_⟩
        exact q _ _ (Int.emod_nonneg _ (by omega)) (Int.emod_lt_of_pos _ hm) (bagOf _ bt.upd.upd ⟨⟨i, j, _, n + 1, upd_same, hi, hj, s0, s1⟩⟩) bt.upd.upd
    · have stay := rest [some (.ref b), some (.int m), none, none, none] H ⟨i, j, sa, n, none, rfl, hb, hi, hj, hs, hs2, But.refl b H⟩
      refine ⟨_, rfl, b, _, 2, _, rfl, rfl, SqL.of hb, rfl, rfl, _, rfl, ite2 (fun c => ?_) (fun c => ?_)⟩
      · refine ⟨_, rfl, b, _, 1, _, rfl, rfl, SqL.of hb, rfl, _, rfl, b, _, 0, _, rfl, rfl, SqL.of hb, rfl, l, _, rfl, .inl (SqL.of hl), i, _, rfl, rfl, _, rfl, ite2 (fun c2 => ?_) (fun c2 => ?_)⟩
        · have hlt : i < ((ns.map V.int).length : Int) := of_decide_eq_true c2
          rw [List.length_map] at hlt
          obtain ⟨cell, hc⟩ : ∃ cell : Int, atI (ns.map V.int) i = some (.int cell) := by
            have h1 : i.toNat < (ns.map V.int).length := by rw [List.length_map]; omega
            refine ⟨ns[i.toNat]'(by rw [List.length_map] at h1; exact h1), ?_⟩
            rw [at_in hi h1, List.getElem_map]
          refine ⟨_, rfl, b, _, 0, _, rfl, rfl, SqL.of hb, rfl, _, rfl, b, _, 1, _, rfl, rfl, SqL.of hb, rfl, l, _, i, _, rfl, rfl, SqL.of hl, hc, ?_⟩
          refine ⟨_, rfl, b, _, 1, _, rfl, rfl, SqL.of hb, rfl, i, 1, rfl, rfl, _, rfl, b, _, 1, 1, rfl, rfl, hb, rfl, ?_⟩
          have hb2 : (upd H b (.lst (bagL l (i + 1) j sa n))) b = some (.lst (bagL l (i + 1) j sa n)) := upd_same
          refine ⟨_, rfl, 10, 18, rfl, rfl, ⟨by decide, by decide, by decide⟩, cell, _, rfl, rfl, _, rfl, ite2 (fun c3 => ?_) (fun c3 => ?_)⟩
          · have hbig : (10 : Int) ^ (18 : Int).toNat ≤ cell := of_decide_eq_true c3
            have hpos : (0 : Int) ≤ cell := Int.le_trans (by decide) hbig
            refine ⟨_, rfl, _, rfl, b, _, 2, 2, rfl, rfl, hb2, rfl, ?_⟩
            exact rest _ _ ⟨i + 1, cell, sa, n, _, rfl, upd_same, by omega, hpos, hs, hs2, (But.refl b H).upd.upd⟩
          · refine ⟨_, rfl, b, _, 3, _, rfl, rfl, SqL.of hb2, rfl, sa, 40283, rfl, rfl, .inr ⟨by decide, by decide⟩, _, rfl, cell, 2147483587, rfl, rfl, (by show (0 : Int) < _; decide), _, _, rfl, rfl, _, 7, rfl, rfl, _, 2147483647, rfl, rfl, (by show (0 : Int) < _; decide), _, rfl, b, _, 3, 3, rfl, rfl, hb2, rfl, ?_⟩
            exact rest _ _ ⟨i + 1, j, _, n, _, rfl, upd_same, by omega, hj, Int.emod_nonneg _ (by decide), Int.emod_lt_of_pos _ (by decide), (But.refl b H).upd.upd⟩
        · exact stay
      · exact iteF stay
abbrev sOf : Stmt := topS 49
theorem scOf : FnScope ["_law_bag_here", "_law_some"] ["_law_bag_here", "_law_some"] (defScope sOf) := ⟨rfl, rfl, rfl, by decide +kernel, rfl, by decide +kernel, by decide +kernel⟩
/-- one of those that are there -/
def spOf : Sp := fun vs H Q _ => ∃ (l b o : Addr) (xs : List V), vs = [.ref b, .ref o] ∧ o ≠ b ∧ H o = some (.lst xs) ∧ 0 < xs.length ∧ xs.length ≤ 1000 ∧ Bag l b H ∧ ∀ (v : V) (H' : Hp), v ∈ xs → Bag l b H' → But b H H' → Q v H'
theorem small_fit {n : Nat} (h : n ≤ 1000) : ((n : Int)).natAbs < 2 ^ 8000 := Nat.lt_of_le_of_lt (show ((n : Int)).natAbs ≤ 2 ^ 10 by omega) (Nat.pow_lt_pow_right (by decide) (by decide))
theorem ok_of {f : Addr} {fd : FuncData} (F : Fun K "_law_of" "_law_of" sOf f fd) (GP : C8.Cal P w K mg base 1 "_law_pull" spPull []) (ml : mg "len" = none) : FnOk P w K mg base CX0 2 f fd ["_law_bag_here", "_law_some"] spOf := by
  refine F.ok scOf (fun vs H Q E h => ?_) (fun cdv A outer s H vs Q E hr h => ?_)
  · obtain ⟨l, b, o, xs, rfl, _⟩ := h
    rfl
  · obtain ⟨l, b, o, xs, rfl, nob, ho, h0, h1, hB, q⟩ := h
    refine ⟨_, pss_one (ps_ret (pe_ix ix_list (pv 1) (C8.pe_c GP hr (by decide) (by rfl) (pa_cons (pv 0) (pa_cons (pe_callB call_len_seq (by rfl) ml PySem.boot_len (pa_cons (pv 1) pa_nil)) pa_nil))) (fun _ _ => rfl))), ?_⟩
    refine ⟨_, rfl, _, rfl, _, rfl, o, xs, rfl, .inl (SqL.of ho), l, b, _, rfl, by omega, small_fit h1, hB, fun r H' r0 r1 hB' bt => ?_⟩
    have ho' : H' o = some (.lst xs) := by rw [bt o nob]; exact ho
    have hlt : r.toNat < xs.length := by omega
    exact ⟨o, xs, r, xs[r.toNat], rfl, rfl, SqL.of ho', at_in r0 hlt, q _ _ (List.getElem_mem hlt) hB' bt⟩
abbrev sLight : Stmt := topS 54
theorem scLight : FnScope ["_law_bag_here"] ["_law_bag_here"] (defScope sLight) := ⟨rfl, rfl, rfl, by decide +kernel, rfl, by decide +kernel, by decide +kernel⟩
/-- the end of a drawing: fr(t, d) -/
theorem draw_end {l b : Addr} {H H1 : Hp} {Q : VK} {E : XK} {t d : Int} (g : Grow b H H1) (B : Bag l b H1) (ht : t.natAbs < 2 ^ 45) (hd : d.natAbs < 2 ^ 45) (h0 : d ≠ 0)
    (q : ∀ (p : Addr) (t d : Int) (H' : Hp), Drawn t d → Bag l b H' → Grow b H H' → H p = none → H' p = some (.tup [.int t, .int d]) → Q (.ref p) H') : spFr [.int t, .int d] H1 Q E :=
  ⟨t, d, rfl, h0, fit8 hd (by decide), fun p H' sm hp ep => q p _ _ _ (drawn_fr ht hd h0) (B.same sm) (g.trans (Same.grow sm)) (g.free (B.ne hp) hp) ep⟩
theorem ok_light {f : Addr} {fd : FuncData} (F : Fun K "_law_light" "_law_light" sLight f fd) (GF : C8.Cal P w K mg base 2 "_law_fr" spFr []) (GP : C8.Cal P w K mg base 1 "_law_pull" spPull []) : FnOk P w K mg base CX0 3 f fd ["_law_bag_here"] spDraw := by
  refine F.ok scLight (fun vs H Q E h => ?_) (fun cdv A outer s H vs Q E hr h => ?_)
  · obtain ⟨l, b, rfl, _⟩ := h
    rfl
  · obtain ⟨l, b, rfl, B, q⟩ := h
    refine ⟨_, pss_one (ps_ret (C8.pe_c GF hr (by decide) (by rfl) (pa_cons (pe_op op_sub (C8.pe_c GP hr (by decide) (by rfl) (pa_cons (pv 0) (pa_cons pe_int pa_nil))) pe_int)
      (pa_cons (pe_ix ix_list (pe_lst (pa_cons pe_int (pa_cons pe_int (pa_cons pe_int (pa_cons pe_int (pa_cons pe_int (pa_cons pe_int pa_nil))))))) (C8.pe_c GP hr (by decide) (by rfl) (pa_cons (pv 0) (pa_cons pe_int pa_nil))) (fun _ _ => rfl)) pa_nil)))), ?_⟩
    refine ⟨_, rfl, l, b, 9, rfl, by decide, fit8 (n := 4) (by decide) (by decide), B, fun r H1 r0 r1 B1 t1 => ?_⟩
    refine ⟨r, 4, rfl, rfl, (by show 6 ≤ sizeLine; decide), fun o no => ?_⟩
    have B2 := B1.same (same_new (o := .lst [.int 1, .int 1, .int 1, .int 2, .int 3, .int 5]) no)
    refine ⟨_, rfl, l, b, 6, rfl, by decide, fit8 (n := 4) (by decide) (by decide), B2, fun r2 H2 s0 s1 B3 t2 => ?_⟩
    have nob := B1.ne no
    have ho : H2 o = some (.lst [.int 1, .int 1, .int 1, .int 2, .int 3, .int 5]) := by rw [t2 o nob, upd_same]
    have g : Grow b H H2 := t1.grow.trans ((Same.grow (same_new no)).trans t2.grow)
    have pick : ∃ d : Int, atI [V.int 1, V.int 1, V.int 1, V.int 2, V.int 3, V.int 5] r2 = some (.int d) ∧ 0 < d ∧ d ≤ 5 := by
      have : r2 = 0 ∨ r2 = 1 ∨ r2 = 2 ∨ r2 = 3 ∨ r2 = 4 ∨ r2 = 5 := by omega
      rcases this with e | e | e | e | e | e <;> subst e
      · exact ⟨1, rfl, by decide, by decide⟩
      · exact ⟨1, rfl, by decide, by decide⟩
      · exact ⟨1, rfl, by decide, by decide⟩
      · exact ⟨2, rfl, by decide, by decide⟩
      · exact ⟨3, rfl, by decide, by decide⟩
      · exact ⟨5, rfl, by decide, by decide⟩
    obtain ⟨d, hd, d0, d5⟩ := pick
    exact ⟨o, _, r2, _, rfl, rfl, SqL.of ho, hd, draw_end (E := C8.E0) g B3 (Nat.lt_of_le_of_lt (show (r - 4).natAbs ≤ 9 by omega) (by decide)) (Nat.lt_of_le_of_lt (show d.natAbs ≤ 9 by omega) (by decide)) (by omega) q⟩
abbrev sBag : Stmt := topS 47
theorem scBag : FnScope ["_law_script", "_law_salt", "_law_cell"] ["_law_script"] (defScope sBag) := ⟨rfl, rfl, rfl, by decide +kernel, rfl, by decide +kernel, by decide +kernel⟩
/-- a new bag of a script -/
def spBag (K : PySem.W.Frag) : Sp := fun vs H Q _ => ∃ (a : Addr) (ns : List Int), vs = [.ref a] ∧ SqL K H a (ns.map V.int) ∧ ∀ (l b : Addr) (H' : Hp), Same H H' → H b = none → H l = none → Bag l b H' → Q (.ref b) H'
theorem cut63 (ns : List Int) : ∃ ms : List Int, cutV (ns.map V.int) none (some 63) = ms.map V.int := by
  refine ⟨(ns.drop (HT.sIx ns.length 0 none)).take (HT.sIx ns.length ns.length (some 63) - HT.sIx ns.length 0 none), ?_⟩
  unfold cutV
  rw [List.length_map, List.map_take, List.map_drop]
theorem ok_bag {f : Addr} {fd : FuncData} {k : Nat} (F : Fun K "_law_bag" "_law_bag" sBag f fd) (ml : mg "list" = none) : FnOk P w K mg base CX0 (k + 1) f fd ["_law_script"] (spBag K) := by
  refine F.ok scBag (fun vs H Q E h => ?_) (fun cdv A outer s H vs Q E hr h => ?_)
  · obtain ⟨a, ns, rfl, _⟩ := h
    rfl
  · obtain ⟨a, ns, rfl, hS, q⟩ := h
    refine ⟨_, pss_cons (ps_set (i := 1) scBag.nd rfl (.inl rfl) pe_int)
      (pss_cons (ps_for PassesOwn.never rfl (pi_list (pe_slice sl_list (pv 0) po_none (po_some pe_int))) (pg_name (i := 2) scBag.nd rfl (.inl rfl))
        (pss_one (ps_set (i := 1) scBag.nd rfl (.inl rfl) (pe_op op_mod (pe_op op_add (pe_op op_add (pe_op op_mul (pv 1) pe_int) (pe_op op_mod (pv 2) pe_int)) pe_int) pe_int))))
      (pss_one (ps_ret (pe_lst (pa_cons (pe_callTy call_list_of (by rfl) ml (by decide +kernel) (pa_cons (pe_slice sl_list (pv 0) po_none (po_some pe_int)) pa_nil)) (pa_cons pe_int (pa_cons pe_int (pa_cons (pv 1) (pa_cons pe_int pa_nil))))))))), ?_⟩
    obtain ⟨ms, em⟩ := cut63 ns
    refine ⟨_, rfl, 63, rfl, a, _, rfl, hS, fun c nc => ?_⟩
    rw [em]
    have sm : Same H (upd H c (.lst (ms.map V.int))) := same_new nc
    refine ⟨c, rfl, ⟨_, SqL.of upd_same⟩, for_list (K := K) (a := c) (xs := ms.map V.int) (fun i σ H' => ∃ (sa : Int) (y : Option V), σ = [some (.ref a), some (.int sa), y] ∧ 0 ≤ sa ∧ sa < 2147483647 ∧ H' = upd H c (.lst (ms.map V.int))) ⟨9454, none, rfl, by decide, by decide, rfl⟩
      (fun i σ H' _ hP => by obtain ⟨_, _, _, _, _, e⟩ := hP; rw [e]; exact SqL.of upd_same) ?_ ?_⟩
    · rintro i y σ H' hi ⟨sa, y2, rfl, h0, h1, rfl⟩
      obtain ⟨z, rfl⟩ : ∃ z : Int, y = .int z := by
        rw [List.getElem?_map] at hi
        cases e : ms[i]? with
        | none =>
          rw [e] at hi
          cases hi
        | some z =>
          rw [e] at hi
          exact ⟨z, (Option.some.inj hi).symm⟩
      refine ⟨_, rfl, sa, 48611, rfl, rfl, .inr ⟨by decide, by decide⟩, _, rfl, z, 2147483629, rfl, rfl, (by show (0 : Int) < _; decide), _, _, rfl, rfl, _, 23, rfl, rfl, _, 2147483647, rfl, rfl, (by show (0 : Int) < _; decide), ?_⟩
      exact ⟨_, some (.int z), rfl, Int.emod_nonneg _ (by decide), Int.emod_lt_of_pos _ (by decide), rfl⟩
    · rintro σ H' ⟨sa, y2, rfl, h0, h1, rfl⟩
      refine ⟨_, rfl, 63, rfl, a, _, rfl, sm.seq hS, fun c2 nc2 => ?_⟩
      rw [em]
      refine ⟨c2, _, rfl, .inl (SqL.of upd_same), fun l nl => ?_⟩
      refine ⟨_, rfl, (by show 5 ≤ sizeLine; decide), fun b nb => ?_⟩
      have s2 := sm.trans (same_new (o := .lst (ms.map V.int)) nc2)
      have s3 := s2.trans (same_new (o := .lst (ms.map V.int)) nl)
      have s4 := s3.trans (same_new (o := .lst (bagL l 0 0 sa 0)) nb)
      refine q l b _ s4 (s3.free nb) (s2.free nl) ⟨ms, ne_of_none upd_same nb, ?_, ⟨0, 0, sa, 0, upd_same, by decide, by decide, h0, h1⟩⟩
      rw [upd_ne (ne_of_none upd_same nb), upd_same]
end
/-! The law's own comparison: of equal data it tells True. -/
structure Scal (K : PySem.W.Frag) (x : V) : Prop where
  ex : ∃ (t : Value) (b1 b2 b3 : Bool), (∀ H, TyX K H x t) ∧ PySem.W.kitAny K t [.type "list", .type "tuple"] = some false ∧ PySem.W.kitOne K t (.type "bool") = some b1 ∧ PySem.W.kitOne K t (.type "int") = some b2 ∧ PySem.W.kitOne K t (.type "str") = some b3 ∧ scal x x = true
theorem kit2 {K : PySem.W.Frag} {t : String} {a b : String} (h1 : kitB t a = some false) (h2 : kitB t b = some false) : PySem.W.kitAny K (.type t) [.type a, .type b] = some false :=
  kitAny_cons (b := false) (kit_ty h1) (fun _ => kitAny_cons (b := false) (kit_ty h2) (fun _ => kitAny_nil) (fun z => nomatch z)) (fun z => nomatch z)
theorem Scal.int {K : PySem.W.Frag} (i : Int) : Scal K (.int i) := ⟨.type "int", false, true, false, fun _ => .base (.int i), kit2 (by decide +kernel) (by decide +kernel), kit_ty (by decide +kernel), kit_ty (by decide +kernel), kit_ty (by decide +kernel), rfl⟩
theorem Scal.str {K : PySem.W.Frag} (z : Str) : Scal K (.str z) := ⟨.type "str", false, false, true, fun _ => .base (.str z), kit2 (by decide +kernel) (by decide +kernel), kit_ty (by decide +kernel), kit_ty (by decide +kernel), kit_ty (by decide +kernel), rfl⟩
theorem Scal.bl {K : PySem.W.Frag} (b : Bool) : Scal K (.bl b) := ⟨.type "bool", true, true, false, fun _ => .base (.bl b), kit2 (by decide +kernel) (by decide +kernel), kit_ty (by decide +kernel), kit_ty (by decide +kernel), kit_ty (by decide +kernel), rfl⟩
theorem Scal.non {K : PySem.W.Frag} : Scal K .non := ⟨.type "NoneType", false, false, false, fun _ => .base .non, kit2 (by decide +kernel) (by decide +kernel), kit_ty (by decide +kernel), kit_ty (by decide +kernel), kit_ty (by decide +kernel), rfl⟩
/-- x and y are equal data, at most n within one another -/
def Twin (K : PySem.W.Frag) (H : Hp) : Nat → V → V → Prop
  | 0, x, y => x = y ∧ Scal K x
  | n + 1, x, y => (x = y ∧ Scal K x) ∨ ∃ (a b : Addr) (xs ys : List V), x = .ref a ∧ y = .ref b ∧ ((SqL K H a xs ∧ SqL K H b ys) ∨ (SqT K H a xs ∧ SqT K H b ys)) ∧ xs.length = ys.length ∧ ys.length ≤ 1000 ∧ ∀ (i : Nat) (u v : V), xs[i]? = some u → ys[i]? = some v → Twin K H n u v
theorem seqT {K : PySem.W.Frag} {H H' : Hp} {a : Addr} {xs : List V} (e : Same H H') (h : SqT K H a xs) : SqT K H' a xs := by
  rcases h with (h | ⟨o, h⟩) | h
  · exact .inl (.inl (e _ _ h))
  · exact .inl (.inr ⟨o, e _ _ h⟩)
  · exact .inr h
theorem Twin.same {K : PySem.W.Frag} {H H' : Hp} (s : Same H H') : ∀ {n : Nat} {x y : V}, Twin K H n x y → Twin K H' n x y
  | 0, _, _, h => h
  | n + 1, _, _, h => by
    rcases h with h | ⟨a, b, xs, ys, e1, e2, q, l, m, r⟩
    · exact .inl h
    · refine .inr ⟨a, b, xs, ys, e1, e2, ?_, l, m, fun i u v hu hv => (r i u v hu hv).same s⟩
      rcases q with ⟨q1, q2⟩ | ⟨q1, q2⟩
      · exact .inl ⟨s.seq q1, s.seq q2⟩
      · exact .inr ⟨seqT s q1, seqT s q2⟩
theorem Twin.one {K : PySem.W.Frag} {H : Hp} {x : V} (s : Scal K x) : ∀ n : Nat, Twin K H n x x
  | 0 => ⟨rfl, s⟩
  | _ + 1 => .inl ⟨rfl, s⟩
theorem tyL {K : PySem.W.Frag} {H : Hp} {a : Addr} {xs : List V} (h : SqL K H a xs) : TyX K H (.ref a) (.type "list") := by
  rcases h with (h | ⟨o, h⟩) | ⟨o, its, n, h1, h2, _⟩
  · exact .base (.lst h)
  · exact .base (.frz h)
  · exact .kList h1 h2
theorem tyT {K : PySem.W.Frag} {H : Hp} {a : Addr} {xs : List V} (h : SqT K H a xs) : TyX K H (.ref a) (.type "tuple") := by
  rcases h with (h | ⟨o, h⟩) | ⟨o, its, n, h1, h2, _⟩
  · exact .base (.tup h)
  · exact .fTuple h
  · exact .kTuple h1 h2
abbrev sSame : Stmt := topS 50
theorem scSame : FnScope ["_law_found", "_law_due", "_law_k"] ["_law_found", "_law_due"] (defScope sSame) := ⟨rfl, rfl, rfl, by decide +kernel, rfl, by decide +kernel, by decide +kernel⟩
def spSame (K : PySem.W.Frag) (n : Nat) : Sp := fun vs H Q _ => ∃ x y : V, vs = [x, y] ∧ Twin K H n x y ∧ ∀ H', Same H H' → Q (.bl true) H'
/-- the names that the comparison reads stand for the built-in ones -/
structure Blt (mg : Str → Option Value) : Prop where
  isi : mg "isinstance" = none
  lst : mg "list" = none
  tup : mg "tuple" = none
  len : mg "len" = none
  all : mg "all" = none
  rng : mg "range" = none
  bol : mg "bool" = none
  int : mg "int" = none
  str : mg "str" = none
  abs : mg "abs" = none
section
variable {P : Program} {w : World} {K : PySem.W.Frag} {mg : Str → Option Value} {base : Heap}
theorem not_same {b : Bool} {A B : Prop} (h : B) : if (!decide (V.bl b = V.bl b)) = true then A else B := by
  rw [decide_eq_true rfl]
  exact iteF h
theorem yes_if {σ : L2.St} {H : Hp} {A B : Hp → Prop} (h : A H) : tYes σ H fun b H3 => if b = true then A H3 else B H3 := by
  show if true = true then A H else B H
  exact iteT h
theorem ok_same {f : Addr} {fd : FuncData} (F : Fun K "_law_same" "_law_same" sSame f fd) (gf : mg "_law_same" = some (.ref f)) (bf : Binds K fd ["_law_found", "_law_due"] []) (T : Blt mg) :
    ∀ n : Nat, FnOk P w K mg base CX0 (n + 1) f fd ["_law_found", "_law_due"] (spSame K n) := by
  have top : ∀ (n k : Nat), (n = 0 ∨ ∃ m, n = m + 1 ∧ k = m + 1 ∧ FnOk P w K mg base CX0 (m + 1) f fd ["_law_found", "_law_due"] (spSame K m)) → FnOk P w K mg base CX0 (k + 1) f fd ["_law_found", "_law_due"] (spSame K n) := by
    intro n k hn
    -- what the recursion keeps: nothing at depth 0
    have G : ∃ (j : Nat) (sp : Sp), j ≤ k ∧ FnOk P w K mg base CX0 j f fd ["_law_found", "_law_due"] sp ∧ ∀ m, n = m + 1 → sp = spSame K m := by
      rcases hn with e | ⟨m, e, ek, g⟩
      · subst e
        exact ⟨0, fun _ _ _ _ => False, Nat.zero_le _, ⟨fun _ _ _ _ z => z.elim, fun _ _ _ _ _ _ _ _ _ _ _ _ _ z => z.elim⟩, fun m z => nomatch z⟩
      · exact ⟨m + 1, spSame K m, by omega, g, fun m' z => by rw [e] at z; cases z; rfl⟩
    obtain ⟨j, sp, hj, g, hsp⟩ := G
    refine F.ok scSame (fun vs H Q E h => ?_) (fun cdv A outer s H vs Q E hr h => ?_)
    · obtain ⟨x, y, rfl, _⟩ := h
      rfl
    · obtain ⟨x, y, rfl, tw, q⟩ := h
      refine ⟨_, pss_cons (ps_if (pt_val (pe_callB call_isiT (by rfl) T.isi (by decide +kernel) (pa_cons (pv 1) (pa_cons (pe_tup (pa_cons (pe_bltn (v := .ty "list") (by rfl) T.lst (by decide +kernel) rfl) (pa_cons (pe_bltn (v := .ty "tuple") (by rfl) T.tup (by decide +kernel) rfl) pa_nil))) pa_nil))))
          (pss_cons (ps_if (PW.pt (pw_or (pt_cmpR op_ne (pe_callB call_isi (by rfl) T.isi (by decide +kernel) (pa_cons (pv 0) (pa_cons (pe_bltn (v := .ty "list") (by rfl) T.lst (by decide +kernel) rfl) pa_nil))) (pe_callB call_isi (by rfl) T.isi (by decide +kernel) (pa_cons (pv 1) (pa_cons (pe_bltn (v := .ty "list") (by rfl) T.lst (by decide +kernel) rfl) pa_nil))) (nomark _))
              (pw_or1 (pt_cmpR op_ne (pe_callB call_isi (by rfl) T.isi (by decide +kernel) (pa_cons (pv 0) (pa_cons (pe_bltn (v := .ty "tuple") (by rfl) T.tup (by decide +kernel) rfl) pa_nil))) (pe_callB call_isi (by rfl) T.isi (by decide +kernel) (pa_cons (pv 1) (pa_cons (pe_bltn (v := .ty "tuple") (by rfl) T.tup (by decide +kernel) rfl) pa_nil))) (nomark _))))) (pss_one (ps_ret pe_bl)) pss_nil)
          (pss_one (ps_ret (pe_and (pe_cmpR op_eq (pe_callB call_len_seq (by rfl) T.len PySem.boot_len (pa_cons (pv 0) pa_nil)) (pe_callB call_len_seq (by rfl) T.len PySem.boot_len (pa_cons (pv 1) pa_nil)) (nomark _))
            (pe_one (pe_callB (cr_all rfl) (by rfl) T.all (by decide +kernel) (pa_cons (pe_lc (own := [("_law_k", 2)]) (g := gName 2) (tt := tYes) rfl scSame.nd (pi_range1 (by rfl) T.rng (pa_cons (pe_callB call_len_seq (by rfl) T.len PySem.boot_len (pa_cons (pv 1) pa_nil)) pa_nil))
              (blkOk_by (N := ["_law_found", "_law_due", "_law_k"]) (sc := defScope sSame) (by decide +kernel)) (fun _ _ _ _ _ => pg_name (i := 2) scSame.nd rfl (Or.inl rfl)) (fun _ _ _ _ _ => pts_nil)
              (fun _ _ _ _ _ => pe_call g (hr.mono hj) (by rfl) gf F.kp bf .nil pass0 (pa_cons (pe_ix (r := rIx K) ix_seq (pv 0) (pv 2) (fun _ _ => rfl)) (pa_cons (pe_ix (r := rIx K) ix_seq (pv 1) (pv 2) (fun _ _ => rfl)) pa_nil)))) pa_nil))))))) pss_nil)
        (pss_cons (ps_if (PW.pt (pw_or (pt_cmpR op_isN (pv 1) pe_non (nomark _)) (pw_or1 (pt_cmpR op_isN (pv 0) pe_non (nomark _))))) (pss_one (ps_ret (pe_and (pe_cmpR op_isN (pv 0) pe_non (nomark _)) (pe_one (pe_cmpR op_isN (pv 1) pe_non (nomark _)))))) pss_nil)
        (pss_cons (ps_if (PW.pt (pw_or (pt_cmpR op_ne (pe_callB call_isi (by rfl) T.isi (by decide +kernel) (pa_cons (pv 1) (pa_cons (pe_bltn (v := .ty "bool") (by rfl) T.bol (by decide +kernel) rfl) pa_nil))) (pe_callB call_isi (by rfl) T.isi (by decide +kernel) (pa_cons (pv 0) (pa_cons (pe_bltn (v := .ty "bool") (by rfl) T.bol (by decide +kernel) rfl) pa_nil))) (nomark _))
              (pw_or1 (pt_cmpR op_ne (pe_callB call_isi (by rfl) T.isi (by decide +kernel) (pa_cons (pv 1) (pa_cons (pe_bltn (v := .ty "int") (by rfl) T.int (by decide +kernel) rfl) pa_nil))) (pe_callB call_isi (by rfl) T.isi (by decide +kernel) (pa_cons (pv 0) (pa_cons (pe_bltn (v := .ty "int") (by rfl) T.int (by decide +kernel) rfl) pa_nil))) (nomark _))))) (pss_one (ps_ret pe_bl)) pss_nil)
        (pss_one (ps_ret (pe_and (pe_cmpR op_eq (pe_callB call_isi (by rfl) T.isi (by decide +kernel) (pa_cons (pv 1) (pa_cons (pe_bltn (v := .ty "str") (by rfl) T.str (by decide +kernel) rfl) pa_nil))) (pe_callB call_isi (by rfl) T.isi (by decide +kernel) (pa_cons (pv 0) (pa_cons (pe_bltn (v := .ty "str") (by rfl) T.str (by decide +kernel) rfl) pa_nil))) (nomark _))
            (pe_one (pe_cmpR op_eq (pv 0) (pv 1) (nomark _)))))))), ?_⟩
      refine ⟨_, rfl, (by show 2 ≤ sizeLine; decide), fun c nc => ?_⟩
      have sm : Same H (upd H c (.tup [.ty "list", .ty "tuple"])) := same_new nc
      have lt : Paired ClsV [V.ty "list", V.ty "tuple"] [.type "list", .type "tuple"] := .cons (.ty _) (.cons (.ty _) .nil)
      by_cases hs : x = y ∧ Scal K x
      · obtain ⟨rfl, ⟨t, b1, b2, b3, ty, k0, k1, k2, k3, ks⟩⟩ := hs
        refine ⟨x, c, _, t, _, false, rfl, upd_same, lt, ty _, k0, _, rfl, iteF ?_⟩
        refine ⟨_, rfl, rfl, _, rfl, ite2 (fun e => ?_) (fun e => ?_)⟩
        · have en : x = .non := of_decide_eq_true e
          subst en
          refine iteT ⟨_, rfl, rfl, _, rfl, iteT ⟨_, rfl, rfl, ?_⟩⟩
          exact q _ sm
        · refine ⟨_, rfl, rfl, _, rfl, ?_⟩
          rw [eq_false_of_ne_true e]
          refine iteF ?_
          refine ⟨_, rfl, x, _, t, _, b1, rfl, .ty _, ty _, k1, _, rfl, x, _, t, _, b1, rfl, .ty _, ty _, k1, rfl, _, rfl, not_same ?_⟩
          refine ⟨_, rfl, x, _, t, _, b2, rfl, .ty _, ty _, k2, _, rfl, x, _, t, _, b2, rfl, .ty _, ty _, k2, rfl, _, rfl, not_same ?_⟩
          refine ⟨_, rfl, x, _, t, _, b3, rfl, .ty _, ty _, k3, _, rfl, x, _, t, _, b3, rfl, .ty _, ty _, k3, rfl, _, rfl, ?_⟩
          rw [decide_eq_true rfl]
          refine iteT ⟨_, rfl, _, rfl, ks, ?_⟩
          rw [decide_eq_true rfl]
          exact q _ sm
      · cases n with
        | zero => exact absurd tw hs
        | succ m =>
          have esp := hsp m rfl
          subst esp
          rcases tw with tw | ⟨a, b, xs, ys, rfl, rfl, kd, hl, hl2, r⟩
          · exact absurd tw hs
          · have kd' : ∀ H', Same H H' → (SqL K H' a xs ∧ SqL K H' b ys) ∨ (SqT K H' a xs ∧ SqT K H' b ys) := fun H' z => by
              rcases kd with ⟨q1, q2⟩ | ⟨q1, q2⟩
              · exact .inl ⟨z.seq q1, z.seq q2⟩
              · exact .inr ⟨seqT z q1, seqT z q2⟩
            have tys : ∃ (t : Value) (b1 b2 : Bool), (∀ H', Same H H' → TyX K H' (.ref a) t ∧ TyX K H' (.ref b) t) ∧ PySem.W.kitAny K t [.type "list", .type "tuple"] = some true ∧ PySem.W.kitOne K t (.type "list") = some b1 ∧ PySem.W.kitOne K t (.type "tuple") = some b2 := by
              rcases kd with ⟨q1, q2⟩ | ⟨q1, q2⟩
              · exact ⟨.type "list", true, false, fun H' z => ⟨tyL (z.seq q1), tyL (z.seq q2)⟩, kitAny_cons (b := true) (kit_ty (by decide +kernel)) (fun z => nomatch z) (fun _ => rfl), kit_ty (by decide +kernel), kit_ty (by decide +kernel)⟩
              · exact ⟨.type "tuple", false, true, fun H' z => ⟨tyT (seqT z q1), tyT (seqT z q2)⟩, kitAny_cons (b := false) (kit_ty (by decide +kernel)) (fun _ => kitAny_cons (b := true) (kit_ty (by decide +kernel)) (fun z => nomatch z) (fun _ => rfl)) (fun z => nomatch z), kit_ty (by decide +kernel), kit_ty (by decide +kernel)⟩
            obtain ⟨t, b1, b2, ty, k0, k1, k2⟩ := tys
            have ls : ∀ H', Same H H' → (SqL K H' a xs ∨ SqT K H' a xs) ∧ (SqL K H' b ys ∨ SqT K H' b ys) := fun H' z => by
              rcases kd' H' z with ⟨q1, q2⟩ | ⟨q1, q2⟩
              · exact ⟨.inl q1, .inl q2⟩
              · exact ⟨.inr q1, .inr q2⟩
            have ixs : ∀ (H' : Hp), Same H H' → ∀ (zs : List V) (z : Addr) (i : Nat) (v : V) (Q' : VK), (SqL K H' z zs ∨ SqT K H' z zs) → zs[i]? = some v → Q' v H' → rIx K (.ref z) (.int (0 + (i : Int))) H' Q' := fun H' _ zs z i v Q' hz hv hq => by
              have e : (0 : Int) + (i : Int) = (i : Int) := Int.zero_add _
              rw [e]
              rcases hz with hz | hz
              · exact .inl ⟨z, zs, i, v, rfl, rfl, hz, atI_nat hv, hq⟩
              · exact .inr (.inl ⟨z, zs, i, v, rfl, rfl, hz, atI_nat hv, hq⟩)
            refine ⟨_, c, _, t, _, true, rfl, upd_same, lt, (ty _ sm).2, k0, _, rfl, iteT ?_⟩
            refine ⟨_, rfl, _, _, t, _, b1, rfl, .ty _, (ty _ sm).1, k1, _, rfl, _, _, t, _, b1, rfl, .ty _, (ty _ sm).2, k1, rfl, _, rfl, not_same ?_⟩
            refine ⟨_, rfl, _, _, t, _, b2, rfl, .ty _, (ty _ sm).1, k2, _, rfl, _, _, t, _, b2, rfl, .ty _, (ty _ sm).2, k2, rfl, _, rfl, not_same ?_⟩
            refine ⟨_, rfl, a, xs, rfl, (ls _ sm).1, _, rfl, b, ys, rfl, (ls _ sm).2, rfl, _, rfl, ?_⟩
            rw [hl, decide_eq_true rfl]
            refine iteT ⟨_, rfl, b, ys, rfl, (ls _ sm).2, (ys.length : Int), rfl, by omega, by omega, fun D hD => ?_⟩
            have sD := sm.trans (same_new (o := .lst []) hD)
            refine lc_range (lo := 0) (n := (ys.length : Int).toNat) (fun i H' => Same H H' ∧ H D = none ∧ H' D = some (.lst ((List.replicate i true).map V.bl))) ⟨sD, sm.free hD, upd_same⟩ (fun i H' hi hP => ?_) (fun H' hP => ?_)
            · obtain ⟨s1, nD, eD⟩ := hP
              have hi' : i < ys.length := by omega
              have hx : xs[i]? = some (xs[i]'(by omega)) := List.getElem?_eq_getElem (by omega)
              have hy : ys[i]? = some ys[i] := List.getElem?_eq_getElem hi'
              refine ⟨rfl, yes_if ?_⟩
              refine ⟨_, rfl, _, rfl, ixs H' s1 xs a i _ _ (ls _ s1).1 hx ⟨_, rfl, _, rfl, ixs H' s1 ys b i _ _ (ls _ s1).2 hy ⟨_, _, rfl, (r i _ _ hx hy).same s1, fun H2 s2 => ?_⟩⟩⟩
              refine ⟨_, s2 _ _ eD, ?_, ?_, nD, ?_⟩
              · rw [List.length_map, List.length_replicate]
                exact small1000 (by omega)
              · exact fun z o hz => by
                  rw [upd_ne (ne_of_none hz nD)]
                  exact s2 _ _ (s1 _ _ hz)
              · rw [upd_same, List.replicate_succ', List.map_append]
                rfl
            · obtain ⟨s1, nD, eD⟩ := hP
              refine ⟨D, List.replicate (ys.length : Int).toNat true, rfl, SqL.of eD, ?_⟩
              have e : (List.replicate (ys.length : Int).toNat true).all id = true := by
                rw [List.all_replicate]
                split <;> rfl
              rw [e]
              exact q _ s1
  intro n
  induction n with
  | zero => exact top 0 0 (.inl rfl)
  | succ m ih => exact top (m + 1) (m + 1) (.inr ⟨m, rfl, rfl, ih⟩)
end
open LamX
/-- keep, behind a statement -/
theorem keepN {a b : TS} {D : Ends} {rt : VK} {bk ct : L2.St → Hp → Prop} {σ : L2.St} {H : Hp} (M : L2.St → Hp → Prop) (h : ∀ σ' H', M σ' H' → b D σ' H') (k : (∀ σ' H', M σ' H' → b D σ' H') → a { D with nx := b D } σ H) : Ends.nx { nx := tSeq a b D, rt := rt, bk := bk, ct := ct } σ H := k h
/-- the bag and the tables of code objects stand -/
structure Ok (l b : Addr) (T : List (Addr × Str)) (H : Hp) : Prop where
  bag : Bag l b H
  tab : Tabs T H
theorem tabs_lst {D : Addr} {xs : List V} {T : List (Addr × Str)} {H H' : Hp} (hD : H D = some (.lst xs)) (t : Tabs T H) (g : Grow D H H') : Tabs T H' := fun p hp => by
  obtain ⟨ps, h1, h2, h3⟩ := t p hp
  refine ⟨ps, g _ _ (fun z => ?_) h1, h2, fun pos cv hc => ?_⟩
  · rw [z, hD] at h1
    cases h1
  · obtain ⟨c, e1, e2⟩ := h3 pos cv hc
    refine ⟨c, e1, g _ _ (fun z => ?_) e2⟩
    rw [z, hD] at e2
    have e3 := Option.some.inj e2
    unfold CodeO at e3
    cases e3
theorem tabs_grow {l b : Addr} {T : List (Addr × Str)} {H H' : Hp} (B : Bag l b H) (t : Tabs T H) (g : Grow b H H') : Tabs T H' := by
  obtain ⟨ns, _, _, ⟨i, j, s, n, hb, _⟩⟩ := B
  exact tabs_lst hb t g
theorem Ok.grow {l b : Addr} {T : List (Addr × Str)} {H H' : Hp} (o : Ok l b T H) (g : Grow b H H') (B : Bag l b H') : Ok l b T H' := ⟨B, tabs_grow o.bag o.tab g⟩
theorem Ok.same {l b : Addr} {T : List (Addr × Str)} {H H' : Hp} (o : Ok l b T H) (s : Same H H') : Ok l b T H' := ⟨o.bag.same s, o.tab.ext s⟩
theorem Ok.ext {l b : Addr} {T : List (Addr × Str)} {H H' : Hp} (o : Ok l b T H) (e : ExtN H H') (t : Tabs T H') : Ok l b T H' := by
  obtain ⟨ns, nl, hl, ⟨i, j, s, n, hb, r⟩⟩ := o.bag
  exact ⟨⟨ns, nl, e _ _ hl (fun _ z => nomatch z), ⟨i, j, s, n, e _ _ hb (fun _ z => nomatch z), r⟩⟩, t⟩
/-- a list that is being built stands beside the bag -/
theorem Bag.beside {l b D : Addr} {H : Hp} {o : HO} (B : Bag l b H) (n1 : D ≠ b) (n2 : D ≠ l) : Bag l b (upd H D o) := by
  obtain ⟨ns, nl, hl, ⟨i, j, s, n, hb, r⟩⟩ := B
  exact ⟨ns, nl, by rw [upd_ne n2.symm]; exact hl, ⟨i, j, s, n, by rw [upd_ne n1.symm]; exact hb, r⟩⟩
theorem Bag.neL {l b p : Addr} {H : Hp} (B : Bag l b H) (h : H p = none) : p ≠ l := fun z => by
  obtain ⟨ns, nl, hl, _⟩ := B
  rw [z, hl] at h
  cases h
def shV (t b : Int) : HO := .tup [.int t, .int b]
theorem twin_sh {K : PySem.W.Frag} {H : Hp} {p q : Addr} {t b : Int} (hp : H p = some (shV t b)) (hq : H q = some (shV t b)) : Twin K H 1 (.ref p) (.ref q) :=
  .inr ⟨p, q, _, _, rfl, rfl, .inr ⟨SqT.of hp, SqT.of hq⟩, rfl, (by show 2 ≤ 1000; decide), fun i u v hu hv => by
    have e : u = v := Option.some.inj (hu.symm.trans hv)
    subst e
    match i with
    | 0 => cases hu; exact ⟨rfl, Scal.int t⟩
    | 1 => cases hu; exact ⟨rfl, Scal.int b⟩
    | i + 2 => cases hu⟩
theorem Twin.up {K : PySem.W.Frag} {H : Hp} : ∀ {n : Nat} {x y : V}, Twin K H n x y → Twin K H (n + 1) x y
  | 0, _, _, h => .inl h
  | n + 1, _, _, h => by
    rcases h with h | ⟨a, b, xs, ys, e1, e2, q, l, m, r⟩
    · exact .inl h
    · exact .inr ⟨a, b, xs, ys, e1, e2, q, l, m, fun i u v hu hv => (r i u v hu hv).up⟩
theorem paired_at {R : V → V → Prop} : ∀ {xs ys : List V}, Paired R xs ys → ∀ (i : Nat) (u v : V), xs[i]? = some u → ys[i]? = some v → R u v
  | _, _, .nil, _, _, _, hu, _ => by cases hu
  | _, _, .cons h _, 0, _, _, hu, hv => by cases hu; cases hv; exact h
  | _, _, .cons _ r, i + 1, u, v, hu, hv => paired_at r i u v hu hv
/-- lists or tuples item by item -/
theorem twin_all {K : PySem.W.Frag} {H : Hp} {n : Nat} {a b : Addr} {xs ys : List V} (h : (SqL K H a xs ∧ SqL K H b ys) ∨ (SqT K H a xs ∧ SqT K H b ys)) (l : ys.length ≤ 1000) (r : Paired (Twin K H n) xs ys) : Twin K H (n + 1) (.ref a) (.ref b) :=
  .inr ⟨a, b, xs, ys, rfl, rfl, h, Paired.length r, l, paired_at r⟩
end Nv

set_option maxRecDepth 100000
set_option maxHeartbeats 4000000
namespace Nv
open PySem PySem.Spec PyProof.Rows L2
abbrev sNum : Stmt := topS 35
abbrev sIsSh : Stmt := topS 36
abbrev sIsLe : Stmt := topS 37
abbrev sBuilt : Stmt := topS 38
abbrev sThings : Stmt := topS 39
theorem scNum : FnScope ["thing"] ["thing"] (defScope sNum) := ⟨rfl, rfl, rfl, by decide +kernel, rfl, by decide +kernel, by decide +kernel⟩
theorem scIsSh : FnScope ["thing", "top", "bottom"] ["thing"] (defScope sIsSh) := ⟨rfl, rfl, rfl, by decide +kernel, rfl, by decide +kernel, by decide +kernel⟩
theorem scIsLe : FnScope ["thing", "sign"] ["thing"] (defScope sIsLe) := ⟨rfl, rfl, rfl, by decide +kernel, rfl, by decide +kernel, by decide +kernel⟩
theorem scBuilt : FnScope ["thing", "word"] ["thing"] (defScope sBuilt) := ⟨rfl, rfl, rfl, by decide +kernel, rfl, by decide +kernel, by decide +kernel⟩
theorem scThings : FnScope ["term"] ["term"] (defScope sThings) := ⟨rfl, rfl, rfl, by decide +kernel, rfl, by decide +kernel, by decide +kernel⟩
/-- the module's constants -/
structure Consts (K : PySem.W.Frag) (mg : Str → Option Value) (o2 : Addr) : Prop where
  parts : ∃ t, mg "MOST_PARTS" = some (.int 24 t)
  lets : ∃ t, mg "MOST_LETTERS" = some (.int 4 t)
  deep : ∃ t, mg "MOST_DEEP" = some (.int 4 t)
  signs : ∃ t, mg "MOST_SIGNS" = some (.int 6 t)
  small : ∃ t, mg "SMALL_LETTERS" = some (.str "abcdefghijklmnopqrstuvwxyz" t)
  great : ∃ t, mg "TOO_GREAT" = some (.int (10 ^ 12) t)
  two : mg "OF_TWO" = some (.ref o2)
  twoIs : ∀ H, SqT K H o2 [.str "plus", .str "less", .str "times"]
theorem ifP {p : Prop} [Decidable p] {A B : Prop} (hp : p) (h : A) : if decide p = true then A else B := by rw [decide_eq_true hp]; exact iteT h
theorem ifN {p : Prop} [Decidable p] {A B : Prop} (hp : ¬ p) (h : B) : if decide p = true then A else B := by rw [decide_eq_false hp]; exact iteF h
theorem ifNP {p : Prop} [Decidable p] {A B : Prop} (hp : p) (h : B) : if (!decide p) = true then A else B := by rw [decide_eq_true hp]; exact iteF h
theorem ifNN {p : Prop} [Decidable p] {A B : Prop} (hp : ¬ p) (h : A) : if (!decide p) = true then A else B := by rw [decide_eq_false hp]; exact iteT h
section
variable {P : Program} {w : World} {K : PySem.W.Frag} {mg : Str → Option Value} {base : Heap} {o2 : Addr}
def spNum : Sp := fun vs H Q _ => ∃ i : Int, vs = [.int i] ∧ Q (.bl true) H
theorem ok_num {f : Addr} {fd : FuncData} {k : Nat} (F : Fun K "is_number" "is_number" sNum f fd) (T : Blt mg) : FnOk P w K mg base CX0 (k + 1) f fd ["thing"] spNum := by
  refine F.ok scNum (fun vs H Q E h => ?_) (fun cdv A outer s H vs Q E hr h => ?_)
  · obtain ⟨i, rfl, _⟩ := h
    rfl
  · obtain ⟨i, rfl, q⟩ := h
    refine ⟨_, pss_one (ps_ret (pe_and (pe_callB call_isi (by rfl) T.isi (by decide +kernel) (pa_cons (pv 0) (pa_cons (pe_bltn (v := .ty "int") (by rfl) T.int (by decide +kernel) rfl) pa_nil)))
      (pe_one (pe_not (pe_callB call_isi (by rfl) T.isi (by decide +kernel) (pa_cons (pv 0) (pa_cons (pe_bltn (v := .ty "bool") (by rfl) T.bol (by decide +kernel) rfl) pa_nil))))))), ?_⟩
    refine ⟨_, rfl, .int i, _, .type "int", _, true, rfl, .ty _, .base (.int i), kit_ty (by decide +kernel), _, rfl, iteT ?_⟩
    exact ⟨_, rfl, .int i, _, .type "int", _, false, rfl, .ty _, .base (.int i), kit_ty (by decide +kernel), _, rfl, q⟩
def spIsSh : Sp := fun vs H Q _ => ∃ (p : Addr) (t b : Int), vs = [.ref p] ∧ H p = some (.tup [.int t, .int b]) ∧ ShOk t b ∧ Q (.bl true) H
theorem ok_isSh {f : Addr} {fd : FuncData} (F : Fun K "is_share" "is_share" sIsSh f fd) (T : Blt mg) (C : Consts K mg o2) (GN : C8.Cal P w K mg base 1 "is_number" spNum []) (GG : C8.Cal P w K mg base 1 "common_divisor" spPGcd []) : FnOk P w K mg base CX0 2 f fd ["thing"] spIsSh := by
  obtain ⟨tg, eg⟩ := C.great
  refine F.ok scIsSh (fun vs H Q E h => ?_) (fun cdv A outer s H vs Q E hr h => ?_)
  · obtain ⟨p, t, b, rfl, _⟩ := h
    rfl
  · obtain ⟨p, t, b, rfl, hp, ok, q⟩ := h
    refine ⟨_, pss_cons (ps_if (PW.pt (pw_or (pt_not (pt_val (pe_callB call_isi (by rfl) T.isi (by decide +kernel) (pa_cons (pv 0) (pa_cons (pe_bltn (v := .ty "tuple") (by rfl) T.tup (by decide +kernel) rfl) pa_nil)))))
          (pw_or1 (pt_cmpR op_ne (pe_callB call_len_seq (by rfl) T.len PySem.boot_len (pa_cons (pv 0) pa_nil)) pe_int (nomark _))))) (pss_one (ps_ret pe_bl)) pss_nil)
      (pss_cons (ps_asg (pv 0) (pg_tup rfl (pgs_cons (pg_name (i := 1) scIsSh.nd rfl (.inl rfl)) (pgs_cons (pg_name (i := 2) scIsSh.nd rfl (.inl rfl)) pgs_nil))))
      (pss_cons (ps_if (PW.pt (pw_or (pt_not (pt_val (C8.pe_c GN hr (by decide) (by rfl) (pa_cons (pv 1) pa_nil)))) (pw_or1 (pt_not (pt_val (C8.pe_c GN hr (by decide) (by rfl) (pa_cons (pv 2) pa_nil))))))) (pss_one (ps_ret pe_bl)) pss_nil)
      (pss_cons (ps_if (PW.pt (pw_or (pt_cmpR op_ge (pe_callB call_abs (by rfl) T.abs (by decide +kernel) (pa_cons (pv 1) pa_nil)) (pe_glob (v := .int (10 ^ 12)) (by rfl) eg ⟨_, rfl⟩) (nomark _))
          (pw_or1 (pt_not (pt_chain op_le op_lt pe_int (pv 2) (pe_glob (v := .int (10 ^ 12)) (by rfl) eg ⟨_, rfl⟩)))))) (pss_one (ps_ret pe_bl)) pss_nil)
      (pss_one (ps_ret (pe_cmpR op_eq (C8.pe_c GG hr (by decide) (by rfl) (pa_cons (pv 1) (pa_cons (pv 2) pa_nil))) pe_int (nomark _))))))), ?_⟩
    refine ⟨_, rfl, _, _, .type "tuple", _, true, rfl, .ty _, tyT (SqT.of hp), kit_ty (by decide +kernel), _, rfl, iteF ?_⟩
    refine ⟨_, rfl, p, _, rfl, .inr (SqT.of hp), rfl, _, rfl, iteF ?_⟩
    refine ⟨_, rfl, p, _, rfl, SqT.of hp, rfl, _, _, rfl, _, _, rfl, rfl, ?_⟩
    refine ⟨_, rfl, t, rfl, _, rfl, iteF ⟨_, rfl, b, rfl, _, rfl, iteF ?_⟩⟩
    have h1 : (if t < 0 then -t else t) < 10 ^ 12 := by
      have := ok.top
      split <;> omega
    refine ⟨_, rfl, t, rfl, _, _, rfl, rfl, _, rfl, ite2 (fun c => ?_) (fun _ => ?_)⟩
    · have c' := of_decide_eq_true c
      omega
    have k : (10 : Int) ^ 12 = 1000000000000 := by decide
    have h2 := ok.pos
    have h3 := ok.bot
    refine ⟨_, rfl, 1, b, rfl, rfl, _, rfl, ifP h2 ⟨b, _, rfl, rfl, _, rfl, ifNP h3 ?_⟩⟩
    refine ⟨_, rfl, _, rfl, t, b, rfl, Nat.lt_of_le_of_lt (show b.natAbs ≤ 2 ^ 45 by omega) (Nat.pow_lt_pow_right (by decide) (by decide)), rfl, ?_⟩
    rw [ok.low]
    exact q
def spIsLe : Sp := fun vs H Q _ => ∃ x : Str, vs = [.str x] ∧ Small x ∧ ∀ H', Same H H' → Q (.bl true) H'
theorem ok_isLe {f : Addr} {fd : FuncData} {k : Nat} (F : Fun K "is_letter" "is_letter" sIsLe f fd) (T : Blt mg) (C : Consts K mg o2) : FnOk P w K mg base CX0 (k + 1) f fd ["thing"] spIsLe := by
  obtain ⟨tg, eg⟩ := C.signs
  obtain ⟨ts, es⟩ := C.small
  refine F.ok scIsLe (fun vs H Q E h => ?_) (fun cdv A outer s H vs Q E hr h => ?_)
  · obtain ⟨x, rfl, _⟩ := h
    rfl
  · obtain ⟨x, rfl, ok, q⟩ := h
    refine ⟨_, pss_cons (ps_if (PW.pt (pw_or (pt_not (pt_val (pe_callB call_isi (by rfl) T.isi (by decide +kernel) (pa_cons (pv 0) (pa_cons (pe_bltn (v := .ty "str") (by rfl) T.str (by decide +kernel) rfl) pa_nil)))))
          (pw_or1 (pt_not (pt_chain op_le op_le pe_int (pe_callB call_len_str (by rfl) T.len PySem.boot_len (pa_cons (pv 0) pa_nil)) (pe_glob (v := .int 6) (by rfl) eg ⟨_, rfl⟩)))))) (pss_one (ps_ret pe_bl)) pss_nil)
      (pss_one (ps_ret (pe_callB (cr_all rfl) (by rfl) T.all (by decide +kernel) (pa_cons (pe_lc (own := [("sign", 1)]) (g := gName 1) (tt := tYes) rfl scIsLe.nd (pi_str (pv 0)) (blkOk_by (N := ["thing", "sign"]) (sc := defScope sIsLe) (by decide +kernel))
        (fun _ _ _ _ _ => pg_name (i := 1) scIsLe.nd rfl (Or.inl rfl)) (fun _ _ _ _ _ => pts_nil) (fun _ _ _ _ _ => pe_cmpR op_in_sign (pv 1) (pe_glob (v := .str "abcdefghijklmnopqrstuvwxyz") (by rfl) es ⟨_, rfl⟩) (by rfl))) pa_nil)))), ?_⟩
    have hlen : x.length ≤ sizeLine := by have := ok.hi; rw [sizeLine_eq]; omega
    have hlo := ok.lo
    have hhi := ok.hi
    refine ⟨_, rfl, _, _, .type "str", _, true, rfl, .ty _, .base (.str x), kit_ty (by decide +kernel), _, rfl, iteF ?_⟩
    refine ⟨_, rfl, x, rfl, hlen, 1, _, rfl, rfl, _, rfl, ifP (by omega) ⟨_, 6, rfl, rfl, _, rfl, ifNP (by omega) ?_⟩⟩
    refine ⟨_, rfl, _, rfl, fun D hD => ?_⟩
    refine lc_it (walk_str (z := x)) (fun i H' => Same H H' ∧ H' D = some (.lst ((List.replicate i true).map V.bl))) ⟨same_new hD, upd_same⟩ (fun _ _ _ _ => trivial) (fun i c H1 H2 hi hP hY => ?_) (fun H' hP => ?_)
    · obtain ⟨s1, eD⟩ := hP
      obtain ⟨rfl, c0, hc0, rfl⟩ := hY
      have hc1 : c0 ∈ x.cps.toList := by
        rw [← Array.getElem?_toList] at hc0
        exact List.mem_of_getElem? hc0
      have hsz : x.cps.size = x.length := rfl
      refine ⟨rfl, yes_if ⟨_, rfl, c0, _, rfl, rfl, _, eD, ?_, ?_, ?_⟩⟩
      · rw [List.length_map, List.length_replicate]
        exact small1000 (by omega)
      · exact fun z o hz => by
          rw [upd_ne (ne_of_none hz hD)]
          exact s1 _ _ hz
      · rw [upd_same, decide_eq_true (ok.all c0 hc1), List.replicate_succ', List.map_append]
        rfl
    · obtain ⟨s1, eD⟩ := hP
      refine ⟨D, _, rfl, SqL.of eD, ?_⟩
      rw [show (List.replicate x.cps.size true).all id = true by simp]
      exact q _ s1
/-- is_built, of a part -/
def spBuilt : Sp := fun vs H Q _ => ∃ T : AT, vs = [T.v] ∧ T.In H ∧ T.Ok ∧ ∀ H', Same H H' → Q (.bl true) H'
theorem ok_built {f : Addr} {fd : FuncData} (F : Fun K "is_built" "is_built" sBuilt f fd) (T : Blt mg) (C : Consts K mg o2) (GS : C8.Cal P w K mg base 2 "is_share" spIsSh []) (GL : C8.Cal P w K mg base 1 "is_letter" spIsLe []) : FnOk P w K mg base CX0 3 f fd ["thing"] spBuilt := by
  refine F.ok scBuilt (fun vs H Q E h => ?_) (fun cdv A outer s H vs Q E hr h => ?_)
  · obtain ⟨T, rfl, _⟩ := h
    rfl
  · obtain ⟨Z, rfl, hin, ok, q⟩ := h
    refine ⟨_, pss_cons (ps_if (PW.pt (pw_or (pt_not (pt_val (pe_callB call_isi (by rfl) T.isi (by decide +kernel) (pa_cons (pv 0) (pa_cons (pe_bltn (v := .ty "tuple") (by rfl) T.tup (by decide +kernel) rfl) pa_nil)))))
          (pw_or1 (pt_cmpR op_lt (pe_callB call_len_seq (by rfl) T.len PySem.boot_len (pa_cons (pv 0) pa_nil)) pe_int (nomark _))))) (pss_one (ps_ret pe_bl)) pss_nil)
      (pss_cons (ps_set (i := 1) scBuilt.nd rfl (.inl rfl) (pe_ix ix_tup (pv 0) pe_int (fun _ _ => rfl)))
      (pss_cons (ps_if (pt_cmpR op_in_seq (pv 1) (pe_glob (v := .ref o2) (by rfl) C.two rfl) (by rfl)) (pss_one (ps_ret (pe_cmpR op_eq (pe_callB call_len_seq (by rfl) T.len PySem.boot_len (pa_cons (pv 0) pa_nil)) pe_int (nomark _)))) pss_nil)
      (pss_cons (ps_if (pt_cmpR op_ne (pe_callB call_len_seq (by rfl) T.len PySem.boot_len (pa_cons (pv 0) pa_nil)) pe_int (nomark _)) (pss_one (ps_ret pe_bl)) pss_nil)
      (pss_cons (ps_if (pt_cmpR op_eq (pv 1) pe_str (nomark _)) (pss_one (ps_ret (C8.pe_c GS hr (by decide) (by rfl) (pa_cons (pe_ix ix_tup (pv 0) pe_int (fun _ _ => rfl)) pa_nil)))) pss_nil)
      (pss_cons (ps_if (pt_cmpR op_eq (pv 1) pe_str (nomark _)) (pss_one (ps_ret (C8.pe_c GL hr (by decide) (by rfl) (pa_cons (pe_ix ix_tup (pv 0) pe_int (fun _ _ => rfl)) pa_nil)))) pss_nil)
      (pss_one (ps_ret (pe_cmpR op_eq (pv 1) pe_str (nomark _))))))))), ?_⟩
    have hp := hin.tup
    refine ⟨_, rfl, _, _, .type "tuple", _, true, rfl, .ty _, tyT (SqT.of hp), kit_ty (by decide +kernel), _, rfl, iteF ?_⟩
    cases Z with
    | sh p qq t b =>
      refine ⟨_, rfl, p, _, rfl, .inr (SqT.of hp), _, _, rfl, rfl, _, rfl, iteF ?_⟩
      refine ⟨_, rfl, p, _, 0, _, rfl, rfl, SqT.of hp, atI_nat (j := 0) rfl, ?_⟩
      refine ⟨_, rfl, o2, _, rfl, .inr (C.twoIs H), rfl, rfl, _, rfl, iteF ?_⟩
      refine ⟨_, rfl, p, _, rfl, .inr (SqT.of hp), rfl, _, rfl, iteF ?_⟩
      refine ⟨_, rfl, rfl, _, rfl, iteT ?_⟩
      exact ⟨_, rfl, p, _, 1, _, rfl, rfl, SqT.of hp, atI_nat (j := 1) rfl, qq, t, b, rfl, hin.2, ok, q _ (fun _ _ h => h)⟩
    | le p x =>
      refine ⟨_, rfl, p, _, rfl, .inr (SqT.of hp), _, _, rfl, rfl, _, rfl, iteF ?_⟩
      refine ⟨_, rfl, p, _, 0, _, rfl, rfl, SqT.of hp, atI_nat (j := 0) rfl, ?_⟩
      refine ⟨_, rfl, o2, _, rfl, .inr (C.twoIs H), rfl, rfl, _, rfl, iteF ?_⟩
      refine ⟨_, rfl, p, _, rfl, .inr (SqT.of hp), rfl, _, rfl, iteF ?_⟩
      refine ⟨_, rfl, rfl, _, rfl, iteF ?_⟩
      refine ⟨_, rfl, rfl, _, rfl, iteT ?_⟩
      exact ⟨_, rfl, p, _, 1, _, rfl, rfl, SqT.of hp, atI_nat (j := 1) rfl, x, rfl, ok, q⟩
    | two p o A B =>
      refine ⟨_, rfl, p, _, rfl, .inr (SqT.of hp), _, _, rfl, rfl, _, rfl, iteF ?_⟩
      refine ⟨_, rfl, p, _, 0, _, rfl, rfl, SqT.of hp, atI_nat (j := 0) rfl, ?_⟩
      refine ⟨_, rfl, o2, _, rfl, .inr (C.twoIs H), rfl, rfl, _, rfl, ?_⟩
      rw [show inV (V.str (AT.two p o A B).word) [V.str (Str.ofString "plus"), V.str (Str.ofString "less"), V.str (Str.ofString "times")] = true by cases o <;> rfl]
      refine iteT ?_
      exact ⟨_, rfl, p, _, rfl, .inr (SqT.of hp), rfl, q _ (fun _ _ h => h)⟩
    | un p A =>
      refine ⟨_, rfl, p, _, rfl, .inr (SqT.of hp), _, _, rfl, rfl, _, rfl, iteF ?_⟩
      refine ⟨_, rfl, p, _, 0, _, rfl, rfl, SqT.of hp, atI_nat (j := 0) rfl, ?_⟩
      refine ⟨_, rfl, o2, _, rfl, .inr (C.twoIs H), rfl, rfl, _, rfl, iteF ?_⟩
      refine ⟨_, rfl, p, _, rfl, .inr (SqT.of hp), rfl, _, rfl, iteF ?_⟩
      refine ⟨_, rfl, rfl, _, rfl, iteF ?_⟩
      refine ⟨_, rfl, rfl, _, rfl, iteF ?_⟩
      exact ⟨_, rfl, rfl, q _ (fun _ _ h => h)⟩
/-- things_in: the parts right in a part, in a tuple -/
def spThings (K : PySem.W.Frag) : Sp := fun vs H Q _ => ∃ T : AT, vs = [T.v] ∧ T.In H ∧ ∀ (p : Addr) (H' : Hp), Same H H' → SqT K H' p (T.kids.map AT.v) → Q (.ref p) H'
theorem ok_things {f : Addr} {fd : FuncData} {k : Nat} (F : Fun K "things_in" "things_in" sThings f fd) : FnOk P w K mg base CX0 (k + 1) f fd ["term"] (spThings K) := by
  refine F.ok scThings (fun vs H Q E h => ?_) (fun cdv A outer s H vs Q E hr h => ?_)
  · obtain ⟨T, rfl, _⟩ := h
    rfl
  · obtain ⟨Z, rfl, hin, q⟩ := h
    refine ⟨_, pss_cons (ps_if (PW.pt (pw_or (pt_cmpR op_eq (pe_ix ix_tup (pv 0) pe_int (fun _ _ => rfl)) pe_str (nomark _)) (pw_or1 (pt_cmpR op_eq (pe_ix ix_tup (pv 0) pe_int (fun _ _ => rfl)) pe_str (nomark _)))))
        (pss_one (ps_ret (pe_tup pa_nil))) pss_nil)
      (pss_one (ps_ret (pe_slice sl_tup (pv 0) (po_some pe_int) po_none))), ?_⟩
    have hp := hin.tup
    have none_ : ∀ {H' : Hp}, Z.kids = [] → Same H H' → ∀ p, H' p = some (.tup []) → Q (.ref p) H' := fun e sm p ep => q p _ sm (by rw [e]; exact SqT.of ep)
    cases Z with
    | sh p qq t b =>
      refine ⟨_, rfl, p, _, 0, _, rfl, rfl, SqT.of hp, atI_nat (j := 0) rfl, rfl, _, rfl, iteT (iteT ?_)⟩
      exact ⟨Nat.zero_le _, fun e ne => none_ rfl (same_new ne) e upd_same⟩
    | le p x =>
      refine ⟨_, rfl, p, _, 0, _, rfl, rfl, SqT.of hp, atI_nat (j := 0) rfl, rfl, _, rfl, iteF ?_⟩
      refine ⟨_, rfl, p, _, 0, _, rfl, rfl, SqT.of hp, atI_nat (j := 0) rfl, rfl, _, rfl, iteT ?_⟩
      exact ⟨Nat.zero_le _, fun e ne => none_ rfl (same_new ne) e upd_same⟩
    | two p o A B =>
      have nw : ∀ x : Str, o.word = x → x ≠ "share" ∧ x ≠ "letter" := fun x e => by subst e; cases o <;> decide +kernel
      obtain ⟨n1, n2⟩ := nw _ rfl
      refine ⟨_, rfl, p, _, 0, _, rfl, rfl, SqT.of hp, atI_nat (j := 0) rfl, rfl, _, rfl, ifN (fun z => n1 (V.str.inj z)) ?_⟩
      refine ⟨_, rfl, p, _, 0, _, rfl, rfl, SqT.of hp, atI_nat (j := 0) rfl, rfl, _, rfl, ifN (fun z => n2 (V.str.inj z)) ?_⟩
      refine ⟨_, rfl, 1, rfl, p, _, rfl, SqT.of hp, (fun z => by cases z.1), fun e ne => q e _ (same_new ne) (SqT.of ?_)⟩
      rw [upd_same]
      rfl
    | un p A =>
      refine ⟨_, rfl, p, _, 0, _, rfl, rfl, SqT.of hp, atI_nat (j := 0) rfl, rfl, _, rfl, iteF ?_⟩
      refine ⟨_, rfl, p, _, 0, _, rfl, rfl, SqT.of hp, atI_nat (j := 0) rfl, rfl, _, rfl, iteF ?_⟩
      refine ⟨_, rfl, 1, rfl, p, _, rfl, SqT.of hp, (fun z => by cases z.1), fun e ne => q e _ (same_new ne) (SqT.of ?_)⟩
      rw [upd_same]
      rfl
end
end Nv

set_option maxRecDepth 100000
set_option maxHeartbeats 4000000
namespace Nv
open PySem PySem.Spec PyProof.Rows L2
abbrev sFlaw : Stmt := topS 40
abbrev sNeedT : Stmt := topS 41
abbrev nFlaw : List Str := ["term", "waiting", "many", "deepest", "found", "thing", "deep", "inner"]
theorem scFlaw : FnScope nFlaw ["term"] (defScope sFlaw) := ⟨rfl, rfl, rfl, by decide +kernel, rfl, by decide +kernel, by decide +kernel⟩
theorem scNeedT : FnScope ["term", "flaw"] ["term"] (defScope sNeedT) := ⟨rfl, rfl, rfl, by decide +kernel, rfl, by decide +kernel, by decide +kernel⟩
/-- pigeons -/
theorem nodup_le {α : Type} [DecidableEq α] : ∀ {l D : List α}, l.Nodup → (∀ x ∈ l, x ∈ D) → l.length ≤ D.length
  | [], _, _, _ => Nat.zero_le _
  | x :: l, D, hn, hs => by
    obtain ⟨h1, h2⟩ := List.nodup_cons.mp hn
    have hx : x ∈ D := hs x List.mem_cons_self
    have ih := nodup_le (D := D.erase x) h2 fun y hy => (List.mem_erase_of_ne (fun e : y = x => h1 (by rw [← e]; exact hy))).2 (hs y (List.mem_cons_of_mem _ hy))
    have e := List.length_erase_of_mem hx
    have hp : 0 < D.length := List.length_pos_of_mem hx
    rw [List.length_cons]
    omega
/-- a dict whose keys are among some texts -/
structure KeysIn (L : List Str) (kvs : List (Key × V)) : Prop where
  nd : (kvs.map (·.1)).Nodup
  sub : ∀ k ∈ kvs.map (·.1), k ∈ L.map Sum.inr
theorem KeysIn.len {L : List Str} {kvs : List (Key × V)} (h : KeysIn L kvs) : kvs.length ≤ L.length := by
  have := nodup_le h.nd h.sub
  rwa [List.length_map, List.length_map] at this
theorem KeysIn.put {L : List Str} {kvs : List (Key × V)} {x : Str} {v : V} (h : KeysIn L kvs) (hx : x ∈ L) : KeysIn L (putK kvs (Sum.inr x) v) := by
  unfold putK
  split
  · have e : (kvs.map fun kv => if kv.1 = Sum.inr x then (kv.1, v) else kv).map (·.1) = kvs.map (·.1) := by
      rw [List.map_map]
      refine List.map_congr_left fun kv _ => ?_
      show (if kv.1 = Sum.inr x then (kv.1, v) else kv).1 = kv.1
      split <;> rfl
    exact ⟨by rw [e]; exact h.nd, by rw [e]; exact h.sub⟩
  · rename_i c
    have hn : (Sum.inr x : Key) ∉ kvs.map (·.1) := fun z => by
      obtain ⟨kv, hkv, e⟩ := List.mem_map.mp z
      exact c (List.any_eq_true.mpr ⟨kv, hkv, decide_eq_true e⟩)
    refine ⟨?_, fun k hk => ?_⟩
    · rw [List.map_append]
      exact List.nodup_append.mpr ⟨h.nd, by simp, fun a ha b hb => fun z => hn (by have e : b = Sum.inr x := List.mem_singleton.mp hb; rw [← e, ← z]; exact ha)⟩
    · rw [List.map_append] at hk
      rcases List.mem_append.mp hk with z | z
      · exact h.sub k z
      · rw [List.mem_singleton.mp z]
        exact List.mem_map_of_mem hx
theorem same_upd {H H' : Hp} {p : Addr} {o : HO} (s : Same H H') (h : H p = none) : Same H (upd H' p o) := fun a x e => by
  rw [upd_ne (ne_of_none e h)]
  exact s a x e
def WaitV (H : Hp) (v : V) (x : AT × Nat) : Prop := ∃ p, v = .ref p ∧ H p = some (.tup [x.1.v, .int (x.2 : Int)])
theorem WaitV.keep {H H' : Hp} (k : TupKeep H H') {v : V} {x : AT × Nat} (h : WaitV H v x) : WaitV H' v x := by
  obtain ⟨p, e, hp⟩ := h
  exact ⟨p, e, k _ _ hp⟩
theorem Paired.imp' {α β : Type} {R S : α → β → Prop} (h : ∀ a b, R a b → S a b) : ∀ {xs : List α} {ys : List β}, Paired R xs ys → Paired S xs ys
  | _, _, .nil => .nil
  | _, _, .cons a r => .cons (h _ _ a) (Paired.imp' h r)
theorem Paired.snoc' {α β : Type} {R : α → β → Prop} {x : α} {y : β} (h : R x y) : ∀ {xs : List α} {ys : List β}, Paired R xs ys → Paired R (xs ++ [x]) (ys ++ [y])
  | _, _, .nil => .cons h .nil
  | _, _, .cons a r => .cons a (Paired.snoc' h r)
/-- the last ones -/
theorem Paired.last {α β : Type} {R : α → β → Prop} : ∀ {ys : List β} {y : β} {xs : List α}, Paired R xs (ys ++ [y]) → ∃ (zs : List α) (z : α), xs = zs ++ [z] ∧ Paired R zs ys ∧ R z y
  | [], y, _, .cons h .nil => ⟨[], _, rfl, .nil, h⟩
  | _ :: ys, y, _, .cons h r => by
    obtain ⟨zs, z, e, h1, h2⟩ := Paired.last r
    exact ⟨_ :: zs, z, by rw [e]; rfl, .cons h h1, h2⟩
theorem gN {i : Nat} {v : V} {σ : L2.St} {H : Hp} {k : L2.St → Hp → Prop} (h : k (σ.set i (some v)) H) : gName i v σ H k := h
theorem nxS {a b : TS} {D : Ends} {rt : VK} {bk ct : L2.St → Hp → Prop} {σ : L2.St} {H : Hp} (h : a { D with nx := b D } σ H) : Ends.nx { nx := tSeq a b D, rt := rt, bk := bk, ct := ct } σ H := h
theorem seqT_upd {K : PySem.W.Frag} {H : Hp} {W a : Addr} {ys xs : List V} {o : HO} (h : H W = some (.lst ys)) (q : SqT K H a xs) : SqT K (upd H W o) a xs := by
  rcases q with (q | ⟨z, q⟩) | q
  · exact .inl (.inl (by rw [upd_ne (fun z => by rw [z, h] at q; cases q)]; exact q))
  · exact .inl (.inr ⟨z, by rw [upd_ne (fun z => by rw [z, h] at q; cases q)]; exact q⟩)
  · exact .inr q
def sumC (ws : List (AT × Nat)) : Nat := (ws.map fun x => x.1.count).sum
theorem sumC_snoc (ws : List (AT × Nat)) (x : AT × Nat) : sumC (ws ++ [x]) = sumC ws + x.1.count := by simp [sumC]
theorem sumC_app (ws us : List (AT × Nat)) : sumC (ws ++ us) = sumC ws + sumC us := by simp [sumC]
theorem sumC_len : ∀ ws : List (AT × Nat), ws.length ≤ sumC ws
  | [] => Nat.zero_le _
  | x :: r => by
    have := x.1.count_pos
    have := sumC_len r
    show r.length + 1 ≤ x.1.count + sumC r
    omega
theorem sumC_kids (T : AT) (d : Nat) : sumC (T.kids.map fun B => (B, d)) + 1 = T.count := by
  rw [T.count_eq, sumC, List.map_map]
  show (T.kids.map AT.count).sum + 1 = _
  omega
/-- how deep the parts in a part lie -/
def AT.step : AT → Nat
  | .un _ _ => 1
  | _ => 0
theorem AT.kid_deep : ∀ {T B : AT}, B ∈ T.kids → T.step + B.deep ≤ T.deep
  | .sh _ _ _ _, _, h => nomatch h
  | .le _ _, _, h => nomatch h
  | .two _ _ A C, B, h => by
    show 0 + B.deep ≤ max A.deep C.deep
    rcases List.mem_cons.mp h with e | e
    · rw [e]; omega
    · rw [List.mem_singleton.mp e]; omega
  | .un _ A, B, h => by
    show 1 + B.deep ≤ A.deep + 1
    rw [List.mem_singleton.mp h]
    omega
theorem AT.step_deep : ∀ T : AT, T.step ≤ T.deep
  | .sh _ _ _ _ => Nat.le_refl _
  | .le _ _ => Nat.le_refl _
  | .two _ _ _ _ => Nat.zero_le _
  | .un _ A => by show 1 ≤ A.deep + 1; omega
theorem AT.kid_lets : ∀ {T B : AT}, B ∈ T.kids → ∀ x ∈ B.lets, x ∈ T.lets
  | .sh _ _ _ _, _, h => nomatch h
  | .le _ _, _, h => nomatch h
  | .two _ _ A C, B, h => fun x hx => by
    show x ∈ A.lets ++ C.lets
    rcases List.mem_cons.mp h with e | e
    · exact List.mem_append_left _ (e ▸ hx)
    · exact List.mem_append_right _ ((List.mem_singleton.mp e) ▸ hx)
  | .un _ A, B, h => fun x hx => (List.mem_singleton.mp h) ▸ hx
theorem ne_undo1 : (Str.ofString "share") ≠ Str.ofString "undo" := by decide +kernel
theorem ne_undo2 : (Str.ofString "letter") ≠ Str.ofString "undo" := by decide +kernel
theorem ne_undo3 (o : Op) : o.word ≠ Str.ofString "undo" := by cases o <;> decide +kernel
theorem ne_let1 : (Str.ofString "share") ≠ Str.ofString "letter" := by decide +kernel
theorem ne_let2 : (Str.ofString "undo") ≠ Str.ofString "letter" := by decide +kernel
theorem ne_let3 (o : Op) : o.word ≠ Str.ofString "letter" := by cases o <;> decide +kernel
theorem word_undo : ∀ T : AT, (V.str T.word = V.str (Str.ofString "undo")) ↔ T.step = 1
  | .sh _ _ _ _ => ⟨fun z => absurd (V.str.inj z) ne_undo1, fun z => nomatch z⟩
  | .le _ _ => ⟨fun z => absurd (V.str.inj z) ne_undo2, fun z => nomatch z⟩
  | .two _ o _ _ => ⟨fun z => absurd (V.str.inj z) (ne_undo3 o), fun z => nomatch z⟩
  | .un _ _ => ⟨fun _ => rfl, fun _ => rfl⟩
/-- a letter, and the others -/
theorem word_letter : ∀ T : AT, (∃ p x, T = .le p x) ∨ V.str T.word ≠ V.str (Str.ofString "letter")
  | .sh _ _ _ _ => .inr fun z => ne_let1 (V.str.inj z)
  | .le p x => .inl ⟨p, x, rfl⟩
  | .two _ o _ _ => .inr fun z => ne_let3 o (V.str.inj z)
  | .un _ _ => .inr fun z => ne_let2 (V.str.inj z)
theorem AT.step_le : ∀ T : AT, T.step = 0 ∨ T.step = 1
  | .sh _ _ _ _ => .inl rfl
  | .le _ _ => .inl rfl
  | .two _ _ _ _ => .inl rfl
  | .un _ _ => .inr rfl
/-- well-built reckonings: the letters are among L, four at most -/
structure Fair (T : AT) (L : List Str) : Prop where
  ok : T.Ok
  cnt : T.count ≤ 100
  few : L.length ≤ 4
  lets : ∀ x ∈ T.lets, x ∈ L
/-- what is asked: a reckoning, or a tuple of a word alone -/
inductive TH where
  | ok (A : AT)
  | bad (p : Addr) (x : Str)
def TH.v : TH → V
  | .ok A => A.v
  | .bad p _ => .ref p
def TH.In (H : Hp) : TH → Prop
  | .ok A => A.In H
  | .bad p x => H p = some (.tup [.str x])
def TH.Fine (L : List Str) : TH → Prop
  | .ok A => Fair A L
  | .bad _ _ => True
theorem TH.In.keep {H H' : Hp} (k : TupKeep H H') : ∀ {T : TH}, T.In H → T.In H'
  | .ok _, h => AT.In.keep k h
  | .bad _ _, h => k _ _ h
/-- the flaw of a reckoning -/
def AT.flaw (A : AT) : Option Str := if 24 < A.count then some (Str.ofString "many") else if 4 < A.deep then some (Str.ofString "deep") else none
def TH.flaw : TH → Option Str
  | .ok A => A.flaw
  | .bad _ _ => some (Str.ofString "form")
def flawV : Option Str → V
  | none => .non
  | some x => .str x
def mxD (ws : List (AT × Nat)) : Nat := (ws.map fun x => x.2 + x.1.deep).foldr max 0
theorem mxD_cons (x : AT × Nat) (ws : List (AT × Nat)) : mxD (x :: ws) = max (x.2 + x.1.deep) (mxD ws) := rfl
theorem mxD_app : ∀ (ws us : List (AT × Nat)), mxD (ws ++ us) = max (mxD ws) (mxD us)
  | [], us => by show mxD us = max 0 (mxD us); omega
  | x :: ws, us => by
    show max (x.2 + x.1.deep) (mxD (ws ++ us)) = max (max (x.2 + x.1.deep) (mxD ws)) (mxD us)
    rw [mxD_app ws us]
    omega
theorem mxD_kids (d : Nat) : ∀ A : AT, d + A.deep = max (d + A.step) (mxD (A.kids.map fun B => (B, d + A.step)))
  | .sh _ _ _ _ => by show d + 0 = max (d + 0) 0; omega
  | .le _ _ => by show d + 0 = max (d + 0) 0; omega
  | .two _ _ A B => by
    show d + max A.deep B.deep = max (d + 0) (max (d + 0 + A.deep) (max (d + 0 + B.deep) 0))
    omega
  | .un _ A => by
    show d + (A.deep + 1) = max (d + 1) (max (d + 1 + A.deep) 0)
    omega
/-- is_built, of a tuple of a word alone too -/
def spBuilt2 : Sp := fun vs H Q _ => (∃ T : AT, vs = [T.v] ∧ T.In H ∧ T.Ok ∧ ∀ H', Same H H' → Q (.bl true) H') ∨ ∃ (p : Addr) (x : Str), vs = [.ref p] ∧ H p = some (.tup [.str x]) ∧ Q (.bl false) H
/-- a part that waits -/
structure WaitOk (H : Hp) (L : List Str) (x : AT × Nat) : Prop where
  inn : x.1.In H
  ok : x.1.Ok
  lets : ∀ y ∈ x.1.lets, y ∈ L
def mFlaw (σ : L2.St) (_ : Hp) : Nat := match σ with
  | [_, _, some (.int m), _, _, _, _, _] => 100 - m.toNat
  | _ => 0
section
variable {P : Program} {w : World} {K : PySem.W.Frag} {mg : Str → Option Value} {base : Heap} {o2 : Addr}
theorem ok_built2 {f : Addr} {fd : FuncData} (F : Fun K "is_built" "is_built" sBuilt f fd) (T : Blt mg) (C : Consts K mg o2) (GS : C8.Cal P w K mg base 2 "is_share" spIsSh []) (GL : C8.Cal P w K mg base 1 "is_letter" spIsLe []) : FnOk P w K mg base CX0 3 f fd ["thing"] spBuilt2 := by
  refine F.ok scBuilt (fun vs H Q E h => ?_) (fun cdv A outer s H vs Q E hr h => ?_)
  · rcases h with ⟨T, rfl, _⟩ | ⟨p, x, rfl, _⟩ <;> rfl
  · refine ⟨_, pss_cons (ps_if (PW.pt (pw_or (pt_not (pt_val (pe_callB call_isi (by rfl) T.isi (by decide +kernel) (pa_cons (pv 0) (pa_cons (pe_bltn (v := .ty "tuple") (by rfl) T.tup (by decide +kernel) rfl) pa_nil)))))
          (pw_or1 (pt_cmpR op_lt (pe_callB call_len_seq (by rfl) T.len PySem.boot_len (pa_cons (pv 0) pa_nil)) pe_int (nomark _))))) (pss_one (ps_ret pe_bl)) pss_nil)
      (pss_cons (ps_set (i := 1) scBuilt.nd rfl (.inl rfl) (pe_ix ix_tup (pv 0) pe_int (fun _ _ => rfl)))
      (pss_cons (ps_if (pt_cmpR op_in_seq (pv 1) (pe_glob (v := .ref o2) (by rfl) C.two rfl) (by rfl)) (pss_one (ps_ret (pe_cmpR op_eq (pe_callB call_len_seq (by rfl) T.len PySem.boot_len (pa_cons (pv 0) pa_nil)) pe_int (nomark _)))) pss_nil)
      (pss_cons (ps_if (pt_cmpR op_ne (pe_callB call_len_seq (by rfl) T.len PySem.boot_len (pa_cons (pv 0) pa_nil)) pe_int (nomark _)) (pss_one (ps_ret pe_bl)) pss_nil)
      (pss_cons (ps_if (pt_cmpR op_eq (pv 1) pe_str (nomark _)) (pss_one (ps_ret (C8.pe_c GS hr (by decide) (by rfl) (pa_cons (pe_ix ix_tup (pv 0) pe_int (fun _ _ => rfl)) pa_nil)))) pss_nil)
      (pss_cons (ps_if (pt_cmpR op_eq (pv 1) pe_str (nomark _)) (pss_one (ps_ret (C8.pe_c GL hr (by decide) (by rfl) (pa_cons (pe_ix ix_tup (pv 0) pe_int (fun _ _ => rfl)) pa_nil)))) pss_nil)
      (pss_one (ps_ret (pe_cmpR op_eq (pv 1) pe_str (nomark _))))))))), ?_⟩
    rcases h with ⟨Z, rfl, hin, ok, q⟩ | ⟨p, x, rfl, hp, q⟩
    case inr =>
      refine ⟨_, rfl, _, _, .type "tuple", _, true, rfl, .ty _, tyT (SqT.of hp), kit_ty (by decide +kernel), _, rfl, iteF ?_⟩
      refine ⟨_, rfl, p, _, rfl, .inr (SqT.of hp), _, _, rfl, rfl, _, rfl, iteT ?_⟩
      exact q
    have hp := hin.tup
    refine ⟨_, rfl, _, _, .type "tuple", _, true, rfl, .ty _, tyT (SqT.of hp), kit_ty (by decide +kernel), _, rfl, iteF ?_⟩
    cases Z with
    | sh p qq t b =>
      refine ⟨_, rfl, p, _, rfl, .inr (SqT.of hp), _, _, rfl, rfl, _, rfl, iteF ?_⟩
      refine ⟨_, rfl, p, _, 0, _, rfl, rfl, SqT.of hp, atI_nat (j := 0) rfl, ?_⟩
      refine ⟨_, rfl, o2, _, rfl, .inr (C.twoIs H), rfl, rfl, _, rfl, iteF ?_⟩
      refine ⟨_, rfl, p, _, rfl, .inr (SqT.of hp), rfl, _, rfl, iteF ?_⟩
      refine ⟨_, rfl, rfl, _, rfl, iteT ?_⟩
      exact ⟨_, rfl, p, _, 1, _, rfl, rfl, SqT.of hp, atI_nat (j := 1) rfl, qq, t, b, rfl, hin.2, ok, q _ (fun _ _ h => h)⟩
    | le p x =>
      refine ⟨_, rfl, p, _, rfl, .inr (SqT.of hp), _, _, rfl, rfl, _, rfl, iteF ?_⟩
      refine ⟨_, rfl, p, _, 0, _, rfl, rfl, SqT.of hp, atI_nat (j := 0) rfl, ?_⟩
      refine ⟨_, rfl, o2, _, rfl, .inr (C.twoIs H), rfl, rfl, _, rfl, iteF ?_⟩
      refine ⟨_, rfl, p, _, rfl, .inr (SqT.of hp), rfl, _, rfl, iteF ?_⟩
      refine ⟨_, rfl, rfl, _, rfl, iteF ?_⟩
      refine ⟨_, rfl, rfl, _, rfl, iteT ?_⟩
      exact ⟨_, rfl, p, _, 1, _, rfl, rfl, SqT.of hp, atI_nat (j := 1) rfl, x, rfl, ok, q⟩
    | two p o A B =>
      refine ⟨_, rfl, p, _, rfl, .inr (SqT.of hp), _, _, rfl, rfl, _, rfl, iteF ?_⟩
      refine ⟨_, rfl, p, _, 0, _, rfl, rfl, SqT.of hp, atI_nat (j := 0) rfl, ?_⟩
      refine ⟨_, rfl, o2, _, rfl, .inr (C.twoIs H), rfl, rfl, _, rfl, ?_⟩
      rw [show inV (V.str (AT.two p o A B).word) [V.str (Str.ofString "plus"), V.str (Str.ofString "less"), V.str (Str.ofString "times")] = true by cases o <;> rfl]
      refine iteT ?_
      exact ⟨_, rfl, p, _, rfl, .inr (SqT.of hp), rfl, q _ (fun _ _ h => h)⟩
    | un p A =>
      refine ⟨_, rfl, p, _, rfl, .inr (SqT.of hp), _, _, rfl, rfl, _, rfl, iteF ?_⟩
      refine ⟨_, rfl, p, _, 0, _, rfl, rfl, SqT.of hp, atI_nat (j := 0) rfl, ?_⟩
      refine ⟨_, rfl, o2, _, rfl, .inr (C.twoIs H), rfl, rfl, _, rfl, iteF ?_⟩
      refine ⟨_, rfl, p, _, rfl, .inr (SqT.of hp), rfl, _, rfl, iteF ?_⟩
      refine ⟨_, rfl, rfl, _, rfl, iteF ?_⟩
      refine ⟨_, rfl, rfl, _, rfl, iteF ?_⟩
      exact ⟨_, rfl, rfl, q _ (fun _ _ h => h)⟩
/-- what stands at each turn -/
def FlawAt (H : Hp) (T : AT) (L : List Str) (σ : L2.St) (H' : Hp) : Prop := ∃ (W Fd : Addr) (vs : List V) (ws : List (AT × Nat)) (m d : Nat) (kvs : List (Key × V)) (y5 y6 y7 : Option V),
  σ = [some T.v, some (.ref W), some (.int (m : Int)), some (.int (d : Int)), some (.ref Fd), y5, y6, y7] ∧ Same H H' ∧ H W = none ∧ H Fd = none ∧ H' W = some (.lst vs) ∧ Paired (WaitV H') vs ws ∧ (∀ x ∈ ws, WaitOk H' L x) ∧ H' Fd = some (.dK kvs) ∧ KeysIn L kvs ∧ max d (mxD ws) = T.deep ∧ m + sumC ws = T.count
def spFlaw : Sp := fun vs H Q _ => ∃ (T : TH) (L : List Str), vs = [T.v] ∧ T.In H ∧ T.Fine L ∧ ∀ H', Same H H' → Q (flawV T.flaw) H'
theorem ok_flaw {f : Addr} {fd : FuncData} (F : Fun K "flaw_of" "flaw_of" sFlaw f fd) (T : Blt mg) (mx : mg "max" = none) (C : Consts K mg o2) (GB : C8.Cal P w K mg base 3 "is_built" spBuilt2 []) (GT : C8.Cal P w K mg base 1 "things_in" (spThings K) []) :
    FnOk P w K mg base CX0 4 f fd ["term"] spFlaw := by
  obtain ⟨t1, e1⟩ := C.parts
  obtain ⟨t2, e2⟩ := C.lets
  obtain ⟨t3, e3⟩ := C.deep
  refine F.ok scFlaw (fun vs H Q E h => ?_) (fun cdv A outer s H vs Q E hr h => ?_)
  · obtain ⟨T, L, rfl, _⟩ := h
    rfl
  · obtain ⟨Y, L, rfl, hin, gd, q⟩ := h
    refine ⟨_, pss_cons (ps_set (i := 1) scFlaw.nd rfl (.inl rfl) (pe_lst (pa_cons (pe_tup (pa_cons (pv 0) (pa_cons pe_int pa_nil))) pa_nil)))
      (pss_cons (ps_set (i := 2) scFlaw.nd rfl (.inl rfl) pe_int)
      (pss_cons (ps_set (i := 3) scFlaw.nd rfl (.inl rfl) pe_int)
      (pss_cons (ps_set (i := 4) scFlaw.nd rfl (.inl rfl) pe_dnewK)
      (pss_cons (ps_while PassesOwn.never (pt_truth (pv 1) (by intro _; rfl))
        (pss_cons (ps_asg (pe_bm0 PySem.F.plainAttrs_list PySem.F.slot_list_pop PySem.F.type_list_pop mt_pop (pv 1)) (pg_tup rfl (pgs_cons (pg_name (i := 5) scFlaw.nd rfl (.inl rfl)) (pgs_cons (pg_name (i := 6) scFlaw.nd rfl (.inl rfl)) pgs_nil))))
        (pss_cons (ps_if (pt_not (pt_val (C8.pe_c GB hr (by decide) (by rfl) (pa_cons (pv 5) pa_nil)))) (pss_one (ps_ret pe_str)) pss_nil)
        (pss_cons (ps_aug (i := 2) scFlaw.nd rfl (.inl rfl) pe_int ip_add)
        (pss_cons (ps_if (pt_cmpR op_eq (pe_ix ix_tup (pv 5) pe_int (fun _ _ => rfl)) pe_str (nomark _)) (pss_one (ps_dput (hu_of hr) (pv 4) (pe_ix ix_tup (pv 5) pe_int (fun _ _ => rfl)) pe_bl rfl)) pss_nil)
        (pss_cons (ps_if (pt_cmpR op_eq (pe_ix ix_tup (pv 5) pe_int (fun _ _ => rfl)) pe_str (nomark _)) (pss_one (ps_aug (i := 6) scFlaw.nd rfl (.inl rfl) pe_int ip_add)) pss_nil)
        (pss_cons (ps_set (i := 3) scFlaw.nd rfl (.inl rfl) (pe_callB (call_max2 rfl) (by rfl) mx (by decide +kernel) (pa_cons (pv 3) (pa_cons (pv 6) pa_nil))))
        (pss_one (ps_for PassesOwn.never rfl (pi_tup (C8.pe_c GT hr (by decide) (by rfl) (pa_cons (pv 5) pa_nil))) (pg_name (i := 7) scFlaw.nd rfl (.inl rfl))
          (pss_one (ps_expr (pe_bm PySem.F.plainAttrs_list PySem.F.slot_list_append PySem.F.type_list_append mt_append (pv 1) (pa_cons (pe_tup (pa_cons (pv 7) (pa_cons (pv 6) pa_nil))) pa_nil)))))))))))))
      (pss_cons (ps_if (pt_cmpR op_gt (pv 2) (pe_glob (v := .int 24) (by rfl) e1 ⟨_, rfl⟩) (nomark _)) (pss_one (ps_ret pe_str)) pss_nil)
      (pss_cons (ps_if (pt_cmpR op_gt (pe_callB call_lenD (by rfl) T.len PySem.boot_len (pa_cons (pv 4) pa_nil)) (pe_glob (v := .int 4) (by rfl) e2 ⟨_, rfl⟩) (nomark _)) (pss_one (ps_ret pe_str)) pss_nil)
      (pss_cons (ps_if (pt_cmpR op_gt (pv 3) (pe_glob (v := .int 4) (by rfl) e3 ⟨_, rfl⟩) (nomark _)) (pss_one (ps_ret pe_str)) pss_nil)
      (pss_one (ps_ret pe_non))))))))), ?_⟩
    cases Y with
    | bad pb xb =>
      have hb : H pb = some (.tup [.str xb]) := hin
      refine ⟨_, rfl, (by show 2 ≤ sizeLine; decide), fun tp ntp => ⟨(by show 1 ≤ sizeLine; decide), fun W nW => ?_⟩⟩
      intro Fd nF
      have nW' : H W = none := (same_new ntp).free nW
      have s1 := Same.trans (same_new (o := .tup [(TH.bad pb xb).v, .int 0]) ntp) (same_new (o := .lst [.ref tp]) nW)
      have nF' : H Fd = none := s1.free nF
      have s2 := Same.trans s1 (same_new (o := .dK []) nF)
      have etp : (upd (upd (upd H tp (.tup [(TH.bad pb xb).v, .int 0])) W (.lst [.ref tp])) Fd (.dK [])) tp = some (.tup [(TH.bad pb xb).v, .int 0]) := same_new nF _ _ (same_new nW _ _ upd_same)
      have eW : (upd (upd (upd H tp (.tup [(TH.bad pb xb).v, .int 0])) W (.lst [.ref tp])) Fd (.dK [])) W = some (.lst [.ref tp]) := same_new nF _ _ upd_same
      refine gN (nxS ?_)
      generalize upd (upd (upd H tp (.tup [(TH.bad pb xb).v, .int 0])) W (.lst [.ref tp])) Fd (.dK []) = H2 at s2 etp eW ⊢
      refine while_by (fun σ' H' => σ' = [some (TH.bad pb xb).v, some (.ref W), some (.int 0), some (.int 0), some (.ref Fd), none, none, none] ∧ H' = H2) mFlaw ⟨rfl, rfl⟩ (fun σ H1 hP => ?_) (fun σ H Q Q' hh hc => ?_)
      · obtain ⟨rfl, rfl⟩ := hP
        refine ⟨_, rfl, true, .inl ⟨_, SqL.of eW, rfl⟩, iteT ?_⟩
        refine ⟨_, rfl, .inl ⟨rfl, _, SqL.of eW⟩, W, _, .ref tp, rfl, rfl, eW, rfl, ?_⟩
        have k2 : TupKeep H1 (upd H1 W (.lst [])) := tk_lst eW
        have sm2 : Same H (upd H1 W (.lst [])) := same_upd s2 nW'
        refine ⟨tp, _, rfl, SqT.of (k2 _ _ etp), rfl, _, _, rfl, _, _, rfl, rfl, ?_⟩
        refine ⟨_, rfl, .inr ⟨pb, xb, rfl, k2 _ _ (s2 _ _ hb), ⟨_, rfl, iteT ?_⟩⟩⟩
        exact q _ sm2
      · obtain ⟨v, e1, k, e2, e3⟩ := hc
        exact ⟨v, e1, k, e2, hh _ _ e3⟩
    | ok Z =>
    replace hin : Z.In H := hin
    replace gd : Fair Z L := gd
    have q : ∀ H', Same H H' → Q (flawV Z.flaw) H' := q
    -- the first one waits
    refine ⟨_, rfl, (by show 2 ≤ sizeLine; decide), fun tp ntp => ⟨(by show 1 ≤ sizeLine; decide), fun W nW => ?_⟩⟩
    intro Fd nF
    have nW' : H W = none := (same_new ntp).free nW
    have s1 := Same.trans (same_new (o := .tup [Z.v, .int 0]) ntp) (same_new (o := .lst [.ref tp]) nW)
    have nF' : H Fd = none := s1.free nF
    have s2 := Same.trans s1 (same_new (o := .dK []) nF)
    have etp : (upd (upd (upd H tp (.tup [Z.v, .int 0])) W (.lst [.ref tp])) Fd (.dK [])) tp = some (.tup [Z.v, .int 0]) := same_new nF _ _ (same_new nW _ _ upd_same)
    have eW : (upd (upd (upd H tp (.tup [Z.v, .int 0])) W (.lst [.ref tp])) Fd (.dK [])) W = some (.lst [.ref tp]) := same_new nF _ _ upd_same
    refine gN (nxS ?_)
    refine while_by (FlawAt H Z L) mFlaw ⟨W, Fd, _, [(Z, 0)], 0, 0, [], none, none, none, rfl, s2, nW', nF', eW, .cons ⟨tp, rfl, etp⟩ .nil, (fun x hx => ?_), upd_same, ⟨by simp, by simp⟩, ?_, ?_⟩ (fun σ H1 hP => ?_) (fun σ H Q Q' hh hc => ?_)
    · rw [List.mem_singleton.mp hx]
      exact ⟨hin.keep (Same.tk s2), gd.ok, gd.lets⟩
    · show max 0 (max (0 + Z.deep) 0) = Z.deep
      omega
    · show 0 + (Z.count + 0) = Z.count
      omega
    · obtain ⟨W, Fd, vs, ws, m, d, kvs, y5, y6, y7, rfl, sm, nW, nF, eW, pw, wo, eF, ki, hd, hm⟩ := hP
      refine ⟨_, rfl, !vs.isEmpty, .inl ⟨vs, SqL.of eW, rfl⟩, ?_⟩
      rcases List.eq_nil_or_concat ws with rfl | ⟨ws', ⟨A, d0⟩, rfl⟩
      · cases pw
        refine iteF ?_
        have em : m = Z.count := hm
        have ed : d = Z.deep := by
          have : max d 0 = Z.deep := hd
          omega
        have hq := q _ sm
        unfold AT.flaw at hq
        refine ⟨_, rfl, _, _, rfl, rfl, _, rfl, ?_⟩
        by_cases c1 : 24 < Z.count
        · rw [if_pos c1] at hq
          exact ifP (by omega) hq
        rw [if_neg c1] at hq
        refine ifN (by omega) ?_
        have := ki.len
        have := gd.few
        refine ⟨_, rfl, Fd, kvs, rfl, eF, _, _, rfl, rfl, _, rfl, ifN (by omega) ?_⟩
        refine ⟨_, rfl, _, _, rfl, rfl, _, rfl, ?_⟩
        by_cases c2 : 4 < Z.deep
        · rw [if_pos c2] at hq
          exact ifP (by omega) hq
        · rw [if_neg c2] at hq
          exact ifN (by omega) hq
      · rw [List.concat_eq_append] at pw wo hm hd
        obtain ⟨zs, z, rfl, pz, tpA, rfl, etA⟩ := Paired.last pw
        rw [show (!(zs ++ [V.ref tpA]).isEmpty) = true by simp]
        refine iteT ?_
        have hA := wo (A, d0) (List.mem_append_right _ (List.mem_singleton.mpr rfl))
        rw [sumC_snoc] at hm
        have hm : m + (sumC ws' + A.count) = Z.count := hm
        rw [mxD_app] at hd
        have hd : max d (max (mxD ws') (max (d0 + A.deep) 0)) = Z.deep := hd
        have hcn := gd.cnt
        have nWF : W ≠ Fd := fun z => by rw [z, eF] at eW; cases eW
        -- pop
        refine ⟨_, rfl, .inl ⟨rfl, _, SqL.of eW⟩, W, _, .ref tpA, rfl, rfl, eW, by simp, ?_⟩
        rw [List.dropLast_concat]
        have k2 : TupKeep H1 (upd H1 W (.lst zs)) := tk_lst eW
        have sm2 : Same H (upd H1 W (.lst zs)) := same_upd sm nW
        have eW2 : (upd H1 W (.lst zs)) W = some (.lst zs) := upd_same
        have eF2 : (upd H1 W (.lst zs)) Fd = some (.dK kvs) := by rw [upd_ne nWF.symm]; exact eF
        generalize upd H1 W (.lst zs) = H2 at k2 sm2 eW2 eF2
        have pz2 := Paired.imp' (fun _ _ => WaitV.keep k2) pz
        have wo2 : ∀ x ∈ ws', WaitOk H2 L x := fun x hx => let y := wo x (List.mem_append_left _ hx); ⟨y.inn.keep k2, y.ok, y.lets⟩
        have inA : A.In H2 := hA.inn.keep k2
        refine ⟨tpA, _, rfl, SqT.of (k2 _ _ etA), rfl, _, _, rfl, _, _, rfl, rfl, ?_⟩
        -- is_built
        refine ⟨_, rfl, .inl ⟨A, rfl, inA, hA.ok, fun H3 s3 => ⟨_, rfl, iteF ?_⟩⟩⟩
        have sm3 := Same.trans sm2 s3
        have k3 := Same.tk s3
        replace inA := inA.keep k3
        replace pz2 := Paired.imp' (fun _ _ => WaitV.keep k3) pz2
        replace wo2 : ∀ x ∈ ws', WaitOk H3 L x := fun x hx => let y := wo2 x hx; ⟨y.inn.keep k3, y.ok, y.lets⟩
        replace eW2 := s3 _ _ eW2
        replace eF2 := s3 _ _ eF2
        refine ⟨_, rfl, _, 1, rfl, rfl, ?_⟩
        let base8 (y7 : Option V) (dd : Int) (d1 : Nat) : L2.St := [some Z.v, some (.ref W), some (.int ((m : Int) + 1)), some (.int dd), some (.ref Fd), some A.v, some (.int (d1 : Int)), y7]
        let stand (H' : Hp) (vs : List V) (ws : List (AT × Nat)) : Prop := Same H H' ∧ A.In H' ∧ Paired (WaitV H') vs ws ∧ (∀ x ∈ ws, WaitOk H' L x) ∧ H' W = some (.lst vs) ∧ ∃ kvs', H' Fd = some (.dK kvs') ∧ KeysIn L kvs'
        refine keepN (fun σ' H' => σ' = base8 y7 d d0 ∧ stand H' zs ws') (fun σ' H4 hM => ?_) (fun rest => ?_)
        · obtain ⟨rfl, st4⟩ := hM
          -- undo
          refine keep (fun σ' H' => σ' = base8 y7 d (d0 + A.step) ∧ stand H' zs ws') (fun σ' H5 hM => ?_) (fun rest => ?_)
          · obtain ⟨rfl, st5⟩ := hM
            obtain ⟨sm5, inA5, pz5, wo5, eW5, kvs', eF5, ki5⟩ := st5
            have hst := A.step_deep
            refine ⟨_, rfl, _, rfl, _, _, rfl, ?_⟩
            refine ⟨_, rfl, A, rfl, inA5, fun p H6 s6 hp => ?_⟩
            refine ⟨p, rfl, ⟨_, hp⟩, for_tup (K := K) (a := p) (xs := A.kids.map AT.v) (fun i σ' H' => ∃ y7 vs, σ' = base8 y7 (if ((d0 + A.step : Nat) : Int) > (d : Int) then ((d0 + A.step : Nat) : Int) else (d : Int)) (d0 + A.step) ∧ stand H' vs (ws' ++ (A.kids.take i).map fun B => (B, d0 + A.step)) ∧ SqT K H' p (A.kids.map AT.v)) ?_ ?_ ?_ ?_⟩
            · have k6 := Same.tk s6
              refine ⟨y7, zs, rfl, ⟨Same.trans sm5 s6, inA5.keep k6, ?_, ?_, s6 _ _ eW5, kvs', s6 _ _ eF5, ki5⟩, hp⟩
              · rw [List.take_zero, List.map_nil, List.append_nil]
                exact Paired.imp' (fun _ _ => WaitV.keep k6) pz5
              · rw [List.take_zero, List.map_nil, List.append_nil]
                exact fun x hx => let y := wo5 x hx; ⟨y.inn.keep k6, y.ok, y.lets⟩
            · rintro i σ' H' _ ⟨_, _, _, _, h⟩
              exact h
            · rintro i x σ' H' hx ⟨y7', vs, rfl, ⟨sm6, inA6, pz6, wo6, eW6, kv6, eF6, ki6⟩, hp6⟩
              rw [List.getElem?_map] at hx
              obtain ⟨B, hB, rfl⟩ := Option.map_eq_some_iff.mp hx
              have mB : B ∈ A.kids := List.mem_of_getElem? hB
              refine ⟨_, rfl, .inl ⟨rfl, _, SqL.of eW6⟩, _, rfl, _, rfl, (by show 2 ≤ sizeLine; decide), fun tq nq => ?_⟩
              have k7 := tk_new (o := .tup [B.v, .int ((d0 + A.step : Nat) : Int)]) nq
              have s7 := same_new (o := .tup [B.v, .int ((d0 + A.step : Nat) : Int)]) nq
              have eW7 := s7 _ _ eW6
              have lvs : vs.length ≤ 110 := by
                have e := Paired.length pz6
                rw [List.length_append, List.length_map, List.length_take] at e
                have l2 := A.kids_len
                have l3 := sumC_len ws'
                omega
              refine ⟨W, _, _, rfl, rfl, eW7, small1000 (by omega), ?_⟩
              have k8 := TupKeep.trans k7 (tk_lst (o := .lst (vs ++ [.ref tq])) eW7)
              have sm7 := Same.trans sm6 s7
              refine ⟨_, vs ++ [.ref tq], rfl, ⟨same_upd sm7 nW, inA6.keep k8, ?_, ?_, upd_same, kv6, ?_, ki6⟩, seqT_upd eW7 (seqT s7 hp6)⟩
              · rw [List.take_add_one, hB, List.map_append, ← List.append_assoc]
                exact Paired.snoc' ⟨tq, rfl, tk_lst eW7 _ _ upd_same⟩ (Paired.imp' (fun _ _ => WaitV.keep k8) pz6)
              · intro x hx
                rw [List.take_add_one, hB, List.map_append, ← List.append_assoc] at hx
                rcases List.mem_append.mp hx with hx | hx
                · let y := wo6 x hx
                  exact ⟨y.inn.keep k8, y.ok, y.lets⟩
                · rw [List.mem_singleton.mp hx]
                  exact ⟨(inA6.kid B mB).keep k8, hA.ok.kid B mB, fun z hz => hA.lets z (A.kid_lets mB z hz)⟩
              · rw [upd_ne nWF.symm]
                exact s7 _ _ eF6
            · rintro σ' H' ⟨y7', vs, rfl, ⟨sm6, inA6, pz6, wo6, eW6, kv6, eF6, ki6⟩, hp6⟩
              rw [List.length_map, List.take_length] at pz6 wo6
              have hc := sumC_kids A (d0 + A.step)
              have cp := A.count_pos
              refine ⟨⟨W, Fd, vs, _, m + 1, max d (d0 + A.step), kv6, some A.v, some (.int ((d0 + A.step : Nat) : Int)), y7', ?_, sm6, nW, nF, eW6, pz6, wo6, eF6, ki6, ?_, ?_⟩, ?_⟩
              · have e1 : (if ((d0 + A.step : Nat) : Int) > (d : Int) then ((d0 + A.step : Nat) : Int) else (d : Int)) = ((max d (d0 + A.step) : Nat) : Int) := by split <;> omega
                rw [e1]
                rfl
              · have := mxD_kids d0 A
                rw [mxD_app]
                omega
              · rw [sumC_app]
                omega
              · show 100 - ((m : Int) + 1).toNat < 100 - (m : Int).toNat
                omega
          · obtain ⟨sm4, inA4, r4⟩ := id st4
            refine ⟨_, rfl, A.at_, _, 0, _, rfl, rfl, SqT.of inA4.tup, atI_nat (j := 0) rfl, rfl, _, rfl, ite2 (fun c => ?_) (fun c => ?_)⟩
            · have e := (word_undo A).1 (of_decide_eq_true c)
              refine ⟨_, rfl, _, 1, rfl, rfl, rest _ _ ⟨?_, st4⟩⟩
              rw [e]
              rfl
            · have e : A.step = 0 := (A.step_le).resolve_right fun z => c (decide_eq_true ((word_undo A).2 z))
              exact rest _ _ ⟨by rw [e]; rfl, st4⟩
        · have st3 : stand H3 zs ws' := ⟨sm3, inA, pz2, wo2, eW2, kvs, eF2, ki⟩
          refine ⟨_, rfl, A.at_, _, 0, _, rfl, rfl, SqT.of inA.tup, atI_nat (j := 0) rfl, rfl, _, rfl, ?_⟩
          rcases word_letter A with ⟨p, x, rfl⟩ | ne
          · refine ifP rfl ?_
            have hx : x ∈ L := hA.lets x (List.mem_singleton.mpr rfl)
            refine ⟨_, rfl, _, rfl, p, _, 1, _, rfl, rfl, SqT.of inA.tup, atI_nat (j := 1) rfl, Fd, _, rfl, DPut.k (k := Sum.inr x) eF2 (small1000 (by have := ki.len; have := gd.few; omega)), ?_⟩
            have nFW : ∀ {a : Addr} {ys : List V}, H3 a = some (.tup ys) → (upd H3 Fd (.dK (putK kvs (Sum.inr x) (.bl true)))) a = some (.tup ys) := fun {a ys} h => by
              rw [upd_ne (fun z => by rw [z, eF2] at h; cases h)]
              exact h
            have k4 : TupKeep H3 (upd H3 Fd (.dK (putK kvs (Sum.inr x) (.bl true)))) := fun a ys h => nFW h
            refine rest _ _ ⟨rfl, same_upd sm3 nF, inA.keep k4, Paired.imp' (fun _ _ => WaitV.keep k4) pz2, fun x hx => let y := wo2 x hx; ⟨y.inn.keep k4, y.ok, y.lets⟩, ?_, _, upd_same, ki.put hx⟩
            rw [upd_ne nWF]
            exact eW2
          · exact ifN ne (rest _ _ ⟨rfl, st3⟩)
    · obtain ⟨v, e1, k, e2, e3⟩ := hc
      exact ⟨v, e1, k, e2, hh _ _ e3⟩
end
end Nv

set_option maxRecDepth 100000
set_option maxHeartbeats 4000000
namespace Nv
open PySem PySem.Spec PyProof.Rows L2
section
variable {P : Program} {w : World} {K : PySem.W.Frag} {mg : Str → Option Value} {base : Heap} {o2 : Addr}
/-- a new list of the parts -/
def spParts (n : Nat) : Sp := fun vs H Q _ => ∃ T : AT, vs = [T.v] ∧ T.In H ∧ T.count ≤ n ∧ n ≤ 100 ∧ ∀ (p : Addr) (H' : Hp), Same H H' → H p = none → H' p = some (.lst (T.parts.map AT.v)) → Q (.ref p) H'
/-- the parts of the first things -/
def kidParts (T : AT) (i : Nat) : List AT := ((T.kids.take i).map AT.parts).flatten
theorem kidParts_all (T : AT) : T :: kidParts T T.kids.length = T.parts := by rw [kidParts, List.take_length, ← T.parts_eq]
theorem kidParts_succ {T B : AT} {i : Nat} (h : T.kids[i]? = some B) : kidParts T (i + 1) = kidParts T i ++ B.parts := by
  unfold kidParts
  rw [List.take_add_one, h, List.map_append, List.flatten_append]
  simp
theorem kidParts_len (T : AT) (i : Nat) : (kidParts T i).length ≤ T.count := by
  have : kidParts T i <+: kidParts T T.kids.length := by
    unfold kidParts
    rw [List.take_length]
    have : T.kids.take i <+: T.kids := List.take_prefix _ _
    obtain ⟨r, e⟩ := this
    exact ⟨(r.map AT.parts).flatten, by rw [← List.flatten_append, ← List.map_append, e]⟩
  have l := this.length_le
  have e := congrArg List.length (kidParts_all T)
  rw [List.length_cons, T.parts_len] at e
  omega
end
end Nv

set_option maxRecDepth 100000
set_option maxHeartbeats 4000000
namespace Nv
open PySem PySem.Spec PyProof.Rows L2 NvSet
abbrev letOf : AT → Option Str := fun A => match A with | .le _ x => some x | _ => none
section
variable {P : Program} {w : World} {K : PySem.W.Frag} {mg : Str → Option Value} {base : Heap} {o2 : Addr}
/-- a new list of the letters, each once, rising -/
def spLets (n : Nat) : Sp := fun vs H Q _ => ∃ T : AT, vs = [T.v] ∧ T.In H ∧ T.count ≤ n ∧ n ≤ 60 ∧ ∀ (p : Addr) (ys : List Str) (H' : Hp), Same H H' → H p = none → Rising ys T.lets → H' p = some (.lst (ys.map V.str)) → Q (.ref p) H'
theorem more_len (x : Str) (xs : List Str) : (more x xs).length ≤ xs.length + 1 := by
  unfold more
  split
  · omega
  · exact Nat.le_refl _
end
end Nv

set_option maxRecDepth 100000
set_option maxHeartbeats 4000000
namespace Nv
open PySem PySem.Spec PyProof.Rows L2 NvSet LamX
abbrev sBTm : Stmt := inClass (topS 3) 0
abbrev sTold : Stmt := topS 43
abbrev sAsked : Stmt := topS 51
theorem scBTm : FnScope ["self", "flaw"] ["self", "flaw"] (defScope sBTm) := ⟨rfl, rfl, rfl, by decide +kernel, rfl, by decide +kernel, by decide +kernel⟩
theorem scTold : FnScope ["term"] ["term"] (defScope sTold) := ⟨rfl, rfl, rfl, by decide +kernel, rfl, by decide +kernel, by decide +kernel⟩
theorem scAsked : FnScope ["_law_ask", "e"] ["_law_ask"] (defScope sAsked) := ⟨rfl, rfl, rfl, by decide +kernel, rfl, by decide +kernel, by decide +kernel⟩
/-- the fields of BadTerm -/
def flawOf (x : Str) : List (Str × V) := (Str.ofString "flaw", .str x) :: wordOf "BadTerm"
def spBTm (C : Addr) : Sp := fun vs H Q _ => ∃ (a : Addr) (x : Str), vs = [.ref a, .str x] ∧ x.length ≤ 100 ∧ H a = some (exo a C none) ∧ ∀ dx H', H dx = none → dx ≠ a → (∀ z, z ≠ a → z ≠ dx → H' z = H z) → H' a = some (exo a C (some dx)) → H' dx = some (exd dx (flawOf x)) → Q .non H'
/-- what is known of the classes: NeverError at CN (its __init__ at fN), BadTerm at C (its __init__ at fI) -/
structure Errs (K : PySem.W.Frag) (mg : Str → Option Value) (CN C fN fI : Addr) : Prop where
  oex : OexC K C
  xf : XfC K C
  word : PySem.W.findIn K (.ref C) "word" = some none
  flaw : PySem.W.findIn K (.ref C) "flaw" = some none
  gC : mg "BadTerm" = some (.ref C)
  gN : mg "NeverError" = some (.ref CN)
  iC : PySem.W.findIn K (.ref C) "__init__" = some (some (.ref fI))
  tI : PySem.W.typeIn K (.ref fI) = some (.type "function")
  rd : ClX.CRead K CN (.type "type")
  cv : ClX.CVal K CN (.type "type") "__init__" (.ref fN) (.ref fN)
  kp : PySem.W.keepIn K (.ref fN) = true
  hit : PySem.W.exmOne K (.ref C) (.ref C) = some true
section
variable {P : Program} {w : World} {K : PySem.W.Frag} {mg : Str → Option Value} {base : Heap} {CN C fN fI : Addr}
theorem ok_BTm {f : Addr} {fd fdN : FuncData} (F : Fun K "__init__" "BadTerm.__init__" sBTm f fd) (R : Errs K mg CN C fN fI) (GN : FnOk P w K mg base CX0 1 fN fdN ["self", "word", "message"] (spNE K)) (bN : Binds K fdN ["self", "word", "message"] []) :
    FnOk P w K mg base CX0 2 f fd ["self", "flaw"] (spBTm C) := by
  refine F.ok scBTm (fun vs H Q E h => ?_) (fun cdv A outer s H vs Q E hr h => ?_)
  · obtain ⟨a, x, rfl, _⟩ := h
    rfl
  · obtain ⟨a, x, rfl, lx, ha, q⟩ := h
    refine ⟨_, pss_cons (ps_expr (pe_clsdef (pe_glob (v := .ref CN) (by rfl) R.gN rfl) R.rd R.cv R.kp GN hr bN .nil pass0 (pa_cons (pv 0) (pa_cons pe_str (pa_cons (pe_joined (.cons pe_str (.cons (pe_fmt (pv 1)) .nil))) pa_nil)))))
      (pss_one (ps_ost (pv 0) (pv 1))), ?_⟩
    refine ⟨rfl, _, rfl, _, rfl, (by decide +kernel), _, rfl, .inl ⟨x, rfl, by rw [sizeLine_eq]; omega, _, rfl, ?_, ?_⟩⟩
    · rw [Str.length_append, show (Str.empty ++ Str.ofString "this is no reckoning: ").length = 22 by decide +kernel, sizeLine_eq]
      omega
    · refine ⟨a, C, _, _, rfl, R.oex, R.word, ha, fun dx nx ne => ?_⟩
      refine ⟨_, rfl, _, rfl, a, C, rfl, R.oex, R.flaw, .inr ⟨dx, wordOf "BadTerm", upd_same, ?_, (by show 1 ≤ 900; decide), ?_⟩⟩
      · rw [upd_ne ne, upd_same]
      · refine q dx _ nx ne (fun z h1 h2 => ?_) ?_ upd_same
        · rw [upd_ne h2, upd_ne h1, upd_ne h2]
        · rw [upd_ne (Ne.symm ne), upd_same]
/-- BadTerm is raised -/
def raisesT (C : Addr) (H : Hp) (E : XK) (x : Str) : Prop := ∀ d H', Same H H' → H d = none → H' d = some (.xd (flawOf x)) → E (.ref C) (some d) H'
theorem raisesT.same {H H1 : Hp} {E : XK} {x : Str} (s : Same H H1) (q : raisesT C H E x) : raisesT C H1 E x := fun d H' s' n e => q d H' (s.trans s') (s.free n) e
theorem raise_T {H : Hp} {E : XK} {x : Str} (lx : x.length ≤ 100) (q : raisesT C H E x) : [V.str x].length ≤ 1000 ∧ ∀ a, H a = none → spBTm C (.ref a :: ([.str x] ++ [])) (upd H a (exo a C none))
    (fun v H2 => v = .non ∧ ∃ (d : Addr) (fs : List (Str × V)), H2 a = some (exo a C (some d)) ∧ H2 d = some (exd d fs) ∧ H d = none ∧ E (.ref C) (some d) (upd (del H2 a) d (.xd fs))) (fun _ _ _ => False) := by
  refine ⟨(by show 1 ≤ 1000; decide), fun a na => ⟨a, x, rfl, lx, upd_same, fun dx H' nx ne keep h1 h2 => ?_⟩⟩
  have hd : H dx = none := by
    rw [upd_ne ne] at nx
    exact nx
  refine ⟨rfl, dx, flawOf x, h1, h2, hd, q dx _ (fun z o hz => ?_) hd upd_same⟩
  have n1 : z ≠ a := ne_of_none hz na
  have n2 : z ≠ dx := ne_of_none hz hd
  rw [upd_ne n2, del_ne n1, keep z n1 n2, upd_ne n1]
  exact hz
theorem flaw_len : ∀ {T : TH} {x : Str}, T.flaw = some x → x.length ≤ 100
  | .ok A, x, h => by
    have h : A.flaw = some x := h
    unfold AT.flaw at h
    split at h
    · cases h
      decide +kernel
    · split at h
      · cases h
        decide +kernel
      · cases h
  | .bad _ _, x, h => by
    cases h
    decide +kernel
/-- need_term -/
def spNeedX (C : Addr) : Sp := fun vs H Q E => ∃ (T : TH) (L : List Str), vs = [T.v] ∧ T.In H ∧ T.Fine L ∧ (T.flaw = none → ∀ H', Same H H' → Q .non H') ∧ ∀ x, T.flaw = some x → raisesT C H E x
theorem ok_needX {f : Addr} {fd fdI : FuncData} (F : Fun K "need_term" "need_term" sNeedT f fd) (R : Errs K mg CN C fN fI) (GI : FnOk P w K mg base CX0 2 fI fdI ["self", "flaw"] (spBTm C)) (bI : Binds K fdI ["self", "flaw"] []) (GF : C8.Cal P w K mg base 4 "flaw_of" spFlaw []) :
    FnOk P w K mg base (L2.CX P w) 5 f fd ["term"] (spNeedX C) := by
  refine F.okX scNeedT (fun vs H Q E h => ?_) (fun cdv A outer s H vs Q E hr h => ?_)
  · obtain ⟨T, L, rfl, _⟩ := h
    rfl
  · obtain ⟨T, L, rfl, hin, gd, q1, q2⟩ := h
    refine ⟨_, pss_cons (ps_set (i := 1) scNeedT.nd rfl (.inl rfl) (C8.pe_c GF hr (by decide) (by rfl) (pa_cons (pv 0) pa_nil)))
      (pss_one (ps_if (pt_cmpR op_notN (pv 1) pe_non (nomark _)) (pss_one (ps_raise rfl (takes_of rfl rfl rfl rfl) (pmk_oex R.oex R.iC R.tI GI (hr.mono (by decide)) bI .nil pass0 (by rfl) R.gC (pa_cons (pv 1) pa_nil)))) pss_nil)), ?_⟩
    refine ⟨_, rfl, T, L, rfl, hin, gd, fun H1 s1 => ?_⟩
    cases hf : T.flaw with
    | none => exact ⟨_, rfl, rfl, _, rfl, iteF (q1 hf _ s1)⟩
    | some x => exact ⟨_, rfl, rfl, _, rfl, iteT ⟨_, rfl, raise_T (flaw_len hf) ((q2 x hf).same s1)⟩⟩
end
/-- a def that may raise, called by its name -/
structure CalX (P : Program) (w : World) (K : PySem.W.Frag) (mg : Str → Option Value) (base : Heap) (k : Nat) (x : Str) (sp : Sp) (dvs : List V) : Prop where
  ex : ∃ (f : Addr) (fd : FuncData) (ps : List Str) (ds : List Value), FnOk P w K mg base (L2.CX P w) k f fd ps sp ∧ mg x = some (.ref f) ∧ PySem.W.keepIn K (.ref f) = true ∧ Binds K fd ps ds ∧ Vals dvs ds
section
variable {X : Cx} {k j : Nat} {x : Str} {sp : Sp} {dvs : List V} {e : Expr} {es : List Expr} {p pos : Pos} {t : TA} {E : XK}
theorem pe_cxE (c : CalX X.prog X.w X.K X.mg X.base k x sp dvs) (hr : Room j X.A) (hk : k ≤ j) (hx : Passes (L2.CX X.prog X.w) X E) (hg : Gl X x) (ha : PA X (e :: es) t)
    (hdb : (x == ("__debug__" : Str)) = false := by decide) (he : starEach (e :: es) X.env = (false, eval e X.env) :: starEach es X.env := by rfl) (hpl : (backTo pos (starEach es X.env)).any (·.1) = false := by rfl) :
    PE X (.Call (.Name x p) (e :: es) [] pos) (tCall sp dvs E t) := by
  obtain ⟨f, fd, ps, ds, F, hm, kp, b, d⟩ := c.ex
  exact pe_call F (hr.mono hk) hg hm kp b d hx ha hdb he hpl
theorem pe_cx (c : CalX X.prog X.w X.K X.mg X.base k x sp dvs) (hr : Room j X.A) (hk : k ≤ j) (hg : Gl X x) (ha : PA X (e :: es) t)
    (hdb : (x == ("__debug__" : Str)) = false := by decide) (he : starEach (e :: es) X.env = (false, eval e X.env) :: starEach es X.env := by rfl) (hpl : (backTo pos (starEach es X.env)).any (·.1) = false := by rfl) :
    PE X (.Call (.Name x p) (e :: es) [] pos) (tCall sp dvs L2.E0 t) := pe_cxE c hr hk passL hg ha hdb he hpl
end
section
variable {P : Program} {w : World} {K : PySem.W.Frag} {mg : Str → Option Value} {base : Heap} {CN C fN fI : Addr}
/-- told_of -/
def spTold (C : Addr) : Sp := fun vs H Q E => ∃ (T : TH) (L : List Str), vs = [T.v] ∧ T.In H ∧ T.Fine L ∧ (T.flaw = none → ∀ H', Same H H' → Q T.v H') ∧ ∀ x, T.flaw = some x → raisesT C H E x
theorem ok_told {f : Addr} {fd : FuncData} (F : Fun K "told_of" "told_of" sTold f fd) (GN : CalX P w K mg base 5 "need_term" (spNeedX C) []) : FnOk P w K mg base (L2.CX P w) 6 f fd ["term"] (spTold C) := by
  refine F.okX scTold (fun vs H Q E h => ?_) (fun cdv A outer s H vs Q E hr h => ?_)
  · obtain ⟨T, L, rfl, _⟩ := h
    rfl
  · obtain ⟨T, L, rfl, hin, gd, q1, q2⟩ := h
    refine ⟨_, pss_cons (ps_expr (pe_cxE GN hr (by decide) (passes_call (takes_of rfl rfl rfl rfl) (fun _ _ _ _ z => z)) (by rfl) (pa_cons (pv 0) pa_nil))) (pss_one (ps_ret (pv 0))), ?_⟩
    exact ⟨_, rfl, T, L, rfl, hin, gd, fun h H1 s1 => ⟨_, rfl, q1 h _ s1⟩, q2⟩
end
/-! _law_asked -/
def eAsked (C : Addr) (Q : VK) : XK := fun cls d H' => cls = .ref C ∧ ∃ (dd : Addr) (x : Str), d = some dd ∧ H' dd = some (.xd (flawOf x)) ∧ ∀ p, H' p = none → Q (.ref p) (upd H' p (.tup [.str "no", .str "BadTerm", .str x]))
def TAsked (C : Addr) : (XK → Hp → VK → Prop) → Hp → VK → Prop := fun tl H Q => tl (eAsked C Q) H fun v H' => [V.str "told", v].length ≤ sizeLine ∧ ∀ p, H' p = none → Q (.ref p) (upd H' p (.tup [.str "told", v]))
section
variable {X : Cx} {CN C fN fI : Addr}
theorem asked_gives {g : Addr} {cdg : Value} {q : Str} (R : Errs X.K X.mg CN C fN fI) :
    GivesTo X ["_law_ask", "e"] "_law_asked" (defScope sAsked) g cdg (defBody sAsked) "_law_ask" q (TAsked C) := by
  intro f c' s H Q tl act hc h
  refine ⟨_, pss_one (ps_try_named (X := (cxOf C8.CX0 X.prog X.w X.K X.mg X.base ["_law_ask", "e"] "_law_asked" (defScope sAsked) g cdg X.A X.stack s H C8.E0).nox)
      (cl := [([.ref C], 1, fun a cls d => tRet (tTup (tCons (tC (.str "no")) (tCons (tXf a cls d C "word" (tVar 1)) (tCons (tXf a cls d C "flaw" (tVar 1)) tNil)))))])
      (tb := fun W D σ H => ∃ Ech : XK, (∀ cls d σ' H', Ech cls d H' → σ'.length = 2 → W cls d σ' H') ∧ σ = [some (.ref f), none] ∧ H c' = some (CodeO c' q) ∧ tl Ech H fun v H' => [V.str "told", v].length ≤ sizeLine ∧ ∀ p, H' p = none → D.rt (.ref p) (upd H' p (.tup [.str "told", v])))
      rfl rfl scAsked.nd (fun W pn xe tk _ => ?_)
      (.one rfl rfl ⟨by rfl, by decide, .inl R.gC⟩ (fun a oe cls d pn hz hf => pss_one (ps_ret (pe_tup (pa_cons pe_str (pa_cons (pe_xf R.xf R.word hz hf (pv 1)) (pa_cons (pe_xf R.xf R.flaw hz hf (pv 1)) pa_nil)))))) .stop)), ?_⟩
  · refine ⟨fun pins s' σ H' D I h' => ?_⟩
    obtain ⟨Ech, hW, h1, h2, h3⟩ := h'
    have tk' : Takes ((cxOf C8.CX0 X.prog X.w X.K X.mg X.base ["_law_ask", "e"] "_law_asked" (defScope sAsked) g cdg X.A X.stack s H C8.E0).tr pn xe) (fun cls d σ H => σ.length = 2 → W cls d σ H) := fun u s2 z => by
      obtain ⟨a, B, sI, pins2, σ2, H2, cls, d, e, J, nb, up, sky, na, os, ag, w⟩ := z
      exact tk u s2 ⟨a, B, sI, pins2, σ2, H2, cls, d, e, J, nb, up, sky, na, os, ag, w J.len⟩
    have hp := fun p1 p2 => act _ pn xe Ech p1 p2 tk' hW
    refine (pss_one (ps_ret (pe_tup (pa_cons pe_str (pa_cons (hp _ _) pa_nil))))).run pins s' σ H' D I ?_
    subst h1
    exact ⟨rfl, h2, h3⟩
  · refine ⟨eAsked C Q, fun cls d σ' H' hE hl => ?_, rfl, hc, h⟩
    obtain ⟨rfl, dd, x, rfl, hd, hq⟩ := hE
    refine ⟨true, R.hit, fun _ a na => ?_, (fun z => nomatch z)⟩
    have hs : (σ'.set 1 (some (V.ref a)))[1]? = some (some (V.ref a)) := by
      rw [List.getElem?_set_self (by omega)]
    exact ⟨_, hs, rfl, rfl, dd, flawOf x, .str "BadTerm", rfl, hd, rfl, _, hs, rfl, rfl, dd, flawOf x, .str x, rfl, hd, rfl, (by show 3 ≤ sizeLine; decide), fun p hp => hq p hp⟩
end
end Nv

set_option maxRecDepth 100000
set_option maxHeartbeats 4000000
namespace Nv
open PySem PySem.Spec PyProof.Rows L2 NvSet
theorem fr_low (t : Int) {b : Int} (hb : b ≠ 0) : Int.gcd (frT t b) (frB t b) = 1 := by
  have e1 : frT t b * per t b = t := fdiv_mul (per_dvd_l t b)
  have e2 : frB t b * per t b = b := fdiv_mul (per_dvd_r t b)
  have g : Int.gcd (frT t b * per t b) (frB t b * per t b) = Int.gcd (frT t b) (frB t b) * (per t b).natAbs := Int.gcd_mul_right ..
  rw [e1, e2] at g
  have p : (per t b).natAbs = Int.gcd t b := by
    unfold per
    split <;> omega
  rw [p] at g
  have pos := gcd_pos t hb
  have : 1 * Int.gcd t b = Int.gcd (frT t b) (frB t b) * Int.gcd t b := by rw [Nat.one_mul]; exact g
  exact (Nat.eq_of_mul_eq_mul_right pos this).symm
theorem sh_fr {t b : Int} (ht : t.natAbs ≤ 1000) (hb : b.natAbs ≤ 1000) (h0 : b ≠ 0) : ShOk (frT t b) (frB t b) := by
  have h1 := frT_le t h0
  have h2 := frB_le t h0
  have h3 := frB_pos t h0
  exact ⟨by omega, by omega, by omega, fr_low t h0⟩
abbrev sAbc : Stmt := topS 55
abbrev sLeaf : Stmt := topS 56
abbrev sDrawn : Stmt := topS 57
abbrev nAbc : List Str := ["_law_bag_here", "_law_many", "_law_first", "_law_found", "_law_pad", "_law_at", "_law_k", "_law_sign"]
theorem scAbc : FnScope nAbc ["_law_bag_here", "_law_many"] (defScope sAbc) := ⟨rfl, rfl, rfl, by decide +kernel, rfl, by decide +kernel, by decide +kernel⟩
theorem scLeaf : FnScope ["_law_bag_here", "_law_signs"] ["_law_bag_here", "_law_signs"] (defScope sLeaf) := ⟨rfl, rfl, rfl, by decide +kernel, rfl, by decide +kernel, by decide +kernel⟩
theorem scDrawn : FnScope ["_law_bag_here", "_law_signs", "_law_room", "_law_deep", "_law_way", "_law_half", "_law_one"] ["_law_bag_here", "_law_signs", "_law_room", "_law_deep"] (defScope sDrawn) := ⟨rfl, rfl, rfl, by decide +kernel, rfl, by decide +kernel, by decide +kernel⟩
def spLight : Sp := fun vs H Q _ => ∃ l b : Addr, vs = [.ref b] ∧ Bag l b H ∧ ∀ (p : Addr) (t d : Int) (H' : Hp), ShOk t d → Bag l b H' → Grow b H H' → H p = none → H' p = some (.tup [.int t, .int d]) → Q (.ref p) H'
/-- tuples stay where the bag alone changes -/
theorem Bag.tk {l b : Addr} {H H' : Hp} (B : Bag l b H) (g : Grow b H H') : TupKeep H H' := fun a xs h => by
  obtain ⟨ns, _, _, ⟨i, j, s, n, hb, _⟩⟩ := B
  exact g a _ (fun z => by rw [z, hb] at h; cases h) h
section
variable {P : Program} {w : World} {K : PySem.W.Frag} {mg : Str → Option Value} {base : Heap}
theorem ok_light8 {f : Addr} {fd : FuncData} (F : Fun K "_law_light" "_law_light" sLight f fd) (GF : C8.Cal P w K mg base 2 "_law_fr" spFr []) (GP : C8.Cal P w K mg base 1 "_law_pull" spPull []) : FnOk P w K mg base CX0 3 f fd ["_law_bag_here"] spLight := by
  refine F.ok scLight (fun vs H Q E h => ?_) (fun cdv A outer s H vs Q E hr h => ?_)
  · obtain ⟨l, b, rfl, _⟩ := h
    rfl
  · obtain ⟨l, b, rfl, B, q⟩ := h
    refine ⟨_, pss_one (ps_ret (C8.pe_c GF hr (by decide) (by rfl) (pa_cons (pe_op op_sub (C8.pe_c GP hr (by decide) (by rfl) (pa_cons (pv 0) (pa_cons pe_int pa_nil))) pe_int)
      (pa_cons (pe_ix ix_list (pe_lst (pa_cons pe_int (pa_cons pe_int (pa_cons pe_int (pa_cons pe_int (pa_cons pe_int (pa_cons pe_int pa_nil))))))) (C8.pe_c GP hr (by decide) (by rfl) (pa_cons (pv 0) (pa_cons pe_int pa_nil))) (fun _ _ => rfl)) pa_nil)))), ?_⟩
    refine ⟨_, rfl, l, b, 9, rfl, by decide, fit8 (n := 4) (by decide) (by decide), B, fun r H1 r0 r1 B1 t1 => ?_⟩
    refine ⟨r, 4, rfl, rfl, (by show 6 ≤ sizeLine; decide), fun o no => ?_⟩
    have B2 := B1.same (same_new (o := .lst [.int 1, .int 1, .int 1, .int 2, .int 3, .int 5]) no)
    refine ⟨_, rfl, l, b, 6, rfl, by decide, fit8 (n := 4) (by decide) (by decide), B2, fun r2 H2 s0 s1 B3 t2 => ?_⟩
    have nob := B1.ne no
    have ho : H2 o = some (.lst [.int 1, .int 1, .int 1, .int 2, .int 3, .int 5]) := by rw [t2 o nob, upd_same]
    have g : Grow b H H2 := t1.grow.trans ((Same.grow (same_new no)).trans t2.grow)
    have pick : ∃ d : Int, atI [V.int 1, V.int 1, V.int 1, V.int 2, V.int 3, V.int 5] r2 = some (.int d) ∧ 0 < d ∧ d ≤ 5 := by
      have : r2 = 0 ∨ r2 = 1 ∨ r2 = 2 ∨ r2 = 3 ∨ r2 = 4 ∨ r2 = 5 := by omega
      rcases this with e | e | e | e | e | e <;> subst e
      · exact ⟨1, rfl, by decide, by decide⟩
      · exact ⟨1, rfl, by decide, by decide⟩
      · exact ⟨1, rfl, by decide, by decide⟩
      · exact ⟨2, rfl, by decide, by decide⟩
      · exact ⟨3, rfl, by decide, by decide⟩
      · exact ⟨5, rfl, by decide, by decide⟩
    obtain ⟨d, hd, d0, d5⟩ := pick
    refine ⟨o, _, r2, _, rfl, rfl, SqL.of ho, hd, r - 4, d, rfl, by omega, fit8 (n := 5) (Nat.lt_of_le_of_lt (show d.natAbs ≤ 9 by omega) (by decide)) (by decide), fun p H' sm hp ep => ?_⟩
    exact q p _ _ _ (sh_fr (by omega) (by omega) (by omega)) (B3.same sm) (g.trans (Same.grow sm)) (g.free (B3.ne hp) hp) ep
/-- one of the signs or a share -/
def spLeaf : Sp := fun vs H Q _ => ∃ (l b o : Addr) (L : List Str), vs = [.ref b, .ref o] ∧ o ≠ b ∧ H o = some (.lst (L.map V.str)) ∧ 0 < L.length ∧ L.length ≤ 1000 ∧ (∀ x ∈ L, Small x) ∧ Bag l b H ∧
  ∀ (T : AT) (H' : Hp), T.In H' → T.Ok → T.count = 1 → T.deep = 0 → (∀ x ∈ T.lets, x ∈ L) → Bag l b H' → Grow b H H' → Q T.v H'
theorem ok_leaf {f : Addr} {fd : FuncData} (F : Fun K "_law_leaf" "_law_leaf" sLeaf f fd) (GL : C8.Cal P w K mg base 3 "_law_light" spLight []) (GP : C8.Cal P w K mg base 1 "_law_pull" spPull []) (GO : C8.Cal P w K mg base 2 "_law_of" spOf []) :
    FnOk P w K mg base CX0 4 f fd ["_law_bag_here", "_law_signs"] spLeaf := by
  refine F.ok scLeaf (fun vs H Q E h => ?_) (fun cdv A outer s H vs Q E hr h => ?_)
  · obtain ⟨l, b, o, L, rfl, _⟩ := h
    rfl
  · obtain ⟨l, b, o, L, rfl, nob, ho, h0, h1, hs, B, q⟩ := h
    refine ⟨_, pss_one (ps_ret (pe_ifExp (pt_cmpR op_eq (C8.pe_c GP hr (by decide) (by rfl) (pa_cons (pv 0) (pa_cons pe_int pa_nil))) pe_int (nomark _)) (pe_tup (pa_cons pe_str (pa_cons (C8.pe_c GL hr (by decide) (by rfl) (pa_cons (pv 0) pa_nil)) pa_nil)))
      (pe_tup (pa_cons pe_str (pa_cons (C8.pe_c GO hr (by decide) (by rfl) (pa_cons (pv 0) (pa_cons (pv 1) pa_nil))) pa_nil))))), ?_⟩
    refine ⟨_, rfl, l, b, 4, rfl, by decide, fit8 (n := 4) (by decide) (by decide), B, fun r H1 r0 r1 B1 t1 => ?_⟩
    have ho1 : H1 o = some (.lst (L.map V.str)) := t1.grow _ _ nob ho
    refine ⟨rfl, _, rfl, ite2 (fun c => ?_) (fun c => ?_)⟩
    · refine ⟨_, rfl, l, b, rfl, B1, fun p t d H2 sh B2 g2 np ep => ⟨(by show 2 ≤ sizeLine; decide), fun tp nt => ?_⟩⟩
      have sm := same_new (o := .tup [.str "share", .ref p]) nt
      exact q (.sh tp p t d) _ ⟨upd_same, sm _ _ ep⟩ sh rfl rfl (fun x hx => nomatch hx) (B2.same sm) (t1.grow.trans (g2.trans (Same.grow sm)))
    · refine ⟨_, rfl, _, rfl, l, b, o, _, rfl, nob, ho1, by rw [List.length_map]; exact h0, by rw [List.length_map]; exact h1, B1, fun v H2 hv B2 t2 => ⟨(by show 2 ≤ sizeLine; decide), fun tp nt => ?_⟩⟩
      obtain ⟨x, hx, rfl⟩ := List.mem_map.mp hv
      have sm := same_new (o := .tup [.str "letter", .str x]) nt
      exact q (.le tp x) _ upd_same (hs x hx) rfl rfl (fun y hy => by rw [List.mem_singleton.mp hy]; exact hx) (B2.same sm) (t1.grow.trans (t2.grow.trans (Same.grow sm)))
/-- a drawn reckoning of at most r parts -/
def spDrawn (n : Nat) : Sp := fun vs H Q _ => ∃ (l b o : Addr) (L : List Str) (r d : Nat), vs = [.ref b, .ref o, .int (r : Int), .int (d : Int)] ∧ 1 ≤ r ∧ r ≤ n ∧ n ≤ 1000 ∧ d ≤ 1000 ∧ o ≠ b ∧ H o = some (.lst (L.map V.str)) ∧ 0 < L.length ∧ L.length ≤ 1000 ∧ (∀ x ∈ L, Small x) ∧ Bag l b H ∧
  ∀ (T : AT) (H' : Hp), T.In H' → T.Ok → T.count ≤ r → T.deep ≤ d → (∀ x ∈ T.lets, x ∈ L) → Bag l b H' → Grow b H H' → Q T.v H'
theorem ok_drawn {f : Addr} {fd : FuncData} (F : Fun K "_law_drawn" "_law_drawn" sDrawn f fd) (gf : mg "_law_drawn" = some (.ref f)) (bf : Binds K fd ["_law_bag_here", "_law_signs", "_law_room", "_law_deep"] [])
    (GL : C8.Cal P w K mg base 4 "_law_leaf" spLeaf []) (GP : C8.Cal P w K mg base 1 "_law_pull" spPull []) : ∀ n : Nat, FnOk P w K mg base CX0 (n + 4) f fd ["_law_bag_here", "_law_signs", "_law_room", "_law_deep"] (spDrawn n) := by
  intro n
  induction n with
  | zero => exact ⟨fun vs H Q E h => by obtain ⟨_, _, _, _, _, _, rfl, _⟩ := h; rfl, fun A outer s H args us vs Q E _ _ _ _ h => by
      obtain ⟨_, _, _, _, r, _, _, c1, c2, _⟩ := h
      omega⟩
  | succ n ih =>
    refine F.ok scDrawn (fun vs H Q E h => ?_) (fun cdv A outer s H vs Q E hr h => ?_)
    · obtain ⟨_, _, _, _, _, _, rfl, _⟩ := h
      rfl
    · obtain ⟨l, b, o, L, r, d, rfl, r1, rn, hn, hd, nob, ho, h0, h1, hs, B, q⟩ := h
      refine ⟨_, pss_cons (ps_set (i := 4) scDrawn.nd rfl (.inl rfl) (C8.pe_c GP hr (by omega) (by rfl) (pa_cons (pv 0) (pa_cons pe_int pa_nil))))
        (pss_cons (ps_if (PW.pt (pw_or (pt_cmpR op_lt (pv 2) pe_int (nomark _)) (pw_or (pt_cmpR op_eq (pv 4) pe_int (nomark _)) (pw_or1 (PW.pt (pw_and (pt_cmpR op_lt (pv 2) pe_int (nomark _)) (pw_and1 (pt_cmpR op_eq (pv 3) pe_int (nomark _)))))))))
          (pss_one (ps_ret (C8.pe_c GL hr (by omega) (by rfl) (pa_cons (pv 0) (pa_cons (pv 1) pa_nil))))) pss_nil)
        (pss_cons (ps_if (PW.pt (pw_and (pt_cmpR op_gt (pv 3) pe_int (nomark _)) (pw_and1 (PW.pt (pw_or (pt_cmpR op_lt (pv 4) pe_int (nomark _)) (pw_or1 (pt_cmpR op_lt (pv 2) pe_int (nomark _))))))))
          (pss_one (ps_ret (pe_tup (pa_cons pe_str (pa_cons (pe_call ih hr (by rfl) gf F.kp bf .nil pass0 (pa_cons (pv 0) (pa_cons (pv 1) (pa_cons (pe_op op_sub (pv 2) pe_int) (pa_cons (pe_op op_sub (pv 3) pe_int) pa_nil))))) pa_nil))))) pss_nil)
        (pss_cons (ps_set (i := 5) scDrawn.nd rfl (.inl rfl) (pe_op op_add pe_int (C8.pe_c GP hr (by omega) (by rfl) (pa_cons (pv 0) (pa_cons (pe_op op_sub (pv 2) pe_int) pa_nil)))))
        (pss_cons (ps_set (i := 6) scDrawn.nd rfl (.inl rfl) (pe_call ih hr (by rfl) gf F.kp bf .nil pass0 (pa_cons (pv 0) (pa_cons (pv 1) (pa_cons (pv 5) (pa_cons (pv 3) pa_nil))))))
        (pss_one (ps_ret (pe_tup (pa_cons (pe_ix ix_list (pe_lst (pa_cons pe_str (pa_cons pe_str (pa_cons pe_str pa_nil)))) (pe_op op_mod (pv 4) pe_int) (fun _ _ => rfl)) (pa_cons (pv 6)
          (pa_cons (pe_call ih hr (by rfl) gf F.kp bf .nil pass0 (pa_cons (pv 0) (pa_cons (pv 1) (pa_cons (pe_op op_sub (pe_op op_sub (pv 2) pe_int) (pv 5)) (pa_cons (pv 3) pa_nil))))) pa_nil)))))))))), ?_⟩
      refine ⟨_, rfl, l, b, 9, rfl, by decide, fit8 (n := 4) (by decide) (by decide), B, fun y H1 y0 y1 B1 t1 => ?_⟩
      have ho1 : H1 o = some (.lst (L.map V.str)) := t1.grow _ _ nob ho
      have leafQ : spLeaf [.ref b, .ref o] H1 Q C8.E0 := ⟨l, b, o, L, rfl, nob, ho1, h0, h1, hs, B1, fun T H2 a1 a2 a3 a4 a5 B2 g2 => q T H2 a1 a2 (by omega) (by omega) a5 B2 (t1.grow.trans g2)⟩
      let st : L2.St := [some (.ref b), some (.ref o), some (.int (r : Int)), some (.int (d : Int)), some (.int y), none, none]
      refine keepN (fun σ' H' => σ' = st ∧ H1 = H' ∧ 2 ≤ r ∧ (3 ≤ r ∨ 1 ≤ d)) (fun σ' H' hM => ?_) (fun rest => ?_)
      · obtain ⟨rfl, rfl, r2, r3⟩ := hM
        refine keep (fun σ' H' => σ' = st ∧ H1 = H' ∧ 3 ≤ r) (fun σ' H' hM => ?_) (fun rest => ?_)
        · obtain ⟨rfl, rfl, r3⟩ := hM
          refine ⟨_, rfl, _, rfl, _, 2, rfl, rfl, l, b, (r : Int) - 2, rfl, by omega, fit8 (n := 10) (Nat.lt_of_le_of_lt (show ((r : Int) - 2).natAbs ≤ 1000 by omega) (by decide)) (by decide), B1, fun z H2 z0 z1 B2 t2 => ?_⟩
          refine ⟨1, z, rfl, rfl, ?_⟩
          have ho2 : H2 o = some (.lst (L.map V.str)) := t2.grow _ _ nob ho1
          have ez : (1 : Int) + z = ((1 + z.toNat : Nat) : Int) := by omega
          refine ⟨_, rfl, _, rfl, _, rfl, _, rfl, l, b, o, L, 1 + z.toNat, d, congrArg (fun k => [V.ref b, V.ref o, V.int k, V.int (d : Int)]) ez, by omega, by omega, by omega, hd, nob, ho2, h0, h1, hs, B2, fun T1 H3 a1 a2 a3 a4 a5 B3 g3 => ?_⟩
          have ho3 := g3 _ _ nob ho2
          refine ⟨(by show 3 ≤ sizeLine; decide), fun w3 nw3 => ?_⟩
          have s4 := same_new (o := .lst [.str "plus", .str "less", .str "times"]) nw3
          have B4 := B3.same s4
          have n3 := B3.ne nw3
          refine ⟨_, rfl, y, 3, rfl, rfl, (by show (0 : Int) < 3; decide), ?_⟩
          obtain ⟨op, hop⟩ : ∃ op : Op, atI [V.str "plus", V.str "less", V.str "times"] (y % 3) = some (.str op.word) := by
            have : y % 3 = 0 ∨ y % 3 = 1 ∨ y % 3 = 2 := by omega
            rcases this with e | e | e <;> rw [e]
            · exact ⟨.plus, rfl⟩
            · exact ⟨.less, rfl⟩
            · exact ⟨.times, rfl⟩
          refine ⟨w3, _, _, _, rfl, rfl, SqL.of upd_same, hop, _, rfl, _, rfl, _, rfl, _, rfl, _, 1, rfl, rfl, _, rfl, _, _, rfl, rfl, _, rfl, ?_⟩
          have er : (r : Int) - 1 - (1 + z) = ((r - 1 - (1 + z.toNat) : Nat) : Int) := by omega
          refine ⟨l, b, o, L, r - 1 - (1 + z.toNat), d, congrArg (fun k => [V.ref b, V.ref o, V.int k, V.int (d : Int)]) er, by omega, by omega, by omega, hd, nob, s4 _ _ ho3, h0, h1, hs, B4, fun T2 H5 c1 c2 c3 c4 c5 B5 g5 => ⟨(by show 3 ≤ sizeLine; decide), fun tp nt => ?_⟩⟩
          have s6 := same_new (o := .tup [.str op.word, T1.v, T2.v]) nt
          have k5 := B4.tk g5
          refine q (.two tp op T1 T2) _ ⟨upd_same, (a1.keep (Same.tk s4)).keep (k5.trans (Same.tk s6)), c1.keep (Same.tk s6)⟩ ⟨a2, c2⟩ ?_ ?_ ?_ (B5.same s6) (t1.grow.trans (t2.grow.trans (g3.trans ((Same.grow s4).trans (g5.trans (Same.grow s6))))))
          · show 1 + T1.count + T2.count ≤ r
            omega
          · show max T1.deep T2.deep ≤ d
            omega
          · intro x hx
            rcases List.mem_append.mp hx with e | e
            · exact a5 x e
            · exact c5 x e
        · have undoQ : 1 ≤ d → ∀ {D : Ends}, D.rt = Q → tRet (tTup (tCons (tC (V.str "undo")) (tCons (tCall (spDrawn n) [] C8.E0 (tCons (tVar 0) (tCons (tVar 1) (tCons (tOp (rI0 fun i j => .int (i - j)) (tVar 2) (tC (V.int 1))) (tCons (tOp (rI0 fun i j => .int (i - j)) (tVar 3) (tC (V.int 1))) tNil))))) tNil))) D st H1 := fun d1 D hD => by
            refine ⟨_, rfl, _, rfl, _, rfl, _, 1, rfl, rfl, _, rfl, _, 1, rfl, rfl, ?_⟩
            have e1 : (r : Int) - 1 = ((r - 1 : Nat) : Int) := by omega
            have e2 : (d : Int) - 1 = ((d - 1 : Nat) : Int) := by omega
            have e3 : [V.ref b, V.ref o, V.int ((r : Int) - 1), V.int ((d : Int) - 1)] = [V.ref b, V.ref o, V.int ((r - 1 : Nat) : Int), V.int ((d - 1 : Nat) : Int)] := by rw [e1, e2]
            refine ⟨l, b, o, L, r - 1, d - 1, e3, by omega, by omega, by omega, by omega, nob, ho1, h0, h1, hs, B1, fun T H3 a1 a2 a3 a4 a5 B3 g3 => ⟨(by show 2 ≤ sizeLine; decide), fun tp nt => ?_⟩⟩
            have s6 := same_new (o := .tup [.str "undo", T.v]) nt
            rw [hD]
            refine q (.un tp T) _ ⟨upd_same, a1.keep (Same.tk s6)⟩ a2 ?_ ?_ a5 (B3.same s6) (t1.grow.trans (g3.trans (Same.grow s6)))
            · show 1 + T.count ≤ r
              omega
            · show T.deep + 1 ≤ d
              omega
          refine ⟨_, rfl, _, 0, rfl, rfl, _, rfl, ite2 (fun c => ?_) (fun c => ?_)⟩
          · have d1 : 1 ≤ d := by
              have := of_decide_eq_true c
              omega
            refine ⟨_, rfl, _, 3, rfl, rfl, _, rfl, ite2 (fun c => ?_) (fun c => ?_)⟩
            · refine iteT (undoQ d1 ?_)
              rfl
            · refine ⟨_, rfl, _, 3, rfl, rfl, _, rfl, ite2 (fun c => ?_) (fun c => ?_)⟩
              · refine undoQ d1 ?_
                rfl
              · have : ¬ (r : Int) < 3 := fun z => c (decide_eq_true z)
                exact rest _ _ ⟨rfl, rfl, by omega⟩
          · have : ¬ (0 : Int) < (d : Int) := fun z => c (decide_eq_true z)
            exact iteF (rest _ _ ⟨rfl, rfl, by omega⟩)
      · refine ⟨_, rfl, _, 2, rfl, rfl, _, rfl, ite2 (fun c => ?_) (fun c1 => ?_)⟩
        · exact iteT ⟨_, rfl, _, rfl, leafQ⟩
        have r2 : 2 ≤ r := by
          have : ¬ (r : Int) < 2 := fun z => c1 (decide_eq_true z)
          omega
        refine ⟨_, rfl, rfl, _, rfl, ite2 (fun c => ?_) (fun c2 => ?_)⟩
        · exact iteT ⟨_, rfl, _, rfl, leafQ⟩
        refine ⟨_, rfl, _, 3, rfl, rfl, _, rfl, ite2 (fun c => ?_) (fun c3 => ?_)⟩
        · refine ⟨_, rfl, rfl, _, rfl, ite2 (fun c => ?_) (fun c4 => ?_)⟩
          · exact ⟨_, rfl, _, rfl, leafQ⟩
          · have : (d : Int) ≠ 0 := fun z => c4 (decide_eq_true (congrArg V.int z))
            exact rest _ _ ⟨rfl, rfl, r2, .inr (by omega)⟩
        · have : ¬ (r : Int) < 3 := fun z => c3 (decide_eq_true z)
          exact iteF (rest _ _ ⟨rfl, rfl, r2, .inl (by omega)⟩)
end
end Nv

set_option maxRecDepth 100000
set_option maxHeartbeats 4000000
namespace Nv
open PySem PySem.Spec PyProof.Rows L2 NvSet
/-- signs that are all small letters -/
def allS (x : Str) : Bool := x.cps.toList.all fun c => decide (c ∈ (Str.ofString "abcdefghijklmnopqrstuvwxyz").cps.toList)
def padOk (x : Str) (r : Nat) : Bool := allS (cutS x none (some (r : Int))) && allS (cutS x (some (r : Int)) none) && decide ((cutS x none (some (r : Int))).length + (cutS x (some (r : Int)) none).length ≤ 5)
def pads : List Str := ["", "", "q", "zzzzz", "ab"]
theorem pads_ok : (pads.all fun x => (List.range (x.length + 1)).all fun r => padOk x r) = true := by decide +kernel
theorem abc_len : (Str.ofString "abcdefghijklmnopqrstuvwxyz").length = 26 := by decide +kernel
theorem pads_len : (pads.all fun x => decide (x.length ≤ 5)) = true := by decide +kernel
theorem small_of {a s b : Str} {c : Nat} (ha : allS a = true) (hb : allS b = true) (hl : a.length + b.length ≤ 5) (hc : c ∈ (Str.ofString "abcdefghijklmnopqrstuvwxyz").cps.toList) : Small (a ++ ⟨#[c]⟩ ++ b) := by
  have e : (a ++ (⟨#[c]⟩ : Str) ++ b).cps.toList = a.cps.toList ++ [c] ++ b.cps.toList := by
    show ((a.cps ++ #[c]) ++ b.cps).toList = _
    rw [Array.toList_append, Array.toList_append]
  have l : (a ++ (⟨#[c]⟩ : Str) ++ b).length = a.length + 1 + b.length := by
    rw [Str.length_append, Str.length_append]
    rfl
  refine ⟨by omega, by omega, fun x hx => ?_⟩
  rw [e] at hx
  rcases List.mem_append.mp hx with h | h
  · rcases List.mem_append.mp h with h | h
    · exact of_decide_eq_true (List.all_eq_true.mp ha x h)
    · rw [List.mem_singleton.mp h]
      exact hc
  · exact of_decide_eq_true (List.all_eq_true.mp hb x h)
/-- the j-th small letter between two texts -/
def abcW (a b : Str) (j : Nat) : Str := a ++ ⟨#[((Str.ofString "abcdefghijklmnopqrstuvwxyz").cps.toList.getD j 0)]⟩ ++ b
theorem abc_apart : ∀ j k, j < 26 → k < 26 → (Str.ofString "abcdefghijklmnopqrstuvwxyz").cps.toList.getD j 0 = (Str.ofString "abcdefghijklmnopqrstuvwxyz").cps.toList.getD k 0 → j = k := by
  have h : ((List.range 26).all fun j => (List.range 26).all fun k => decide ((Str.ofString "abcdefghijklmnopqrstuvwxyz").cps.toList.getD j 0 = (Str.ofString "abcdefghijklmnopqrstuvwxyz").cps.toList.getD k 0) == decide (j = k)) = true := by decide +kernel
  intro j k hj hk e
  have h1 := List.all_eq_true.mp (List.all_eq_true.mp h j (List.mem_range.mpr hj)) k (List.mem_range.mpr hk)
  rw [decide_eq_true e] at h1
  have h2 : true = decide (j = k) := by simpa using h1
  exact of_decide_eq_true h2.symm
theorem abcW_inj {a b : Str} {j k : Nat} (hj : j < 26) (hk : k < 26) (e : abcW a b j = abcW a b k) : j = k := by
  refine abc_apart j k hj hk ?_
  have e1 := congrArg (fun z : Str => z.cps.toList) e
  have e2 : ∀ c : Nat, (a ++ (⟨#[c]⟩ : Str) ++ b).cps.toList = a.cps.toList ++ ([c] ++ b.cps.toList) := fun c => by
    show ((a.cps ++ #[c]) ++ b.cps).toList = _
    rw [Array.toList_append, Array.toList_append, List.append_assoc]
  have e3 : a.cps.toList ++ ([_] ++ b.cps.toList) = a.cps.toList ++ ([_] ++ b.cps.toList) := (e2 _).symm.trans (e1.trans (e2 _))
  have e4 := List.append_cancel_left e3
  exact (List.cons.inj e4).1
/-- the letters so far are unlike -/
def NodI (m : Nat) (r : Int) (a b : Str) (L : List Str) (i : Nat) : Prop := m ≤ 26 → L.Nodup ∧ ∀ x ∈ L, ∃ k : Nat, k < i ∧ x = abcW a b ((r + 5 * (k : Int)) % 26).toNat
theorem NodI.step {m : Nat} {r : Int} {a b : Str} {L : List Str} {i j : Nat} (h : NodI m r a b L i) (hi : i < m) (r0 : 0 ≤ r) (ej : (r + 5 * (i : Int)) % 26 = (j : Int)) (hj : j < (Str.ofString "abcdefghijklmnopqrstuvwxyz").cps.toList.length) :
    NodI m r a b (L ++ [a ++ (⟨#[(Str.ofString "abcdefghijklmnopqrstuvwxyz").cps.toList[j]]⟩ : Str) ++ b]) (i + 1) := fun hm => by
  obtain ⟨h1, h2⟩ := h hm
  have ew : a ++ (⟨#[(Str.ofString "abcdefghijklmnopqrstuvwxyz").cps.toList[j]]⟩ : Str) ++ b = abcW a b j := by
    unfold abcW
    rw [List.getD_eq_getElem?_getD, List.getElem?_eq_getElem hj]
    rfl
  rw [ew]
  have j26 : j < 26 := by omega
  refine ⟨?_, fun x hx => ?_⟩
  · rw [List.nodup_append]
    refine ⟨h1, List.nodup_cons.mpr ⟨by simp, List.nodup_nil⟩, fun x hx y hy e => ?_⟩
    rw [List.mem_singleton.mp hy] at e
    obtain ⟨k, hk, ek⟩ := h2 x hx
    have := abcW_inj (by omega) j26 (ek.symm.trans e)
    omega
  · rcases List.mem_append.mp hx with e | e
    · obtain ⟨k, hk, ek⟩ := h2 x e
      exact ⟨k, by omega, ek⟩
    · refine ⟨i, by omega, ?_⟩
      rw [List.mem_singleton.mp e, ej]
      rfl
theorem grow_upd {b D : Addr} {H H1 : Hp} {o : HO} (g : Grow b H H1) (hD : H D = none) : Grow b H (upd H1 D o) := fun a x n h => by
  rw [upd_ne (ne_of_none h hD)]
  exact g a x n h
section
variable {P : Program} {w : World} {K : PySem.W.Frag} {mg : Str → Option Value} {base : Heap}
/-- so many letters, in a new list -/
def spAbc : Sp := fun vs H Q _ => ∃ (l b : Addr) (m : Nat), vs = [.ref b, .int (m : Int)] ∧ m ≤ 1000 ∧ Bag l b H ∧ ∀ (p : Addr) (L : List Str) (H' : Hp), L.length = m → (∀ x ∈ L, Small x) → (m ≤ 26 → L.Nodup) → Bag l b H' → Grow b H H' → H p = none → H' p = some (.lst (L.map V.str)) → Q (.ref p) H'
theorem ok_abc {f : Addr} {fd : FuncData} (F : Fun K "_law_abc" "_law_abc" sAbc f fd) (len : mg "len" = none) (rng : mg "range" = none) (GP : C8.Cal P w K mg base 1 "_law_pull" spPull []) (GO : C8.Cal P w K mg base 2 "_law_of" spOf []) : FnOk P w K mg base CX0 3 f fd ["_law_bag_here", "_law_many"] spAbc := by
  refine F.ok scAbc (fun vs H Q E h => ?_) (fun cdv A outer s H vs Q E hr h => ?_)
  · obtain ⟨l, b, m, rfl, _⟩ := h
    rfl
  · obtain ⟨l, b, m, rfl, hm, B, q⟩ := h
    refine ⟨_, pss_cons (ps_par (i := 2) (j := 3) (by rfl) scAbc.nd rfl rfl (by decide) rfl rfl (pa_cons (C8.pe_c GP hr (by decide) (by rfl) (pa_cons (pv 0) (pa_cons pe_int pa_nil))) (pa_cons (pe_lst pa_nil) pa_nil)) (by rfl))
      (pss_cons (ps_set (i := 4) scAbc.nd rfl (.inl rfl) (C8.pe_c GO hr (by decide) (by rfl) (pa_cons (pv 0) (pa_cons (pe_lst (pa_cons pe_str (pa_cons pe_str (pa_cons pe_str (pa_cons pe_str (pa_cons pe_str pa_nil)))))) pa_nil))))
      (pss_cons (ps_set (i := 5) scAbc.nd rfl (.inl rfl) (C8.pe_c GP hr (by decide) (by rfl) (pa_cons (pv 0) (pa_cons (pe_op op_add (pe_callB call_len_str (by rfl) len PySem.boot_len (pa_cons (pv 4) pa_nil)) pe_int) pa_nil))))
      (pss_cons (ps_for PassesOwn.never rfl (pi_range1 (by rfl) rng (pa_cons (pv 1) pa_nil)) (pg_name (i := 6) scAbc.nd rfl (.inl rfl))
        (pss_cons (ps_set (i := 7) scAbc.nd rfl (.inl rfl) (pe_ix ix_str pe_str (pe_op op_mod (pe_op op_add (pv 2) (pe_op op_mul pe_int (pv 6))) pe_int) (fun _ _ => rfl)))
        (pss_one (ps_expr (pe_bm PySem.F.plainAttrs_list PySem.F.slot_list_append PySem.F.type_list_append mt_append (pv 3)
          (pa_cons (pe_op op_add_str (pe_op op_add_str (pe_slice sl_str (pv 4) po_none (po_some (pv 5))) (pv 7)) (pe_slice sl_str (pv 4) (po_some (pv 5)) po_none)) pa_nil))))))
      (pss_one (ps_ret (pv 3)))))), ?_⟩
    refine ⟨_, rfl, l, b, 26, rfl, by decide, fit8 (n := 5) (by decide) (by decide), B, fun r H1 r0 r1 B1 t1 => ?_⟩
    refine ⟨Nat.zero_le _, fun D nD => ?_⟩
    have s2 := same_new (o := .lst []) nD
    have B2 := B1.same s2
    have nDb := B1.ne nD
    have nDl := B1.neL nD
    have eD : (upd H1 D (.lst [])) D = some (.lst []) := upd_same
    refine ⟨_, _, rfl, ?_⟩
    refine ⟨_, rfl, (by show 5 ≤ sizeLine; decide), fun o no => ?_⟩
    have s3 := same_new (o := .lst [.str "", .str "", .str "q", .str "zzzzz", .str "ab"]) no
    have B3 := B2.same s3
    refine ⟨l, b, o, _, rfl, B2.ne no, upd_same, (by show 0 < 5; decide), (by show 5 ≤ 1000; decide), B3, fun v H4 hv B4 t4 => ?_⟩
    have eD4 : H4 D = some (.lst []) := t4.grow _ _ nDb (s3 _ _ eD)
    obtain ⟨pad, hpad, rfl⟩ : ∃ x ∈ pads, v = .str x := by
      have : v ∈ pads.map V.str := hv
      obtain ⟨x, hx, e⟩ := List.mem_map.mp this
      exact ⟨x, hx, e.symm⟩
    have lp : pad.length ≤ 5 := of_decide_eq_true (List.all_eq_true.mp pads_len pad hpad)
    have lps : pad.length ≤ sizeLine := by rw [sizeLine_eq]; omega
    refine ⟨_, rfl, _, rfl, pad, rfl, lps, _, 1, rfl, rfl, l, b, (pad.length : Int) + 1, rfl, by omega, fit8 (n := 5) (Nat.lt_of_le_of_lt (show ((pad.length : Int) + 1).natAbs ≤ 6 by omega) (by decide)) (by decide), B4, fun z H5 z0 z1 B5 t5 => ?_⟩
    have eD5 : H5 D = some (.lst []) := t5.grow _ _ nDb eD4
    have gH5 : Grow b H H5 := t1.grow.trans ((Same.grow s2).trans ((Same.grow s3).trans (t4.grow.trans t5.grow)))
    obtain ⟨k, rfl⟩ := Int.eq_ofNat_of_zero_le z0
    have pk := List.all_eq_true.mp (List.all_eq_true.mp pads_ok pad hpad) k (List.mem_range.mpr (by omega))
    unfold padOk at pk
    rw [Bool.and_eq_true, Bool.and_eq_true] at pk
    obtain ⟨⟨p1, p2⟩, p3⟩ := pk
    have p3 := of_decide_eq_true p3
    refine ⟨_, rfl, (m : Int), rfl, by omega, by omega, for_range (lo := 0) (n := ((m : Int)).toNat) (fun i σ' H' => ∃ (y6 y7 : Option V) (L : List Str), σ' = [some (.ref b), some (.int (m : Int)), some (.int r), some (.ref D), some (.str pad), some (.int (k : Int)), y6, y7] ∧ Bag l b H' ∧ Grow b H H' ∧ H' D = some (.lst (L.map V.str)) ∧ L.length = i ∧ (∀ x ∈ L, Small x) ∧ NodI m r (cutS pad none (some (k : Int))) (cutS pad (some (k : Int)) none) L i) ?_ ?_ ?_⟩
    · exact ⟨none, none, [], rfl, B5, gH5, eD5, rfl, (fun x hx => nomatch hx), fun _ => ⟨List.nodup_nil, fun x hx => nomatch hx⟩⟩
    · rintro i σ' H' hi ⟨y6, y7, L, rfl, B6, g6, eD6, lL, sL, ndL⟩
      have hi' : i < m := by omega
      have m0 := Int.emod_nonneg (r + 5 * (0 + (i : Int))) (show (26 : Int) ≠ 0 by decide)
      have m1 := Int.emod_lt_of_pos (r + 5 * (0 + (i : Int))) (show (0 : Int) < 26 by decide)
      refine ⟨_, rfl, _, rfl, 5, _, rfl, rfl, .inl ⟨by decide, by decide⟩, _, _, rfl, rfl, _, 26, rfl, rfl, (by show (0 : Int) < 26; decide), ?_⟩
      obtain ⟨j, ej⟩ := Int.eq_ofNat_of_zero_le m0
      have hj : j < (Str.ofString "abcdefghijklmnopqrstuvwxyz").cps.toList.length := by
        have e : (Str.ofString "abcdefghijklmnopqrstuvwxyz").cps.toList.length = (Str.ofString "abcdefghijklmnopqrstuvwxyz").length := Array.length_toList
        rw [e, abc_len]
        omega
      have hc : atI (Str.ofString "abcdefghijklmnopqrstuvwxyz").cps.toList (j : Int) = some ((Str.ofString "abcdefghijklmnopqrstuvwxyz").cps.toList[j]) := atI_nat (List.getElem?_eq_getElem hj)
      have hcm : (Str.ofString "abcdefghijklmnopqrstuvwxyz").cps.toList[j] ∈ (Str.ofString "abcdefghijklmnopqrstuvwxyz").cps.toList := List.getElem_mem hj
      have nd2 := ndL.step (i := i) hi' r0 (by rw [Int.zero_add] at ej; exact ej) hj
      generalize (Str.ofString "abcdefghijklmnopqrstuvwxyz").cps.toList[j] = c at hc hcm nd2
      rw [← ej] at hc
      refine ⟨_, _, _, rfl, rfl, (by decide +kernel), hc, ?_⟩
      have l1 : (cutS pad none (some (k : Int))).length + (⟨#[c]⟩ : Str).length ≤ sizeLine := by
        rw [sizeLine_eq, show (⟨#[c]⟩ : Str).length = 1 from rfl]
        omega
      have sm := small_of (s := pad) p1 p2 p3 hcm
      have l2 : (cutS pad none (some (k : Int)) ++ (⟨#[c]⟩ : Str)).length + (cutS pad (some (k : Int)) none).length ≤ sizeLine := by
        rw [Str.length_append, sizeLine_eq, show (⟨#[c]⟩ : Str).length = 1 from rfl]
        omega
      refine ⟨_, rfl, .inl ⟨rfl, _, SqL.of eD6⟩, _, rfl, _, rfl, (k : Int), rfl, pad, rfl, lps, _, rfl, _, _, rfl, rfl, l1, _, rfl, _, rfl, (k : Int), rfl, pad, rfl, lps, _, _, rfl, rfl, l2, ?_⟩
      refine ⟨D, _, _, rfl, rfl, eD6, ?_, ?_⟩
      · rw [List.length_map]
        exact small1000 (by omega)
      · refine ⟨_, _, L ++ [cutS pad none (some (k : Int)) ++ (⟨#[c]⟩ : Str) ++ cutS pad (some (k : Int)) none], rfl, B6.beside nDb nDl, grow_upd g6 (t1.grow.free nDb nD), ?_, by rw [List.length_append, lL]; rfl, ?_⟩
        · rw [upd_same, List.map_append]
          rfl
        · refine ⟨fun x hx => ?_, nd2⟩
          rcases List.mem_append.mp hx with e | e
          · exact sL x e
          · rw [List.mem_singleton.mp e]
            exact sm
    · rintro σ' H' ⟨y6, y7, L, rfl, B6, g6, eD6, lL, sL, ndL⟩
      exact ⟨_, rfl, q D L H' (by omega) sL (fun h => (ndL h).1) B6 g6 (t1.grow.free nDb nD) eD6⟩
end
end Nv

set_option maxRecDepth 100000
set_option maxHeartbeats 4000000
namespace Nv
open PySem PySem.Spec PyProof.Rows L2 NvSet
abbrev sInner : Stmt := topS 58
abbrev sLCount : Stmt := topS 59
abbrev sAllP : Stmt := topS 61
abbrev sLLets : Stmt := topS 62
theorem scInner : FnScope ["_law_term"] ["_law_term"] (defScope sInner) := ⟨rfl, rfl, rfl, by decide +kernel, rfl, by decide +kernel, by decide +kernel⟩
theorem scLCount : FnScope ["_law_term", "_law_part_now"] ["_law_term"] (defScope sLCount) := ⟨rfl, rfl, rfl, by decide +kernel, rfl, by decide +kernel, by decide +kernel⟩
theorem scAllP : FnScope ["_law_term", "_law_found", "_law_part_now"] ["_law_term"] (defScope sAllP) := ⟨rfl, rfl, rfl, by decide +kernel, rfl, by decide +kernel, by decide +kernel⟩
theorem scLLets : FnScope ["_law_term", "_law_one"] ["_law_term"] (defScope sLLets) := ⟨rfl, rfl, rfl, by decide +kernel, rfl, by decide +kernel, by decide +kernel⟩
def four : List V := [.str "plus", .str "less", .str "times", .str "undo"]
section
variable {P : Program} {w : World} {K : PySem.W.Frag} {mg : Str → Option Value} {base : Heap}
theorem ok_inner {f : Addr} {fd : FuncData} {k : Nat} (F : Fun K "_law_inner" "_law_inner" sInner f fd) : FnOk P w K mg base CX0 (k + 1) f fd ["_law_term"] (spThings K) := by
  refine F.ok scInner (fun vs H Q E h => ?_) (fun cdv A outer s H vs Q E hr h => ?_)
  · obtain ⟨T, rfl, _⟩ := h
    rfl
  · obtain ⟨Z, rfl, hin, q⟩ := h
    refine ⟨_, pss_one (ps_ret (pe_ifExp (pt_cmpR op_in_seq (pe_ix ix_tup (pv 0) pe_int (fun _ _ => rfl)) (pe_tup (pa_cons pe_str (pa_cons pe_str (pa_cons pe_str (pa_cons pe_str pa_nil))))) (by rfl)) (pe_slice sl_tup (pv 0) (po_some pe_int) po_none) (pe_tup pa_nil))), ?_⟩
    have hp := hin.tup
    cases Z with
    | sh p qq t b =>
      refine ⟨_, rfl, p, _, 0, _, rfl, rfl, SqT.of hp, atI_nat (j := 0) rfl, (by show 4 ≤ sizeLine; decide), fun e ne => ?_⟩
      have sm := same_new (o := .tup four) ne
      refine ⟨e, _, rfl, .inr (SqT.of upd_same), rfl, rfl, _, rfl, iteF ?_⟩
      exact ⟨Nat.zero_le _, fun e2 ne2 => q e2 _ (Same.trans sm (same_new ne2)) (SqT.of upd_same)⟩
    | le p x =>
      refine ⟨_, rfl, p, _, 0, _, rfl, rfl, SqT.of hp, atI_nat (j := 0) rfl, (by show 4 ≤ sizeLine; decide), fun e ne => ?_⟩
      have sm := same_new (o := .tup four) ne
      refine ⟨e, _, rfl, .inr (SqT.of upd_same), rfl, rfl, _, rfl, iteF ?_⟩
      exact ⟨Nat.zero_le _, fun e2 ne2 => q e2 _ (Same.trans sm (same_new ne2)) (SqT.of upd_same)⟩
    | two p o A B =>
      refine ⟨_, rfl, p, _, 0, _, rfl, rfl, SqT.of hp, atI_nat (j := 0) rfl, (by show 4 ≤ sizeLine; decide), fun e ne => ?_⟩
      have sm := same_new (o := .tup four) ne
      refine ⟨e, _, rfl, .inr (SqT.of upd_same), rfl, rfl, _, rfl, ?_⟩
      rw [show inV (V.str (AT.two p o A B).word) [V.str (Str.ofString "plus"), V.str (Str.ofString "less"), V.str (Str.ofString "times"), V.str (Str.ofString "undo")] = true by cases o <;> rfl]
      refine iteT ?_
      refine ⟨_, rfl, 1, rfl, p, _, rfl, SqT.of (sm _ _ hp), (fun z => by cases z.1), fun e2 ne2 => q e2 _ (Same.trans sm (same_new ne2)) (SqT.of ?_)⟩
      rw [upd_same]
      rfl
    | un p A =>
      refine ⟨_, rfl, p, _, 0, _, rfl, rfl, SqT.of hp, atI_nat (j := 0) rfl, (by show 4 ≤ sizeLine; decide), fun e ne => ?_⟩
      have sm := same_new (o := .tup four) ne
      refine ⟨e, _, rfl, .inr (SqT.of upd_same), rfl, rfl, _, rfl, iteT ?_⟩
      refine ⟨_, rfl, 1, rfl, p, _, rfl, SqT.of (sm _ _ hp), (fun z => by cases z.1), fun e2 ne2 => q e2 _ (Same.trans sm (same_new ne2)) (SqT.of ?_)⟩
      rw [upd_same]
      rfl
/-- how many parts -/
def spLCount (n : Nat) : Sp := fun vs H Q _ => ∃ T : AT, vs = [T.v] ∧ T.In H ∧ T.count ≤ n ∧ n ≤ 100 ∧ ∀ H', Same H H' → Q (.int (T.count : Int)) H'
theorem ok_lcount {f : Addr} {fd : FuncData} (F : Fun K "_law_count" "_law_count" sLCount f fd) (gf : mg "_law_count" = some (.ref f)) (bf : Binds K fd ["_law_term"] []) (sum : mg "sum" = none) (GT : C8.Cal P w K mg base 1 "_law_inner" (spThings K) []) :
    ∀ n : Nat, FnOk P w K mg base CX0 (n + 2) f fd ["_law_term"] (spLCount n) := by
  intro n
  induction n with
  | zero => exact ⟨fun vs H Q E h => by obtain ⟨T, rfl, _⟩ := h; rfl, fun A outer s H args us vs Q E _ _ _ _ h => by
      obtain ⟨T, _, _, c, _⟩ := h
      have := T.count_pos
      omega⟩
  | succ n ih =>
    refine F.ok scLCount (fun vs H Q E h => ?_) (fun cdv A outer s H vs Q E hr h => ?_)
    · obtain ⟨T, rfl, _⟩ := h
      rfl
    · obtain ⟨Z, rfl, hin, hc, hn, q⟩ := h
      refine ⟨_, pss_one (ps_ret (pe_op op_add pe_int (pe_callB (cr_sum rfl) (by rfl) sum (by decide +kernel) (pa_cons (pe_lc (own := [("_law_part_now", 1)]) (g := gName 1) (tt := tYes) rfl scLCount.nd (pi_tup (C8.pe_c GT hr (by omega) (by rfl) (pa_cons (pv 0) pa_nil))) (blkOk_by (N := ["_law_term", "_law_part_now"]) (sc := defScope sLCount) (by decide +kernel))
        (fun _ _ _ _ _ => pg_name (i := 1) scLCount.nd rfl (Or.inl rfl)) (fun _ _ _ _ _ => pts_nil) (fun _ _ _ _ _ => pe_call ih hr (by rfl) gf F.kp bf .nil pass0 (pa_cons (pv 1) pa_nil))) pa_nil)))), ?_⟩
      refine ⟨_, rfl, Z, rfl, hin, fun p H1 s1 hp => ⟨p, rfl, ⟨_, hp⟩, fun D nD => ?_⟩⟩
      refine lc_tup (K := K) (a := p) (xs := Z.kids.map AT.v) (fun i H' => Same H1 H' ∧ H' D = some (.lst (((Z.kids.take i).map fun B => (B.count : Int)).map V.int))) ⟨same_new nD, upd_same⟩ (fun i H' _ h => seqT h.1 hp) (fun i x H' hx h => ?_) (fun H' h => ?_)
      · obtain ⟨sm, eD⟩ := h
        rw [List.getElem?_map] at hx
        obtain ⟨B, hB, rfl⟩ := Option.map_eq_some_iff.mp hx
        have mB : B ∈ Z.kids := List.mem_of_getElem? hB
        have cB := Z.kid_count mB
        refine ⟨rfl, yes_if ?_⟩
        refine ⟨_, rfl, B, rfl, (hin.kid B mB).keep (Same.tk (Same.trans s1 sm)), by omega, by omega, fun H2 s2 => ?_⟩
        refine ⟨_, s2 _ _ eD, ?_, same_upd (Same.trans sm s2) nD, ?_⟩
        · rw [List.length_map, List.length_map, List.length_take]
          have := Z.kids_len
          exact small1000 (by omega)
        · rw [upd_same, List.take_add_one, hB, List.map_append, List.map_append]
          rfl
      · obtain ⟨sm, eD⟩ := h
        rw [List.length_map, List.take_length] at eD
        refine ⟨D, _, rfl, SqL.of eD, 1, _, rfl, rfl, ?_⟩
        have e : (1 : Int) + (Z.kids.map fun B => (B.count : Int)).sum = (Z.count : Int) := by
          rw [Z.count_eq]
          have : ∀ l : List AT, (l.map fun B => (B.count : Int)).sum = (((l.map AT.count).sum : Nat) : Int) := fun l => by
            induction l with
            | nil => rfl
            | cons x r ih => simp only [List.map_cons, List.sum_cons, ih]; omega
          rw [this]
          omega
        show Q (.int (1 + (Z.kids.map fun B => (B.count : Int)).sum)) H'
        rw [e]
        exact q _ (Same.trans s1 sm)
theorem ok_allP {f : Addr} {fd : FuncData} (F : Fun K "_law_all_parts" "_law_all_parts" sAllP f fd) (gf : mg "_law_all_parts" = some (.ref f)) (bf : Binds K fd ["_law_term"] []) (GT : C8.Cal P w K mg base 1 "_law_inner" (spThings K) []) :
    ∀ n : Nat, FnOk P w K mg base CX0 (n + 2) f fd ["_law_term"] (spParts n) := by
  intro n
  induction n with
  | zero => exact ⟨fun vs H Q E h => by obtain ⟨T, rfl, _⟩ := h; rfl, fun A outer s H args us vs Q E _ _ _ _ h => by
      obtain ⟨T, _, _, c, _⟩ := h
      have := T.count_pos
      omega⟩
  | succ n ih =>
    refine F.ok scAllP (fun vs H Q E h => ?_) (fun cdv A outer s H vs Q E hr h => ?_)
    · obtain ⟨T, rfl, _⟩ := h
      rfl
    · obtain ⟨Z, rfl, hin, hc, hn, q⟩ := h
      refine ⟨_, pss_cons (ps_set (i := 1) scAllP.nd rfl (.inl rfl) (pe_lst (pa_cons (pv 0) pa_nil)))
        (pss_cons (ps_for PassesOwn.never rfl (pi_tup (C8.pe_c GT hr (by omega) (by rfl) (pa_cons (pv 0) pa_nil))) (pg_name (i := 2) scAllP.nd rfl (.inl rfl))
          (pss_one (ps_set (i := 1) scAllP.nd rfl (.inl rfl) (pe_op op_cat (pv 1) (pe_call ih hr (by rfl) gf F.kp bf .nil pass0 (pa_cons (pv 2) pa_nil))))))
        (pss_one (ps_ret (pv 1)))), ?_⟩
      refine ⟨_, rfl, (by show 1 ≤ sizeLine; decide), fun D nD => ?_⟩
      have s1 := same_new (o := .lst [Z.v]) nD
      refine ⟨_, rfl, Z, rfl, hin.keep (Same.tk s1), fun p H2 s2 hp => ?_⟩
      refine ⟨p, rfl, ⟨_, hp⟩, for_tup (K := K) (a := p) (xs := Z.kids.map AT.v) (fun i σ' H' => ∃ y2 D, σ' = [some Z.v, some (.ref D), y2] ∧ H D = none ∧ Same H H' ∧ H' D = some (.lst ((Z :: kidParts Z i).map AT.v)) ∧ SqT K H' p (Z.kids.map AT.v)) ?_ ?_ ?_ ?_⟩
      · exact ⟨none, D, rfl, nD, Same.trans s1 s2, s2 _ _ upd_same, hp⟩
      · rintro i σ' H' _ ⟨_, _, _, _, _, _, h⟩
        exact h
      · rintro i x σ' H' hx ⟨y2, D, rfl, nD, sm, eD, hp'⟩
        rw [List.getElem?_map] at hx
        obtain ⟨B, hB, rfl⟩ := Option.map_eq_some_iff.mp hx
        have mB : B ∈ Z.kids := List.mem_of_getElem? hB
        have cB := Z.kid_count mB
        refine ⟨_, rfl, _, rfl, B, rfl, (hin.kid B mB).keep (Same.tk sm), by omega, by omega, fun r H3 s3 nr er => ?_⟩
        have eD3 := s3 _ _ eD
        have l1 := kidParts_len Z i
        refine ⟨D, r, _, _, rfl, rfl, eD3, er, ?_, fun D2 nD2 => ?_⟩
        · rw [List.length_map, List.length_map, List.length_cons, B.parts_len, sizeLine_eq]
          omega
        · have s4 := Same.trans sm s3
          have s5 := same_new (o := .lst ((Z :: kidParts Z i).map AT.v ++ B.parts.map AT.v)) nD2
          refine ⟨_, D2, rfl, s4.free nD2, Same.trans s4 s5, ?_, seqT s5 (seqT s3 hp')⟩
          rw [upd_same, kidParts_succ hB, ← List.map_append]
          rfl
      · rintro σ' H' ⟨y2, D, rfl, nD, sm, eD, hp'⟩
        rw [List.length_map, kidParts_all] at eD
        exact ⟨_, rfl, q D _ sm nD eD⟩
end
end Nv

set_option maxRecDepth 100000
set_option maxHeartbeats 4000000
namespace Nv
open PySem PySem.Spec PyProof.Rows L2 NvSet
section
variable {P : Program} {w : World} {K : PySem.W.Frag} {mg : Str → Option Value} {base : Heap}
theorem ok_llets {f : Addr} {fd : FuncData} {n : Nat} (F : Fun K "_law_letters" "_law_letters" sLLets f fd) (srt : mg "sorted" = none) (st : mg "set" = none) (GP : C8.Cal P w K mg base (n + 2) "_law_all_parts" (spParts n) []) :
    FnOk P w K mg base CX0 (n + 3) f fd ["_law_term"] (spLets n) := by
  refine F.ok scLLets (fun vs H Q E h => ?_) (fun cdv A outer s H vs Q E hr h => ?_)
  · obtain ⟨T, rfl, _⟩ := h
    rfl
  · obtain ⟨Z, rfl, hin, hc, hn, q⟩ := h
    refine ⟨_, pss_one (ps_ret (pe_callB (cr_sortedTx rfl) (by rfl) srt (by decide +kernel) (pa_cons (pe_callTy (cr_setTx rfl) (by rfl) st (by decide +kernel) (pa_cons (pe_lc (own := [("_law_one", 1)]) (g := gName 1) rfl scLLets.nd (pi_list (C8.pe_c GP hr (by omega) (by rfl) (pa_cons (pv 0) pa_nil))) (blkOk_by (N := ["_law_term", "_law_one"]) (sc := defScope sLLets) (by decide +kernel))
      (fun _ _ _ _ _ => pg_name (i := 1) scLLets.nd rfl (Or.inl rfl)) (fun _ _ _ _ _ => pts_one (pt_cmpR op_eq (pe_ix (r := rIxT K) ix_tup (pv 1) pe_int (fun _ _ => rfl)) pe_str (nomark _))) (fun _ _ _ _ _ => pe_ix (r := rIxT K) ix_tup (pv 1) pe_int (fun _ _ => rfl))) pa_nil)) pa_nil))), ?_⟩
    refine ⟨_, rfl, Z, rfl, hin, hc, by omega, fun p H1 s1 np ep => ?_⟩
    refine ⟨p, rfl, ⟨_, SqL.of ep⟩, fun D nD => ?_⟩
    refine lc_list (K := K) (a := p) (xs := Z.parts.map AT.v) (fun i H' => Same H1 H' ∧ H' D = some (.lst (((Z.parts.take i).filterMap letOf).map V.str))) ⟨same_new nD, upd_same⟩ (fun i H' _ h => SqL.of (h.1 _ _ ep)) (fun i x H' hx h => ?_) (fun H' h => ?_)
    · obtain ⟨sm, eD⟩ := h
      have hi : i < Z.parts.length := by
        have := (List.getElem?_eq_some_iff.mp hx).1
        rwa [List.length_map] at this
      rw [Z.parts_len] at hi
      rw [List.getElem?_map] at hx
      obtain ⟨B, hB, rfl⟩ := Option.map_eq_some_iff.mp hx
      have inB : B.In H' := (hin.parts B (List.mem_of_getElem? hB)).keep (Same.tk (Same.trans s1 sm))
      have eB := inB.tup
      refine ⟨rfl, ?_⟩
      refine ⟨_, rfl, B.at_, _, 0, _, rfl, rfl, SqT.of eB, atI_nat (j := 0) rfl, rfl, _, rfl, ?_⟩
      rcases word_letter B with ⟨b, x, rfl⟩ | ne
      · refine ifP rfl ?_
        refine ⟨_, rfl, b, _, 1, _, rfl, rfl, SqT.of eB, atI_nat (j := 1) rfl, _, eD, ?_, same_upd sm nD, ?_⟩
        · rw [List.length_map]
          have l1 := List.length_filterMap_le letOf (Z.parts.take i)
          rw [List.length_take] at l1
          exact small1000 (by omega)
        · rw [upd_same, List.take_add_one, hB, List.filterMap_append, List.map_append]
          rfl
      · refine ifN ne ?_
        refine ⟨sm, ?_⟩
        have e0 : letOf B = none := by
          cases B with
          | le _ _ => exact absurd rfl ne
          | sh _ _ _ _ => rfl
          | two _ _ _ _ => rfl
          | un _ _ => rfl
        rw [eD, List.take_add_one, hB, List.filterMap_append]
        show _ = some (HO.lst ((_ ++ List.filterMap letOf [B]).map V.str))
        rw [List.filterMap_cons_none e0]
        simp
    · obtain ⟨sm, eD⟩ := h
      rw [List.length_map, List.take_length] at eD
      have el : Z.parts.filterMap letOf = Z.lets := by rw [Z.lets_parts]; try rfl
      rw [el] at eD
      have ll : Z.lets.length ≤ Z.count := by
        rw [← el, ← Z.parts_len]
        exact List.length_filterMap_le _ _
      refine ⟨D, Z.lets, rfl, SqL.of eD, by omega, fun a us na nd hu => ?_⟩
      have s2 := Same.trans (Same.trans s1 sm) (same_new (o := TxO w a us) na)
      have lu : us.length ≤ Z.lets.length := nodup_le nd fun x hx => (hu x).1 hx
      exact ⟨a, us, rfl, upd_same, by omega, fun ys r pm nd so nr => q r ys _ (Same.trans s2 (same_new nr)) (s2.free nr) ⟨so, pm.nodup_iff.mpr nd, fun y => by rw [pm.mem_iff, hu y]⟩ upd_same⟩
end
end Nv

set_option maxRecDepth 100000
set_option maxHeartbeats 4000000
namespace Nv
open PySem PySem.Spec PyProof.Rows L2 NvSet
abbrev sLDepth : Stmt := topS 60
abbrev sFault : Stmt := topS 63
theorem scLDepth : FnScope ["_law_term", "_law_part_now"] ["_law_term"] (defScope sLDepth) := ⟨rfl, rfl, rfl, by decide +kernel, rfl, by decide +kernel, by decide +kernel⟩
theorem scFault : FnScope ["_law_term"] ["_law_term"] (defScope sFault) := ⟨rfl, rfl, rfl, by decide +kernel, rfl, by decide +kernel, by decide +kernel⟩
theorem deep_max : ∀ (T : AT) (m : Int), m ∈ ((0 : Int) :: T.kids.map fun B => (B.deep : Int)) → (∀ y, y ∈ ((0 : Int) :: T.kids.map fun B => (B.deep : Int)) → y ≤ m) → m + (T.step : Int) = (T.deep : Int)
  | .sh _ _ _ _, m, h, _ => by
    rw [List.mem_singleton.mp h]
    rfl
  | .le _ _, m, h, _ => by
    rw [List.mem_singleton.mp h]
    rfl
  | .two _ _ A B, m, h, u => by
    have h1 := u 0 List.mem_cons_self
    have h2 := u (A.deep : Int) (List.mem_cons_of_mem _ List.mem_cons_self)
    have h3 := u (B.deep : Int) (List.mem_cons_of_mem _ (List.mem_cons_of_mem _ List.mem_cons_self))
    show m + ((0 : Nat) : Int) = ((max A.deep B.deep : Nat) : Int)
    rcases List.mem_cons.mp h with e | h
    · omega
    · rcases List.mem_cons.mp h with e | h
      · have e : m = (A.deep : Int) := e
        omega
      · have e : m = (B.deep : Int) := List.mem_singleton.mp h
        omega
  | .un _ A, m, h, u => by
    have h1 := u 0 List.mem_cons_self
    have h2 := u (A.deep : Int) (List.mem_cons_of_mem _ List.mem_cons_self)
    show m + ((1 : Nat) : Int) = ((A.deep + 1 : Nat) : Int)
    rcases List.mem_cons.mp h with e | h
    · omega
    · have e : m = (A.deep : Int) := List.mem_singleton.mp h
      omega
section
variable {P : Program} {w : World} {K : PySem.W.Frag} {mg : Str → Option Value} {base : Heap}
/-- how deep -/
def spLDepth (n : Nat) : Sp := fun vs H Q _ => ∃ T : AT, vs = [T.v] ∧ T.In H ∧ T.count ≤ n ∧ n ≤ 100 ∧ ∀ H', Same H H' → Q (.int (T.deep : Int)) H'
theorem ok_ldepth {f : Addr} {fd : FuncData} (F : Fun K "_law_depth" "_law_depth" sLDepth f fd) (gf : mg "_law_depth" = some (.ref f)) (bf : Binds K fd ["_law_term"] []) (mx : mg "max" = none) (int : mg "int" = none) (GT : C8.Cal P w K mg base 1 "_law_inner" (spThings K) []) :
    ∀ n : Nat, FnOk P w K mg base CX0 (n + 2) f fd ["_law_term"] (spLDepth n) := by
  intro n
  induction n with
  | zero => exact ⟨fun vs H Q E h => by obtain ⟨T, rfl, _⟩ := h; rfl, fun A outer s H args us vs Q E _ _ _ _ h => by
      obtain ⟨T, _, _, c, _⟩ := h
      have := T.count_pos
      omega⟩
  | succ n ih =>
    refine F.ok scLDepth (fun vs H Q E h => ?_) (fun cdv A outer s H vs Q E hr h => ?_)
    · obtain ⟨T, rfl, _⟩ := h
      rfl
    · obtain ⟨Z, rfl, hin, hc, hn, q⟩ := h
      refine ⟨_, pss_one (ps_ret (pe_op op_add (pe_callB (cr_max rfl) (by rfl) mx (by decide +kernel) (pa_cons (pe_op op_cat (pe_lst (pa_cons pe_int pa_nil)) (pe_lc (own := [("_law_part_now", 1)]) (g := gName 1) (tt := tYes) rfl scLDepth.nd (pi_tup (C8.pe_c GT hr (by omega) (by rfl) (pa_cons (pv 0) pa_nil))) (blkOk_by (N := ["_law_term", "_law_part_now"]) (sc := defScope sLDepth) (by decide +kernel))
        (fun _ _ _ _ _ => pg_name (i := 1) scLDepth.nd rfl (Or.inl rfl)) (fun _ _ _ _ _ => pts_nil) (fun _ _ _ _ _ => pe_call ih hr (by rfl) gf F.kp bf .nil pass0 (pa_cons (pv 1) pa_nil)))) pa_nil))
        (pe_callTy call_int1 (by rfl) int (by decide +kernel) (pa_cons (pe_cmpR op_eq (pe_ix ix_tup (pv 0) pe_int (fun _ _ => rfl)) pe_str (nomark _)) pa_nil)))), ?_⟩
      refine ⟨(by show 1 ≤ sizeLine; decide), fun O nO => ?_⟩
      have s0 := same_new (o := .lst [.int 0]) nO
      have eO : upd H O (.lst [.int 0]) O = some (.lst [.int 0]) := upd_same
      generalize upd H O (.lst [.int 0]) = H0 at *
      refine ⟨_, rfl, Z, rfl, hin.keep (Same.tk s0), fun p H1 s1 hp => ⟨p, rfl, ⟨_, hp⟩, fun D nD => ?_⟩⟩
      refine lc_tup (K := K) (a := p) (xs := Z.kids.map AT.v) (fun i H' => Same H1 H' ∧ H' D = some (.lst (((Z.kids.take i).map fun B => (B.deep : Int)).map V.int))) ⟨same_new nD, upd_same⟩ (fun i H' _ h => seqT h.1 hp) (fun i x H' hx h => ?_) (fun H' h => ?_)
      · obtain ⟨sm, eD⟩ := h
        rw [List.getElem?_map] at hx
        obtain ⟨B, hB, rfl⟩ := Option.map_eq_some_iff.mp hx
        have mB : B ∈ Z.kids := List.mem_of_getElem? hB
        have cB := Z.kid_count mB
        refine ⟨rfl, yes_if ?_⟩
        refine ⟨_, rfl, B, rfl, (hin.kid B mB).keep (Same.tk (Same.trans s0 (Same.trans s1 sm))), by omega, by omega, fun H2 s2 => ?_⟩
        refine ⟨_, s2 _ _ eD, ?_, same_upd (Same.trans sm s2) nD, ?_⟩
        · rw [List.length_map, List.length_map, List.length_take]
          have := Z.kids_len
          exact small1000 (by omega)
        · rw [upd_same, List.take_add_one, hB, List.map_append, List.map_append]
          rfl
      · obtain ⟨sm, eD⟩ := h
        rw [List.length_map, List.take_length] at eD
        have s01 := Same.trans s0 (Same.trans s1 sm)
        refine ⟨O, D, _, _, rfl, rfl, sm _ _ (s1 _ _ eO), eD, ?_, fun D2 nD2 => ?_⟩
        · rw [List.length_map, List.length_map, sizeLine_eq]
          have := Z.kids_len
          show 1 + _ ≤ _
          omega
        have s3 := same_new (o := .lst ([V.int 0] ++ (Z.kids.map fun B => (B.deep : Int)).map V.int)) nD2
        have e3 : upd H' D2 (.lst ([V.int 0] ++ (Z.kids.map fun B => (B.deep : Int)).map V.int)) D2 = some (.lst (((0 : Int) :: Z.kids.map fun B => (B.deep : Int)).map V.int)) := upd_same
        generalize upd H' D2 (.lst ([V.int 0] ++ (Z.kids.map fun B => (B.deep : Int)).map V.int)) = H3 at *
        have s03 := Same.trans s01 s3
        refine ⟨D2, _, rfl, SqL.of e3, Nat.zero_lt_succ _, fun m hm hu => ?_⟩
        have dm := deep_max Z m hm hu
        have eZ := (hin.keep (Same.tk s03)).tup
        refine ⟨_, rfl, Z.at_, _, 0, _, rfl, rfl, SqT.of eZ, atI_nat (j := 0) rfl, rfl, .inr ⟨_, rfl, ?_⟩⟩
        by_cases e : Z.step = 1
        · rw [decide_eq_true ((word_undo Z).2 e)]
          refine ⟨_, _, rfl, rfl, ?_⟩
          show Q (.int (m + 1)) H3
          rw [show m + 1 = (Z.deep : Int) by omega]
          exact q _ s03
        · have e0 : Z.step = 0 := (Z.step_le).resolve_right e
          rw [decide_eq_false (fun z => e ((word_undo Z).1 z))]
          refine ⟨_, _, rfl, rfl, ?_⟩
          show Q (.int (m + 0)) H3
          rw [show m + 0 = (Z.deep : Int) by omega]
          exact q _ s03
/-- the law's own look for a flaw -/
def spFault (n : Nat) : Sp := fun vs H Q _ => ∃ (T : AT) (L : List Str), vs = [T.v] ∧ T.In H ∧ Fair T L ∧ T.count ≤ n ∧ ∀ H', Same H H' → Q (flawV T.flaw) H'
theorem ok_fault {f : Addr} {fd : FuncData} {n : Nat} (hn : n ≤ 60) (F : Fun K "_law_fault" "_law_fault" sFault f fd) (len : mg "len" = none) (GC : C8.Cal P w K mg base (n + 2) "_law_count" (spLCount n) []) (GL : C8.Cal P w K mg base (n + 3) "_law_letters" (spLets n) []) (GD : C8.Cal P w K mg base (n + 2) "_law_depth" (spLDepth n) []) :
    FnOk P w K mg base CX0 (n + 4) f fd ["_law_term"] (spFault n) := by
  refine F.ok scFault (fun vs H Q E h => ?_) (fun cdv A outer s H vs Q E hr h => ?_)
  · obtain ⟨T, L, rfl, _⟩ := h
    rfl
  · obtain ⟨Z, L, rfl, hin, fr, hc, q⟩ := h
    refine ⟨_, pss_cons (ps_if (pt_cmpR op_gt (C8.pe_c GC hr (by omega) (by rfl) (pa_cons (pv 0) pa_nil)) pe_int (nomark _)) (pss_one (ps_ret pe_str)) pss_nil)
      (pss_cons (ps_if (pt_cmpR op_gt (pe_callB call_len_seq (by rfl) len PySem.boot_len (pa_cons (C8.pe_c GL hr (by omega) (by rfl) (pa_cons (pv 0) pa_nil)) pa_nil)) pe_int (nomark _)) (pss_one (ps_ret pe_str)) pss_nil)
      (pss_one (ps_ret (pe_ifExp (pt_cmpR op_gt (C8.pe_c GD hr (by omega) (by rfl) (pa_cons (pv 0) pa_nil)) pe_int (nomark _)) pe_str pe_non)))), ?_⟩
    refine ⟨_, rfl, Z, rfl, hin, hc, by omega, fun H1 s1 => ?_⟩
    refine ⟨_, _, rfl, rfl, _, rfl, ?_⟩
    by_cases c1 : 24 < Z.count
    · have hq := q _ s1
      unfold AT.flaw at hq
      rw [if_pos c1] at hq
      exact ifP (by omega) hq
    refine ifN (by omega) ?_
    refine ⟨_, rfl, Z, rfl, hin.keep (Same.tk s1), hc, by omega, fun p ys H2 s2 np ri ep => ?_⟩
    have ly : ys.length ≤ 4 := by
      have := nodup_le ri.nd (fun y hy => fr.lets y ((ri.mem y).1 hy))
      have := fr.few
      omega
    refine ⟨p, _, rfl, .inl (SqL.of ep), _, _, rfl, rfl, _, rfl, ifN (by rw [List.length_map]; omega) ?_⟩
    have s12 := Same.trans s1 s2
    refine ⟨_, rfl, Z, rfl, hin.keep (Same.tk s12), hc, by omega, fun H3 s3 => ?_⟩
    have hq := q _ (Same.trans s12 s3)
    unfold AT.flaw at hq
    rw [if_neg c1] at hq
    refine ⟨_, _, rfl, rfl, _, rfl, ?_⟩
    by_cases c2 : 4 < Z.deep
    · rw [if_pos c2] at hq
      exact ifP (by omega) hq
    · rw [if_neg c2] at hq
      exact ifN (by omega) hq
end
end Nv

set_option maxRecDepth 100000
set_option maxHeartbeats 4000000
namespace Nv
open PySem PySem.Spec PyProof.Rows L2 NvSet
/-- reckonings without addresses -/
inductive ET where
  | sh (t b : Int)
  | le (x : Str)
  | two (o : Op) (A B : ET)
  | un (A : ET)
def AT.er : AT → ET
  | .sh _ _ t b => .sh t b
  | .le _ x => .le x
  | .two _ o A B => .two o A.er B.er
  | .un _ A => .un A.er
def ET.count : ET → Nat
  | .two _ A B => 1 + A.count + B.count
  | .un A => 1 + A.count
  | _ => 1
def ET.deep : ET → Nat
  | .two _ A B => max A.deep B.deep
  | .un A => A.deep + 1
  | _ => 0
def ET.lets : ET → List Str
  | .le x => [x]
  | .two _ A B => A.lets ++ B.lets
  | .un A => A.lets
  | _ => []
def ET.Ok : ET → Prop
  | .sh t b => ShOk t b
  | .le x => Small x
  | .two _ A B => A.Ok ∧ B.Ok
  | .un A => A.Ok
/-- so many letters -/
def ET.many : ET → Nat
  | .le _ => 1
  | .two _ A B => A.many + B.many
  | .un A => A.many
  | _ => 0
theorem AT.er_count : ∀ A : AT, A.er.count = A.count
  | .sh _ _ _ _ => rfl
  | .le _ _ => rfl
  | .two _ _ A B => by show 1 + A.er.count + B.er.count = 1 + A.count + B.count; rw [A.er_count, B.er_count]
  | .un _ A => by show 1 + A.er.count = 1 + A.count; rw [A.er_count]
theorem AT.er_deep : ∀ A : AT, A.er.deep = A.deep
  | .sh _ _ _ _ => rfl
  | .le _ _ => rfl
  | .two _ _ A B => by show max A.er.deep B.er.deep = max A.deep B.deep; rw [A.er_deep, B.er_deep]
  | .un _ A => by show A.er.deep + 1 = A.deep + 1; rw [A.er_deep]
theorem AT.er_lets : ∀ A : AT, A.er.lets = A.lets
  | .sh _ _ _ _ => rfl
  | .le _ _ => rfl
  | .two _ _ A B => by show A.er.lets ++ B.er.lets = A.lets ++ B.lets; rw [A.er_lets, B.er_lets]
  | .un _ A => A.er_lets
theorem AT.er_ok : ∀ A : AT, A.er.Ok ↔ A.Ok
  | .sh _ _ _ _ => Iff.rfl
  | .le _ _ => Iff.rfl
  | .two _ _ A B => and_congr A.er_ok B.er_ok
  | .un _ A => A.er_ok
theorem flaw_er {A B : AT} (h : A.er = B.er) : A.flaw = B.flaw := by
  unfold AT.flaw
  rw [← A.er_count, ← B.er_count, ← A.er_deep, ← B.er_deep, h]
/-- letters put for -/
def ET.sub (s : Str → Option ET) : ET → ET
  | .sh t b => .sh t b
  | .le x => (s x).getD (.le x)
  | .two o A B => .two o (A.sub s) (B.sub s)
  | .un A => .un (A.sub s)
theorem ET.sub_ok {s : Str → Option ET} (h : ∀ x A, s x = some A → A.Ok) : ∀ {T : ET}, T.Ok → (T.sub s).Ok
  | .sh _ _, o => o
  | .le x, o => by
    show ((s x).getD (.le x)).Ok
    cases e : s x with
    | none => exact o
    | some A => exact h x A e
  | .two _ _ _, o => ⟨ET.sub_ok h o.1, ET.sub_ok h o.2⟩
  | .un A, o => ET.sub_ok (T := A) h o
theorem ET.sub_lets {s : Str → Option ET} {L : List Str} (h : ∀ x A, s x = some A → ∀ y ∈ A.lets, y ∈ L) : ∀ {T : ET}, (∀ y ∈ T.lets, y ∈ L) → ∀ y ∈ (T.sub s).lets, y ∈ L
  | .sh _ _, o => o
  | .le x, o => by
    show ∀ y ∈ ((s x).getD (.le x)).lets, y ∈ L
    cases e : s x with
    | none => exact o
    | some A => exact h x A e
  | .two _ A B, o => fun y hy => by
    rcases List.mem_append.mp hy with e | e
    · exact ET.sub_lets h (T := A) (fun z hz => o z (List.mem_append_left _ hz)) y e
    · exact ET.sub_lets h (T := B) (fun z hz => o z (List.mem_append_right _ hz)) y e
  | .un A, o => ET.sub_lets h (T := A) o
theorem ET.sub_count {s : Str → Option ET} {k : Nat} (h : ∀ x A, s x = some A → A.count ≤ k + 1) : ∀ T : ET, (T.sub s).count ≤ T.count + T.many * k
  | .sh _ _ => by show 1 ≤ 1 + 0 * k; omega
  | .le x => by
    show ((s x).getD (.le x)).count ≤ 1 + 1 * k
    cases e : s x with
    | none => show 1 ≤ _; omega
    | some A =>
      have := h x A e
      show A.count ≤ _
      omega
  | .two _ A B => by
    have h1 := ET.sub_count h A
    have h2 := ET.sub_count h B
    show 1 + (A.sub s).count + (B.sub s).count ≤ 1 + A.count + B.count + (A.many + B.many) * k
    rw [Nat.add_mul]
    omega
  | .un A => by
    have h1 := ET.sub_count h A
    show 1 + (A.sub s).count ≤ 1 + A.count + A.many * k
    omega
theorem ET.many_le : ∀ T : ET, 2 * T.many ≤ T.count + 1
  | .sh _ _ => by show 2 * 0 ≤ 1 + 1; omega
  | .le _ => by show 2 * 1 ≤ 1 + 1; omega
  | .two _ A B => by
    have h1 := A.many_le
    have h2 := B.many_le
    show 2 * (A.many + B.many) ≤ 1 + A.count + B.count + 1
    omega
  | .un A => by
    have h1 := A.many_le
    show 2 * A.many ≤ 1 + A.count + 1
    omega
/-- a dict of reckonings by letters -/
def By (H : Hp) (d : Addr) (b : Str → Option AT) : Prop := ∃ kvs : List (Key × V), H d = some (.dK kvs) ∧ ∀ x, valV kvs (Sum.inr x) = (b x).map AT.v ∧ ∀ A, b x = some A → A.In H
theorem By.same {H H' : Hp} {d : Addr} {b : Str → Option AT} (h : By H d b) (s : Same H H') : By H' d b := by
  obtain ⟨kvs, e, f⟩ := h
  exact ⟨kvs, s _ _ e, fun x => ⟨(f x).1, fun A hA => ((f x).2 A hA).keep (Same.tk s)⟩⟩
abbrev bE (b : Str → Option AT) : Str → Option ET := fun x => (b x).map AT.er
abbrev sWith : Stmt := topS 44
abbrev sGiven : Stmt := topS 65
theorem scWith : FnScope ["term", "by", "things", "thing"] ["term", "by"] (defScope sWith) := ⟨rfl, rfl, rfl, by decide +kernel, rfl, by decide +kernel, by decide +kernel⟩
theorem scGiven : FnScope ["_law_term", "_law_per", "_law_part_now"] ["_law_term", "_law_per"] (defScope sGiven) := ⟨rfl, rfl, rfl, by decide +kernel, rfl, by decide +kernel, by decide +kernel⟩
def spWith (n : Nat) : Sp := fun vs H Q _ => ∃ (T : AT) (d : Addr) (b : Str → Option AT), vs = [T.v, .ref d] ∧ T.In H ∧ T.count ≤ n ∧ n ≤ 100 ∧ By H d b ∧ ∀ (R : AT) (H' : Hp), Same H H' → R.In H' → R.er = T.er.sub (bE b) → Q R.v H'
theorem word_share : ∀ T : AT, (∃ p q t b, T = .sh p q t b) ∨ V.str T.word ≠ V.str (Str.ofString "share")
  | .sh p q t b => .inl ⟨p, q, t, b, rfl⟩
  | .le _ _ => .inr fun z => ne_let1 (V.str.inj z).symm
  | .two _ o _ _ => .inr fun z => by
      have z : o.word = Str.ofString "share" := V.str.inj z
      revert z
      cases o <;> decide +kernel
  | .un _ _ => .inr fun z => by
      have z : Str.ofString "undo" = Str.ofString "share" := V.str.inj z
      revert z
      decide +kernel
/-- a tuple of the word and of the things, these put for -/
theorem made_of {T : AT} {b : Str → Option AT} {Rs : List AT} {H : Hp} {p : Addr} (hk : T.kids ≠ []) (e : Rs.map AT.er = T.kids.map fun B => B.er.sub (bE b)) (hin : ∀ R ∈ Rs, R.In H) (hp : H p = some (.tup (.str T.word :: Rs.map AT.v))) :
    ∃ R : AT, R.v = .ref p ∧ R.In H ∧ R.er = T.er.sub (bE b) := by
  cases T with
  | sh _ _ _ _ => exact absurd rfl hk
  | le _ _ => exact absurd rfl hk
  | two q o A B =>
    rcases Rs with _ | ⟨R1, _ | ⟨R2, _ | ⟨R3, Rs⟩⟩⟩
    · cases e
    · cases (List.cons.inj e).2
    · have e1 : R1.er = A.er.sub (bE b) := (List.cons.inj e).1
      have e2 : R2.er = B.er.sub (bE b) := (List.cons.inj (List.cons.inj e).2).1
      refine ⟨.two p o R1 R2, rfl, ⟨hp, hin R1 List.mem_cons_self, hin R2 (List.mem_cons_of_mem _ List.mem_cons_self)⟩, ?_⟩
      show ET.two o R1.er R2.er = _
      rw [e1, e2]
      rfl
    · cases (List.cons.inj (List.cons.inj e).2).2
  | un q A =>
    rcases Rs with _ | ⟨R1, _ | ⟨R2, Rs⟩⟩
    · cases e
    · have e1 : R1.er = A.er.sub (bE b) := (List.cons.inj e).1
      refine ⟨.un p R1, rfl, ⟨hp, hin R1 List.mem_cons_self⟩, ?_⟩
      show ET.un R1.er = _
      rw [e1]
      rfl
    · cases (List.cons.inj e).2
theorem AT.rest_kids : ∀ T : AT, T.kids ≠ [] → T.rest = T.kids.map AT.v
  | .sh _ _ _ _, h => absurd rfl h
  | .le _ _, h => absurd rfl h
  | .two _ _ _ _, _ => rfl
  | .un _ _, _ => rfl
theorem kids_of {T : AT} (h1 : ¬ ∃ p x, T = .le p x) (h2 : ¬ ∃ p q t b, T = .sh p q t b) : T.kids ≠ [] := by
  cases T with
  | sh p q t b => exact absurd ⟨p, q, t, b, rfl⟩ h2
  | le p x => exact absurd ⟨p, x, rfl⟩ h1
  | two _ _ _ _ => exact List.cons_ne_nil _ _
  | un _ _ => exact List.cons_ne_nil _ _
section
variable {P : Program} {w : World} {K : PySem.W.Frag} {mg : Str → Option Value} {base : Heap}
theorem ok_with {f : Addr} {fd : FuncData} (F : Fun K "with_put" "with_put" sWith f fd) (gf : mg "with_put" = some (.ref f)) (bf : Binds K fd ["term", "by"] []) (GT : C8.Cal P w K mg base 1 "things_in" (spThings K) []) :
    ∀ n : Nat, FnOk P w K mg base CX0 (n + 2) f fd ["term", "by"] (spWith n) := by
  intro n
  induction n with
  | zero => exact ⟨fun vs H Q E h => by obtain ⟨T, d, b, rfl, _⟩ := h; rfl, fun A outer s H args us vs Q E _ _ _ _ h => by
      obtain ⟨T, _, _, _, _, c, _⟩ := h
      have := T.count_pos
      omega⟩
  | succ n ih =>
    refine F.ok scWith (fun vs H Q E h => ?_) (fun cdv A outer s H vs Q E hr h => ?_)
    · obtain ⟨T, d, b, rfl, _⟩ := h
      rfl
    · obtain ⟨Z, d, b, rfl, hin, hc, hn, hb, q⟩ := h
      refine ⟨_, pss_cons (ps_if (pt_cmpR op_eq (pe_ix ix_tup (pv 0) pe_int (fun _ _ => rfl)) pe_str (nomark _)) (pss_one (ps_ret (pe_dget2 (hu_of hr) (pv 1) (pe_ix ix_tup (pv 0) pe_int (fun _ _ => rfl)) (pv 0) ⟨rfl, rfl, rfl, rfl⟩))) pss_nil)
        (pss_cons (ps_if (pt_cmpR op_eq (pe_ix ix_tup (pv 0) pe_int (fun _ _ => rfl)) pe_str (nomark _)) (pss_one (ps_ret (pv 0))) pss_nil)
        (pss_cons (ps_setLc (i := 2) (own := [("thing", 3)]) (g := gName 3) (tt := tYes) rfl scWith.nd rfl rfl (sw_true rfl rfl rfl (by decide +kernel)) (pi_tup (C8.pe_c GT hr (by omega) (by rfl) (pa_cons (pv 0) pa_nil))) (blkOk_by (N := ["term", "by", "things", "thing"]) (sc := defScope sWith) (by decide +kernel))
          (fun _ _ _ _ _ => pg_name (i := 3) scWith.nd rfl (Or.inl rfl)) (fun _ _ _ _ _ => pts_nil) (fun _ _ _ _ _ => pe_call ih hr (by rfl) gf F.kp bf .nil pass0 (pa_cons (pv 3) (pa_cons (pv 1) pa_nil))))
        (pss_one (ps_ret (pe_tup (pa_cons (pe_ix ix_tup (pv 0) pe_int (fun _ _ => rfl)) (StX.pa_star (pv 2) pa_nil))))))), ?_⟩
      have hp := hin.tup
      refine ⟨_, rfl, Z.at_, _, 0, _, rfl, rfl, SqT.of hp, atI_nat (j := 0) rfl, rfl, _, rfl, ?_⟩
      rcases word_letter Z with ⟨p, x, rfl⟩ | ne
      · refine ifP rfl ?_
        obtain ⟨kvs, ed, f⟩ := hb
        obtain ⟨f1, f2⟩ := f x
        refine ⟨_, rfl, d, rfl, .inl ⟨kvs, .inl ed⟩, _, rfl, p, _, 1, _, rfl, rfl, SqT.of hp, atI_nat (j := 1) rfl, _, rfl, _, DGet.k (k := Sum.inr x) ed, ?_⟩
        rw [f1]
        cases e : b x with
        | none => exact q (.le p x) H (fun _ _ h => h) hin (by show ET.le x = ((b x).map AT.er).getD (.le x); rw [e]; rfl)
        | some B => exact q B H (fun _ _ h => h) (f2 B e) (by show B.er = ((b x).map AT.er).getD (.le x); rw [e]; rfl)
      refine ifN ne ?_
      refine ⟨_, rfl, Z.at_, _, 0, _, rfl, rfl, SqT.of hp, atI_nat (j := 0) rfl, rfl, _, rfl, ?_⟩
      rcases word_share Z with ⟨p, qq, t, bb, rfl⟩ | ne2
      · exact ifP rfl ⟨_, rfl, q (.sh p qq t bb) H (fun _ _ h => h) hin rfl⟩
      refine ifN ne2 ?_
      have hk : Z.kids ≠ [] := kids_of (fun ⟨p, x, e⟩ => ne (by rw [e]; rfl)) (fun ⟨p, q, t, b, e⟩ => ne2 (by rw [e]; rfl))
      refine ⟨_, rfl, Z, rfl, hin, fun p H1 s1 hp1 => ⟨p, rfl, ⟨_, hp1⟩, fun D nD => ?_⟩⟩
      refine lc_tup (K := K) (a := p) (xs := Z.kids.map AT.v) (fun i H' => Same H1 H' ∧ ∃ Rs : List AT, H' D = some (.lst (Rs.map AT.v)) ∧ Rs.map AT.er = (Z.kids.take i).map (fun B => B.er.sub (bE b)) ∧ ∀ R ∈ Rs, R.In H') ⟨same_new nD, [], upd_same, rfl, fun R hR => nomatch hR⟩ (fun i H' _ h => seqT h.1 hp1) (fun i x H' hx h => ?_) (fun H' h => ?_)
      · obtain ⟨sm, Rs, eD, eR, iR⟩ := h
        rw [List.getElem?_map] at hx
        obtain ⟨B, hB, rfl⟩ := Option.map_eq_some_iff.mp hx
        have mB : B ∈ Z.kids := List.mem_of_getElem? hB
        have cB := Z.kid_count mB
        have s02 := Same.trans s1 sm
        refine ⟨rfl, yes_if ?_⟩
        refine ⟨_, rfl, _, rfl, B, d, b, rfl, (hin.kid B mB).keep (Same.tk s02), by omega, by omega, hb.same s02, fun R H2 s2 iR2 eR2 => ?_⟩
        have eD2 := s2 _ _ eD
        have lR : Rs.length ≤ 2 := by
          have := congrArg List.length eR
          rw [List.length_map, List.length_map, List.length_take] at this
          have := Z.kids_len
          omega
        refine ⟨_, eD2, by rw [List.length_map]; exact small1000 (by omega), same_upd (Same.trans sm s2) nD, Rs ++ [R], ?_, ?_, fun R' hR' => ?_⟩
        · rw [upd_same, List.map_append]
          rfl
        · rw [List.take_add_one, hB, List.map_append, List.map_append, eR]
          show _ ++ [R.er] = _ ++ [B.er.sub (bE b)]
          rw [eR2]
        · have k2 : TupKeep H2 (upd H2 D (.lst (Rs.map AT.v ++ [R.v]))) := tk_lst eD2
          rcases List.mem_append.mp hR' with e | e
          · exact ((iR R' e).keep (Same.tk s2)).keep k2
          · rw [List.mem_singleton.mp e]
            exact iR2.keep k2
      · obtain ⟨sm, Rs, eD, eR, iR⟩ := h
        rw [List.length_map, List.take_length] at eR
        have s02 := Same.trans s1 sm
        have eZ := (hin.keep (Same.tk s02)).tup
        have lR : Rs.length ≤ 2 := by
          have := congrArg List.length eR
          rw [List.length_map, List.length_map] at this
          have := Z.kids_len
          omega
        refine ⟨_, rfl, Z.at_, _, 0, _, rfl, rfl, SqT.of eZ, atI_nat (j := 0) rfl, _, rfl, D, _, rfl, .inr (SqL.of eD), ?_, fun tp nt => ?_⟩
        · rw [List.append_nil, List.length_cons, List.length_map, sizeLine_eq]
          omega
        rw [List.append_nil]
        have s3 := same_new (o := .tup (.str Z.word :: Rs.map AT.v)) nt
        obtain ⟨R, eRv, iRR, eRe⟩ := made_of (b := b) hk eR (fun R hR => (iR R hR).keep (Same.tk s3)) (p := tp) (H := upd H' tp (.tup (.str Z.word :: Rs.map AT.v))) upd_same
        have hq := q R _ (Same.trans s02 s3) iRR eRe
        rw [eRv] at hq
        exact hq
end
end Nv

set_option maxRecDepth 100000
set_option maxHeartbeats 4000000
namespace Nv
open PySem PySem.Spec PyProof.Rows L2 NvSet
abbrev sTower : Stmt := topS 64
theorem scTower : FnScope ["_law_bag_here", "_law_signs", "_law_found", "_law_k"] ["_law_bag_here", "_law_signs"] (defScope sTower) := ⟨rfl, rfl, rfl, by decide +kernel, rfl, by decide +kernel, by decide +kernel⟩
theorem sh11 : ShOk 1 1 := ⟨by decide, by decide, by decide, by decide⟩
section
variable {P : Program} {w : World} {K : PySem.W.Frag} {mg : Str → Option Value} {base : Heap}
theorem ok_given {f : Addr} {fd : FuncData} (F : Fun K "_law_given_all" "_law_given_all" sGiven f fd) (gf : mg "_law_given_all" = some (.ref f)) (bf : Binds K fd ["_law_term", "_law_per"] []) (tup : mg "tuple" = none) :
    ∀ n : Nat, FnOk P w K mg base CX0 (n + 2) f fd ["_law_term", "_law_per"] (spWith n) := by
  intro n
  induction n with
  | zero => exact ⟨fun vs H Q E h => by obtain ⟨T, d, b, rfl, _⟩ := h; rfl, fun A outer s H args us vs Q E _ _ _ _ h => by
      obtain ⟨T, _, _, _, _, c, _⟩ := h
      have := T.count_pos
      omega⟩
  | succ n ih =>
    refine F.ok scGiven (fun vs H Q E h => ?_) (fun cdv A outer s H vs Q E hr h => ?_)
    · obtain ⟨T, d, b, rfl, _⟩ := h
      rfl
    · obtain ⟨Z, d, b, rfl, hin, hc, hn, hb, q⟩ := h
      refine ⟨_, pss_cons (ps_if (pt_cmpR op_eq (pe_ix ix_tup (pv 0) pe_int (fun _ _ => rfl)) pe_str (nomark _)) (pss_one (ps_ret (pe_dget2 (hu_of hr) (pv 1) (pe_ix ix_tup (pv 0) pe_int (fun _ _ => rfl)) (pv 0) ⟨rfl, rfl, rfl, rfl⟩))) pss_nil)
        (pss_cons (ps_if (pt_cmpR op_eq (pe_ix ix_tup (pv 0) pe_int (fun _ _ => rfl)) pe_str (nomark _)) (pss_one (ps_ret (pv 0))) pss_nil)
        (pss_one (ps_ret (pe_op op_catT (pe_tup (pa_cons (pe_ix ix_tup (pv 0) pe_int (fun _ _ => rfl)) pa_nil)) (pe_callTy call_tuple_of (by rfl) tup (by decide +kernel) (pa_cons (pe_lc (own := [("_law_part_now", 2)]) (g := gName 2) (tt := tYes) rfl scGiven.nd (pi_tup (pe_slice sl_tup (pv 0) (po_some pe_int) po_none)) (blkOk_by (N := ["_law_term", "_law_per", "_law_part_now"]) (sc := defScope sGiven) (by decide +kernel))
          (fun _ _ _ _ _ => pg_name (i := 2) scGiven.nd rfl (Or.inl rfl)) (fun _ _ _ _ _ => pts_nil) (fun _ _ _ _ _ => pe_call ih hr (by rfl) gf F.kp bf .nil pass0 (pa_cons (pv 2) (pa_cons (pv 1) pa_nil)))) pa_nil)))))), ?_⟩
      have hp := hin.tup
      refine ⟨_, rfl, Z.at_, _, 0, _, rfl, rfl, SqT.of hp, atI_nat (j := 0) rfl, rfl, _, rfl, ?_⟩
      rcases word_letter Z with ⟨p, x, rfl⟩ | ne
      · refine ifP rfl ?_
        obtain ⟨kvs, ed, f⟩ := hb
        obtain ⟨f1, f2⟩ := f x
        refine ⟨_, rfl, d, rfl, .inl ⟨kvs, .inl ed⟩, _, rfl, p, _, 1, _, rfl, rfl, SqT.of hp, atI_nat (j := 1) rfl, _, rfl, _, DGet.k (k := Sum.inr x) ed, ?_⟩
        rw [f1]
        cases e : b x with
        | none => exact q (.le p x) H (fun _ _ h => h) hin (by show ET.le x = ((b x).map AT.er).getD (.le x); rw [e]; rfl)
        | some B => exact q B H (fun _ _ h => h) (f2 B e) (by show B.er = ((b x).map AT.er).getD (.le x); rw [e]; rfl)
      refine ifN ne ?_
      refine ⟨_, rfl, Z.at_, _, 0, _, rfl, rfl, SqT.of hp, atI_nat (j := 0) rfl, rfl, _, rfl, ?_⟩
      rcases word_share Z with ⟨p, qq, t, bb, rfl⟩ | ne2
      · exact ifP rfl ⟨_, rfl, q (.sh p qq t bb) H (fun _ _ h => h) hin rfl⟩
      refine ifN ne2 ?_
      have hk : Z.kids ≠ [] := kids_of (fun ⟨p, x, e⟩ => ne (by rw [e]; rfl)) (fun ⟨p, q, t, b, e⟩ => ne2 (by rw [e]; rfl))
      refine ⟨_, rfl, Z.at_, _, 0, _, rfl, rfl, SqT.of hp, atI_nat (j := 0) rfl, (by show 1 ≤ sizeLine; decide), fun O nO => ?_⟩
      have s0 := same_new (o := .tup [.str Z.word]) nO
      have eO : upd H O (.tup [.str Z.word]) O = some (.tup [.str Z.word]) := upd_same
      generalize upd H O (.tup [.str Z.word]) = H0 at *
      refine ⟨_, rfl, 1, rfl, Z.at_, _, rfl, SqT.of (s0 _ _ hp), (fun z => by cases z.1), fun p np => ?_⟩
      have s1 := same_new (o := .tup (cutV Z.items (some 1) none)) np
      have ecut : cutV Z.items (some 1) none = Z.kids.map AT.v := by
        rw [← Z.rest_kids hk]
        cases Z with
        | sh _ _ _ _ => exact absurd rfl hk
        | le _ _ => exact absurd rfl hk
        | two _ _ _ _ => rfl
        | un _ _ => rfl
      have hp1 : SqT K (upd H0 p (.tup (cutV Z.items (some 1) none))) p (Z.kids.map AT.v) := by
        refine SqT.of ?_
        rw [upd_same, ecut]
      generalize upd H0 p (.tup (cutV Z.items (some 1) none)) = H1 at *
      refine ⟨p, rfl, ⟨_, hp1⟩, fun D nD => ?_⟩
      refine lc_tup (K := K) (a := p) (xs := Z.kids.map AT.v) (fun i H' => Same H1 H' ∧ ∃ Rs : List AT, H' D = some (.lst (Rs.map AT.v)) ∧ Rs.map AT.er = (Z.kids.take i).map (fun B => B.er.sub (bE b)) ∧ ∀ R ∈ Rs, R.In H') ⟨same_new nD, [], upd_same, rfl, fun R hR => nomatch hR⟩ (fun i H' _ h => seqT h.1 hp1) (fun i x H' hx h => ?_) (fun H' h => ?_)
      · obtain ⟨sm, Rs, eD, eR, iR⟩ := h
        rw [List.getElem?_map] at hx
        obtain ⟨B, hB, rfl⟩ := Option.map_eq_some_iff.mp hx
        have mB : B ∈ Z.kids := List.mem_of_getElem? hB
        have cB := Z.kid_count mB
        have s02 := Same.trans s0 (Same.trans s1 sm)
        refine ⟨rfl, yes_if ?_⟩
        refine ⟨_, rfl, _, rfl, B, d, b, rfl, (hin.kid B mB).keep (Same.tk s02), by omega, by omega, hb.same s02, fun R H2 s2 iR2 eR2 => ?_⟩
        have eD2 := s2 _ _ eD
        have lR : Rs.length ≤ 2 := by
          have := congrArg List.length eR
          rw [List.length_map, List.length_map, List.length_take] at this
          have := Z.kids_len
          omega
        refine ⟨_, eD2, by rw [List.length_map]; exact small1000 (by omega), same_upd (Same.trans sm s2) nD, Rs ++ [R], ?_, ?_, fun R' hR' => ?_⟩
        · rw [upd_same, List.map_append]
          rfl
        · rw [List.take_add_one, hB, List.map_append, List.map_append, eR]
          show _ ++ [R.er] = _ ++ [B.er.sub (bE b)]
          rw [eR2]
        · have k2 : TupKeep H2 (upd H2 D (.lst (Rs.map AT.v ++ [R.v]))) := tk_lst eD2
          rcases List.mem_append.mp hR' with e | e
          · exact ((iR R' e).keep (Same.tk s2)).keep k2
          · rw [List.mem_singleton.mp e]
            exact iR2.keep k2
      · obtain ⟨sm, Rs, eD, eR, iR⟩ := h
        rw [List.length_map, List.take_length] at eR
        have s12 := Same.trans s1 sm
        have s02 := Same.trans s0 s12
        have lR : Rs.length ≤ 2 := by
          have := congrArg List.length eR
          rw [List.length_map, List.length_map] at this
          have := Z.kids_len
          omega
        refine ⟨D, _, rfl, .inl ⟨SqL.of eD, fun O2 nO2 => ?_⟩⟩
        have s3 := same_new (o := .tup (Rs.map AT.v)) nO2
        have e3 : upd H' O2 (.tup (Rs.map AT.v)) O2 = some (.tup (Rs.map AT.v)) := upd_same
        generalize upd H' O2 (.tup (Rs.map AT.v)) = H3 at *
        refine ⟨O, O2, _, _, rfl, rfl, SqT.of (s3 _ _ (s12 _ _ eO)), SqT.of e3, (List.cons_ne_nil _ _), ?_, ?_⟩
        · rw [List.length_map, sizeLine_eq]
          show 1 + _ ≤ _
          omega
        · refine ⟨fun z => ?_, fun _ tp nt => ?_⟩
          · exfalso
            have e1 := congrArg List.length eR
            have e2 := congrArg List.length z
            rw [List.length_map, List.length_map] at e1
            rw [List.length_map] at e2
            exact hk (List.length_eq_zero_iff.mp (by rw [← e1, e2]; rfl))
          · have s4 := same_new (o := .tup (.str Z.word :: Rs.map AT.v)) nt
            obtain ⟨R, eRv, iRR, eRe⟩ := made_of (b := b) hk eR (fun R hR => ((iR R hR).keep (Same.tk s3)).keep (Same.tk s4)) (p := tp) (H := upd H3 tp (.tup (.str Z.word :: Rs.map AT.v))) upd_same
            have hq := q R _ (Same.trans s02 (Same.trans s3 s4)) iRR eRe
            rw [eRv] at hq
            exact hq
/-- a tower of undoings -/
def spTower : Sp := fun vs H Q _ => ∃ (l b o : Addr) (L : List Str), vs = [.ref b, .ref o] ∧ o ≠ b ∧ H o = some (.lst (L.map V.str)) ∧ L.length = 4 ∧ (∀ x ∈ L, Small x) ∧ Bag l b H ∧
  ∀ (T : AT) (H' : Hp), T.In H' → T.Ok → T.count ≤ 19 → (∀ x ∈ T.lets, x ∈ L) → Bag l b H' → Grow b H H' → Q T.v H'
theorem ok_tower {f : Addr} {fd : FuncData} (F : Fun K "_law_tower" "_law_tower" sTower f fd) (rng : mg "range" = none) (GP : C8.Cal P w K mg base 1 "_law_pull" spPull []) (GO : C8.Cal P w K mg base 2 "_law_of" spOf []) : FnOk P w K mg base CX0 3 f fd ["_law_bag_here", "_law_signs"] spTower := by
  refine F.ok scTower (fun vs H Q E h => ?_) (fun cdv A outer s H vs Q E hr h => ?_)
  · obtain ⟨l, b, o, L, rfl, _⟩ := h
    rfl
  · obtain ⟨l, b, o, L, rfl, nob, ho, hL, hs, B, q⟩ := h
    refine ⟨_, pss_cons (ps_set (i := 2) scTower.nd rfl (.inl rfl) (pe_tup (pa_cons pe_str (pa_cons (pe_ix ix_list (pv 1) pe_int (fun _ _ => rfl)) pa_nil))))
      (pss_cons (ps_for PassesOwn.never rfl (pi_range1 (by rfl) rng (pa_cons (pe_op op_add pe_int (C8.pe_c GP hr (by decide) (by rfl) (pa_cons (pv 0) (pa_cons pe_int pa_nil)))) pa_nil)) (pg_name (i := 3) scTower.nd rfl (.inl rfl))
        (pss_one (ps_set (i := 2) scTower.nd rfl (.inl rfl) (C8.pe_c GO hr (by decide) (by rfl) (pa_cons (pv 0) (pa_cons (pe_lst (pa_cons (pe_tup (pa_cons pe_str (pa_cons (pv 2) pa_nil)))
          (pa_cons (pe_tup (pa_cons pe_str (pa_cons (pe_tup (pa_cons pe_str (pa_cons (pv 2) (pa_cons (pe_tup (pa_cons pe_str (pa_cons (pe_tup (pa_cons pe_int (pa_cons pe_int pa_nil))) pa_nil))) pa_nil)))) pa_nil)))
          (pa_cons (pe_tup (pa_cons pe_str (pa_cons (pe_tup (pa_cons pe_str (pa_cons (pe_tup (pa_cons pe_str (pa_cons (pe_ix ix_list (pv 1) (pe_un un_neg pe_int) (fun _ _ => rfl)) pa_nil))) (pa_cons (pv 2) pa_nil)))) pa_nil))) pa_nil)))) pa_nil))))))
      (pss_one (ps_ret (pv 2)))), ?_⟩
    match L, hL with
    | [x0, x1, x2, x3], _ =>
    refine ⟨_, rfl, o, _, 0, .str x0, rfl, rfl, SqL.of ho, rfl, (by show 2 ≤ sizeLine; decide), fun p0 n0 => ?_⟩
    have s0 := same_new (o := .tup [.str "letter", .str x0]) n0
    have e0 : upd H p0 (.tup [.str "letter", .str x0]) p0 = some (.tup [.str "letter", .str x0]) := upd_same
    generalize upd H p0 (.tup [.str "letter", .str x0]) = H0 at *
    have B0 := B.same s0
    refine ⟨_, rfl, l, b, 4, rfl, by decide, fit8 (n := 4) (by decide) (by decide), B0, fun r H1 r0 r1 B1 t1 => ?_⟩
    have g1 : Grow b H H1 := (Same.grow s0).trans t1.grow
    refine ⟨3, r, rfl, rfl, (3 + r : Int), rfl, by omega, by omega, for_range (lo := 0) (n := (3 + r : Int).toNat) (fun i σ' H' => ∃ (y3 : Option V) (T : AT), σ' = [some (.ref b), some (.ref o), some T.v, y3] ∧ T.In H' ∧ T.Ok ∧ T.count ≤ 1 + 3 * i ∧ (∀ x ∈ T.lets, x ∈ [x0, x1, x2, x3]) ∧ Bag l b H' ∧ Grow b H H' ∧ H' o = some (.lst ([x0, x1, x2, x3].map V.str))) ?_ ?_ ?_⟩
    · exact ⟨none, .le p0 x0, rfl, B0.tk t1.grow _ _ e0, hs x0 List.mem_cons_self, Nat.le_refl _, (fun x hx => by rw [List.mem_singleton.mp hx]; exact List.mem_cons_self), B1, g1, g1 _ _ nob ho⟩
    · rintro i σ' J0 hi ⟨y3, T, rfl, inT, okT, cT, lT, B2, g2, ho2⟩
      -- ('undo', found)
      refine ⟨_, rfl, _, rfl, (by show 2 ≤ sizeLine; decide), fun a1 na1 => ?_⟩
      have u1 := same_new (o := .tup [.str "undo", T.v]) na1
      have f1 : upd J0 a1 (.tup [.str "undo", T.v]) a1 = some (.tup [.str "undo", T.v]) := upd_same
      generalize upd J0 a1 (.tup [.str "undo", T.v]) = J1 at *
      -- ('undo', ('plus', found, ('share', (1, 1))))
      refine ⟨_, rfl, (by show 2 ≤ sizeLine; decide), fun a2 na2 => ?_⟩
      have u2 := same_new (o := .tup [.int 1, .int 1]) na2
      have f2 : upd J1 a2 (.tup [.int 1, .int 1]) a2 = some (.tup [.int 1, .int 1]) := upd_same
      generalize upd J1 a2 (.tup [.int 1, .int 1]) = J2 at *
      refine ⟨(by show 2 ≤ sizeLine; decide), fun a3 na3 => ?_⟩
      have u3 := same_new (o := .tup [.str "share", .ref a2]) na3
      have f3 : upd J2 a3 (.tup [.str "share", .ref a2]) a3 = some (.tup [.str "share", .ref a2]) := upd_same
      generalize upd J2 a3 (.tup [.str "share", .ref a2]) = J3 at *
      refine ⟨(by show 3 ≤ sizeLine; decide), fun a4 na4 => ?_⟩
      have u4 := same_new (o := .tup [.str "plus", T.v, .ref a3]) na4
      have f4 : upd J3 a4 (.tup [.str "plus", T.v, .ref a3]) a4 = some (.tup [.str "plus", T.v, .ref a3]) := upd_same
      generalize upd J3 a4 (.tup [.str "plus", T.v, .ref a3]) = J4 at *
      refine ⟨(by show 2 ≤ sizeLine; decide), fun a5 na5 => ?_⟩
      have u5 := same_new (o := .tup [.str "undo", .ref a4]) na5
      have f5 : upd J4 a5 (.tup [.str "undo", .ref a4]) a5 = some (.tup [.str "undo", .ref a4]) := upd_same
      generalize upd J4 a5 (.tup [.str "undo", .ref a4]) = J5 at *
      have u25 := Same.trans u2 (Same.trans u3 (Same.trans u4 u5))
      have u15 := Same.trans u1 u25
      -- ('undo', ('times', ('letter', last), found))
      refine ⟨_, rfl, _, rfl, o, _, (-1 : Int), .str x3, rfl, rfl, SqL.of (u15 _ _ ho2), rfl, (by show 2 ≤ sizeLine; decide), fun a6 na6 => ?_⟩
      have u6 := same_new (o := .tup [.str "letter", .str x3]) na6
      have f6 : upd J5 a6 (.tup [.str "letter", .str x3]) a6 = some (.tup [.str "letter", .str x3]) := upd_same
      generalize upd J5 a6 (.tup [.str "letter", .str x3]) = J6 at *
      refine ⟨_, rfl, (by show 3 ≤ sizeLine; decide), fun a7 na7 => ?_⟩
      have u7 := same_new (o := .tup [.str "times", .ref a6, T.v]) na7
      have f7 : upd J6 a7 (.tup [.str "times", .ref a6, T.v]) a7 = some (.tup [.str "times", .ref a6, T.v]) := upd_same
      generalize upd J6 a7 (.tup [.str "times", .ref a6, T.v]) = J7 at *
      refine ⟨(by show 2 ≤ sizeLine; decide), fun a8 na8 => ?_⟩
      have u8 := same_new (o := .tup [.str "undo", .ref a7]) na8
      have f8 : upd J7 a8 (.tup [.str "undo", .ref a7]) a8 = some (.tup [.str "undo", .ref a7]) := upd_same
      generalize upd J7 a8 (.tup [.str "undo", .ref a7]) = J8 at *
      refine ⟨(by show 3 ≤ sizeLine; decide), fun a9 na9 => ?_⟩
      have u9 := same_new (o := .lst [.ref a1, .ref a5, .ref a8]) na9
      have f9 : upd J8 a9 (.lst [.ref a1, .ref a5, .ref a8]) a9 = some (.lst [.ref a1, .ref a5, .ref a8]) := upd_same
      have nb9 : a9 ≠ b := ((B2.same u15).same (Same.trans u6 (Same.trans u7 u8))).ne na9
      generalize upd J8 a9 (.lst [.ref a1, .ref a5, .ref a8]) = J9 at *
      have u79 := Same.trans u7 (Same.trans u8 u9)
      have u69 := Same.trans u6 u79
      have u59 := Same.trans u5 u69
      have u09 := Same.trans u15 u69
      have B9 := B2.same u09
      refine ⟨l, b, a9, _, rfl, nb9, f9, (by show 0 < 3; decide), (by show 3 ≤ 1000; decide), B9, fun v J10 hv B10 t10 => ?_⟩
      have k10 := B9.tk t10.grow
      have g10 : Grow b H J10 := g2.trans ((Same.grow u09).trans t10.grow)
      have ho10 := t10.grow _ _ nob (u09 _ _ ho2)
      have inT10 : T.In J10 := (inT.keep (Same.tk u09)).keep k10
      obtain ⟨T2, rfl, in2, ok2, c2, l2⟩ : ∃ T2 : AT, v = T2.v ∧ T2.In J10 ∧ T2.Ok ∧ T2.count ≤ T.count + 3 ∧ ∀ x ∈ T2.lets, x ∈ [x0, x1, x2, x3] := by
        rcases List.mem_cons.mp hv with e | hv
        · exact ⟨.un a1 T, e, ⟨k10 _ _ ((Same.trans u25 u69) _ _ f1), inT10⟩, okT, (by show 1 + T.count ≤ _; omega), lT⟩
        · rcases List.mem_cons.mp hv with e | hv
          · refine ⟨.un a5 (.two a4 .plus T (.sh a3 a2 1 1)), e, ⟨k10 _ _ (u69 _ _ f5), k10 _ _ (u59 _ _ f4), inT10, k10 _ _ ((Same.trans u4 u59) _ _ f3), k10 _ _ ((Same.trans u3 (Same.trans u4 u59)) _ _ f2)⟩, ⟨okT, sh11⟩, (by show 1 + (1 + T.count + 1) ≤ _; omega), fun x hx => ?_⟩
            rcases List.mem_append.mp hx with e | e
            · exact lT x e
            · cases e
          · refine ⟨.un a8 (.two a7 .times (.le a6 x3) T), List.mem_singleton.mp hv, ⟨k10 _ _ (u9 _ _ f8), k10 _ _ ((Same.trans u8 u9) _ _ f7), k10 _ _ (u79 _ _ f6), inT10⟩, ⟨hs x3 (by simp), okT⟩, (by show 1 + (1 + 1 + T.count) ≤ _; omega), fun x hx => ?_⟩
            rcases List.mem_append.mp hx with e | e
            · rw [List.mem_singleton.mp e]
              simp
            · exact lT x e
      exact ⟨_, T2, rfl, in2, ok2, by omega, l2, B10, g10, ho10⟩
    · rintro σ' J0 ⟨y3, T, rfl, inT, okT, cT, lT, B2, g2, ho2⟩
      exact ⟨_, rfl, q T J0 inT okT (by omega) lT B2 g2⟩
end
end Nv

set_option maxRecDepth 100000
set_option maxHeartbeats 4000000
namespace Nv
open PySem PySem.Spec PyProof.Rows L2 NvSet LamX
abbrev sPut : Stmt := topS 45
theorem scPut : FnScope ["term", "by", "letter"] ["term", "by"] (defScope sPut) := ⟨rfl, rfl, rfl, by decide +kernel, rfl, by decide +kernel, by decide +kernel⟩
/-- a dict of things by letters -/
abbrev dicK (W : List (Str × TH)) : List (Key × V) := W.map fun q => (Sum.inr q.1, q.2.v)
structure Dic (H : Hp) (d : Addr) (W : List (Str × TH)) : Prop where
  at_ : H d = some (.dK (dicK W))
  nd : (W.map (·.1)).Nodup
  inn : ∀ q ∈ W, q.2.In H
theorem Dic.same {H H' : Hp} {d : Addr} {W : List (Str × TH)} (h : Dic H d W) (s : Same H H') : Dic H' d W := ⟨s _ _ h.at_, h.nd, fun q hq => (h.inn q hq).keep (Same.tk s)⟩
def seek (W : List (Str × TH)) (x : Str) : Option TH := (W.find? fun q => decide (q.1 = x)).map (·.2)
theorem dic_val (x : Str) : ∀ W : List (Str × TH), valV (dicK W) (Sum.inr x) = (seek W x).map TH.v
  | [] => rfl
  | q :: W => by
    have ih := dic_val x W
    unfold valV seek at ih ⊢
    by_cases h : q.1 = x
    · have h2 : (Sum.inr q.1 : Key) = Sum.inr x := by rw [h]
      simp [dicK, List.find?_cons, h]
    · have h2 : ¬ (Sum.inr q.1 : Key) = Sum.inr x := fun z => h (Sum.inr.inj z)
      simp [dicK, List.find?_cons, h] at ih ⊢
      exact ih
theorem seek_mem {x : Str} {T : TH} : ∀ {W : List (Str × TH)}, seek W x = some T → (x, T) ∈ W
  | q :: W, h => by
    unfold seek at h
    rw [List.find?_cons] at h
    by_cases e : q.1 = x
    · rw [decide_eq_true e] at h
      have h2 : q.2 = T := Option.some.inj h
      rw [← e, ← h2]
      exact List.mem_cons_self
    · rw [decide_eq_false e] at h
      exact List.mem_cons_of_mem _ (seek_mem (W := W) h)
theorem seek_some {x : Str} : ∀ {W : List (Str × TH)}, x ∈ W.map (·.1) → ∃ T, seek W x = some T
  | q :: W, h => by
    unfold seek
    rw [List.find?_cons]
    by_cases e : q.1 = x
    · rw [decide_eq_true e]
      exact ⟨_, rfl⟩
    · rw [decide_eq_false e]
      rcases List.mem_cons.mp h with z | z
      · exact absurd z.symm e
      · exact seek_some (W := W) z
theorem seek_of : ∀ {W : List (Str × TH)} {q : Str × TH}, (W.map (·.1)).Nodup → q ∈ W → seek W q.1 = some q.2
  | a :: W, q, nd, h => by
    obtain ⟨n1, n2⟩ := List.nodup_cons.mp nd
    unfold seek
    rw [List.find?_cons]
    rcases List.mem_cons.mp h with e | e
    · rw [decide_eq_true (show a.1 = q.1 by rw [e]), e]
      rfl
    · rw [decide_eq_false (show ¬ a.1 = q.1 from fun z => n1 (List.mem_map.mpr ⟨q, e, z.symm⟩))]
      exact seek_of (W := W) n2 e
def TH.at? : TH → Option AT
  | .ok A => some A
  | .bad _ _ => none
def bW (W : List (Str × TH)) : Str → Option AT := fun x => (seek W x).bind TH.at?
/-- the first flaw of the things at some letters -/
def flawIn (W : List (Str × TH)) (ys : List Str) : Option Str := ys.findSome? fun y => (seek W y).bind TH.flaw
theorem Dic.by {H : Hp} {d : Addr} {W : List (Str × TH)} (h : Dic H d W) (hn : ∀ q ∈ W, q.2.flaw = none) : By H d (bW W) := by
  refine ⟨_, h.at_, fun x => ⟨?_, fun A hA => ?_⟩⟩
  · rw [dic_val]
    unfold bW
    cases e : seek W x with
    | none => rfl
    | some T =>
      have := hn _ (seek_mem e)
      cases T with
      | ok A => rfl
      | bad p y => cases this
  · unfold bW at hA
    cases e : seek W x with
    | none => rw [e] at hA; cases hA
    | some T =>
      rw [e] at hA
      cases T with
      | ok B =>
        cases hA
        exact h.inn _ (seek_mem e)
      | bad p y => cases hA
/-- what is put together is fair -/
theorem fair_sub {A R : AT} {W : List (Str × TH)} {L : List Str} (fA : Fair A L) (hW : ∀ q ∈ W, q.2.Fine L) (e : R.er = A.er.sub (bE (bW W))) (hc : (A.er.sub (bE (bW W))).count ≤ 100) : Fair R L := by
  have look : ∀ x B, bE (bW W) x = some B → ∃ C : AT, Fair C L ∧ B = C.er := fun x B h => by
    have h : ((bW W) x).map AT.er = some B := h
    unfold bW at h
    cases z : seek W x with
    | none => rw [z] at h; cases h
    | some T =>
      rw [z] at h
      cases T with
      | ok C =>
        cases h
        exact ⟨C, hW _ (seek_mem z), rfl⟩
      | bad p y => cases h
  refine ⟨?_, ?_, fA.few, ?_⟩
  · rw [← AT.er_ok, e]
    refine ET.sub_ok (fun x B h => ?_) ((AT.er_ok A).2 fA.ok)
    obtain ⟨C, fC, rfl⟩ := look x B h
    exact (AT.er_ok C).2 fC.ok
  · rw [← AT.er_count, e]
    exact hc
  · rw [← AT.er_lets, e]
    refine ET.sub_lets (fun x B h => ?_) (by rw [AT.er_lets]; exact fA.lets)
    obtain ⟨C, fC, rfl⟩ := look x B h
    rw [AT.er_lets]
    exact fC.lets
def spPut (C : Addr) : Sp := fun vs H Q E => ∃ (T : TH) (L : List Str) (d : Addr) (W : List (Str × TH)), vs = [T.v, .ref d] ∧ T.In H ∧ T.Fine L ∧ Dic H d W ∧ W.length < 64 ∧ (∀ q ∈ W, q.2.Fine L) ∧ (∀ x, T.flaw = some x → raisesT C H E x) ∧
  (T.flaw = none → ∀ ys x, ys.Perm (W.map (·.1)) → sortedS ys = true → flawIn W ys = some x → raisesT C H E x) ∧
  ∀ A, T = .ok A → A.flaw = none → (∀ q ∈ W, q.2.flaw = none) → A.count ≤ 12 ∧ (A.er.sub (bE (bW W))).count ≤ 100 ∧
    ∀ (R : AT) (H1 : Hp), Same H H1 → R.In H1 → R.er = A.er.sub (bE (bW W)) → (R.flaw = none → ∀ H', Same H1 H' → Q R.v H') ∧ ∀ x, R.flaw = some x → raisesT C H1 E x
theorem flawIn_snoc {W : List (Str × TH)} {ys : List Str} {i : Nat} {y : Str} (hy : ys[i]? = some y) : flawIn W (ys.take (i + 1)) = (flawIn W (ys.take i)).or ((seek W y).bind TH.flaw) := by
  unfold flawIn
  rw [List.take_add_one, hy, List.findSome?_append]
  congr 1
  show List.findSome? _ [y] = _
  rw [List.findSome?_singleton]
theorem flawIn_pre {W : List (Str × TH)} {ys : List Str} {i : Nat} {x : Str} (h : flawIn W (ys.take i) = some x) : flawIn W ys = some x := by
  unfold flawIn at h ⊢
  rw [← List.take_append_drop i ys, List.findSome?_append, h]
  rfl
section
variable {P : Program} {w : World} {K : PySem.W.Frag} {mg : Str → Option Value} {base : Heap} {CN C fN fI : Addr}
theorem ok_put {f : Addr} {fd : FuncData} (F : Fun K "put" "put" sPut f fd) (srt : mg "sorted" = none) (GN : CalX P w K mg base 5 "need_term" (spNeedX C) []) (GT : CalX P w K mg base 6 "told_of" (spTold C) []) (GW : C8.Cal P w K mg base 14 "with_put" (spWith 12) []) :
    FnOk P w K mg base (L2.CX P w) 15 f fd ["term", "by"] (spPut C) := by
  refine F.okX scPut (fun vs H Q E h => ?_) (fun cdv A outer s H vs Q E hr h => ?_)
  · obtain ⟨T, L, d, W, rfl, _⟩ := h
    rfl
  · obtain ⟨T, L, d, W, rfl, hin, hf, hd, l64, hW, q1, q2, q3⟩ := h
    refine ⟨_, pss_cons (ps_expr (pe_cxE GN hr (by decide) (passes_call (takes_of rfl rfl rfl rfl) (fun _ _ _ _ z => z)) (by rfl) (pa_cons (pv 0) pa_nil)))
      (pss_cons (ps_for (passes_of rfl) rfl (pi_list (pe_callB (call_sortedD rfl) (by rfl) srt (by decide +kernel) (pa_cons (pv 1) pa_nil))) (pg_name (i := 2) scPut.nd rfl (.inl rfl))
        (pss_one (ps_expr (pe_cxE GN hr (by decide) (passes_call (takes_of rfl rfl rfl rfl) (fun _ _ _ _ z => z)) (by rfl) (pa_cons (pe_dget (hu_of hr) (pv 1) (pv 2) (fun _ _ => rfl)) pa_nil)))))
      (pss_one (ps_ret (pe_cxE GT hr (by decide) (passes_call (takes_of rfl rfl rfl rfl) (fun _ _ _ _ z => z)) (by rfl) (pa_cons (C8.pe_c GW hr (by decide) (by rfl) (pa_cons (pv 0) (pa_cons (pv 1) pa_nil))) pa_nil))))), ?_⟩
    refine ⟨_, rfl, T, L, rfl, hin, hf, fun hT H1 s1 => ?_, q1⟩
    have hd1 := hd.same s1
    refine ⟨_, rfl, d, dicK W, W.map (·.1), rfl, .inl hd1.at_, ?_, by rw [List.length_map]; exact l64, fun ys p pm so np => ?_⟩
    · rw [List.map_map, List.map_map]
      rfl
    have s2 := same_new (o := .lst (ys.map V.str)) np
    have ep : upd H1 p (.lst (ys.map V.str)) p = some (.lst (ys.map V.str)) := upd_same
    generalize upd H1 p (.lst (ys.map V.str)) = H2 at *
    have s02 := Same.trans s1 s2
    refine ⟨p, rfl, ⟨_, SqL.of ep⟩, for_list (K := K) (a := p) (xs := ys.map V.str) (fun i σ H' => ∃ y2, σ = [some T.v, some (.ref d), y2] ∧ Same H2 H' ∧ flawIn W (ys.take i) = none) ⟨none, rfl, (fun _ _ h => h), rfl⟩ (fun i σ H' _ h => by obtain ⟨_, _, sm, _⟩ := h; exact SqL.of (sm _ _ ep)) ?_ ?_⟩
    · rintro i x σ H3 hx ⟨y2, rfl, sm, before⟩
      rw [List.getElem?_map] at hx
      obtain ⟨y, hy, rfl⟩ := Option.map_eq_some_iff.mp hx
      have my : y ∈ W.map (·.1) := pm.mem_iff.mp (List.mem_of_getElem? hy)
      obtain ⟨Y, eY⟩ := seek_some my
      have mY := seek_mem eY
      have s03 := Same.trans s02 sm
      have hd3 := hd.same s03
      refine ⟨_, rfl, _, rfl, d, Y.v, rfl, ?_, Y, L, rfl, hd3.inn _ mY, hW _ mY, fun hY H4 s4 => ?_, fun x hY => ?_⟩
      · have := DGet.k (k := Sum.inr y) hd3.at_
        rw [dic_val, eY] at this
        exact this
      · refine ⟨_, rfl, Same.trans sm s4, ?_⟩
        rw [flawIn_snoc hy, before, eY]
        exact hY
      · refine (q2 hT ys x pm so ?_).same s03
        refine flawIn_pre (i := i + 1) ?_
        rw [flawIn_snoc hy, before, eY]
        exact hY
    · rintro σ H3 ⟨y2, rfl, sm, none_⟩
      rw [List.length_map, List.take_length] at none_
      have s03 := Same.trans s02 sm
      have hd3 := hd.same s03
      have all : ∀ q ∈ W, q.2.flaw = none := fun q hq => by
        have my : q.1 ∈ ys := pm.mem_iff.mpr (List.mem_map.mpr ⟨q, hq, rfl⟩)
        have := List.findSome?_eq_none_iff.mp none_ q.1 my
        have eq : seek W q.1 = some q.2 := seek_of hd.nd hq
        rw [eq] at this
        exact this
      cases T with
      | bad pb xb => cases hT
      | ok A =>
        obtain ⟨c12, c100, q3⟩ := q3 A rfl hT all
        refine ⟨_, rfl, _, rfl, A, d, bW W, rfl, AT.In.keep (Same.tk s03) hin, c12, by decide, hd3.by all, fun R H4 s4 iR eR => ?_⟩
        have s04 := Same.trans s03 s4
        obtain ⟨r1, r2⟩ := q3 R H4 s04 iR eR
        exact ⟨.ok R, L, rfl, iR, fair_sub hf hW eR c100, r1, r2⟩
end
end Nv

set_option maxRecDepth 100000
set_option maxHeartbeats 4000000
namespace Nv
open PySem PySem.Spec PyProof.Rows L2 NvSet LamX
/-! dicts compared: the same objects at the same keys -/
theorem hits_refs {A : Around} {s : Shared} {kvs : List (Key × V)} {vb : List (Key × Value)} (rb : KV kvs vb) {ks : List (Key × V)} {va : List (Key × Value)} (ra : KV ks va) :
    (∀ p ∈ ks, valV kvs p.1 = some p.2 ∧ ∃ r, p.2 = .ref r) → PySem.W.KeqHits A s vb va true := by
  unfold KV at ra
  induction ra with
  | nil => intro _; exact .nil
  | @cons p q ps qs h t ih =>
    intro hp
    obtain ⟨h1, h2⟩ := h
    obtain ⟨e, r, er⟩ := hp p List.mem_cons_self
    have rr : RelO (some p.2) (valueAt vb p.1) := by rw [← e]; exact rb.val p.1
    obtain ⟨y, hy, ry⟩ := rr.some_of
    obtain ⟨k, v⟩ := q
    have h1' : p.1 = k := h1
    rw [h1'] at hy
    rw [er] at h2 ry
    obtain rfl : v = Value.ref r := h2
    obtain rfl : y = Value.ref r := ry
    show PySem.W.KeqHits A s vb ((k, Value.ref r) :: qs) (true && true)
    exact .hit hy (SeqAt.EqAt.same _) (ih fun p' hm => hp p' (List.mem_cons_of_mem _ hm))
def rNeDR : R2 := fun x y H Q => ∃ a b ks, x = .ref a ∧ y = .ref b ∧ H a = some (.dK ks) ∧ H b = some (.dK ks) ∧ (∀ p ∈ ks, valV ks p.1 = some p.2 ∧ ∃ r, p.2 = .ref r) ∧ Q (.bl false) H
theorem op_ne_dictR {X : Cx} (hu : X.A.units < cLine) : OpR X (compareOp .NotEq) rNeDR := by
  intro pins s σ H x y v u Q I rx ry h
  obtain ⟨a, b, ks, rfl, rfl, ea, eb, hp, q⟩ := h
  obtain rfl : v = Value.ref a := rx
  obtain rfl : u = Value.ref b := ry
  obtain ⟨_, ya, va, ra, da⟩ := (show ObjOk X.prog X.w H s.heap a (.dK ks) from I.hok a _ ea)
  obtain ⟨_, yb, vb, rb, db⟩ := (show ObjOk X.prog X.w H s.heap b (.dK ks) from I.hok b _ eb)
  have hl : va.length = vb.length := by rw [← ra.length, ← rb.length]
  exact PySem.W.keq_ne (knd := mixKind X.prog X.w) (r := true) ya yb da db hu (fun _ => hits_refs rb ra hp) (fin_bl I q (by simp [hl]))
/-! things stored -/
def putW (W : List (Str × TH)) (x : Str) (T : TH) : List (Str × TH) := if x ∈ W.map (·.1) then W.map (fun q => if q.1 = x then (q.1, T) else q) else W ++ [(x, T)]
theorem putW_dic (W : List (Str × TH)) (x : Str) (T : TH) : putK (dicK W) (Sum.inr x) T.v = dicK (putW W x T) := by
  unfold putK putW
  have any : (((dicK W).any fun kv => decide (kv.1 = Sum.inr x)) = true) ↔ x ∈ W.map (·.1) := by
    rw [List.any_eq_true, List.mem_map]
    constructor
    · rintro ⟨z, hz, e⟩
      obtain ⟨q, hq, rfl⟩ := List.mem_map.mp hz
      exact ⟨q, hq, Sum.inr.inj (of_decide_eq_true e)⟩
    · rintro ⟨q, hq, e⟩
      exact ⟨_, List.mem_map.mpr ⟨q, hq, rfl⟩, decide_eq_true (by rw [← e])⟩
  by_cases h : x ∈ W.map (·.1)
  · rw [if_pos (any.mpr h), if_pos h]
    unfold dicK
    rw [List.map_map, List.map_map]
    apply List.map_congr_left
    intro q _
    show (if (Sum.inr q.1 : Key) = Sum.inr x then ((Sum.inr q.1 : Key), T.v) else (Sum.inr q.1, q.2.v)) = (Sum.inr (if q.1 = x then (q.1, T) else q).1, (if q.1 = x then (q.1, T) else q).2.v)
    by_cases e : q.1 = x
    · rw [if_pos e, if_pos (by rw [e])]
    · rw [if_neg e, if_neg (fun z => e (Sum.inr.inj z))]
  · rw [if_neg (fun z => h (any.mp z)), if_neg h]
    unfold dicK
    rw [List.map_append]
    rfl
theorem putW_keys (W : List (Str × TH)) (x : Str) (T : TH) : (putW W x T).map (·.1) = if x ∈ W.map (·.1) then W.map (·.1) else W.map (·.1) ++ [x] := by
  unfold putW
  by_cases h : x ∈ W.map (·.1)
  · rw [if_pos h, if_pos h, List.map_map]
    apply List.map_congr_left
    intro q _
    show (if q.1 = x then (q.1, T) else q).1 = q.1
    split <;> rfl
  · rw [if_neg h, if_neg h, List.map_append]
    rfl
theorem putW_key {W : List (Str × TH)} {x y : Str} {T : TH} : y ∈ (putW W x T).map (·.1) ↔ y = x ∨ y ∈ W.map (·.1) := by
  rw [putW_keys]
  by_cases h : x ∈ W.map (·.1)
  · rw [if_pos h]
    constructor
    · exact .inr
    · rintro (e | e)
      · rw [e]; exact h
      · exact e
  · rw [if_neg h, List.mem_append, List.mem_singleton]
    exact Or.comm
theorem putW_nodup {W : List (Str × TH)} (h : (W.map (·.1)).Nodup) (x : Str) (T : TH) : ((putW W x T).map (·.1)).Nodup := by
  rw [putW_keys]
  by_cases z : x ∈ W.map (·.1)
  · rw [if_pos z]; exact h
  · rw [if_neg z, List.nodup_append]
    refine ⟨h, List.nodup_cons.mpr ⟨by simp, List.nodup_nil⟩, fun a ha b hb e => ?_⟩
    rw [List.mem_singleton.mp hb] at e
    rw [e] at ha
    exact z ha
theorem putW_mem {W : List (Str × TH)} {x : Str} {T : TH} {q : Str × TH} (h : q ∈ putW W x T) : q = (x, T) ∨ (q ∈ W ∧ q.1 ≠ x) := by
  unfold putW at h
  split at h
  · obtain ⟨y, hy, e⟩ := List.mem_map.mp h
    by_cases c : y.1 = x
    · rw [if_pos c] at e
      exact .inl (by rw [← e, c])
    · rw [if_neg c] at e
      exact .inr ⟨by rw [← e]; exact hy, by rw [← e]; exact c⟩
  · rename_i n
    rcases List.mem_append.mp h with y | y
    · exact .inr ⟨y, fun z => n (List.mem_map.mpr ⟨q, y, z⟩)⟩
    · exact .inl (List.mem_singleton.mp y)
theorem putW_len (W : List (Str × TH)) (x : Str) (T : TH) : (putW W x T).length ≤ W.length + 1 := by
  unfold putW
  split
  · rw [List.length_map]; omega
  · rw [List.length_append]; exact Nat.le_refl _
theorem mem_putW {W : List (Str × TH)} {x : Str} {T : TH} : (x, T) ∈ putW W x T := by
  unfold putW
  split
  · rename_i h
    obtain ⟨q, hq, e⟩ := List.mem_map.mp h
    exact List.mem_map.mpr ⟨q, hq, by rw [if_pos e, e]⟩
  · exact List.mem_append_right _ (List.mem_singleton.mpr rfl)
theorem mem_putW_of {W : List (Str × TH)} {x : Str} {T : TH} {q : Str × TH} (h : q ∈ W) (n : q.1 ≠ x) : q ∈ putW W x T := by
  unfold putW
  split
  · exact List.mem_map.mpr ⟨q, h, by rw [if_neg n]⟩
  · exact List.mem_append_left _ h
/-! keys that are new -/
theorem putK_new {kvs : List (Key × V)} {k : Key} {v : V} (h : k ∉ kvs.map (·.1)) : putK kvs k v = kvs ++ [(k, v)] := by
  unfold putK
  rw [if_neg]
  intro z
  obtain ⟨q, hq, e⟩ := List.any_eq_true.mp z
  exact h (List.mem_map.mpr ⟨q, hq, of_decide_eq_true e⟩)
theorem mergeK_new : ∀ (more acc : List (Key × V)), ((acc ++ more).map (·.1)).Nodup → mergeK acc more = acc ++ more
  | [], acc, _ => by rw [List.append_nil]; rfl
  | q :: more, acc, nd => by
    have n1 : q.1 ∉ acc.map (·.1) := fun z => by
      rw [List.map_append, List.nodup_append] at nd
      exact nd.2.2 _ z _ (List.mem_cons_self) rfl
    show mergeK (putK acc q.1 q.2) more = _
    rw [putK_new n1, mergeK_new more (acc ++ [(q.1, q.2)]) (by rw [List.append_assoc]; exact nd), List.append_assoc]
    rfl
theorem dicK_keys (W : List (Str × TH)) : (dicK W).map (·.1) = (W.map (·.1)).map Sum.inr := by
  rw [List.map_map, List.map_map]
  rfl
theorem inr_nodup : ∀ {l : List Str}, l.Nodup → (l.map (Sum.inr : Str → Key)).Nodup
  | [], _ => List.nodup_nil
  | x :: l, h => by
    obtain ⟨h1, h2⟩ := List.nodup_cons.mp h
    refine List.nodup_cons.mpr ⟨fun z => ?_, inr_nodup h2⟩
    obtain ⟨y, hy, e⟩ := List.mem_map.mp z
    rw [← Sum.inr.inj e] at h1
    exact h1 hy
theorem merge_dic {W : List (Str × TH)} (h : (W.map (·.1)).Nodup) : mergeK [] (dicK W) = dicK W := by
  rw [mergeK_new _ _ (by rw [List.nil_append, dicK_keys]; exact inr_nodup h)]
  rfl
/-! the dict stays -/
theorem Dic.grow {l b : Addr} {H H' : Hp} {d : Addr} {W : List (Str × TH)} (h : Dic H d W) (B : Bag l b H) (g : Grow b H H') : Dic H' d W := by
  have nd : d ≠ b := fun z => by
    obtain ⟨ns, _, _, ⟨i, j, s, n, hb, _⟩⟩ := B
    have := h.at_
    rw [z, hb] at this
    cases this
  exact ⟨g _ _ nd h.at_, h.nd, fun q hq => (h.inn q hq).keep (B.tk g)⟩
theorem Dic.ext {H H' : Hp} {d : Addr} {W : List (Str × TH)} (h : Dic H d W) (e : ExtN H H') : Dic H' d W :=
  ⟨e _ _ h.at_ (fun _ z => nomatch z), h.nd, fun q hq => (h.inn q hq).keep (fun a xs z => e _ _ z (fun _ y => nomatch y))⟩
theorem Dic.vals {H : Hp} {d : Addr} {W : List (Str × TH)} (h : Dic H d W) : ∀ p ∈ dicK W, valV (dicK W) p.1 = some p.2 ∧ ∃ r, p.2 = .ref r := fun p hp => by
  obtain ⟨q, hq, rfl⟩ := List.mem_map.mp hp
  refine ⟨?_, ?_⟩
  · show valV (dicK W) (Sum.inr q.1) = some q.2.v
    rw [dic_val, seek_of h.nd hq]
    rfl
  · show ∃ r, q.2.v = .ref r
    cases q.2 with
    | ok A => exact ⟨_, rfl⟩
    | bad p y => exact ⟨_, rfl⟩
/-! the letters, rising -/
theorem le_lt {a b : Str} (h : Le a b) (n : a ≠ b) : a.cps.toList < b.cps.toList := by
  have h1 : a.cps.toList ≤ b.cps.toList := List.not_lt.mp h
  rcases List.le_iff_lt_or_eq.mp h1 with z | z
  · exact z
  · exact absurd (NvSet.str_of_list z) n
/-- the letters that something is put for, rising -/
def tri (k : Nat) (s0 s1 s2 : Str) : List Str := if k = 0 then [s1, s2] else [s0, s1, s2]
theorem tri_is {s0 s1 s2 s3 : Str} {k : Nat} {ys : List Str} {W1 : List (Str × TH)} {U T : TH} (so : sortedS [s0, s1, s2, s3] = true) (nd : [s0, s1, s2, s3].Nodup) (hk : k ≤ 3) (k1 : W1.map (·.1) = [s0, s1, s2, s3].take k)
    (pm : ys.Perm ((putW (putW W1 s2 U) s1 T).map (·.1))) (sy : sortedS ys = true) (nw : (W1.map (·.1)).Nodup) : ys = tri k s0 s1 s2 := by
  have pw := sorted_pw so
  have pt : (tri k s0 s1 s2).Pairwise Le ∧ (tri k s0 s1 s2).Nodup := by
    have h1 : [s0, s1, s2].Pairwise Le := (List.pairwise_append.mp (show ([s0, s1, s2] ++ [s3]).Pairwise Le from pw)).1
    have h2 : [s0, s1, s2].Nodup := (List.nodup_append.mp (show ([s0, s1, s2] ++ [s3]).Nodup from nd)).1
    unfold tri
    split
    · exact ⟨(List.pairwise_cons.mp h1).2, (List.nodup_cons.mp h2).2⟩
    · exact ⟨h1, h2⟩
  refine pw_unique (sorted_pw sy) pt.1 ?_ pt.2 fun y => ?_
  · exact pm.nodup_iff.mpr (putW_nodup (putW_nodup nw _ _) _ _)
  · rw [pm.mem_iff, putW_key, putW_key, k1]
    unfold tri
    have : k = 0 ∨ k = 1 ∨ k = 2 ∨ k = 3 := by omega
    rcases this with e | e | e | e <;> subst e <;> simp <;> grind
end Nv

set_option maxRecDepth 100000
set_option maxHeartbeats 8000000
namespace Nv
open PySem PySem.Spec PyProof.Rows L2 LamX NvSet
theorem Twin.mono {K : PySem.W.Frag} {H : Hp} {x y : V} : ∀ {n m : Nat}, n ≤ m → Twin K H n x y → Twin K H m x y := by
  intro n m h t
  induction m with
  | zero => rwa [Nat.le_zero.mp h] at t
  | succ m ih =>
    rcases Nat.lt_or_eq_of_le h with h | h
    · exact (ih (by omega)).up
    · rwa [h] at t
/-- reckonings that are built alike are equal -/
theorem twin_er {K : PySem.W.Frag} {H : Hp} : ∀ (T U : AT) (n : Nat), T.er = U.er → T.In H → U.In H → T.count ≤ n → Twin K H (n + 1) T.v U.v
  | .sh p q t b, U, n, e, hin, hu, hc => by
    obtain ⟨m, rfl⟩ : ∃ m, n = m + 1 := ⟨n - 1, by have : 1 ≤ n := hc; omega⟩
    cases U with
    | sh p2 q2 t2 b2 =>
      cases e
      refine twin_all (.inr ⟨SqT.of hin.1, SqT.of hu.1⟩) (by show 2 ≤ 1000; decide) (.cons (Twin.one (Scal.str _) _) (.cons ?_ .nil))
      exact twin_all (.inr ⟨SqT.of hin.2, SqT.of hu.2⟩) (by show 2 ≤ 1000; decide) (.cons (Twin.one (Scal.int _) _) (.cons (Twin.one (Scal.int _) _) .nil))
    | le _ _ => cases e
    | two _ _ _ _ => cases e
    | un _ _ => cases e
  | .le p x, U, n, e, hin, hu, hc => by
    cases U with
    | le p2 x2 =>
      cases e
      exact twin_all (.inr ⟨SqT.of hin, SqT.of hu⟩) (by show 2 ≤ 1000; decide) (.cons (Twin.one (Scal.str _) _) (.cons (Twin.one (Scal.str _) _) .nil))
    | sh _ _ _ _ => cases e
    | two _ _ _ _ => cases e
    | un _ _ => cases e
  | .two p o A B, U, n, e, hin, hu, hc => by
    have hc' : 1 + A.count + B.count ≤ n := hc
    obtain ⟨m, rfl⟩ : ∃ m, n = m + 1 := ⟨n - 1, by omega⟩
    cases U with
    | two p2 o2 A2 B2 =>
      have e : ET.two o A.er B.er = ET.two o2 A2.er B2.er := e
      obtain ⟨rfl, e1, e2⟩ := ET.two.inj e
      exact twin_all (.inr ⟨SqT.of hin.1, SqT.of hu.1⟩) (by show 3 ≤ 1000; decide) (.cons (Twin.one (Scal.str _) _) (.cons (twin_er A A2 m e1 hin.2.1 hu.2.1 (by omega)) (.cons (twin_er B B2 m e2 hin.2.2 hu.2.2 (by omega)) .nil)))
    | sh _ _ _ _ => cases e
    | le _ _ => cases e
    | un _ _ => cases e
  | .un p A, U, n, e, hin, hu, hc => by
    have hc' : 1 + A.count ≤ n := hc
    obtain ⟨m, rfl⟩ : ∃ m, n = m + 1 := ⟨n - 1, by omega⟩
    cases U with
    | un p2 A2 =>
      have e : ET.un A.er = ET.un A2.er := e
      exact twin_all (.inr ⟨SqT.of hin.1, SqT.of hu.1⟩) (by show 2 ≤ 1000; decide) (.cons (Twin.one (Scal.str _) _) (.cons (twin_er A A2 m (ET.un.inj e) hin.2 hu.2 (by omega)) .nil))
    | sh _ _ _ _ => cases e
    | le _ _ => cases e
    | two _ _ _ _ => cases e
def noData (x : Str) : PyData := .tuple [.str "no", .str "BadTerm", .str x]
def Word (x : Str) : Prop := x = Str.ofString "many" ∨ x = Str.ofString "deep" ∨ x = Str.ofString "form"
theorem no_shaped {x : Str} (h : Word x) : SeqAt.shaped (noData x) = true := by
  rcases h with rfl | rfl | rfl <;> (unfold SeqAt.shaped noData; simp [PyData.canLay0, PyData.canLayAll0, PyData.depth, PyData.depthAll]; decide +kernel)
theorem flaw_word {T : TH} {x : Str} (h : T.flaw = some x) : Word x := by
  cases T with
  | ok A =>
    have h : A.flaw = some x := h
    unfold AT.flaw at h
    split at h
    · cases h; exact .inl rfl
    · split at h
      · cases h; exact .inr (.inl rfl)
      · cases h
  | bad p y => cases h; exact .inr (.inr rfl)
theorem paired_map {α β γ : Type} {R : α → γ → Prop} {g : β → γ} : ∀ {xs : List α} {ys : List β}, Paired (fun x y => R x (g y)) xs ys → Paired R xs (ys.map g)
  | _, _, .nil => .nil
  | _, _, .cons h t => .cons h (paired_map t)
def dueOf (v : V) : Option Str → List V
  | none => [.str "told", v]
  | some x => [.str "no", .str "BadTerm", .str x]
theorem tk_dK {H : Hp} {p : Addr} {kvs : List (Key × V)} {o : HO} (h : H p = some (.dK kvs)) : TupKeep H (upd H p o) := fun a xs e => by
  rw [upd_ne (fun z => by rw [z, h] at e; cases e)]
  exact e
theorem Ok.dict {l b d : Addr} {T : List (Addr × Str)} {H : Hp} {kvs : List (Key × V)} {o : HO} (O : Ok l b T H) (hd : H d = some (.dK kvs)) : Ok l b T (upd H d o) := by
  obtain ⟨Bg, tb⟩ := O
  refine ⟨?_, fun p hp => ?_⟩
  · refine Bg.beside (fun z => ?_) (fun z => ?_)
    · obtain ⟨nsb, _, _, ⟨ib, jb, sb, nnb, hb, _⟩⟩ := Bg
      rw [z, hb] at hd
      cases hd
    · obtain ⟨nsb, _, hl, _⟩ := Bg
      rw [z, hl] at hd
      cases hd
  · obtain ⟨ps, h1, h2, h3⟩ := tb p hp
    refine ⟨ps, by rw [upd_ne (fun z => by rw [z, hd] at h1; cases h1)]; exact h1, h2, fun pos cv hc => ?_⟩
    obtain ⟨c, e1, e2⟩ := h3 pos cv hc
    have nd : c ≠ d := fun z => by
      rw [z, hd] at e2
      have e3 := Option.some.inj e2
      unfold CodeO at e3
      cases e3
    exact ⟨c, e1, by rw [upd_ne nd]; exact e2⟩
theorem upd_twice {H : Hp} {x : Addr} {o u : HO} : upd (upd H x o) x u = upd H x u := by
  funext a
  by_cases z : a = x
  · rw [z, upd_same, upd_same]
  · rw [upd_ne z, upd_ne z, upd_ne z]
theorem small_x : Small (Str.ofString "x") := ⟨by decide +kernel, by decide +kernel, by decide +kernel⟩
theorem small_y : Small (Str.ofString "y") := ⟨by decide +kernel, by decide +kernel, by decide +kernel⟩
def lastData : PyData := .tuple [.str "less", .tuple [.str "letter", .str "y"], .tuple [.str "letter", .str "x"]]
theorem last_shaped : SeqAt.shaped lastData = true := by
  unfold SeqAt.shaped lastData
  simp [PyData.canLay0, PyData.canLayAll0, PyData.depth, PyData.depthAll]
  decide +kernel
theorem last_dp {K : PySem.W.Frag} {H : Hp} : ∀ {R : AT}, R.In H → R.er = ET.two .less (.le (Str.ofString "y")) (.le (Str.ofString "x")) → Dp K H R.v lastData
  | .two p o A B, hin, e => by
    have e : ET.two o A.er B.er = _ := e
    obtain ⟨rfl, e1, e2⟩ := ET.two.inj e
    cases A with
    | le p1 x1 =>
      cases e1
      cases B with
      | le p2 x2 =>
        cases e2
        exact .tup (SqT.of hin.1) (.cons (.str _) (.cons (.tup (SqT.of hin.2.1) (.cons (.str _) (.cons (.str _) .nil))) (.cons (.tup (SqT.of hin.2.2) (.cons (.str _) (.cons (.str _) .nil))) .nil)))
      | sh _ _ _ _ => cases e2
      | two _ _ _ _ => cases e2
      | un _ _ => cases e2
    | sh _ _ _ _ => cases e1
    | two _ _ _ _ => cases e1
    | un _ _ => cases e1
  | .sh _ _ _ _, _, e => by cases e
  | .le _ _, _, e => by cases e
  | .un _ _, _, e => by cases e
theorem four_of {α : Type} : ∀ {l : List α}, l.length = 4 → ∃ a b c d, l = [a, b, c, d]
  | [a, b, c, d], _ => ⟨a, b, c, d, rfl⟩
/-- the pairs of letters and drawn reckonings, so far -/
def PerP (l b D : Addr) (L X : List Str) (H0 : Hp) (i : Nat) (H : Hp) : Prop := Bag l b H ∧ Grow b H0 H ∧ ∃ (ps : List Addr) (W : List (Str × TH)), H D = some (.lst (ps.map V.ref)) ∧ W.map (·.1) = X.take i ∧ ps.length = i ∧
  Paired (fun (p : Addr) (q : Str × TH) => H p = some (.tup [.str q.1, q.2.v])) ps W ∧ ∀ q ∈ W, ∃ A : AT, q.2 = .ok A ∧ A.In H ∧ A.Ok ∧ A.count ≤ 6 ∧ A.deep ≤ 2 ∧ ∀ x ∈ A.lets, x ∈ L
theorem flaw_none {A : AT} (c : A.count ≤ 24) (d : A.deep ≤ 4) : A.flaw = none := by
  unfold AT.flaw
  rw [if_neg (by omega), if_neg (by omega)]
/-! the law -/
abbrev sLaw : Stmt := topS 66
abbrev nLaw : List Str := ["_law_script", "_law_bag_here", "_law_turn", "_law_signs", "_law_term", "_law_per", "_law_handed", "_law_made", "_law_flaw", "_law_due", "_law_lost", "_law_x", "_law_y", "_law_sign"]
theorem scLaw : FnScope nLaw ["_law_script"] (defScope sLaw) := ⟨rfl, rfl, rfl, by decide +kernel, rfl, by decide +kernel, by decide +kernel⟩
def qLam : Str := "law.<locals>.<lambda>"
def spLaw (K : PySem.W.Frag) (Pt : Addr) : Sp := fun vs H Q _ => ∃ (a : Addr) (ns : List Int), vs = [.ref a] ∧ SqL K H a (ns.map V.int) ∧ Tabs [(Pt, qLam)] H ∧ ∀ H', Q (.bl true) H'
structure Calls (P : Program) (w : World) (K : PySem.W.Frag) (mg : Str → Option Value) (base : Heap) (C : Addr) : Prop where
  put : CalX P w K mg base 15 "put" (spPut C) []
  given : C8.Cal P w K mg base 14 "_law_given_all" (spWith 12) []
  fault : C8.Cal P w K mg base 44 "_law_fault" (spFault 40) []
  tower : C8.Cal P w K mg base 3 "_law_tower" spTower []
  abc : C8.Cal P w K mg base 3 "_law_abc" spAbc []
  drawn : C8.Cal P w K mg base 16 "_law_drawn" (spDrawn 12) []
  pull : C8.Cal P w K mg base 1 "_law_pull" spPull []
  bag : C8.Cal P w K mg base 1 "_law_bag" (spBag K) []
  same : C8.Cal P w K mg base 43 "_law_same" (spSame K 42) []
theorem hits_dict : True := trivial
section
variable {P : Program} {w : World} {K : PySem.W.Frag} {mg : Str → Option Value} {base : Heap} {CN C fN fI : Addr}
theorem ok_law {f fT c Pt : Addr} {fdT : FuncData} {oc doc pm ct kV : Value} {od an : Option Addr} {osl : Array (Option Value)}
    (lk : K.lookup f = some ⟨oc, od, .func (PySem.W.fnOf "law" "law" (defArgs sLaw) (defBody sLaw) (defScope sLaw) .none kV doc pm an (.ref c) ct), osl⟩) (hcd : PySem.W.codeIn K (.ref c) "law" = true)
    (G : Calls P w K mg base C) (B : Blt mg) (md : mg "dict" = none) (srt : mg "sorted" = none) (R : Errs K mg CN C fN fI) (FT : Fun K "_law_asked" "_law_asked" sAsked fT fdT) (gT : mg "_law_asked" = some (.ref fT)) (TB : TabB base mg c Pt) :
    FnOk P w K mg base CX0 60 f (PySem.W.fnOf "law" "law" (defArgs sLaw) (defBody sLaw) (defScope sLaw) .none kV doc pm an (.ref c) ct) ["_law_script"] (spLaw K Pt) := by
  have bT := FT.binds (ps := ["_law_ask"]) fun _ _ _ _ _ _ us hl => match us, hl with | [_], _ => rfl
  obtain ⟨ocT, odT, kVT, docT, pmT, anT, cdT, ctT, oslT, rfl, lkT, hcT⟩ := FT.ex
  refine fn_of lk hcd scLaw (fun vs H Q E h => ?_) (fun A outer s H vs Q E hr h => ?_)
  · obtain ⟨a, ns, rfl, _⟩ := h
    rfl
  · obtain ⟨a, ns, rfl, hS, hT, q⟩ := h
    suffices hh : ∃ t, PSs (cxOf CX0 P w K mg base nLaw "law" (defScope sLaw) f (.ref c) A outer s H E).nox (defBody sLaw) t ∧ t { nx := fun _ H' => Q .non H', rt := Q } (L2.start nLaw [.ref a]) H by
      obtain ⟨t, h1, h2⟩ := hh
      exact ⟨t, h1.nox, h2⟩
    refine ⟨_, pss_cons (ps_set (i := 1) scLaw.nd rfl (by first | exact .inl rfl | exact .inr rfl) (C8.pe_c G.bag hr (by decide) (by rfl) (pa_cons (pv 0) pa_nil)))
      (pss_cons (ps_for PassesOwn.never rfl (pi_range1 (by rfl) B.rng (pa_cons pe_int pa_nil)) (pg_name (i := 2) scLaw.nd rfl (.inl rfl))
        (pss_cons (ps_set (i := 3) scLaw.nd rfl (by first | exact .inl rfl | exact .inr rfl) (pe_callB cr_sortedS (by rfl) srt (by decide +kernel) (pa_cons (C8.pe_c G.abc hr (by decide) (by rfl) (pa_cons (pv 1) (pa_cons pe_int pa_nil))) pa_nil)))
        (pss_cons (ps_set (i := 4) scLaw.nd rfl (by first | exact .inl rfl | exact .inr rfl) (C8.pe_c G.drawn hr (by decide) (by rfl) (pa_cons (pv 1) (pa_cons (pv 3) (pa_cons pe_int (pa_cons pe_int pa_nil))))))
        (pss_cons (ps_set (i := 5) scLaw.nd rfl (by first | exact .inl rfl | exact .inr rfl) (pe_callTy (call_dictP rfl) (by rfl) md (by decide +kernel) (pa_cons (pe_lc (own := [("_law_sign", 13)]) (g := gName 13) (tt := tYes) rfl scLaw.nd (pi_list (pe_slice sl_list (pv 3) po_none (po_some (C8.pe_c G.pull hr (by decide) (by rfl) (pa_cons (pv 1) (pa_cons pe_int pa_nil)))))) (blkOk_by (N := nLaw) (sc := defScope sLaw) (by decide +kernel))
            (fun _ _ _ _ _ => pg_name (i := 13) scLaw.nd rfl (Or.inl rfl)) (fun _ _ _ _ _ => pts_nil) (fun _ _ _ _ _ => pe_tup (pa_cons (pv 13) (pa_cons (C8.pe_c G.drawn hr (by decide) (by rfl) (pa_cons (pv 1) (pa_cons (pv 3) (pa_cons pe_int (pa_cons pe_int pa_nil))))) pa_nil)))) pa_nil)))
        (pss_cons (ps_set (i := 6) scLaw.nd rfl (by first | exact .inl rfl | exact .inr rfl) (pe_callTy call_dictD (by rfl) md (by decide +kernel) (pa_cons (pv 5) pa_nil)))
        (pss_cons (ps_set (i := 7) scLaw.nd rfl (by first | exact .inl rfl | exact .inr rfl) (C8.pe_c G.given hr (by decide) (by rfl) (pa_cons (pv 4) (pa_cons (pv 5) pa_nil))))
        (pss_cons (ps_set (i := 8) scLaw.nd rfl (by first | exact .inl rfl | exact .inr rfl) (C8.pe_c G.fault hr (by decide) (by rfl) (pa_cons (pv 7) pa_nil)))
        (pss_cons (ps_set (i := 9) scLaw.nd rfl (by first | exact .inl rfl | exact .inr rfl) (pe_ifExp (pt_cmpR op_isN (pv 8) pe_non (nomark _)) (pe_tup (pa_cons pe_str (pa_cons (pv 7) pa_nil))) (pe_tup (pa_cons pe_str (pa_cons pe_str (pa_cons (pv 8) pa_nil))))))
        (pss_cons (ps_if (PW.pt (pw_or (pt_not (pt_val (C8.pe_c G.same hr (by decide) (by rfl) (pa_cons (pe_lamcall (T := [(Pt, qLam)]) (k := 28) (by rfl) gT FT.kp lkT hcT bT scAsked rfl (.inl rfl) (asked_gives R) TB rfl (List.mem_singleton.mpr (by rfl)) (fun p hp _ => by rw [List.mem_singleton.mp hp]; rfl) (hr.mono (by decide)) (lamS_by (sc := defScope sLaw) (by decide +kernel)) rfl (fun _ _ _ _ _ => rfl)
              (fun A outer s H E f c' hr2 => pe_cxE G.put hr2 (by decide) (passes_call (takes_of rfl rfl rfl rfl) (fun _ _ _ _ z => z)) (by rfl) (pa_cons (pv 4) (pa_cons (pv 6) pa_nil)))) (pa_cons (pv 9) pa_nil))))) (pw_or1 (pt_cmpR (op_ne_dictR (Nat.lt_of_le_of_lt (Nat.le_succ _) (hu_of hr))) (pv 6) (pv 5) (nomark _))))) (pss_one (ps_ret pe_bl)) pss_nil)
        (pss_cons (ps_asg (pe_tup (pa_cons (pe_tup (pa_cons pe_str pa_nil)) (pa_cons (C8.pe_c G.tower hr (by decide) (by rfl) (pa_cons (pv 1) (pa_cons (pv 3) pa_nil))) pa_nil))) (pg_tup rfl (pgs_cons (pg_sub (pv 6) (pe_ix ix_list (pv 3) pe_int (fun _ _ => rfl)) (set_dict (hu_of hr))) (pgs_cons (pg_sub (pv 6) (pe_ix ix_list (pv 3) pe_int (fun _ _ => rfl)) (set_dict (hu_of hr))) pgs_nil))))
        (pss_cons (ps_setLc (i := 10) (own := [("_law_sign", 13)]) (g := gName 13) rfl scLaw.nd rfl rfl (sw_true rfl rfl rfl (by decide +kernel)) (pi_list (pe_callB (call_sortedD rfl) (by rfl) srt (by decide +kernel) (pa_cons (pv 6) pa_nil))) (blkOk_by (N := nLaw) (sc := defScope sLaw) (by decide +kernel))
            (fun _ _ _ _ _ => pg_name (i := 13) scLaw.nd rfl (Or.inl rfl)) (fun _ _ _ _ _ => pts_one (PW.pt (pw_and (pt_cmpR op_ne (pv 13) (pe_ix (r := rIxL K) ix_list (pv 3) pe_int (fun _ _ => rfl)) (nomark _)) (pw_and (pt_cmpR op_notN (C8.pe_c G.fault hr (by decide) (by rfl) (pa_cons (pe_dget (hu_of hr) (pv 6) (pv 13) (fun _ _ => rfl)) pa_nil)) pe_non (nomark _)) (pw_and1 (pt_cmpR op_lt_str (pv 13) (pe_ix (r := rIxL K) ix_list (pv 3) pe_int (fun _ _ => rfl)) (nomark _))))))) (fun _ _ _ _ _ => C8.pe_c G.fault hr (by decide) (by rfl) (pa_cons (pe_dget (hu_of hr) (pv 6) (pv 13) (fun _ _ => rfl)) pa_nil)))
        (pss_cons (ps_if (pt_cmpR (op_neD hr.units) (pe_lamcall (T := [(Pt, qLam)]) (k := 28) (by rfl) gT FT.kp lkT hcT bT scAsked rfl (.inl rfl) (asked_gives R) TB rfl (List.mem_singleton.mpr (by rfl)) (fun p hp _ => by rw [List.mem_singleton.mp hp]; rfl) (hr.mono (by decide)) (lamS_by (sc := defScope sLaw) (by decide +kernel)) rfl (fun _ _ _ _ _ => rfl)
              (fun A outer s H E f c' hr2 => pe_cxE G.put hr2 (by decide) (passes_call (takes_of rfl rfl rfl rfl) (fun _ _ _ _ z => z)) (by rfl) (pa_cons (pv 4) (pa_cons (pv 6) pa_nil)))) (pe_tup (pa_cons pe_str (pa_cons pe_str (pa_cons (pe_ix ix_list (pe_op op_cat (pv 10) (pe_lst (pa_cons pe_str pa_nil))) pe_int (fun _ _ => rfl)) pa_nil)))) (nomark _)) (pss_one (ps_ret pe_bl)) pss_nil)
        (pss_one (ps_if (pt_cmpR (op_neD hr.units) (pe_lamcall (T := [(Pt, qLam)]) (k := 28) (by rfl) gT FT.kp lkT hcT bT scAsked rfl (.inl rfl) (asked_gives R) TB rfl (List.mem_singleton.mpr (by rfl)) (fun p hp _ => by rw [List.mem_singleton.mp hp]; rfl) (hr.mono (by decide)) (lamS_by (sc := defScope sLaw) (by decide +kernel)) rfl (fun _ _ _ _ _ => rfl)
              (fun A outer s H E f c' hr2 => pe_cxE G.put hr2 (by decide) (passes_call (takes_of rfl rfl rfl rfl) (fun _ _ _ _ z => z)) (by rfl) (pa_cons (pe_tup (pa_cons pe_str pa_nil)) (pa_cons (pv 6) pa_nil)))) (pe_tup (pa_cons pe_str (pa_cons pe_str (pa_cons pe_str pa_nil)))) (nomark _)) (pss_one (ps_ret pe_bl)) pss_nil))))))))))))))
      (pss_cons (ps_asg (pe_tup (pa_cons (pe_tup (pa_cons pe_str (pa_cons pe_str pa_nil))) (pa_cons (pe_tup (pa_cons pe_str (pa_cons pe_str pa_nil))) pa_nil))) (pg_tup rfl (pgs_cons (pg_name (i := 11) scLaw.nd rfl (.inl rfl)) (pgs_cons (pg_name (i := 12) scLaw.nd rfl (.inl rfl)) pgs_nil))))
      (pss_one (ps_ret (pe_cmpR (op_eqD hr.units) (pe_cx G.put hr (by decide) (by rfl) (pa_cons (pe_tup (pa_cons pe_str (pa_cons (pv 11) (pa_cons (pv 12) pa_nil)))) (pa_cons (pe_disp (pps_cons pe_str (pv 12) (pps_cons pe_str (pv 11) pps_nil)) (by rfl) (by rfl) (fun z => by cases z) (by decide)) pa_nil))) (pe_tup (pa_cons pe_str (pa_cons (pv 12) (pa_cons (pv 11) pa_nil)))) (nomark _)))))), ?_⟩
    -- the bag
    refine ⟨_, rfl, a, ns, rfl, hS, fun l b H1 s1 nb nl B1 => ?_⟩
    have O1 : Ok l b [(Pt, qLam)] H1 := ⟨B1, hT.ext s1⟩
    refine ⟨5, rfl, by decide, by decide, for_range (lo := 0) (n := (5 : Int).toNat) (fun i σ H' => ∃ y2 y3 y4 y5 y6 y7 y8 y9 y10 y13, σ = [some (.ref a), some (.ref b), y2, y3, y4, y5, y6, y7, y8, y9, y10, none, none, y13] ∧ Ok l b [(Pt, qLam)] H') ⟨none, none, none, none, none, none, none, none, none, none, rfl, O1⟩ ?_ ?_⟩
    · rintro i σ H0 hi ⟨y2, y3, y4, y5, y6, y7, y8, y9, y10, y13, rfl, O0⟩
      -- the letters
      refine ⟨_, rfl, l, b, 4, rfl, by decide, O0.bag, fun D0 L0 H2 lL sL nL B2 g2 nD0 eD0 => ?_⟩
      have O2 := O0.grow g2 B2
      refine ⟨D0, L0, rfl, SqL.of eD0, by omega, fun ys D pm so nD => ?_⟩
      have s3 := same_new (o := .lst (ys.map V.str)) nD
      have eD : upd H2 D (.lst (ys.map V.str)) D = some (.lst (ys.map V.str)) := upd_same
      generalize upd H2 D (.lst (ys.map V.str)) = H3 at *
      have O3 := O2.same s3
      have nDb := O2.bag.ne nD
      have ndy : ys.Nodup := pm.nodup_iff.mpr (nL (by decide))
      have smy : ∀ x ∈ ys, Small x := fun x hx => sL x (pm.mem_iff.mp hx)
      have ly : ys.length = 4 := by rw [pm.length_eq, lL]
      obtain ⟨c0, c1, c2, c3, rfl⟩ := four_of ly
      -- the term
      refine ⟨_, rfl, _, rfl, l, b, D, [c0, c1, c2, c3], 10, 3, rfl, by decide, by decide, by decide, by decide, nDb, eD, by show 0 < 4; decide, by show 4 ≤ 1000; decide, smy, O3.bag, fun Z H4 inZ okZ cZ dZ lZ B4 g4 => ?_⟩
      have O4 := O3.grow g4 B4
      have eD4 := g4 _ _ nDb eD
      -- what is put
      refine ⟨_, rfl, _, rfl, l, b, 4, rfl, by decide, fit8 (n := 4) (by decide) (by decide), B4, fun r H5 r0 r1 B5 t5 => ?_⟩
      have O5 := O4.grow t5.grow B5
      have eD5 := t5.grow _ _ nDb eD4
      obtain ⟨k, rfl⟩ := Int.eq_ofNat_of_zero_le r0
      have k3 : k ≤ 3 := by omega
      refine ⟨(k : Int), rfl, D, _, rfl, SqL.of eD5, fun X nX => ?_⟩
      have ecut : cutV ([c0, c1, c2, c3].map V.str) none (some (k : Int)) = ([c0, c1, c2, c3].take k).map V.str := by
        have : k = 0 ∨ k = 1 ∨ k = 2 ∨ k = 3 := by omega
        rcases this with e | e | e | e <;> subst e <;> rfl
      rw [ecut]
      have s6 := same_new (o := .lst (([c0, c1, c2, c3].take k).map V.str)) nX
      have eX : upd H5 X (.lst (([c0, c1, c2, c3].take k).map V.str)) X = some (.lst (([c0, c1, c2, c3].take k).map V.str)) := upd_same
      have nXb := O5.bag.ne nX
      generalize upd H5 X (.lst (([c0, c1, c2, c3].take k).map V.str)) = H6 at *
      have O6 := O5.same s6
      have eD6 := s6 _ _ eD5
      have inZ6 : Z.In H6 := (inZ.keep (B4.tk t5.grow)).keep (Same.tk s6)
      refine ⟨X, rfl, ⟨_, SqL.of eX⟩, fun D7 nD7 => ?_⟩
      have nD7b := O6.bag.ne nD7
      have nD7l := O6.bag.neL nD7
      have eW : ∀ {H' : Hp}, Grow b H6 H' → H' D = some (.lst ([c0, c1, c2, c3].map V.str)) ∧ H' X = some (.lst (([c0, c1, c2, c3].take k).map V.str)) := fun g => ⟨g _ _ nDb eD6, g _ _ nXb eX⟩
      refine lc_it (walk_list (xs := ([c0, c1, c2, c3].take k).map V.str)) (fun i H' => PerP l b D7 [c0, c1, c2, c3] ([c0, c1, c2, c3].take k) H6 i H') ⟨O6.bag.same (same_new nD7), Same.grow (same_new nD7), [], [], upd_same, rfl, rfl, .nil, fun q hq => nomatch hq⟩ (fun i H' _ hI => SqL.of (eW hI.2.1).2) (fun j v Ha Hb hj hI y => ?_) (fun H7 hI => ?_)
      · obtain ⟨rfl, ex⟩ := y
        obtain ⟨Ba, ga, ps, W, eD7, kW, lp, pW, aW⟩ := hI
        have ex' : (([c0, c1, c2, c3].take k).map V.str)[j]? = some v := ex
        rw [List.getElem?_map] at ex'
        obtain ⟨x, hx, rfl⟩ := Option.map_eq_some_iff.mp ex'
        refine ⟨rfl, yes_if ?_⟩
        refine ⟨_, rfl, _, rfl, _, rfl, l, b, D, [c0, c1, c2, c3], 6, 2, rfl, by decide, by decide, by decide, by decide, nDb, (eW ga).1, by show 0 < 4; decide, by show 4 ≤ 1000; decide, smy, Ba, fun A' Hc inA okA cA dA lA Bc gc => ?_⟩
        refine ⟨(by show 2 ≤ sizeLine; decide), fun p np => ?_⟩
        have s8 := same_new (o := .tup [.str x, A'.v]) np
        have kc := Ba.tk gc
        have eD7c := s8 _ _ (gc _ _ nD7b eD7)
        have lpj : ps.length < 4 := by
          have := (List.getElem?_eq_some_iff.mp hx).1
          rw [List.length_take] at this
          have h4 : [c0, c1, c2, c3].length = 4 := rfl
          omega
        have k9 : TupKeep (upd Hc p (.tup [.str x, A'.v])) (upd (upd Hc p (.tup [.str x, A'.v])) D7 (.lst (ps.map V.ref ++ [.ref p]))) := tk_lst eD7c
        have kall : TupKeep Hb (upd (upd Hc p (.tup [.str x, A'.v])) D7 (.lst (ps.map V.ref ++ [.ref p]))) := TupKeep.trans kc (TupKeep.trans (Same.tk s8) k9)
        refine ⟨_, eD7c, small1000 (by rw [List.length_map]; omega), (Bc.same s8).beside nD7b nD7l, grow_upd (ga.trans (gc.trans (Same.grow s8))) nD7, ps ++ [p], W ++ [(x, .ok A')], ?_, ?_, by rw [List.length_append, lp]; rfl, ?_, fun q hq => ?_⟩
        · rw [upd_same, List.map_append]
          rfl
        · rw [List.map_append, kW, List.take_add_one, hx]
          rfl
        · exact @Paired.snoc' Addr (Str × TH) (fun p' q => (upd (upd Hc p (.tup [.str x, A'.v])) D7 (.lst (ps.map V.ref ++ [.ref p]))) p' = some (.tup [.str q.1, q.2.v])) p (x, .ok A') (k9 _ _ upd_same) _ _ (Paired.imp' (fun _ _ z => kall _ _ z) pW)
        · rcases List.mem_append.mp hq with e | e
          · obtain ⟨A2, e1, e2, e3⟩ := aW q e
            exact ⟨A2, e1, e2.keep kall, e3⟩
          · rw [List.mem_singleton.mp e]
            exact ⟨A', rfl, (inA.keep (Same.tk s8)).keep k9, okA, cA, dA, lA⟩
      obtain ⟨B7, g7, ps, W, eD7, kW, lp, pW, aW⟩ := hI
      have kW : W.map (·.1) = [c0, c1, c2, c3].take k := by
        rw [kW]
        exact List.take_of_length_le (by rw [List.length_map]; exact Nat.le_refl _)
      have nW : (W.map (·.1)).Nodup := by
        rw [kW]
        exact List.Sublist.nodup (List.take_sublist _ _) ndy
      have O7 := O6.grow g7 B7
      have inZ7 := inZ6.keep (O6.bag.tk g7)
      have eD7' := (eW g7).1
      refine ⟨D7, ps, dicK W, rfl, SqL.of eD7, ?_, fun dp ndp => ?_⟩
      · have : Paired (fun (p : Addr) (q : Str × TH) => SqT K H7 p [L2.kV (Sum.inr q.1), q.2.v]) ps W := Paired.imp' (fun _ _ z => SqT.of z) pW
        exact paired_map this
      rw [merge_dic nW]
      have s8 := same_new (o := .dK (dicK W)) ndp
      have edp : upd H7 dp (.dK (dicK W)) dp = some (.dK (dicK W)) := upd_same
      generalize upd H7 dp (.dK (dicK W)) = H8 at *
      have aW8 : ∀ q ∈ W, q.2.In H8 := fun q hq => by
        obtain ⟨A2, e1, e2, _⟩ := aW q hq
        rw [e1]
        exact AT.In.keep (Same.tk s8) e2
      have dic8 : Dic H8 dp W := ⟨edp, nW, aW8⟩
      -- handed
      refine ⟨_, rfl, dp, dicK W, rfl, .inl edp, fun dh ndh => ?_⟩
      have s9 := same_new (o := .dK (dicK W)) ndh
      have edh : upd H8 dh (.dK (dicK W)) dh = some (.dK (dicK W)) := upd_same
      have ndhp : dh ≠ dp := fun z => by rw [z, edp] at ndh; cases ndh
      generalize upd H8 dh (.dK (dicK W)) = H9 at *
      have dicp9 := dic8.same s9
      have dich9 : Dic H9 dh W := ⟨edh, nW, fun q hq => (aW8 q hq).keep (Same.tk s9)⟩
      have s79 := Same.trans s8 s9
      have O9 := O7.same s79
      have inZ9 := inZ7.keep (Same.tk s79)
      have eD9 := s79 _ _ eD7'
      -- what is known of them
      have fZ : Fair Z [c0, c1, c2, c3] := ⟨okZ, by omega, by show 4 ≤ 4; decide, lZ⟩
      have flZ : Z.flaw = none := flaw_none (by omega) (by omega)
      have wF : ∀ q ∈ W, q.2.Fine [c0, c1, c2, c3] := fun q hq => by
        obtain ⟨A2, e1, e2, e3, e4, e5, e6⟩ := aW q hq
        rw [e1]
        exact ⟨e3, by omega, by show 4 ≤ 4; decide, e6⟩
      have wN : ∀ q ∈ W, q.2.flaw = none := fun q hq => by
        obtain ⟨A2, e1, e2, e3, e4, e5, e6⟩ := aW q hq
        rw [e1]
        exact flaw_none (by omega) (by omega)
      have cS : (Z.er.sub (bE (bW W))).count ≤ 40 := by
        have h1 := ET.sub_count (s := bE (bW W)) (k := 5) (fun x A2 h => by
          have h : ((bW W) x).map AT.er = some A2 := h
          unfold bW at h
          cases z : seek W x with
          | none => rw [z] at h; cases h
          | some T2 =>
            rw [z] at h
            obtain ⟨A3, e1, e2, e3, e4, _⟩ := aW _ (seek_mem z)
            have e1 : T2 = .ok A3 := e1
            subst e1
            cases h
            rw [AT.er_count]
            exact e4) Z.er
        have h2 := Z.er.many_le
        rw [AT.er_count] at h1 h2
        have h3 : Z.er.many ≤ 5 := by omega
        have h4 : Z.er.many * 5 ≤ 5 * 5 := Nat.mul_le_mul_right 5 h3
        omega
      have lW : W.length ≤ 3 := by
        have := congrArg List.length kW
        rw [List.length_map, List.length_take] at this
        omega
      -- made
      refine ⟨_, rfl, _, rfl, Z, dp, bW W, rfl, inZ9, by omega, by decide, dicp9.by wN, fun M H10 s10 inM eM => ?_⟩
      have fM : Fair M [c0, c1, c2, c3] := fair_sub fZ wF eM (by omega)
      have cM : M.count ≤ 40 := by rw [← AT.er_count, eM]; exact cS
      refine ⟨_, rfl, M, [c0, c1, c2, c3], rfl, inM, fM, cM, fun H11 s11 => ?_⟩
      have s911 := Same.trans s10 s11
      let st (y8 y9 y10 : Option V) : L2.St := [some (.ref a), some (.ref b), some (.int (0 + (i : Int))), some (.ref D), some Z.v, some (.ref dp), some (.ref dh), some M.v, y8, y9, y10, none, none, y13]
      let stand (H' : Hp) : Prop := Ok l b [(Pt, qLam)] H' ∧ Z.In H' ∧ H' D = some (.lst ([c0, c1, c2, c3].map V.str)) ∧ Dic H' dp W ∧ Dic H' dh W
      have st11 : stand H11 := ⟨O9.same s911, inZ9.keep (Same.tk s911), s911 _ _ eD9, dicp9.same s911, dich9.same s911⟩
      have inM11 := inM.keep (Same.tk s11)
      -- due
      refine keepN (fun σ' H' => ∃ du, σ' = st (some (flawV M.flaw)) (some (.ref du)) y10 ∧ stand H' ∧ M.In H' ∧ H' du = some (.tup (dueOf M.v M.flaw))) (fun σ' H12 hM => ?_) (fun rest => ?_)
      · obtain ⟨du, rfl, ⟨O12, inZ12, eD12, dp12, dh12⟩, inM12, edu⟩ := hM
        refine keep (fun σ' H' => σ' = st (some (flawV M.flaw)) (some (.ref du)) y10 ∧ stand H') (fun σ' H13 hM => ?_) (fun rest => ?_)
        · obtain ⟨rfl, O13, inZ13, eD13, dp13, dh13⟩ := hM
          -- another two are handed
          refine ⟨(by show 1 ≤ sizeLine; decide), fun pu npu => ?_⟩
          have u1 := same_new (o := .tup [.str "undo"]) npu
          have epu : upd H13 pu (.tup [.str "undo"]) pu = some (.tup [.str "undo"]) := upd_same
          generalize upd H13 pu (.tup [.str "undo"]) = H14 at *
          have O14 := O13.same u1
          have dh14 := dh13.same u1
          refine ⟨_, rfl, _, rfl, l, b, D, [c0, c1, c2, c3], rfl, nDb, u1 _ _ eD13, rfl, smy, O14.bag, fun Tw H15 inTw okTw cTw lTw B15 g15 => ?_⟩
          have k15 := O14.bag.tk g15
          have O15 := O14.grow g15 B15
          have dh15 := dh14.grow O14.bag g15
          have inZ15 := (inZ13.keep (Same.tk u1)).keep k15
          have eD15 := g15 _ _ nDb (u1 _ _ eD13)
          have epu15 := k15 _ _ epu
          refine ⟨(by show 2 ≤ sizeLine; decide), fun pt npt => ?_⟩
          have u2 := same_new (o := .tup [.ref pu, Tw.v]) npt
          have ept : upd H15 pt (.tup [.ref pu, Tw.v]) pt = some (.tup [.ref pu, Tw.v]) := upd_same
          generalize upd H15 pt (.tup [.ref pu, Tw.v]) = H16 at *
          have O16 := O15.same u2
          have dh16 := dh15.same u2
          have inZ16 := inZ15.keep (Same.tk u2)
          have eD16 := u2 _ _ eD15
          have epu16 := u2 _ _ epu15
          have inTw16 := inTw.keep (Same.tk u2)
          have ndb : dh ≠ b := fun z => by
            obtain ⟨nsb, _, _, ⟨ib, jb, sb, nnb, hb, _⟩⟩ := O16.bag
            have := dh16.at_
            rw [z, hb] at this
            cases this
          have nDd : D ≠ dh := fun z => by
            rw [z, dh16.at_] at eD16
            cases eD16
          refine ⟨pt, _, rfl, SqT.of ept, rfl, _, _, rfl, ?_⟩
          refine ⟨_, rfl, _, rfl, D, _, 2, .str c2, rfl, rfl, SqL.of eD16, atI_nat (j := 2) rfl, dh, _, rfl, DPut.k (k := Sum.inr c2) (v := .ref pu) dh16.at_ (by rw [List.length_map]; exact small1000 (by omega)), ?_⟩
          rw [show putK (dicK W) (Sum.inr c2) (.ref pu) = dicK (putW W c2 (.bad pu "undo")) from putW_dic W c2 (.bad pu "undo")]
          have O17 := O16.dict (o := .dK (dicK (putW W c2 (.bad pu "undo")))) dh16.at_
          have k17 : TupKeep H16 (upd H16 dh (.dK (dicK (putW W c2 (.bad pu "undo"))))) := tk_dK dh16.at_
          have eD17 : upd H16 dh (.dK (dicK (putW W c2 (.bad pu "undo")))) D = some (.lst ([c0, c1, c2, c3].map V.str)) := by rw [upd_ne nDd]; exact eD16
          have dh17 : Dic (upd H16 dh (.dK (dicK (putW W c2 (.bad pu "undo"))))) dh (putW W c2 (.bad pu "undo")) := ⟨upd_same, putW_nodup nW _ _, fun q hq => by
            rcases putW_mem hq with e | ⟨e, _⟩
            · rw [e]
              exact k17 _ _ epu16
            · exact (dh16.inn q e).keep k17⟩
          have inZ17 := inZ16.keep k17
          have inTw17 := inTw16.keep k17
          generalize upd H16 dh (.dK (dicK (putW W c2 (.bad pu "undo")))) = H17 at *
          have lW2 := putW_len W c2 (.bad pu "undo")
          refine ⟨_, _, rfl, _, rfl, _, rfl, D, _, 1, .str c1, rfl, rfl, SqL.of eD17, atI_nat (j := 1) rfl, dh, _, rfl, DPut.k (k := Sum.inr c1) (v := Tw.v) dh17.at_ (by rw [List.length_map]; exact small1000 (by omega)), rfl, ?_⟩
          rw [show putK (dicK (putW W c2 (.bad pu "undo"))) (Sum.inr c1) Tw.v = dicK (putW (putW W c2 (.bad pu "undo")) c1 (.ok Tw)) from putW_dic _ c1 (.ok Tw)]
          obtain ⟨W2, eW2⟩ : ∃ W2, W2 = putW (putW W c2 (.bad pu "undo")) c1 (.ok Tw) := ⟨_, rfl⟩
          rw [← eW2]
          have O18 := O17.dict (o := .dK (dicK W2)) dh17.at_
          have k18 : TupKeep H17 (upd H17 dh (.dK (dicK W2))) := tk_dK dh17.at_
          have eD18 : upd H17 dh (.dK (dicK W2)) D = some (.lst ([c0, c1, c2, c3].map V.str)) := by rw [upd_ne nDd]; exact eD17
          have dh18 : Dic (upd H17 dh (.dK (dicK W2))) dh W2 := ⟨upd_same, by rw [eW2]; exact putW_nodup dh17.nd _ _, fun q hq => by
            rw [eW2] at hq
            rcases putW_mem hq with e | ⟨e, _⟩
            · rw [e]
              exact AT.In.keep k18 inTw17
            · exact (dh17.inn q e).keep k18⟩
          have inZ18 := inZ17.keep k18
          generalize upd H17 dh (.dK (dicK W2)) = H18 at *
          -- what is known of the dict now
          have n12 : c1 ≠ c2 := fun z => by rw [z] at ndy; simp at ndy
          have n01 : c0 ≠ c1 := fun z => by rw [z] at ndy; simp at ndy
          have n02 : c0 ≠ c2 := fun z => by rw [z] at ndy; simp at ndy
          have fTw : Fair Tw [c0, c1, c2, c3] := ⟨okTw, by omega, by show 4 ≤ 4; decide, lTw⟩
          have sk2 : seek W2 c2 = some (.bad pu "undo") := seek_of (q := (c2, .bad pu "undo")) dh18.nd (by rw [eW2]; exact mem_putW_of mem_putW n12.symm)
          have sk1 : seek W2 c1 = some (.ok Tw) := seek_of (q := (c1, .ok Tw)) dh18.nd (by rw [eW2]; exact mem_putW)
          have sk0 : k ≠ 0 → ∃ A0 : AT, seek W2 c0 = some (.ok A0) ∧ A0.flaw = none ∧ Fair A0 [c0, c1, c2, c3] ∧ A0.count ≤ 40 := fun hk => by
            have m0 : c0 ∈ W.map (·.1) := by
              rw [kW]
              obtain ⟨j, rfl⟩ := Nat.exists_eq_succ_of_ne_zero hk
              exact List.mem_cons_self
            obtain ⟨T0, e0⟩ := seek_some m0
            have m1 := seek_mem e0
            obtain ⟨A0, e1, e2, e3, e4, e5, e6⟩ := aW _ m1
            have e1 : T0 = .ok A0 := e1
            subst e1
            refine ⟨A0, seek_of (q := (c0, .ok A0)) dh18.nd (by rw [eW2]; exact mem_putW_of (mem_putW_of m1 n02) n01), flaw_none (by omega) (by omega), wF _ m1, by omega⟩
          have lW3 : W2.length ≤ 5 := by
            rw [eW2]
            have := putW_len (putW W c2 (.bad pu "undo")) c1 (.ok Tw)
            omega
          have w2F : ∀ q ∈ W2, q.2.Fine [c0, c1, c2, c3] := fun q hq => by
            rw [eW2] at hq
            rcases putW_mem hq with e | ⟨e, _⟩
            · rw [e]; exact fTw
            · rcases putW_mem e with e | ⟨e, _⟩
              · rw [e]; trivial
              · exact wF q e
          have tri2 : ∀ ys : List Str, ys.Perm (W2.map (·.1)) → sortedS ys = true → ys = tri k c0 c1 c2 := fun ys pm2 so2 => tri_is so ndy k3 kW (by rw [← eW2]; exact pm2) so2 nW
          have fl2 : flawIn W2 (tri k c0 c1 c2) = some (Tw.flaw.getD (Str.ofString "form")) := by
            have rest2 : flawIn W2 [c1, c2] = some (Tw.flaw.getD (Str.ofString "form")) := by
              show List.findSome? _ [c1, c2] = _
              rw [List.findSome?_cons, sk1, List.findSome?_cons, sk2]
              rw [show (some (TH.ok Tw)).bind TH.flaw = Tw.flaw from rfl]
              cases Tw.flaw <;> rfl
            unfold tri
            by_cases hk : k = 0
            · rw [if_pos hk]
              exact rest2
            · rw [if_neg hk]
              obtain ⟨A0, e0, f0, _⟩ := sk0 hk
              show List.findSome? _ (c0 :: [c1, c2]) = _
              rw [List.findSome?_cons, e0, show (some (TH.ok A0)).bind TH.flaw = A0.flaw from rfl, f0]
              exact rest2
          -- the lost ones
          let gL : Str → Option Str := fun y => if y = c2 then none else (seek W2 y).bind TH.flaw
          have gl2 : (tri k c0 c1 c2).filterMap gL = Tw.flaw.toList := by
            have g1 : gL c1 = Tw.flaw := by
              show (if c1 = c2 then none else (seek W2 c1).bind TH.flaw) = _
              rw [if_neg n12, sk1]
              rfl
            have g2' : gL c2 = none := if_pos rfl
            have rest2 : [c1, c2].filterMap gL = Tw.flaw.toList := by
              rw [List.filterMap_cons, g1]
              cases Tw.flaw with
              | none => rw [List.filterMap_cons, g2']; rfl
              | some x => rw [List.filterMap_cons, g2']; rfl
            unfold tri
            by_cases hk : k = 0
            · rw [if_pos hk]
              exact rest2
            · rw [if_neg hk]
              obtain ⟨A0, e0, f0, _⟩ := sk0 hk
              have g0 : gL c0 = none := by
                show (if c0 = c2 then none else (seek W2 c0).bind TH.flaw) = _
                rw [if_neg n02, e0]
                exact f0
              rw [List.filterMap_cons_none g0]
              exact rest2
          have fine2 : ∀ y ∈ tri k c0 c1 c2, y ≠ c2 → y.cps.toList < c2.cps.toList ∧ ∃ A0 : AT, seek W2 y = some (.ok A0) ∧ Fair A0 [c0, c1, c2, c3] ∧ A0.count ≤ 40 := fun y hy ny => by
            have pw := sorted_pw so
            obtain ⟨p0, pw1⟩ := List.pairwise_cons.mp pw
            obtain ⟨p1, _⟩ := List.pairwise_cons.mp pw1
            have h1 : c1.cps.toList < c2.cps.toList := le_lt (p1 c2 List.mem_cons_self) n12
            have h0 : c0.cps.toList < c2.cps.toList := le_lt (p0 c2 (List.mem_cons_of_mem _ List.mem_cons_self)) n02
            have two : y ∈ [c1, c2] → y.cps.toList < c2.cps.toList ∧ ∃ A0 : AT, seek W2 y = some (.ok A0) ∧ Fair A0 [c0, c1, c2, c3] ∧ A0.count ≤ 40 := fun h => by
              rcases List.mem_cons.mp h with e | e
              · rw [e]
                exact ⟨h1, Tw, sk1, fTw, by omega⟩
              · exact absurd (List.mem_singleton.mp e) ny
            unfold tri at hy
            by_cases hk : k = 0
            · rw [if_pos hk] at hy
              exact two hy
            · rw [if_neg hk] at hy
              rcases List.mem_cons.mp hy with e | e
              · obtain ⟨A0, e0, f0, f1, f2⟩ := sk0 hk
                rw [e]
                exact ⟨h0, A0, e0, f1, f2⟩
              · exact two e
          have ltri : (tri k c0 c1 c2).length ≤ 3 := by
            unfold tri
            split
            · show 2 ≤ 3; decide
            · exact Nat.le_refl 3
          refine ⟨_, rfl, dh, dicK W2, W2.map (·.1), rfl, .inl dh18.at_, dicK_keys W2, by rw [List.length_map]; omega, fun ys pl pml sol npl => ?_⟩
          obtain rfl := tri2 ys pml sol
          have u3 := same_new (o := .lst ((tri k c0 c1 c2).map V.str)) npl
          have epl : upd H18 pl (.lst ((tri k c0 c1 c2).map V.str)) pl = some (.lst ((tri k c0 c1 c2).map V.str)) := upd_same
          generalize upd H18 pl (.lst ((tri k c0 c1 c2).map V.str)) = H19 at *
          have O19 := O18.same u3
          have dh19 := dh18.same u3
          have eD19 := u3 _ _ eD18
          have inZ19 := inZ18.keep (Same.tk u3)
          refine ⟨pl, rfl, ⟨_, SqL.of epl⟩, fun Dl nDl => ?_⟩
          refine lc_it (walk_list (xs := (tri k c0 c1 c2).map V.str)) (fun i H' => Same H19 H' ∧ H' Dl = some (.lst ((((tri k c0 c1 c2).take i).filterMap gL).map V.str))) ⟨same_new nDl, upd_same⟩ (fun i H' _ hI => SqL.of (hI.1 _ _ epl)) (fun j v Ha Hb hj hI y => ?_) (fun H20 hI => ?_)
          · obtain ⟨rfl, ex⟩ := y
            obtain ⟨sa, eDl⟩ := hI
            have ex' : ((tri k c0 c1 c2).map V.str)[j]? = some v := ex
            rw [List.getElem?_map] at ex'
            obtain ⟨x, hx, rfl⟩ := Option.map_eq_some_iff.mp ex'
            have mx := List.mem_of_getElem? hx
            have lj : (((tri k c0 c1 c2).take j).filterMap gL).length ≤ 3 := by
              have h1 := List.length_filterMap_le gL ((tri k c0 c1 c2).take j)
              rw [List.length_take] at h1
              omega
            have skip : gL x = none → ∀ {H' : Hp}, Same Hb H' → Same H19 H' ∧ H' Dl = some (.lst ((((tri k c0 c1 c2).take (j + 1)).filterMap gL).map V.str)) := fun hg {H'} sh => by
              refine ⟨Same.trans sa sh, ?_⟩
              rw [List.take_add_one, hx, List.filterMap_append]
              show _ = some (HO.lst ((_ ++ List.filterMap gL [x]).map V.str))
              rw [List.filterMap_cons_none hg]
              simpa using sh _ _ eDl
            refine ⟨rfl, ?_⟩
            refine ⟨_, rfl, _, rfl, D, _, 2, .str c2, rfl, rfl, SqL.of (sa _ _ eD19), atI_nat (j := 2) rfl, rfl, _, rfl, ?_⟩
            by_cases e2 : x = c2
            · refine ifNP (by rw [e2]) ?_
              exact skip (if_pos e2) (fun _ _ h => h)
            refine ifNN (fun z => e2 (V.str.inj z)) ?_
            obtain ⟨lt2, A0, eA, fA, cA⟩ := fine2 x mx e2
            have dha := dh19.same sa
            have mA := seek_mem eA
            have dg : ∀ {H' : Hp}, Dic H' dh W2 → DGet H' dh (.str x) (some A0.v) := fun hd => by
              have := DGet.k (k := Sum.inr x) hd.at_
              rw [dic_val, eA] at this
              exact this
            refine ⟨_, rfl, _, rfl, dh, A0.v, rfl, dg dha, A0, [c0, c1, c2, c3], rfl, dha.inn _ mA, fA, cA, fun Hc sc => ?_⟩
            have gx : gL x = A0.flaw := by
              show (if x = c2 then none else (seek W2 x).bind TH.flaw) = _
              rw [if_neg e2, eA]
              rfl
            have dhc := dha.same sc
            cases hfA : A0.flaw with
            | none =>
              refine ⟨rfl, _, rfl, iteF ?_⟩
              exact skip (by rw [gx, hfA]) sc
            | some z =>
              refine ⟨rfl, _, rfl, iteT ?_⟩
              refine ⟨_, rfl, _, rfl, D, _, 2, .str c2, rfl, rfl, SqL.of (sc _ _ (sa _ _ eD19)), atI_nat (j := 2) rfl, _, _, rfl, rfl, _, rfl, ifP lt2 ?_⟩
              refine ⟨_, rfl, _, rfl, dh, A0.v, rfl, dg dhc, A0, [c0, c1, c2, c3], rfl, dhc.inn _ mA, fA, cA, fun Hd sd => ?_⟩
              have scd := Same.trans sc sd
              refine ⟨_, scd _ _ eDl, small1000 (by rw [List.length_map]; omega), same_upd (Same.trans sa scd) nDl, ?_⟩
              rw [upd_same, hfA, List.take_add_one, hx, List.filterMap_append]
              show _ = some (HO.lst ((_ ++ List.filterMap gL [x]).map V.str))
              rw [List.filterMap_cons_some (by rw [gx, hfA]), List.map_append]
              rfl
          · obtain ⟨sl, eDl⟩ := hI
            rw [List.length_map, List.take_length, gl2] at eDl
            have O20 := O19.same sl
            have inZ20 := inZ19.keep (Same.tk sl)
            have dh20 := dh19.same sl
            -- asked of these
            refine keepN (fun σ' H' => σ' = st (some (flawV M.flaw)) (some (.ref du)) (some (.ref Dl)) ∧ Ok l b [(Pt, qLam)] H' ∧ Dic H' dh W2) (fun σ' H21 hM => ?_) (fun rest => ?_)
            · obtain ⟨rfl, O21, dh21⟩ := hM
              refine ⟨O21.tab, fun J1 ex T1 => ?_⟩
              have OJ := O21.ext ex T1
              have dhJ := dh21.ext ex
              refine ⟨(by show 1 ≤ sizeLine; decide), fun px npx => ?_⟩
              have s2 := same_new (o := .tup [.str "x"]) npx
              have e2 : upd J1 px (.tup [.str "x"]) px = some (.tup [.str "x"]) := upd_same
              generalize upd J1 px (.tup [.str "x"]) = J2 at *
              refine ⟨_, rfl, .bad px "x", [c0, c1, c2, c3], dh, W2, rfl, e2, trivial, dhJ.same s2, by omega, w2F, (fun x hx d J3 s3 nd ed => ⟨rfl, d, x, rfl, ed, fun p np => ?_⟩), (fun hx => nomatch hx), fun A' eA => nomatch eA⟩
              have hx : some (Str.ofString "form") = some x := hx
              cases hx
              have s4 := same_new (o := .tup [.str "no", .str "BadTerm", .str "form"]) np
              have e4 : upd J3 p (.tup [.str "no", .str "BadTerm", .str "form"]) p = some (.tup [.str "no", .str "BadTerm", .str "form"]) := upd_same
              generalize upd J3 p (.tup [.str "no", .str "BadTerm", .str "form"]) = J4 at *
              refine ⟨(by show 3 ≤ sizeLine; decide), fun p2 np2 => ?_⟩
              have s5 := same_new (o := .tup [.str "no", .str "BadTerm", .str "form"]) np2
              have e5 : upd J4 p2 (.tup [.str "no", .str "BadTerm", .str "form"]) p2 = some (.tup [.str "no", .str "BadTerm", .str "form"]) := upd_same
              generalize upd J4 p2 (.tup [.str "no", .str "BadTerm", .str "form"]) = J5 at *
              have wd : Word (Str.ofString "form") := .inr (.inr rfl)
              have dpt : ∀ {z : Addr}, J5 z = some (.tup [.str "no", .str "BadTerm", .str "form"]) → Dp K J5 (.ref z) (noData (Str.ofString "form")) := fun hz => .tup (SqT.of hz) (.cons (.str _) (.cons (.str _) (.cons (.str _) .nil)))
              refine ⟨noData _, noData _, dpt (s5 _ _ e4), dpt e5, no_shaped wd, no_shaped wd, _, rfl, ?_⟩
              rw [SeqAt.eqv_refl _ (SeqAt.canLay_of_shaped (no_shaped wd))]
              refine iteF ?_
              exact ⟨_, _, _, _, _, _, _, _, _, _, rfl, OJ.same (Same.trans s2 (Same.trans s3 (Same.trans s4 s5)))⟩
            · refine ⟨O20.tab, fun J1 ex T1 => ?_⟩
              have kx : TupKeep H20 J1 := fun a xs h => ex _ _ h (fun _ z => nomatch z)
              have OJ := O20.ext ex T1
              have dhJ := dh20.ext ex
              have eDlJ : J1 Dl = some (.lst (Tw.flaw.toList.map V.str)) := ex _ _ eDl (fun _ z => nomatch z)
              refine ⟨_, rfl, _, rfl, .ok Z, [c0, c1, c2, c3], dh, W2, rfl, inZ20.keep kx, fZ, dhJ, by omega, w2F, (fun x hx => by rw [show (TH.ok Z).flaw = Z.flaw from rfl, flZ] at hx; cases hx), (fun _ ys x pm2 so2 hx d J2 s2 nd ed => ⟨rfl, d, x, rfl, ed, fun p np => ?_⟩), fun A' eA hA hall => ?_⟩
              · rw [tri2 ys pm2 so2, fl2] at hx
                have hx := Option.some.inj hx
                subst hx
                have s4 := same_new (o := .tup [.str "no", .str "BadTerm", .str (Tw.flaw.getD (Str.ofString "form"))]) np
                have e4 : upd J2 p (.tup [.str "no", .str "BadTerm", .str (Tw.flaw.getD (Str.ofString "form"))]) p = some (.tup [.str "no", .str "BadTerm", .str (Tw.flaw.getD (Str.ofString "form"))]) := upd_same
                generalize upd J2 p (.tup [.str "no", .str "BadTerm", .str (Tw.flaw.getD (Str.ofString "form"))]) = J4 at *
                have s14 := Same.trans s2 s4
                refine ⟨_, rfl, (by show 1 ≤ sizeLine; decide), fun o1 no1 => ?_⟩
                have s5 := same_new (o := .lst [.str "form"]) no1
                have e5 : upd J4 o1 (.lst [.str "form"]) o1 = some (.lst [.str "form"]) := upd_same
                generalize upd J4 o1 (.lst [.str "form"]) = J5 at *
                have lf : Tw.flaw.toList.length ≤ 1 := by cases Tw.flaw <;> simp
                refine ⟨Dl, o1, _, _, rfl, rfl, s5 _ _ (s14 _ _ eDlJ), e5, by rw [List.length_map, sizeLine_eq]; show _ + 1 ≤ _; omega, fun o2 no2 => ?_⟩
                have s6 := same_new (o := .lst (Tw.flaw.toList.map V.str ++ [.str "form"])) no2
                have e6 : upd J5 o2 (.lst (Tw.flaw.toList.map V.str ++ [.str "form"])) o2 = some (.lst (Tw.flaw.toList.map V.str ++ [.str "form"])) := upd_same
                generalize upd J5 o2 (.lst (Tw.flaw.toList.map V.str ++ [.str "form"])) = J6 at *
                refine ⟨o2, _, 0, .str (Tw.flaw.getD (Str.ofString "form")), rfl, rfl, SqL.of e6, (by cases Tw.flaw <;> rfl), (by show 3 ≤ sizeLine; decide), fun p2 np2 => ?_⟩
                have s7 := same_new (o := .tup [.str "no", .str "BadTerm", .str (Tw.flaw.getD (Str.ofString "form"))]) np2
                have e7 : upd J6 p2 (.tup [.str "no", .str "BadTerm", .str (Tw.flaw.getD (Str.ofString "form"))]) p2 = some (.tup [.str "no", .str "BadTerm", .str (Tw.flaw.getD (Str.ofString "form"))]) := upd_same
                generalize upd J6 p2 (.tup [.str "no", .str "BadTerm", .str (Tw.flaw.getD (Str.ofString "form"))]) = J7 at *
                have s47 := Same.trans s5 (Same.trans s6 s7)
                have wd : Word (Tw.flaw.getD (Str.ofString "form")) := by
                  cases hfw : Tw.flaw with
                  | none => exact .inr (.inr rfl)
                  | some z => exact flaw_word (T := .ok Tw) hfw
                have dpt : ∀ {z : Addr}, J7 z = some (.tup [.str "no", .str "BadTerm", .str (Tw.flaw.getD (Str.ofString "form"))]) → Dp K J7 (.ref z) (noData (Tw.flaw.getD (Str.ofString "form"))) := fun hz => .tup (SqT.of hz) (.cons (.str _) (.cons (.str _) (.cons (.str _) .nil)))
                refine ⟨noData _, noData _, dpt (s47 _ _ e4), dpt e7, no_shaped wd, no_shaped wd, _, rfl, ?_⟩
                rw [SeqAt.eqv_refl _ (SeqAt.canLay_of_shaped (no_shaped wd))]
                refine iteF ?_
                have s17 := Same.trans s14 s47
                exact rest _ _ ⟨rfl, OJ.same s17, dhJ.same s17⟩
              · exfalso
                have := hall (c2, .bad pu "undo") (seek_mem sk2)
                cases this
        · refine ⟨O12.tab, fun J1 ex T1 => ?_⟩
          have kx : TupKeep H12 J1 := fun a xs h => ex _ _ h (fun _ z => nomatch z)
          have OJ := O12.ext ex T1
          have inZJ := inZ12.keep kx
          have eDJ : J1 D = some (.lst ([c0, c1, c2, c3].map V.str)) := ex _ _ eD12 (fun _ z => nomatch z)
          have dpJ := dp12.ext ex
          have dhJ := dh12.ext ex
          have eduJ := kx _ _ edu
          have inMJ := inM12.keep kx
          have stJ : ∀ {J : Hp}, Same J1 J → stand J := fun sj => ⟨OJ.same sj, inZJ.keep (Same.tk sj), sj _ _ eDJ, dpJ.same sj, dhJ.same sj⟩
          refine ⟨_, rfl, _, rfl, .ok Z, [c0, c1, c2, c3], dh, W, rfl, inZJ, fZ, dhJ, by omega, wF, (fun x hx => by rw [show (TH.ok Z).flaw = Z.flaw from rfl, flZ] at hx; cases hx), (fun _ ys x pm so hx => ?_), fun A' eA hA hall => ⟨by cases eA; omega, by cases eA; omega, fun R' J2 s2 inR eR => ⟨fun hR J3 s3 => ⟨(by show 2 ≤ sizeLine; decide), fun p np => ?_⟩, fun x hx d J3 s3 nd ed => ⟨rfl, d, x, rfl, ed, fun p np => ?_⟩⟩⟩⟩
          · exfalso
            unfold flawIn at hx
            obtain ⟨y, hy, e⟩ := List.exists_of_findSome?_eq_some hx
            cases z : seek W y with
            | none => rw [z] at e; cases e
            | some T2 =>
              rw [z] at e
              have := wN _ (seek_mem z)
              rw [show (some T2).bind TH.flaw = T2.flaw from rfl, this] at e
              cases e
          · cases eA
            have eRM : R'.er = M.er := by rw [eR, eM]
            have hfM : M.flaw = none := by rw [← flaw_er eRM]; exact hR
            have s4 := same_new (o := .tup [.str "told", R'.v]) np
            have e4 : upd J3 p (.tup [.str "told", R'.v]) p = some (.tup [.str "told", R'.v]) := upd_same
            generalize upd J3 p (.tup [.str "told", R'.v]) = J4 at *
            have s14 := Same.trans s2 (Same.trans s3 s4)
            have edu4 := s14 _ _ eduJ
            rw [hfM] at edu4
            refine ⟨_, rfl, .ref p, .ref du, rfl, ?_, fun J5 s5 => ⟨_, rfl, iteF ?_⟩⟩
            · refine twin_all (.inr ⟨SqT.of e4, SqT.of edu4⟩) (by show 2 ≤ 1000; decide) (.cons (Twin.one (Scal.str _) _) (.cons ?_ .nil))
              exact twin_er R' M 40 eRM (inR.keep (Same.tk (Same.trans s3 s4))) (inMJ.keep (Same.tk s14)) (by rw [← AT.er_count, eR]; exact cS)
            · obtain ⟨O5, i5, e5, p5, h5⟩ := stJ (Same.trans s14 s5)
              exact ⟨_, rfl, _, rfl, dh, dp, dicK W, rfl, rfl, h5.at_, p5.at_, h5.vals, _, rfl, iteF (rest _ _ ⟨rfl, O5, i5, e5, p5, h5⟩)⟩
          · cases eA
            have eRM : R'.er = M.er := by rw [eR, eM]
            have hfM : M.flaw = some x := by rw [← flaw_er eRM]; exact hx
            have s4 := same_new (o := .tup [.str "no", .str "BadTerm", .str x]) np
            have e4 : upd J3 p (.tup [.str "no", .str "BadTerm", .str x]) p = some (.tup [.str "no", .str "BadTerm", .str x]) := upd_same
            generalize upd J3 p (.tup [.str "no", .str "BadTerm", .str x]) = J4 at *
            have s14 := Same.trans s2 (Same.trans s3 s4)
            have edu4 := s14 _ _ eduJ
            rw [hfM] at edu4
            refine ⟨_, rfl, .ref p, .ref du, rfl, ?_, fun J5 s5 => ⟨_, rfl, iteF ?_⟩⟩
            · exact twin_all (.inr ⟨SqT.of e4, SqT.of edu4⟩) (by show 3 ≤ 1000; decide) (.cons (Twin.one (Scal.str _) _) (.cons (Twin.one (Scal.str _) _) (.cons (Twin.one (Scal.str _) _) .nil)))
            · obtain ⟨O5, i5, e5, p5, h5⟩ := stJ (Same.trans s14 s5)
              exact ⟨_, rfl, _, rfl, dh, dp, dicK W, rfl, rfl, h5.at_, p5.at_, h5.vals, _, rfl, iteF (rest _ _ ⟨rfl, O5, i5, e5, p5, h5⟩)⟩
      · refine ⟨_, rfl, rfl, _, rfl, ?_⟩
        cases hf : M.flaw with
        | none =>
          refine ifP rfl ?_
          refine ⟨_, rfl, (by show 2 ≤ sizeLine; decide), fun du ndu => ?_⟩
          have su := same_new (o := .tup [.str "told", M.v]) ndu
          obtain ⟨O5, i5, e5, p5, h5⟩ := st11
          refine rest _ _ ⟨du, by rw [hf]; rfl, ⟨O5.same su, i5.keep (Same.tk su), su _ _ e5, p5.same su, h5.same su⟩, inM11.keep (Same.tk su), ?_⟩
          rw [hf, upd_same]
          rfl
        | some x =>
          refine ifN (fun z => nomatch z) ?_
          refine ⟨_, rfl, (by show 3 ≤ sizeLine; decide), fun du ndu => ?_⟩
          have su := same_new (o := .tup [.str "no", .str "BadTerm", .str x]) ndu
          obtain ⟨O5, i5, e5, p5, h5⟩ := st11
          refine rest _ _ ⟨du, by rw [hf]; rfl, ⟨O5.same su, i5.keep (Same.tk su), su _ _ e5, p5.same su, h5.same su⟩, inM11.keep (Same.tk su), ?_⟩
          rw [hf, upd_same]
          rfl
    · rintro σ H0 ⟨y2, y3, y4, y5, y6, y7, y8, y9, y10, y13, rfl, O0⟩
      -- by hand
      refine ⟨(by show 2 ≤ sizeLine; decide), fun px npx => ?_⟩
      have s2 := same_new (o := .tup [.str "letter", .str "x"]) npx
      have e2 : upd H0 px (.tup [.str "letter", .str "x"]) px = some (.tup [.str "letter", .str "x"]) := upd_same
      generalize upd H0 px (.tup [.str "letter", .str "x"]) = H2 at *
      refine ⟨(by show 2 ≤ sizeLine; decide), fun py npy => ?_⟩
      have s3 := same_new (o := .tup [.str "letter", .str "y"]) npy
      have e3 : upd H2 py (.tup [.str "letter", .str "y"]) py = some (.tup [.str "letter", .str "y"]) := upd_same
      generalize upd H2 py (.tup [.str "letter", .str "y"]) = H3 at *
      refine ⟨(by show 2 ≤ sizeLine; decide), fun pt npt => ?_⟩
      have s4 := same_new (o := .tup [.ref px, .ref py]) npt
      have e4 : upd H3 pt (.tup [.ref px, .ref py]) pt = some (.tup [.ref px, .ref py]) := upd_same
      generalize upd H3 pt (.tup [.ref px, .ref py]) = H4 at *
      refine ⟨pt, _, rfl, SqT.of e4, rfl, _, _, rfl, _, _, rfl, rfl, ?_⟩
      refine ⟨_, rfl, _, rfl, (by show 3 ≤ sizeLine; decide), fun pl npl => ?_⟩
      have s5 := same_new (o := .tup [.str "less", .ref px, .ref py]) npl
      have e5 : upd H4 pl (.tup [.str "less", .ref px, .ref py]) pl = some (.tup [.str "less", .ref px, .ref py]) := upd_same
      generalize upd H4 pl (.tup [.str "less", .ref px, .ref py]) = H5 at *
      refine fun pd npd => ?_
      have ndxy : [Str.ofString "x", Str.ofString "y"].Nodup := by decide +kernel
      obtain ⟨W, eW⟩ : ∃ W : List (Str × TH), W = [(Str.ofString "x", .ok (.le py (Str.ofString "y"))), (Str.ofString "y", .ok (.le px (Str.ofString "x")))] := ⟨_, rfl⟩
      have nW : (W.map (·.1)).Nodup := by rw [eW]; exact ndxy
      refine ⟨_, rfl, _, rfl, upd_same, dicK W, by rw [eW]; rfl, by rw [eW]; show 2 ≤ 15; decide, ?_⟩
      rw [merge_dic nW, upd_twice]
      have s6 := same_new (o := .dK (dicK W)) npd
      have e6 : upd H5 pd (.dK (dicK W)) pd = some (.dK (dicK W)) := upd_same
      generalize upd H5 pd (.dK (dicK W)) = H6 at *
      have s46 := Same.trans s4 (Same.trans s5 s6)
      have inx : (AT.le px (Str.ofString "x")).In H6 := s46 _ _ (s3 _ _ e2)
      have iny : (AT.le py (Str.ofString "y")).In H6 := s46 _ _ e3
      have fx : Fair (AT.le px (Str.ofString "x")) [Str.ofString "x", Str.ofString "y"] := ⟨small_x, by show 1 ≤ 100; decide, by show 2 ≤ 4; decide, fun z hz => by rw [List.mem_singleton.mp hz]; exact List.mem_cons_self⟩
      have fy : Fair (AT.le py (Str.ofString "y")) [Str.ofString "x", Str.ofString "y"] := ⟨small_y, by show 1 ≤ 100; decide, by show 2 ≤ 4; decide, fun z hz => by rw [List.mem_singleton.mp hz]; exact List.mem_cons_of_mem _ List.mem_cons_self⟩
      have mem : ∀ q ∈ W, q = (Str.ofString "x", .ok (.le py (Str.ofString "y"))) ∨ q = (Str.ofString "y", .ok (.le px (Str.ofString "x"))) := fun q hq => by
        rw [eW] at hq
        rcases List.mem_cons.mp hq with e | e
        · exact .inl e
        · exact .inr (List.mem_singleton.mp e)
      have dic : Dic H6 pd W := ⟨e6, nW, fun q hq => by
        rcases mem q hq with e | e
        · rw [e]; exact iny
        · rw [e]; exact inx⟩
      have wF : ∀ q ∈ W, q.2.Fine [Str.ofString "x", Str.ofString "y"] := fun q hq => by
        rcases mem q hq with e | e
        · rw [e]; exact fy
        · rw [e]; exact fx
      have wN : ∀ q ∈ W, q.2.flaw = none := fun q hq => by
        rcases mem q hq with e | e
        · rw [e]; rfl
        · rw [e]; rfl
      have skx : seek W (Str.ofString "x") = some (.ok (.le py (Str.ofString "y"))) := seek_of (q := (Str.ofString "x", .ok (.le py (Str.ofString "y")))) nW (by rw [eW]; exact List.mem_cons_self)
      have sky : seek W (Str.ofString "y") = some (.ok (.le px (Str.ofString "x"))) := seek_of (q := (Str.ofString "y", .ok (.le px (Str.ofString "x")))) nW (by rw [eW]; exact List.mem_cons_of_mem _ List.mem_cons_self)
      have eS : (AT.two pl .less (.le px (Str.ofString "x")) (.le py (Str.ofString "y"))).er.sub (bE (bW W)) = ET.two .less (.le (Str.ofString "y")) (.le (Str.ofString "x")) := by
        show ET.two .less (((bW W (Str.ofString "x")).map AT.er).getD _) (((bW W (Str.ofString "y")).map AT.er).getD _) = _
        unfold bW
        rw [skx, sky]
        rfl
      have lW : W.length = 2 := by rw [eW]; rfl
      refine ⟨.ok (.two pl .less (.le px (Str.ofString "x")) (.le py (Str.ofString "y"))), [Str.ofString "x", Str.ofString "y"], pd, W, rfl, ⟨s6 _ _ e5, inx, iny⟩, ⟨⟨small_x, small_y⟩, by show 3 ≤ 100; decide, by show 2 ≤ 4; decide, fun z hz => ?_⟩, dic, by omega, wF, (fun x hx => by cases hx), (fun _ ys x pm so hx => ?_), fun A' eA hA hall => ⟨by cases eA; show 3 ≤ 12; decide, by cases eA; rw [eS]; show 3 ≤ 100; decide, fun R' J2 sj inR eR => ?_⟩⟩
      · rcases List.mem_append.mp hz with e | e
        · exact fx.lets z e
        · exact fy.lets z e
      · exfalso
        unfold flawIn at hx
        obtain ⟨y, hy, e⟩ := List.exists_of_findSome?_eq_some hx
        cases z : seek W y with
        | none => rw [z] at e; cases e
        | some T2 =>
          rw [z] at e
          have := wN _ (seek_mem z)
          rw [show (some T2).bind TH.flaw = T2.flaw from rfl, this] at e
          cases e
      · cases eA
        rw [eS] at eR
        refine ⟨fun hR J3 s7 => ?_, fun x hx => ?_⟩
        · refine ⟨_, rfl, _, rfl, (by show 3 ≤ sizeLine; decide), fun pr npr => ?_⟩
          have s8 := same_new (o := .tup [.str "less", .ref py, .ref px]) npr
          have e8 : upd J3 pr (.tup [.str "less", .ref py, .ref px]) pr = some (.tup [.str "less", .ref py, .ref px]) := upd_same
          generalize upd J3 pr (.tup [.str "less", .ref py, .ref px]) = J4 at *
          have sall := Same.trans sj (Same.trans s7 s8)
          have inP : (AT.two pr .less (.le py (Str.ofString "y")) (.le px (Str.ofString "x"))).In J4 := ⟨e8, iny.keep (Same.tk sall), inx.keep (Same.tk sall)⟩
          refine ⟨lastData, lastData, last_dp (inR.keep (Same.tk (Same.trans s7 s8))) eR, last_dp inP rfl, last_shaped, last_shaped, ?_⟩
          rw [SeqAt.eqv_refl _ (SeqAt.canLay_of_shaped last_shaped)]
          exact q J4
        · exfalso
          have h1 : R'.count = 3 := by rw [← AT.er_count, eR]; rfl
          have h2 : R'.deep = 0 := by rw [← AT.er_deep, eR]; rfl
          rw [flaw_none (by omega) (by omega)] at hx
          cases hx
end
end Nv

set_option maxRecDepth 100000
set_option maxHeartbeats 4000000
namespace Nv
open PySem PySem.Spec PyProof.Rows L2 LamX
/-- a def as the top has left it, under its own name -/
structure DefAt (K : PySem.W.Frag) (x : Str) (st : Stmt) (f : Addr) : Prop where
  ns : PySem.W.nsIn K mainGlobals x = some (some (.ref f))
  ex : ∃ (oc : Value) (od : Option Addr) (kV doc pm : Value) (an : Option Addr) (cdv ct : Value) (osl : Array (Option Value)), K.lookup f = some ⟨oc, od, .func (PySem.W.fnOf x x (defArgs st) (defBody st) (defScope st) .none kV doc pm an cdv ct), osl⟩ ∧ PySem.W.codeIn K cdv x = true
  kp : PySem.W.keepIn K (.ref f) = true
theorem DefAt.fn {K : PySem.W.Frag} {x : Str} {st : Stmt} {f : Addr} (D : DefAt K x st f) : ∃ fd, Fun K x x st f fd := by
  obtain ⟨oc, od, kV, doc, pm, an, cdv, ct, osl, l, c⟩ := D.ex
  exact ⟨_, fun_mk l c D.kp⟩
/-- what of a code object's fields a lambda's making asks -/
def codeOk (vs : Array Value) (c P : Addr) : Bool := (match (vs[11]? : Option Value) with | some (.ref Q) => Q == P | _ => false) && (match vs.getD 18 .none with | .str _ _ => true | _ => false) && (match vs.getD 7 .none with | .int _ _ => true | _ => false) &&
  (match vs.getD 9 .none with | .bool _ => true | _ => false) && (match vs.getD 10 .none with | .int _ _ => true | _ => false) && c != P
theorem codeHd_at {K : PySem.W.Frag} {c P : Addr} {d : Option Addr} {vs : Array Value} {sl : Array (Option Value)} (l : K.lookup c = some ⟨.type "code", d, .fields vs, sl⟩) (h : codeOk vs c P = true) : PySem.W.codeHdIn K c P = true := by
  unfold PySem.W.codeHdIn
  rw [l]
  exact h
theorem exm_at {K : PySem.W.Frag} {C D : Addr} {b : Bool} (h1 : PySem.W.subIn K (.ref D) (.type "BaseException") = some true) (h2 : PySem.W.isClsIn K D = true) (h3 : PySem.W.typeIn K (.ref D) = some (.type "type")) (h4 : PySem.W.subIn K (.ref C) (.ref D) = some b) : PySem.W.exmOne K (.ref C) (.ref D) = some b := by
  have e2 : ((PySem.W.clsIn K D).isSome && PySem.W.typeIn K (.ref D) == some (.type "type")) = true := by
    have h2' : (PySem.W.clsIn K D).isSome = true := h2
    rw [h2', h3]
    rfl
  unfold PySem.W.exmOne
  rw [h1, if_pos (show ((some true : Option Bool) == some true) = true from rfl)]
  show (if ((PySem.W.clsIn K D).isSome && PySem.W.typeIn K (.ref D) == some (.type "type")) = true then PySem.W.subIn K (.ref C) (.ref D) else none) = some b
  rw [if_pos e2, h4]
section
variable {P : Program} {w : World} {K : PySem.W.Frag} {mg : Str → Option Value} {base : Heap}
theorem cal {k : Nat} {x : Str} {f : Addr} {fd : FuncData} {ps : List Str} {sp : Sp} (G : FnOk P w K mg base CX0 k f fd ps sp) (hm : mg x = some (.ref f)) (kp : PySem.W.keepIn K (.ref f) = true) (b : Binds K fd ps []) : C8.Cal P w K mg base k x sp [] := ⟨f, fd, ps, [], G, hm, kp, b, .nil⟩
theorem all_mk {l : PySem.W.OpenLaw} {h : Heap} {fa f0 f1 f2 f3 f4 f5 f6 f7 f8 f9 f10 f11 f12 f13 f14 f15 f16 f17 f18 f19 f20 f21 f22 f23 f24 f25 f26 f27 f28 f29 CN C  fN fI c Pt o2 : Addr} (X : K.In h) (G : h.Ns mainGlobals mg) (hfa : mg "law" = some (.ref fa))
    (D0 : DefAt K "common_divisor" sGcd f0) (D1 : DefAt K "is_number" sNum f1) (D2 : DefAt K "is_share" sIsSh f2) (D3 : DefAt K "is_letter" sIsLe f3) (D4 : DefAt K "is_built" sBuilt f4) (D5 : DefAt K "things_in" sThings f5) (D6 : DefAt K "flaw_of" sFlaw f6) (D7 : DefAt K "need_term" sNeedT f7) (D8 : DefAt K "told_of" sTold f8) (D9 : DefAt K "with_put" sWith f9) (D10 : DefAt K "put" sPut f10) (D11 : DefAt K "_law_bag" sBag f11) (D12 : DefAt K "_law_pull" sPull f12) (D13 : DefAt K "_law_of" sOf f13) (D14 : DefAt K "_law_same" sSame f14) (D15 : DefAt K "_law_asked" sAsked f15) (D16 : DefAt K "_law_gcd" sLGcd f16) (D17 : DefAt K "_law_fr" sLFr f17) (D18 : DefAt K "_law_light" sLight f18) (D19 : DefAt K "_law_abc" sAbc f19) (D20 : DefAt K "_law_leaf" sLeaf f20) (D21 : DefAt K "_law_drawn" sDrawn f21) (D22 : DefAt K "_law_inner" sInner f22) (D23 : DefAt K "_law_count" sLCount f23) (D24 : DefAt K "_law_all_parts" sAllP f24) (D25 : DefAt K "_law_letters" sLLets f25) (D26 : DefAt K "_law_depth" sLDepth f26) (D27 : DefAt K "_law_fault" sFault f27) (D28 : DefAt K "_law_tower" sTower f28) (D29 : DefAt K "_law_given_all" sGiven f29)
    {ocL docL pmL ctL kVL : Value} {odL anL : Option Addr} {oslL : Array (Option Value)} {fL : Addr} (aL : PySem.W.nsIn K mainGlobals "law" = some (some (.ref fL)))
    (lL : K.lookup fL = some ⟨ocL, odL, .func (PySem.W.fnOf "law" "law" (defArgs sLaw) (defBody sLaw) (defScope sLaw) .none kVL docL pmL anL (.ref c) ctL), oslL⟩) (cL : PySem.W.codeIn K (.ref c) "law" = true)
    {dC : Option Addr} {vsC : Array Value} {slC : Array (Option Value)} (lC : K.lookup c = some ⟨.type "code", dC, .fields vsC, slC⟩) (tL : h.get? Pt = some { cls := .none, data := .fields #[] }) (hC : codeOk vsC c Pt = true) (nL : K.lookup Pt = none)
    {ocN docN pmN ctN kVN cdN : Value} {odN anN : Option Addr} {oslN : Array (Option Value)} {TN : Addr} {oTN : Obj} {uN1 uN2 : Value} {zN : Nat} {ocI docI pmI ctI kVI cdI : Value} {odI anI : Option Addr} {oslI : Array (Option Value)}
    (R3 : PySem.W.nsIn K mainGlobals "BadTerm" = some (some (.ref C))) (R4 : PySem.W.nsIn K mainGlobals "NeverError" = some (some (.ref CN))) 
    (R5 : PySem.W.findIn K (.ref C) "__init__" = some (some (.ref fI))) (R9 : PySem.W.findCls K (.ref CN) (.type "type") "__init__" = some (.val (.ref fN)))
    (lN : K.lookup fN = some ⟨ocN, odN, .func (PySem.W.fnOf "__init__" "NeverError.__init__" (defArgs sNE) (defBody sNE) (defScope sNE) (.ref TN) kVN docN pmN anN cdN ctN), oslN⟩) (cN : PySem.W.codeIn K cdN "NeverError.__init__" = true)
    (tN : K.lookup TN = some oTN) (dN : oTN.data = .seq [uN1, uN2].toArray zN) (vN1 : L2.RelV (.str "NeverError") uN1) (vN2 : L2.RelV (.str "refused") uN2)
    (lI : K.lookup fI = some ⟨ocI, odI, .func (PySem.W.fnOf "__init__" "BadTerm.__init__" (defArgs sBTm) (defBody sBTm) (defScope sBTm) .none kVI docI pmI anI cdI ctI), oslI⟩) (cI : PySem.W.codeIn K cdI "BadTerm.__init__" = true) (kI : PySem.W.keepIn K (.ref fI) = true)
    (R0 : OexC K C) (R1 : XfC K C) (R2 : PySem.W.findIn K (.ref C) "word" = some none) (R20 : PySem.W.findIn K (.ref C) "flaw" = some none)
    (R6 : PySem.W.typeIn K (.ref fI) = some (.type "function")) (R7 : PySem.W.readsIn K CN (.type "type") = true)
    (R8 : PySem.W.specialIn K (.ref CN) "__getattribute__" = some (some (.builtin "type.__getattribute__"))) (R10 : PySem.W.keepIn K (.ref fN) = true)
    (EC1 : PySem.W.subIn K (.ref C) (.type "BaseException") = some true) (EC2 : PySem.W.isClsIn K C = true) (EC3 : PySem.W.typeIn K (.ref C) = some (.type "type")) (EC4 : PySem.W.subIn K (.ref C) (.ref C) = some true)
    (R12 : PySem.W.findCls K (.type "ValueError") (.type "type") "__init__" = some (.val (.builtin "ValueError.__init__"))) (R14 : PySem.W.nsIn K mainGlobals "ValueError" = some none)
    {tI0 : Tok} (I0 : PySem.W.nsIn K mainGlobals "MOST_PARTS" = some (some (.int 24 tI0))) {tI1 : Tok} (I1 : PySem.W.nsIn K mainGlobals "MOST_LETTERS" = some (some (.int 4 tI1))) {tI2 : Tok} (I2 : PySem.W.nsIn K mainGlobals "MOST_DEEP" = some (some (.int 4 tI2))) {tI3 : Tok} (I3 : PySem.W.nsIn K mainGlobals "MOST_SIGNS" = some (some (.int 6 tI3))) {tI4 : Tok} (I4 : PySem.W.nsIn K mainGlobals "TOO_GREAT" = some (some (.int 1000000000000 tI4))) {tS : Tok} (S0 : PySem.W.nsIn K mainGlobals "SMALL_LETTERS" = some (some (.str "abcdefghijklmnopqrstuvwxyz" tS)))
    {m0 : Tok} (M0 : PySem.W.nsIn K mainGlobals "LONG" = some (some (.int 6000 m0))) (M2 : PySem.W.nsIn K mainGlobals "OF_TWO" = some (some (.ref o2))) {oT2 : Obj} {u1 u2 u3 : Value} {z2 : Nat} (M8 : K.lookup o2 = some oT2) (M9 : oT2.cls = .type "tuple") (M10 : oT2.data = .seq [u1, u2, u3].toArray z2) (M11 : L2.RelV (.str "plus") u1) (M12 : L2.RelV (.str "less") u2) (M13 : L2.RelV (.str "times") u3)
    (B0 : PySem.W.nsIn K mainGlobals "isinstance" = some none) (B1 : PySem.W.nsIn K mainGlobals "list" = some none) (B2 : PySem.W.nsIn K mainGlobals "tuple" = some none) (B3 : PySem.W.nsIn K mainGlobals "len" = some none) (B4 : PySem.W.nsIn K mainGlobals "all" = some none) (B5 : PySem.W.nsIn K mainGlobals "range" = some none) (B6 : PySem.W.nsIn K mainGlobals "bool" = some none) (B7 : PySem.W.nsIn K mainGlobals "int" = some none) (B8 : PySem.W.nsIn K mainGlobals "str" = some none) (B9 : PySem.W.nsIn K mainGlobals "abs" = some none) (B10 : PySem.W.nsIn K mainGlobals "max" = some none) (B11 : PySem.W.nsIn K mainGlobals "sorted" = some none) (B12 : PySem.W.nsIn K mainGlobals "set" = some none) (B13 : PySem.W.nsIn K mainGlobals "sum" = some none) (B14 : PySem.W.nsIn K mainGlobals "dict" = some none) : LawAtS l w K CX0 60 63 "_law_script" mg fa h := by
  have e := hfa.symm.trans (PySem.W.mg_of X G aL)
  cases e
  have T : Blt mg := ⟨PySem.W.mg_none_of X G B0, PySem.W.mg_none_of X G B1, PySem.W.mg_none_of X G B2, PySem.W.mg_none_of X G B3, PySem.W.mg_none_of X G B4, PySem.W.mg_none_of X G B5, PySem.W.mg_none_of X G B6, PySem.W.mg_none_of X G B7, PySem.W.mg_none_of X G B8, PySem.W.mg_none_of X G B9⟩
  have R : Errs K mg CN C fN fI := { oex := R0, xf := R1, word := R2, flaw := R20, gC := PySem.W.mg_of X G R3, gN := PySem.W.mg_of X G R4, iC := R5, tI := R6, rd := ⟨R7, R8⟩, cv := ⟨R9, rfl⟩, kp := R10, hit := exm_at EC1 EC2 EC3 EC4 }
  have Co : Consts K mg o2 := { parts := ⟨_, PySem.W.mg_of X G I0⟩, lets := ⟨_, PySem.W.mg_of X G I1⟩, deep := ⟨_, PySem.W.mg_of X G I2⟩, signs := ⟨_, PySem.W.mg_of X G I3⟩, small := ⟨_, PySem.W.mg_of X G S0⟩, great := ⟨_, by rw [show (10 : Int) ^ 12 = 1000000000000 by decide]; exact PySem.W.mg_of X G I4⟩, two := PySem.W.mg_of X G M2, twoIs := fun H => .inr ⟨oT2, _, z2, M8, M9, M10, (by show 3 ≤ sizeLine; decide), .cons M11 (.cons M12 (.cons M13 .nil))⟩ }
  obtain ⟨fd0, F0⟩ := D0.fn
  have b0 := F0.binds (ps := ["one", "other"]) fun _ _ _ _ _ _ us hl => match us, hl with | [_, _], _ => rfl
  have g0 := PySem.W.mg_of X G D0.ns
  obtain ⟨fd1, F1⟩ := D1.fn
  have b1 := F1.binds (ps := ["thing"]) fun _ _ _ _ _ _ us hl => match us, hl with | [_], _ => rfl
  have g1 := PySem.W.mg_of X G D1.ns
  obtain ⟨fd2, F2⟩ := D2.fn
  have b2 := F2.binds (ps := ["thing"]) fun _ _ _ _ _ _ us hl => match us, hl with | [_], _ => rfl
  have g2 := PySem.W.mg_of X G D2.ns
  obtain ⟨fd3, F3⟩ := D3.fn
  have b3 := F3.binds (ps := ["thing"]) fun _ _ _ _ _ _ us hl => match us, hl with | [_], _ => rfl
  have g3 := PySem.W.mg_of X G D3.ns
  obtain ⟨fd4, F4⟩ := D4.fn
  have b4 := F4.binds (ps := ["thing"]) fun _ _ _ _ _ _ us hl => match us, hl with | [_], _ => rfl
  have g4 := PySem.W.mg_of X G D4.ns
  obtain ⟨fd5, F5⟩ := D5.fn
  have b5 := F5.binds (ps := ["term"]) fun _ _ _ _ _ _ us hl => match us, hl with | [_], _ => rfl
  have g5 := PySem.W.mg_of X G D5.ns
  obtain ⟨fd6, F6⟩ := D6.fn
  have b6 := F6.binds (ps := ["term"]) fun _ _ _ _ _ _ us hl => match us, hl with | [_], _ => rfl
  have g6 := PySem.W.mg_of X G D6.ns
  obtain ⟨fd7, F7⟩ := D7.fn
  have b7 := F7.binds (ps := ["term"]) fun _ _ _ _ _ _ us hl => match us, hl with | [_], _ => rfl
  have g7 := PySem.W.mg_of X G D7.ns
  obtain ⟨fd8, F8⟩ := D8.fn
  have b8 := F8.binds (ps := ["term"]) fun _ _ _ _ _ _ us hl => match us, hl with | [_], _ => rfl
  have g8 := PySem.W.mg_of X G D8.ns
  obtain ⟨fd9, F9⟩ := D9.fn
  have b9 := F9.binds (ps := ["term", "by"]) fun _ _ _ _ _ _ us hl => match us, hl with | [_, _], _ => rfl
  have g9 := PySem.W.mg_of X G D9.ns
  obtain ⟨fd10, F10⟩ := D10.fn
  have b10 := F10.binds (ps := ["term", "by"]) fun _ _ _ _ _ _ us hl => match us, hl with | [_, _], _ => rfl
  have g10 := PySem.W.mg_of X G D10.ns
  obtain ⟨fd11, F11⟩ := D11.fn
  have b11 := F11.binds (ps := ["_law_script"]) fun _ _ _ _ _ _ us hl => match us, hl with | [_], _ => rfl
  have g11 := PySem.W.mg_of X G D11.ns
  obtain ⟨fd12, F12⟩ := D12.fn
  have b12 := F12.binds (ps := ["_law_bag_here", "_law_sides"]) fun _ _ _ _ _ _ us hl => match us, hl with | [_, _], _ => rfl
  have g12 := PySem.W.mg_of X G D12.ns
  obtain ⟨fd13, F13⟩ := D13.fn
  have b13 := F13.binds (ps := ["_law_bag_here", "_law_some"]) fun _ _ _ _ _ _ us hl => match us, hl with | [_, _], _ => rfl
  have g13 := PySem.W.mg_of X G D13.ns
  obtain ⟨fd14, F14⟩ := D14.fn
  have b14 := F14.binds (ps := ["_law_found", "_law_due"]) fun _ _ _ _ _ _ us hl => match us, hl with | [_, _], _ => rfl
  have g14 := PySem.W.mg_of X G D14.ns
  obtain ⟨fd15, F15⟩ := D15.fn
  have b15 := F15.binds (ps := ["_law_ask"]) fun _ _ _ _ _ _ us hl => match us, hl with | [_], _ => rfl
  have g15 := PySem.W.mg_of X G D15.ns
  obtain ⟨fd16, F16⟩ := D16.fn
  have b16 := F16.binds (ps := ["_law_one", "_law_other"]) fun _ _ _ _ _ _ us hl => match us, hl with | [_, _], _ => rfl
  have g16 := PySem.W.mg_of X G D16.ns
  obtain ⟨fd17, F17⟩ := D17.fn
  have b17 := F17.binds (ps := ["_law_top", "_law_bottom"]) fun _ _ _ _ _ _ us hl => match us, hl with | [_, _], _ => rfl
  have g17 := PySem.W.mg_of X G D17.ns
  obtain ⟨fd18, F18⟩ := D18.fn
  have b18 := F18.binds (ps := ["_law_bag_here"]) fun _ _ _ _ _ _ us hl => match us, hl with | [_], _ => rfl
  have g18 := PySem.W.mg_of X G D18.ns
  obtain ⟨fd19, F19⟩ := D19.fn
  have b19 := F19.binds (ps := ["_law_bag_here", "_law_many"]) fun _ _ _ _ _ _ us hl => match us, hl with | [_, _], _ => rfl
  have g19 := PySem.W.mg_of X G D19.ns
  obtain ⟨fd20, F20⟩ := D20.fn
  have b20 := F20.binds (ps := ["_law_bag_here", "_law_signs"]) fun _ _ _ _ _ _ us hl => match us, hl with | [_, _], _ => rfl
  have g20 := PySem.W.mg_of X G D20.ns
  obtain ⟨fd21, F21⟩ := D21.fn
  have b21 := F21.binds (ps := ["_law_bag_here", "_law_signs", "_law_room", "_law_deep"]) fun _ _ _ _ _ _ us hl => match us, hl with | [_, _, _, _], _ => rfl
  have g21 := PySem.W.mg_of X G D21.ns
  obtain ⟨fd22, F22⟩ := D22.fn
  have b22 := F22.binds (ps := ["_law_term"]) fun _ _ _ _ _ _ us hl => match us, hl with | [_], _ => rfl
  have g22 := PySem.W.mg_of X G D22.ns
  obtain ⟨fd23, F23⟩ := D23.fn
  have b23 := F23.binds (ps := ["_law_term"]) fun _ _ _ _ _ _ us hl => match us, hl with | [_], _ => rfl
  have g23 := PySem.W.mg_of X G D23.ns
  obtain ⟨fd24, F24⟩ := D24.fn
  have b24 := F24.binds (ps := ["_law_term"]) fun _ _ _ _ _ _ us hl => match us, hl with | [_], _ => rfl
  have g24 := PySem.W.mg_of X G D24.ns
  obtain ⟨fd25, F25⟩ := D25.fn
  have b25 := F25.binds (ps := ["_law_term"]) fun _ _ _ _ _ _ us hl => match us, hl with | [_], _ => rfl
  have g25 := PySem.W.mg_of X G D25.ns
  obtain ⟨fd26, F26⟩ := D26.fn
  have b26 := F26.binds (ps := ["_law_term"]) fun _ _ _ _ _ _ us hl => match us, hl with | [_], _ => rfl
  have g26 := PySem.W.mg_of X G D26.ns
  obtain ⟨fd27, F27⟩ := D27.fn
  have b27 := F27.binds (ps := ["_law_term"]) fun _ _ _ _ _ _ us hl => match us, hl with | [_], _ => rfl
  have g27 := PySem.W.mg_of X G D27.ns
  obtain ⟨fd28, F28⟩ := D28.fn
  have b28 := F28.binds (ps := ["_law_bag_here", "_law_signs"]) fun _ _ _ _ _ _ us hl => match us, hl with | [_, _], _ => rfl
  have g28 := PySem.W.mg_of X G D28.ns
  obtain ⟨fd29, F29⟩ := D29.fn
  have b29 := F29.binds (ps := ["_law_term", "_law_per"]) fun _ _ _ _ _ _ us hl => match us, hl with | [_, _], _ => rfl
  have g29 := PySem.W.mg_of X G D29.ns
  have FN : FunD K "__init__" "NeverError.__init__" (defArgs sNE) (defBody sNE) (defScope sNE) [.str "NeverError", .str "refused"] [] fN _ := ⟨⟨ocN, odN, _, kVN, docN, pmN, anN, cdN, ctN, oslN, rfl, lN, cN, .inr ⟨by simp, TN, oTN, [uN1, uN2], zN, rfl, tN, dN, .cons vN1 (.cons vN2 .nil)⟩, .inl rfl⟩, R10⟩
  have FI : Fun K "__init__" "BadTerm.__init__" sBTm fI _ := fun_mk lI cI kI
  have bI := FI.binds (ps := ["self", "flaw"]) fun _ _ _ _ _ _ us hl => match us, hl with | [_, _], _ => rfl
  obtain ⟨dsN, vN, bN⟩ := FN.binds1 (ps := ["self", "word", "message"]) 3 2 (by simp) rfl fun T kV doc pm an cdv ct us its hu hi => match us, hu, its, hi with
    | [_, _, _], _, [_, _], _ => ⟨_, rfl, rfl⟩
  cases vN
  refine ⟨PySem.W.fnOf "law" "law" (defArgs sLaw) (defBody sLaw) (defScope sLaw) .none kVL docL pmL anL (.ref c) ctL, [(c, Pt)], spLaw K Pt, fun p hp => ?_, fun p hp => ?_, fun p hp => ?_, fun s v => .of_eq rfl, fun H a ns hl hb hT hS => ⟨a, ns, rfl, hS, fun p hp => ?_, fun _ => rfl⟩, fun base _ _ hTB => ?_⟩
  · rw [List.mem_singleton.mp hp]
    exact tL
  · rw [List.mem_singleton.mp hp]
    exact nL
  · rw [List.mem_singleton.mp hp]
    exact PySem.W.codeHd_of_K X (codeHd_at lC hC)
  · rw [List.mem_singleton.mp hp]
    exact TabS.nil (hT (c, Pt) (List.mem_singleton.mpr rfl))
  · have cLG := cal (ok_law_gcd (P := l.prog) (w := w) (base := base) (k := 0) F16 T.abs) g16 F16.kp b16
    have cG := cal (ok_gcd (P := l.prog) (w := w) (base := base) (k := 0) F0 T.abs ⟨_, PySem.W.mg_of X G M0⟩) g0 F0.kp b0
    have GN : FnOk l.prog w K mg base CX0 1 fN _ _ _ := ok_NE (k := 0) FN (PySem.W.mg_none_of X G R14) R12
    have GI := ok_BTm FI R GN bN
    have cP := cal (ok_pull (P := l.prog) (w := w) (base := base) (k := 0) F12 T.len) g12 F12.kp b12
    have cF := cal (ok_law_fr F17 cLG) g17 F17.kp b17
    have cL' := cal (ok_light8 F18 cF cP) g18 F18.kp b18
    have cO := cal (ok_of F13 cP T.len) g13 F13.kp b13
    have cNum := cal (ok_num (P := l.prog) (w := w) (base := base) (k := 0) F1 T) g1 F1.kp b1
    have cSh := cal (ok_isSh F2 T Co cNum cG) g2 F2.kp b2
    have cLe := cal (ok_isLe (P := l.prog) (w := w) (base := base) (k := 0) F3 T Co) g3 F3.kp b3
    have cBu := cal (ok_built2 F4 T Co cSh cLe) g4 F4.kp b4
    have cTh := cal (ok_things (P := l.prog) (w := w) (base := base) (k := 0) F5) g5 F5.kp b5
    have cFl := cal (ok_flaw F6 T (PySem.W.mg_none_of X G B10) Co cBu cTh) g6 F6.kp b6
    have cNd : CalX l.prog w K mg base 5 "need_term" (spNeedX C) [] := ⟨_, _, _, _, ok_needX F7 R GI bI cFl, g7, F7.kp, b7, .nil⟩
    have cTo : CalX l.prog w K mg base 6 "told_of" (spTold C) [] := ⟨_, _, _, _, ok_told F8 cNd, g8, F8.kp, b8, .nil⟩
    have cWi := cal (ok_with F9 g9 b9 cTh 12) g9 F9.kp b9
    have cPu : CalX l.prog w K mg base 15 "put" (spPut C) [] := ⟨_, _, _, _, ok_put F10 (PySem.W.mg_none_of X G B11) cNd cTo cWi, g10, F10.kp, b10, .nil⟩
    have cIn := cal (ok_inner (P := l.prog) (w := w) (base := base) (k := 0) F22) g22 F22.kp b22
    have cCt := cal (ok_lcount F23 g23 b23 (PySem.W.mg_none_of X G B13) cIn 40) g23 F23.kp b23
    have cAl := cal (ok_allP F24 g24 b24 cIn 40) g24 F24.kp b24
    have cLs := cal (ok_llets (n := 40) F25 (PySem.W.mg_none_of X G B11) (PySem.W.mg_none_of X G B12) cAl) g25 F25.kp b25
    have cDe := cal (ok_ldepth F26 g26 b26 (PySem.W.mg_none_of X G B10) T.int cIn 40) g26 F26.kp b26
    have cLf := cal (ok_leaf F20 cL' cP cO) g20 F20.kp b20
    have GC : Calls l.prog w K mg base C := {
      put := cPu
      given := cal (ok_given F29 g29 b29 T.tup 12) g29 F29.kp b29
      fault := cal (ok_fault (n := 40) (by decide) F27 T.len cCt cLs cDe) g27 F27.kp b27
      tower := cal (ok_tower F28 T.rng cP cO) g28 F28.kp b28
      abc := cal (ok_abc F19 T.len T.rng cP cO) g19 F19.kp b19
      drawn := cal (ok_drawn F21 g21 b21 cLf cP 12) g21 F21.kp b21
      pull := cP
      bag := cal (ok_bag (k := 0) F11 T.lst) g11 F11.kp b11
      same := cal (ok_same F14 g14 b14 T 42) g14 F14.kp b14 }
    exact ok_law lL cL GC T (PySem.W.mg_none_of X G B14) (PySem.W.mg_none_of X G B11) R F15 g15 (hTB (c, Pt) (List.mem_singleton.mpr rfl))
end
end Nv

open PySem PySem.W PyProof.Rows
set_option maxRecDepth 100000 in
set_option maxHeartbeats 0 in
theorem PySem.Challenge.cw_nevernought_k39_reckonings_put_for_lette_holds : PySem.Challenge.rw_nevernought_k39_reckonings_put_for_lette.Holds := by
  w_on; o_law; k_head; (case hw => w_witness2)
  k_fill
  refine LamX.walk_ofTs (l := PySem.Challenge.rw_nevernought_k39_reckonings_put_for_lette) (n := 63) (k := 60) (x := "_law_script") (CX := fun _ => L2.CX0) rfl (by decide) rfl ⟨rfl, by decide, by decide⟩ (fun w h Y => PySem.W.km_in_of Y) ?F (fun _ _ _ _ _ z => z)
  case F =>
    intro w mg fa h Y KX G hmg
    refine' Nv.all_mk KX G hmg ?D0 ?D1 ?D2 ?D3 ?D4 ?D5 ?D6 ?D7 ?D8 ?D9 ?D10 ?D11 ?D12 ?D13 ?D14 ?D15 ?D16 ?D17 ?D18 ?D19 ?D20 ?D21 ?D22 ?D23 ?D24 ?D25 ?D26 ?D27 ?D28 ?D29 ?aL ?lL ?cL ?lC ?tL ?hC ?nL ?R3 ?R4 ?R5 ?R9 ?lN ?cN ?tN ?dN ?vN1 ?vN2 ?lI ?cI ?kI ?R0 ?R1 ?R2 ?R20 ?R6 ?R7 ?R8 ?R10 ?EC1 ?EC2 ?EC3 ?EC4 ?R12 ?R14 ?I0 ?I1 ?I2 ?I3 ?I4 ?S0 ?M0 ?M2 ?M8 ?M9 ?M10 ?M11 ?M12 ?M13 ?B0 ?B1 ?B2 ?B3 ?B4 ?B5 ?B6 ?B7 ?B8 ?B9 ?B10 ?B11 ?B12 ?B13 ?B14
    (case D0 => exact ⟨by k_is, ⟨_, _, _, _, _, _, _, _, _, by k_is, by k_is⟩, by k_is⟩)
    (case D1 => exact ⟨by k_is, ⟨_, _, _, _, _, _, _, _, _, by k_is, by k_is⟩, by k_is⟩)
    (case D2 => exact ⟨by k_is, ⟨_, _, _, _, _, _, _, _, _, by k_is, by k_is⟩, by k_is⟩)
    (case D3 => exact ⟨by k_is, ⟨_, _, _, _, _, _, _, _, _, by k_is, by k_is⟩, by k_is⟩)
    (case D4 => exact ⟨by k_is, ⟨_, _, _, _, _, _, _, _, _, by k_is, by k_is⟩, by k_is⟩)
    (case D5 => exact ⟨by k_is, ⟨_, _, _, _, _, _, _, _, _, by k_is, by k_is⟩, by k_is⟩)
    (case D6 => exact ⟨by k_is, ⟨_, _, _, _, _, _, _, _, _, by k_is, by k_is⟩, by k_is⟩)
    (case D7 => exact ⟨by k_is, ⟨_, _, _, _, _, _, _, _, _, by k_is, by k_is⟩, by k_is⟩)
    (case D8 => exact ⟨by k_is, ⟨_, _, _, _, _, _, _, _, _, by k_is, by k_is⟩, by k_is⟩)
    (case D9 => exact ⟨by k_is, ⟨_, _, _, _, _, _, _, _, _, by k_is, by k_is⟩, by k_is⟩)
    (case D10 => exact ⟨by k_is, ⟨_, _, _, _, _, _, _, _, _, by k_is, by k_is⟩, by k_is⟩)
    (case D11 => exact ⟨by k_is, ⟨_, _, _, _, _, _, _, _, _, by k_is, by k_is⟩, by k_is⟩)
    (case D12 => exact ⟨by k_is, ⟨_, _, _, _, _, _, _, _, _, by k_is, by k_is⟩, by k_is⟩)
    (case D13 => exact ⟨by k_is, ⟨_, _, _, _, _, _, _, _, _, by k_is, by k_is⟩, by k_is⟩)
    (case D14 => exact ⟨by k_is, ⟨_, _, _, _, _, _, _, _, _, by k_is, by k_is⟩, by k_is⟩)
    (case D15 => exact ⟨by k_is, ⟨_, _, _, _, _, _, _, _, _, by k_is, by k_is⟩, by k_is⟩)
    (case D16 => exact ⟨by k_is, ⟨_, _, _, _, _, _, _, _, _, by k_is, by k_is⟩, by k_is⟩)
    (case D17 => exact ⟨by k_is, ⟨_, _, _, _, _, _, _, _, _, by k_is, by k_is⟩, by k_is⟩)
    (case D18 => exact ⟨by k_is, ⟨_, _, _, _, _, _, _, _, _, by k_is, by k_is⟩, by k_is⟩)
    (case D19 => exact ⟨by k_is, ⟨_, _, _, _, _, _, _, _, _, by k_is, by k_is⟩, by k_is⟩)
    (case D20 => exact ⟨by k_is, ⟨_, _, _, _, _, _, _, _, _, by k_is, by k_is⟩, by k_is⟩)
    (case D21 => exact ⟨by k_is, ⟨_, _, _, _, _, _, _, _, _, by k_is, by k_is⟩, by k_is⟩)
    (case D22 => exact ⟨by k_is, ⟨_, _, _, _, _, _, _, _, _, by k_is, by k_is⟩, by k_is⟩)
    (case D23 => exact ⟨by k_is, ⟨_, _, _, _, _, _, _, _, _, by k_is, by k_is⟩, by k_is⟩)
    (case D24 => exact ⟨by k_is, ⟨_, _, _, _, _, _, _, _, _, by k_is, by k_is⟩, by k_is⟩)
    (case D25 => exact ⟨by k_is, ⟨_, _, _, _, _, _, _, _, _, by k_is, by k_is⟩, by k_is⟩)
    (case D26 => exact ⟨by k_is, ⟨_, _, _, _, _, _, _, _, _, by k_is, by k_is⟩, by k_is⟩)
    (case D27 => exact ⟨by k_is, ⟨_, _, _, _, _, _, _, _, _, by k_is, by k_is⟩, by k_is⟩)
    (case D28 => exact ⟨by k_is, ⟨_, _, _, _, _, _, _, _, _, by k_is, by k_is⟩, by k_is⟩)
    (case D29 => exact ⟨by k_is, ⟨_, _, _, _, _, _, _, _, _, by k_is, by k_is⟩, by k_is⟩)
    (case aL => k_is)
    (case lL => k_is)
    (case cL => k_is)
    (case lC => k_is)
    (case tL => exact PySem.W.km_tabs_of Y _ (List.mem_singleton.mpr rfl))
    (case hC => rfl)
    (case nL => kernel_rfl)
    (case R3 => k_is)
    (case R4 => k_is)
    (case R5 => k_is)
    (case R9 => k_is)
    (case lN => k_is)
    (case cN => k_is)
    (case tN => k_is)
    (case dN => rfl)
    (case vN1 => exact ⟨_, rfl⟩)
    (case vN2 => exact ⟨_, rfl⟩)
    (case lI => k_is)
    (case cI => k_is)
    (case kI => k_is)
    (case R0 => exact ⟨⟨_, _, _, _, _, _, _, _, _, _, _, _, _, _, _, by k_is, by decide +kernel⟩, by k_is, by k_is, by k_is, by k_is⟩)
    (case R1 => exact ⟨by k_is, by k_is, by k_is, by k_is⟩)
    (case R2 => k_is)
    (case R20 => k_is)
    (case R6 => k_is)
    (case R7 => k_is)
    (case R8 => k_is)
    (case R10 => k_is)
    (case EC1 => k_is)
    (case EC2 => k_is)
    (case EC3 => k_is)
    (case EC4 => k_is)
    (case R12 => k_is)
    (case R14 => k_is)
    (case I0 => k_is)
    (case I1 => k_is)
    (case I2 => k_is)
    (case I3 => k_is)
    (case I4 => k_is)
    (case S0 => k_is)
    (case M0 => k_is)
    (case M2 => k_is)
    (case M8 => k_is)
    (case M9 => rfl)
    (case M10 => rfl)
    (case M11 => exact ⟨_, rfl⟩)
    (case M12 => exact ⟨_, rfl⟩)
    (case M13 => exact ⟨_, rfl⟩)
    (case B0 => k_is)
    (case B1 => k_is)
    (case B2 => k_is)
    (case B3 => k_is)
    (case B4 => k_is)
    (case B5 => k_is)
    (case B6 => k_is)
    (case B7 => k_is)
    (case B8 => k_is)
    (case B9 => k_is)
    (case B10 => k_is)
    (case B11 => k_is)
    (case B12 => k_is)
    (case B13 => k_is)
    (case B14 => k_is)

