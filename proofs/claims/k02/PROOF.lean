import PyProof.Rows.All
import Wide.All
import OpenK.AllK
import Wide.FinOn
import HandS.ForMost
import HandS.ForExc
import HandS.ExcInit
import HandS.ExcField
import HandS.TryMany
import HandS.ClsMeth
import HandS.Lambda
import HandS.IsInst
import HandS.Wide
import HandS.Flow
import HandS.Defaults
import HandS.Codes
import HandS.MapJoin
import HandS.Rev
import PyProof.StrOps2
import HandS.EndTab
import HandS.NoneIn
import HandS.WideBits
import HandS.StrMore
import HandS.More
import HandS.Walk
import PySem.Challenge.RW_nevernought_k02_shares_written_and_read
set_option Elab.async false
set_option linter.all false
/-! Whole numbers: the greatest common divisor and fractions in lowest terms. -/
namespace Nv
theorem gcd_step (a b : Int) : Int.gcd b (a.fmod b) = Int.gcd a b := by
  rw [Int.fmod_def, Int.mul_comm, Int.gcd_sub_mul_right_right, Int.gcd_comm]
theorem fmod_small (a : Int) {b : Int} (hb : b ≠ 0) : (a.fmod b).natAbs < b.natAbs := by
  have h1 := Int.emod_nonneg a hb
  have h2 := Int.emod_lt a hb
  rw [Int.fmod_eq_emod]
  split
  · omega
  · rename_i h
    have hn : ¬ b ∣ a := fun d => h (.inr d)
    have hz : a % b ≠ 0 := fun z => hn (Int.dvd_of_emod_eq_zero z)
    omega
theorem gcd_zero (a : Int) : (if a < 0 then -a else a) = ((Int.gcd a 0 : Nat) : Int) := by
  rw [Int.gcd_zero_right]
  split <;> omega
/-- what both numbers are divided by -/
def per (t b : Int) : Int := if b < 0 then -((Int.gcd t b : Nat) : Int) else ((Int.gcd t b : Nat) : Int)
def frT (t b : Int) : Int := t.fdiv (per t b)
def frB (t b : Int) : Int := b.fdiv (per t b)
theorem gcd_pos (t : Int) {b : Int} (hb : b ≠ 0) : 0 < Int.gcd t b := Int.gcd_pos_of_ne_zero_right t hb
theorem per_ne (t : Int) {b : Int} (hb : b ≠ 0) : per t b ≠ 0 := by
  have := gcd_pos t hb
  unfold per
  split <;> omega
theorem per_le (t : Int) {b : Int} (hb : b ≠ 0) : (per t b).natAbs ≤ b.natAbs := by
  have := Int.gcd_le_natAbs_right t hb
  unfold per
  split <;> omega
theorem per_dvd_l (t b : Int) : per t b ∣ t := by
  unfold per
  split
  · exact Int.neg_dvd.mpr (Int.gcd_dvd_left t b)
  · exact Int.gcd_dvd_left t b
theorem per_dvd_r (t b : Int) : per t b ∣ b := by
  unfold per
  split
  · exact Int.neg_dvd.mpr (Int.gcd_dvd_right t b)
  · exact Int.gcd_dvd_right t b
theorem fdiv_mul {x d : Int} (h : d ∣ x) : x.fdiv d * d = x := by
  rw [Int.fdiv_eq_ediv_of_dvd h]
  exact Int.ediv_mul_cancel h
theorem abs_le_of_mul {q d x : Int} (hd : d ≠ 0) (e : q * d = x) : q.natAbs ≤ x.natAbs := by
  rw [← e, Int.natAbs_mul]
  exact Nat.le_mul_of_pos_right _ (by omega)
theorem frT_le (t : Int) {b : Int} (hb : b ≠ 0) : (frT t b).natAbs ≤ t.natAbs := abs_le_of_mul (per_ne t hb) (fdiv_mul (per_dvd_l t b))
theorem frB_le (t : Int) {b : Int} (hb : b ≠ 0) : (frB t b).natAbs ≤ b.natAbs := abs_le_of_mul (per_ne t hb) (fdiv_mul (per_dvd_r t b))
theorem frB_pos (t : Int) {b : Int} (hb : b ≠ 0) : 0 < frB t b := by
  have e : frB t b * per t b = b := fdiv_mul (per_dvd_r t b)
  have hp := per_ne t hb
  have hg := gcd_pos t hb
  rcases Int.lt_or_lt_of_ne hb with h | h
  · have hn : per t b < 0 := by unfold per; rw [if_pos h]; omega
    rcases Int.lt_trichotomy (frB t b) 0 with q | q | q
    · have := Int.mul_pos_of_neg_of_neg q hn
      omega
    · rw [q, Int.zero_mul] at e
      omega
    · exact q
  · have hn : 0 < per t b := by unfold per; rw [if_neg (by omega)]; omega
    rcases Int.lt_trichotomy (frB t b) 0 with q | q | q
    · have := Int.mul_neg_of_neg_of_pos q hn
      omega
    · rw [q, Int.zero_mul] at e
      omega
    · exact q
theorem per_one (t : Int) : per t 1 = 1 := by
  unfold per
  rw [if_neg (by omega), Int.gcd_one_right]
  rfl
theorem frT_one (t : Int) : frT t 1 = t := by
  unfold frT
  rw [per_one, Int.fdiv_one]
theorem frB_one (t : Int) : frB t 1 = 1 := by
  unfold frB
  rw [per_one, Int.fdiv_one]
end Nv

set_option maxRecDepth 100000
set_option maxHeartbeats 4000000
/-! Rules that the layer lacks: great divisors of either sign, an own exception made without arguments, a def read off an own class and called, several except clauses with names. -/
namespace Nv
open PySem PySem.Spec PyProof.Rows L2
section
variable {X : Cx}
def DivOk (_ j : Int) : Prop := j ≠ 0 ∧ j.natAbs < 2 ^ 8000
theorem op_div : OpR X (binaryOp .FloorDiv) (rI DivOk fun i j => .int (i.fdiv j)) :=
  opI fun _ _ _ _ _ _ _ hc q => floordiv_int hc.1 q (.inl (PyProof.noPylong_of_log2 (Nat.lt_trans (PySem.Flt.log2_lt_of (by decide) hc.2) (by decide))))
/-- C.m(a, ..): the class at C holds the def g under m -/
theorem pe_clsdef {CX : CXT} {k : Nat} {C g : Addr} {mc : Value} {fd : FuncData} {ps : List Str} {sp : Sp} {ds : List Value} {dvs : List V} {E : XK} {o e : Expr} {es : List Expr} {m : Str} {pos apos : Pos} {ta : TE} {t : TA} {pl : Sem Bool}
    (ho : PE X o ta) (rd : ClX.CRead X.K C mc) (cv : ClX.CVal X.K C mc m (.ref g) (.ref g)) (kp : PySem.W.keepIn X.K (.ref g) = true)
    (G : FnOk X.prog X.w X.K X.mg X.base CX k g fd ps sp) (hr : Room k X.A) (hb : Binds X.K fd ps ds) (hd : Vals dvs ds) (hx : Passes CX X E) (ha : PA X (e :: es) t)
    (hst : starEach (e :: es) X.env = (false, eval e X.env) :: starEach es X.env := by rfl) (hpl : (backTo pos (starEach es X.env)).any (·.1) = false := by rfl)
    (ht : eval (.Call (.Attribute o m apos) (e :: es) [] pos) X.env = (do
      let cv ← eval o X.env
      standAt apos.atName
      let (fn, before) ← holding [cv] (getMethod cv m pl)
      callWith pos fn before (backTo pos (starEach (e :: es) X.env)) (backToKw pos (keywordEach [] X.env))) := by rfl) :
    PE X (.Call (.Attribute o m apos) (e :: es) [] pos) (fun σ H Q => ta σ H fun x H1 => x = .ref C ∧ t σ H1 fun vs H2 => sp (vs ++ dvs) H2 Q E) := by
  refine ⟨fun pins s σ H Q I h => ?_⟩
  refine PySem.W.methodCall_KW (pl := pl) (thn (ho.run pins s σ H _ I h) fun u s1 hh => ?_) ht
  obtain ⟨x, H1, I1, rx, ex, q⟩ := hh
  subst ex
  obtain rfl : u = Value.ref C := rx
  refine PySem.W.method_cls I1.kIn rd.ga (ClX.getcval_ok I1 rd cv fun s2 I2 => ?_)
  refine PySem.W.callWith_K (first := []) (h₀ := X.base) I.ok.mod.kin kp (thn (ha.run pos pins s2 σ H1 _ I2 q) fun us s3 hh => ?_) hst hpl
  obtain ⟨vs, H2, I3, rv, q2⟩ := hh
  exact ⟨I3.kIn, run_fn G hr hb hd hx I3 rv q2⟩
/-- C(), an own exception whose __init__ is a def -/
theorem pmk_bare {CX : CXT} {x : Str} {C g : Addr} {k : Nat} {fd : FuncData} {ps : List Str} {sp : Sp} {p pos : Pos} (T : OexC X.K C) (hi : PySem.W.findIn X.K (.ref C) "__init__" = some (some (.ref g)))
    (hti : PySem.W.typeIn X.K (.ref g) = some (.type "function")) (G : FnOk X.prog X.w X.K X.mg X.base CX k g fd ps sp) (hr : Room (k + 1) X.A) (hb : Binds X.K fd ps []) (hx : Passes CX X (fun _ _ _ => False))
    (hg : Gl X x) (hm : X.mg x = some (.ref C)) (hdb : (x == ("__debug__" : Str)) = false := by decide) : PMk X (.Call (.Name x p) [] [] pos) (tMkO C sp [] tNil) := by
  intro pins s σ H Q I h
  obtain ⟨nm, qn, N, bs, bm, sn, sub, ab, col, dd, a0, a1, a2, a3, a5, hC, hbm⟩ := T.cls
  refine wpAny_Call_Name_kw (ld_glob I hg hm ?_ hdb)
  refine PySem.W.callWith_K0 I.kIn T.kC ?_
  obtain ⟨hp, gs, dr, tk, os⟩ := s
  have up : hp.objs.size ≤ hp.objs.size + 1 := Nat.le_succ _
  have fresh : H (hp.objs.size + 1) = none := I.hok.fresh up
  have said := h.2 (hp.objs.size + 1) fresh
  have keep : ∀ b o, hp.get? b = some o → ((hp.push (PySem.W.kdv_tup [])).push (PySem.HandSPX.excO C hp.objs.size)).get? b = some o :=
    fun b o z => Heap.get?_push_of_some _ (Heap.get?_push_of_some _ z)
  have here : ((hp.push (PySem.W.kdv_tup [])).push (PySem.HandSPX.excO C hp.objs.size)).get? (hp.objs.size + 1) = some (PySem.HandSPX.excO C hp.objs.size) := by heap_get
  have I2 := I.laid (t' := tk) (a := hp.objs.size + 1) (o := exo (hp.objs.size + 1) C none) (h' := (hp.push (PySem.W.kdv_tup [])).push (PySem.HandSPX.excO C hp.objs.size)) keep up (exo_ok here)
  have one : Vals [V.ref (hp.objs.size + 1)] [Value.ref (hp.objs.size + 1)] := .cons rfl .nil
  have many : [Value.ref (hp.objs.size + 1)].length = ps.length := by
    have z := G.len _ _ _ _ said
    exact z
  have run := G.run (X.A.under (.builtin "type.__call__" ⟨[.ref C], []⟩)) X.stack _ _ ⟨[Value.ref (hp.objs.size + 1)], []⟩ [Value.ref (hp.objs.size + 1)] _ _ (fun _ _ _ => False) (hr.make C [] []) (I2.env0.make C [] [])
    (by have z := hb _ [Value.ref (hp.objs.size + 1)] I2.kIn many; exact z) one said
  refine wpAny_call (PySem.HandSPX.call_own F.excBase_ValueError (fun Y => PySem.HandSPX.refsVE_contains Y bm hbm) (I.kIn _ _ hC) (PySem.W.looks_findIn I.kIn hi) (fun self => PySem.W.bind_fn I.kIn self hti) (Nat.zero_le _)
    (codeAny_mono run fun r s' hq => ?_))
  cases r with
  | error er => exact hx pins σ _ _ er s' I2 hq
  | ok fl =>
    cases fl with
    | ret u =>
      obtain ⟨v, H2, os2, bare2, un2, hok2, rv, ev, d, fs, ea, ed, hd1, q2⟩ := hq
      subst ev
      obtain ⟨h2, g2, d2, t2, os'⟩ := s'
      exact ⟨rv, mk_end (raises_own T.exC T.tyC) I up keep un2 hok2 os2 bare2 ea ed hd1 q2⟩
    | next => exact False.elim hq
    | brk => exact False.elim hq
    | cont => exact False.elim hq
end
end Nv

set_option maxRecDepth 100000
set_option maxHeartbeats 4000000
namespace Nv
open PySem PySem.Spec PyProof.Rows L2
/-! Several except clauses, each with a name for what is caught (slot i), for one class or for two in a tuple; nothing leaves the last one that is told of. -/
abbrev Clause := List Value × Nat × (Addr → Value → Option Addr → TS)
def gone (i : Nat) (D : Ends) : Ends := { nx := fun σ H => D.nx (σ.set i none) H, rt := D.rt, bk := fun σ H => D.bk (σ.set i none) H, ct := fun σ H => D.ct (σ.set i none) H }
/-- whether one of the classes is told to match -/
def Hits (K : PySem.W.Frag) (cls : Value) : List Value → Bool → Prop
  | [c], b => PySem.W.exmOne K cls c = some b
  | cs, b => PySem.W.exmAny K cls cs = some b
def wNamed (K : PySem.W.Frag) (D : Ends) : List Clause → WX
  | [] => fun _ _ _ _ => False
  | (cs, i, ts) :: r => fun cls d σ H => ∃ b, Hits K cls cs b ∧ (b = true → ∀ a, H a = none → ts a cls d (gone i D) (σ.set i (some (.ref a))) H) ∧ (b = false → wNamed K D r cls d σ H)
def Suite (X : Cx) (ts : Addr → Value → Option Addr → TS) (sts : List Stmt) : Prop :=
  ∀ (a : Addr) (oe : Obj) (cls : Value) (d : Option Addr) (pn : List (Addr × Obj)), Zc cls d oe → (∃ vs, oe.data = .fields vs) → PSs (X.suite a ((a, oe) :: pn)) sts (ts a cls d)
inductive Named (X : Cx) : List ExceptHandler → List Clause → Prop
  | stop {hds : List ExceptHandler} : Named X hds []
  | one {x n : Str} {c : Value} {i : Nat} {ts : Addr → Value → Option Addr → TS} {st : Stmt} {sts : List Stmt} {q1 q2 : Pos} {hds : List ExceptHandler} {cl : List Clause} (hi : X.N[i]? = some n) (hl : X.env.kindOf n = some .local) (hc : Names X x c)
      (su : Suite X ts (st :: sts)) (r : Named X hds cl) : Named X (.ExceptHandler (some (.Name x q1)) (some n) (st :: sts) q2 :: hds) (([c], i, ts) :: cl)
  | two {x y n : Str} {c e : Addr} {i kt : Nat} {ts : Addr → Value → Option Addr → TS} {st : Stmt} {sts : List Stmt} {q1 q2 q3 qt : Pos} {hds : List ExceptHandler} {cl : List Clause} (hi : X.N[i]? = some n) (hl : X.env.kindOf n = some .local)
      (gx : Gl X x) (dx : (x == ("__debug__" : Str)) = false) (hx : X.mg x = some (.ref c)) (gy : Gl X y) (dy : (y == ("__debug__" : Str)) = false) (hy : X.mg y = some (.ref e))
      (su : Suite X ts (st :: sts)) (r : Named X hds cl) : Named X (.ExceptHandler (some (.Tuple [.Name x q1, .Name y q3] kt qt)) (some n) (st :: sts) q2 :: hds) (([.ref c, .ref e], i, ts) :: cl)
section
variable {X : Cx} {body : List Stmt} {hd : ExceptHandler} {hds : List ExceptHandler} {cl : List Clause} {pos : Pos} {tb : WX → TS}
theorem fly_keep {B h h' : Heap} {l : List Env} {a : Addr} {Z : Obj → Prop} (k : ∀ b o, h.get? b = some o → h'.get? b = some o) (fl : HandSPX.FlyingZ B l a Z h) : HandSPX.FlyingZ B l a Z h' := by
  obtain ⟨f1, f2, f3, oe, vs, T, oT, ts, g1, g2, g3, g4, g5, g6, g7, g8, g9⟩ := fl
  exact ⟨fun b o e => k b o (f1 b o e), f2, Heap.FunFrames.of_keeps (fun b o e _ => ⟨o, k b o e, rfl⟩) f3, oe, vs, T, oT, ts, k _ _ g1, g2, g3, g4, g5, g6, k _ _ g7, g8, g9⟩
/-- what stands when an exception has come down to the clauses -/
structure Down (X : Cx) (pins : List (Addr × Obj)) (σ : L2.St) (H : Hp) (a : Addr) (cls : Value) (d : Option Addr) (s : Shared) : Prop where
  free : H a = none
  loc : a ≠ X.env.locals
  frm : a ∉ X.fs
  fly : ∃ (B : Heap) (sI : Shared), Inv X pins σ H sI ∧ (∀ b o, sI.heap.get? b = some o → b ∉ frs X.stack → B.get? b = some o) ∧ sI.heap.UpToSlots s.heap ∧ HandSPX.FlyingZ B (X.env :: X.outer) a (Zc cls d) s.heap ∧ s.os = sI.os ∧ AllBare s.gens
theorem Down.keep {pins : List (Addr × Obj)} {σ : L2.St} {H : Hp} {a : Addr} {cls : Value} {d : Option Addr} {s : Shared} {h' : Heap} (Z : Down X pins σ H a cls d s) (k : ∀ b o, s.heap.get? b = some o → h'.get? b = some o) : Down X pins σ H a cls d { s with heap := h' } := by
  obtain ⟨B, sI, J, nb, up, fl, os, ag⟩ := Z.fly
  exact ⟨Z.free, Z.loc, Z.frm, B, sI, J, nb, up.trans (.of_keeps k), fly_keep k fl, os, ag⟩
theorem handle (hf : X.env.frame = some X.env.locals) (nd : X.N.Nodup) {pins : List (Addr × Obj)} {σ : L2.St} {H : Hp} {a : Addr} {cls : Value} {d : Option Addr} {D : Ends} (ok : X.Ok) :
    ∀ {hds : List ExceptHandler} {cl : List Clause}, Named X hds cl → ∀ {s : Shared}, Down X pins σ H a cls d s → wNamed X.K D cl cls d σ H → wpAny (model X.prog X.w) X.A (handleBy (.ref a) X.env hds) (SP X pins D) X.xe s := by
  intro hds cl hk
  induction hk with
  | stop => intro s Z w; exact w.elim
  | @one x n c i ts st sts q1 q2 hds2 cl2 hi hl hc su r ih =>
    intro s Z w
    obtain ⟨b, hb1, yes, no⟩ := w
    obtain ⟨B, sI, J, nb, up, fl, os, ag⟩ := Z.fly
    obtain ⟨oe, vs, he, hz, hdt⟩ := fl.there
    have I3 : Inv X pins σ H s := J.landed nb fl.1 up os ag
    have S3 := I3.suite he hdt Z.free Z.loc Z.frm
    refine wpAny_handleBy_cons (codeAny_handlers_test ?_) (by intro q; cases q)
    have kind : PySem.W.Looks (model X.prog X.w) s.heap (typeOf (.ref a)) cls := fun A Q E s k q => wpAny_typeOf_ref (k _ _ he) (by rw [hz.1]; exact q)
    have hit := PySem.W.exm_one (M := model X.prog X.w) I3.kIn kind hb1
    have named : ∀ {Q : Value → Shared → Prop} {E : Value → Shared → Prop}, Q c s → wpAny (model X.prog X.w) (X.A.mark (some (.ref a))) (eval (.Name x q1) X.env) Q E s := fun {Q E} q => by
      obtain ⟨hg, hdbg, hm | ⟨hm, hv, hnn⟩⟩ := hc
      · exact ld_glob (X := X.suite a ((a, oe) :: (X.pn ++ pins))) S3 hg hm q hdbg
      · exact ld_blt (X := X.suite a ((a, oe) :: (X.pn ++ pins))) S3 hg hm hv q hnn hdbg
    refine named (hit.here ?_)
    cases b with
    | false => exact ih Z (no rfl)
    | true =>
      refine codeAny_handlers_suite_as ?_
      refine HandSPX.lands_againZ fl fun h4 fl4 up4 => ?_
      have J4 : Inv X pins σ H { s with heap := h4 } := J.landed nb fl4.1 (up.trans up4) os ag
      obtain ⟨oe4, vs4, he4, hz4, hd4⟩ := fl4.there
      have S4 := J4.suite he4 hd4 Z.free Z.loc Z.frm
      refine store_ok (X := X.suite a ((a, oe4) :: (X.pn ++ pins))) (v := .ref a) S4 nd hi (.inl hl) rfl (fun s5 S5 => ?_) (.inr hl)
      refine wpAny_mono ((su a oe4 cls d (X.pn ++ pins) hz4 ⟨_, hd4⟩).run [] s5 _ H _ S5 (yes rfl a Z.free)) (fun f s6 hsp => ?_) (fun _ _ z => False.elim z)
      have unname : ∀ {σ6 : L2.St} {H6 : Hp} {Q : Shared → Prop}, Inv (X.suite a ((a, oe4) :: (X.pn ++ pins))) [] σ6 H6 s6 → (∀ s7, Inv X pins (σ6.set i none) H6 s7 → Q s7) →
          wpAny (model X.prog X.w) X.A (do bindName X.env n .none; unbindBehindTheSuite X.env n q2) (fun _ s7 => Q s7) X.xe s6 := fun S6 hq => gone_ok (S6.unsuite ok) nd hi hl hq
      cases f with
      | ret u =>
        obtain ⟨v6, σ6, H6, S6, r6, q6⟩ := hsp
        exact unname S6 fun s7 J7 => ⟨_, _, _, J7, r6, q6⟩
      | next =>
        obtain ⟨σ6, H6, S6, q6⟩ := hsp
        exact unname S6 fun s7 J7 => ⟨_, _, J7, q6⟩
      | brk =>
        obtain ⟨σ6, H6, S6, q6⟩ := hsp
        exact unname S6 fun s7 J7 => ⟨_, _, J7, q6⟩
      | cont =>
        obtain ⟨σ6, H6, S6, q6⟩ := hsp
        exact unname S6 fun s7 J7 => ⟨_, _, J7, q6⟩
  | @two x y n c e i kt ts st sts q1 q2 q3 qt hds2 cl2 hi hl gx dx hx gy dy hy su r ih =>
    intro s Z0 w
    obtain ⟨b, hb1, yes, no⟩ := w
    have S0 : ∃ oe, Inv (X.suite a ((a, oe) :: (X.pn ++ pins))) [] σ H s := by
      obtain ⟨B, sI, J, nb, up, fl, os, ag⟩ := Z0.fly
      obtain ⟨oe, vs, he, hz, hdt⟩ := fl.there
      exact ⟨oe, (J.landed nb fl.1 up os ag).suite he hdt Z0.free Z0.loc Z0.frm⟩
    obtain ⟨oe0, S0⟩ := S0
    refine wpAny_handleBy_cons (codeAny_handlers_test ?_) (by intro q; cases q)
    refine wpAny_Tuple_spliced (spliced_more (ld_glob (X := X.suite a ((a, oe0) :: (X.pn ++ pins))) S0 gx hx (spliced_more (ld_glob (X := X.suite a ((a, oe0) :: (X.pn ++ pins))) S0 gy hy (spliced_none ⟨(by show 2 ≤ sizeLine; decide), ?_⟩) dy)) dx))
    have Z := Z0.keep (h' := s.heap.push { cls := .type "tuple", data := .seq [Value.ref c, Value.ref e].toArray }) (fun b o z => Heap.get?_push_of_some _ z)
    have there : (s.heap.push { cls := .type "tuple", data := .seq [Value.ref c, Value.ref e].toArray }).get? s.heap.objs.size = some { cls := .type "tuple", data := .seq [Value.ref c, Value.ref e].toArray } := Heap.get?_push_size _ rfl
    obtain ⟨B, sI, J, nb, up, fl, os, ag⟩ := Z.fly
    obtain ⟨oe, vs, he, hz, hdt⟩ := fl.there
    have I3 : Inv X pins σ H _ := J.landed nb fl.1 up os ag
    have kind : PySem.W.Looks (model X.prog X.w) (s.heap.push { cls := .type "tuple", data := .seq [Value.ref c, Value.ref e].toArray }) (typeOf (.ref a)) cls := fun A Q E s k q => wpAny_typeOf_ref (k _ _ he) (by rw [hz.1]; exact q)
    have hit := PySem.W.exm_tup2 (M := model X.prog X.w) I3.kIn kind there hb1
    refine hit.here ?_
    cases b with
    | false => exact ih Z (no rfl)
    | true =>
      refine codeAny_handlers_suite_as ?_
      refine HandSPX.lands_againZ fl fun h4 fl4 up4 => ?_
      have J4 : Inv X pins σ H { s with heap := h4 } := J.landed nb fl4.1 (up.trans up4) os ag
      obtain ⟨oe4, vs4, he4, hz4, hd4⟩ := fl4.there
      have S4 := J4.suite he4 hd4 Z.free Z.loc Z.frm
      refine store_ok (X := X.suite a ((a, oe4) :: (X.pn ++ pins))) (v := .ref a) S4 nd hi (.inl hl) rfl (fun s5 S5 => ?_) (.inr hl)
      refine wpAny_mono ((su a oe4 cls d (X.pn ++ pins) hz4 ⟨_, hd4⟩).run [] s5 _ H _ S5 (yes rfl a Z.free)) (fun f s6 hsp => ?_) (fun _ _ z => False.elim z)
      have unname : ∀ {σ6 : L2.St} {H6 : Hp} {Q : Shared → Prop}, Inv (X.suite a ((a, oe4) :: (X.pn ++ pins))) [] σ6 H6 s6 → (∀ s7, Inv X pins (σ6.set i none) H6 s7 → Q s7) →
          wpAny (model X.prog X.w) X.A (do bindName X.env n .none; unbindBehindTheSuite X.env n q2) (fun _ s7 => Q s7) X.xe s6 := fun S6 hq => gone_ok (S6.unsuite ok) nd hi hl hq
      cases f with
      | ret u =>
        obtain ⟨v6, σ6, H6, S6, r6, q6⟩ := hsp
        exact unname S6 fun s7 J7 => ⟨_, _, _, J7, r6, q6⟩
      | next =>
        obtain ⟨σ6, H6, S6, q6⟩ := hsp
        exact unname S6 fun s7 J7 => ⟨_, _, J7, q6⟩
      | brk =>
        obtain ⟨σ6, H6, S6, q6⟩ := hsp
        exact unname S6 fun s7 J7 => ⟨_, _, J7, q6⟩
      | cont =>
        obtain ⟨σ6, H6, S6, q6⟩ := hsp
        exact unname S6 fun s7 J7 => ⟨_, _, J7, q6⟩
theorem ps_try_named (hs : X.stack = X.env :: X.outer) (hf : X.env.frame = some X.env.locals) (nd : X.N.Nodup)
    (hb : ∀ (W : WX) (pn : List (Addr × Obj)) (xe : Value → Shared → Prop), Takes (X.tr pn xe) W → PassesOwn (model X.prog X.w) X.A X.env xe → PSs (X.tr pn xe) body (tb W)) (hh : Named X (hd :: hds) cl) :
    PS X (.Try body (hd :: hds) [] [] pos) (fun D σ H => tb (wNamed X.K D cl) D σ H) := by
  refine ⟨fun pins s σ H D I h => ?_⟩
  have ok := I.ok
  have hfr : X.A.frames = some (X.env :: X.outer) := by rw [ok.frames, hs]
  refine wpAny_Try_except ?_
  have inner := hb (wNamed X.K D cl) (X.pn ++ pins) (fun e s₁ => wpAny (model X.prog X.w) X.A (noteFrame e X.env) (fun _ s₂ => wpAny (model X.prog X.w) X.A (setFlight e none) (fun _ s₃ =>
    wpAny (model X.prog X.w) X.A (handleBy e X.env (hd :: hds)) (SP X pins D) X.xe s₃) X.xe s₂) X.xe s₁) (fun u s' xx => by
      obtain ⟨a, B, sI, pins', σ', H', cls, d, rfl, J', nb, up, sky, na, os, ag, w⟩ := xx
      have J : Inv X pins σ' H' sI := J'.ofTry ok
      rw [hs] at sky
      refine Sky.land Zc.steady hfr hf sky fun h3 fl3 up3 => ?_
      obtain ⟨oe3, vs3, he3, hz3, hd3⟩ := fl3.there
      have nfr : a ∉ frs (X.env :: X.outer) := fun hm => by
        obtain ⟨_, o', e', hnf⟩ := fl3.2.2.1.mem hm
        rw [he3] at e'
        cases e'
        exact hnf _ hd3
      refine handle hf nd (D := D) ok hh ⟨na, fun z => nfr (List.mem_filterMap.mpr ⟨X.env, List.mem_cons_self, by rw [hf, z]⟩), fun hm => ?_, B, sI, J, nb, up.trans up3, fl3, os, ag⟩ w
      obtain ⟨e, hin, q⟩ := List.mem_filterMap.mp hm
      exact nfr (List.mem_filterMap.mpr ⟨e, List.mem_cons_of_mem _ hin, q⟩)) PassesOwn.looking
  refine wpAny_mono (inner.run [] s σ H D (I.toTry _) h) (fun f s1 hsp => ?_) (fun e s1 he => he)
  cases f with
  | ret u =>
    obtain ⟨v, σ', H', J', r, q⟩ := hsp
    exact ⟨v, σ', H', J'.ofTry ok, r, q⟩
  | next =>
    obtain ⟨σ', H', J', q⟩ := hsp
    exact wpAny_execs_nil ⟨σ', H', J'.ofTry ok, q⟩
  | brk =>
    obtain ⟨σ', H', J', q⟩ := hsp
    exact ⟨σ', H', J'.ofTry ok, q⟩
  | cont =>
    obtain ⟨σ', H', J', q⟩ := hsp
    exact ⟨σ', H', J'.ofTry ok, q⟩
end
end Nv

set_option maxRecDepth 100000
/-! How shares are written: signs by their numbers. -/
namespace Nv
open PySem PySem.NumText TL
def isDig (c : Nat) : Bool := decide (48 ≤ c) && decide (c ≤ 57)
theorem allDig {A : List Nat} (h : A.all isDig = true) : AllDigits A := fun c hc => by
  have z := List.all_eq_true.mp h c hc
  unfold isDig at z
  rw [Bool.and_eq_true, decide_eq_true_eq, decide_eq_true_eq] at z
  exact z
theorem digAll {A : List Nat} (h : AllDigits A) : A.all isDig = true := List.all_eq_true.mpr fun c hc => by
  unfold isDig
  rw [decide_eq_true (h c hc).1, decide_eq_true (h c hc).2]
  rfl
/-- written without a needless nought ahead -/
def Canon (A : List Nat) : Bool := decide (A = [48]) || (match A with | [] => false | c :: _ => decide (c ≠ 48))
theorem val_snoc (A : List Nat) (c : Nat) : digitsVal (A ++ [c]) = digitsVal A * 10 + (c - 48) := by
  unfold digitsVal
  rw [List.foldl_append]
  rfl
theorem val_head_pos : ∀ (n : Nat) (A : List Nat), A.length = n → AllDigits A → (∀ c r, A = c :: r → c ≠ 48) → A ≠ [] → 1 ≤ digitsVal A := by
  intro n
  induction n with
  | zero =>
    intro A h _ _ hne
    exact absurd (List.length_eq_zero_iff.mp h) hne
  | succ n ih =>
    intro A h hd hh hne
    obtain ⟨B, c, rfl⟩ : ∃ B c, A = B ++ [c] := ⟨A.dropLast, A.getLast hne, (List.dropLast_concat_getLast hne).symm⟩
    rw [val_snoc]
    have hc := hd c (List.mem_append_right _ (List.mem_singleton.mpr rfl))
    cases B with
    | nil =>
      have := hh c [] rfl
      omega
    | cons b r =>
      have := ih (b :: r) (by rw [List.length_append] at h; simpa using h) (fun x hx => hd x (List.mem_append_left _ hx)) (fun c' r' e => hh c' (r' ++ [c]) (by rw [e]; rfl)) (List.cons_ne_nil _ _)
      omega
theorem canon_num : ∀ (n : Nat) (A : List Nat), A.length = n → AllDigits A → Canon A = true → numL (digitsVal A) = A := by
  intro n
  induction n with
  | zero =>
    intro A h _ hc
    rw [List.length_eq_zero_iff.mp h] at hc
    cases hc
  | succ n ih =>
    intro A h hd hc
    have hne : A ≠ [] := fun z => by rw [z] at h; cases h
    obtain ⟨B, c, rfl⟩ : ∃ B c, A = B ++ [c] := ⟨A.dropLast, A.getLast hne, (List.dropLast_concat_getLast hne).symm⟩
    have hc' := hd c (List.mem_append_right _ (List.mem_singleton.mpr rfl))
    rw [val_snoc]
    cases B with
    | nil =>
      show numL (0 * 10 + (c - 48)) = [c]
      rw [numL_lt (by omega)]
      exact congrArg (fun z => [z]) (by omega)
    | cons b r =>
      have hb : b ≠ 48 := by
        unfold Canon at hc
        rw [Bool.or_eq_true] at hc
        rcases hc with z | z
        · have z := of_decide_eq_true z
          simp at z
        · exact of_decide_eq_true z
      have hdB : AllDigits (b :: r) := fun x hx => hd x (List.mem_append_left _ hx)
      have e := ih (b :: r) (by rw [List.length_append] at h; simpa using h) hdB (by
        unfold Canon
        rw [Bool.or_eq_true]
        exact .inr (decide_eq_true hb))
      have hp := val_head_pos _ (b :: r) rfl hdB (fun c' r' e => by cases e; exact hb) (List.cons_ne_nil _ _)
      rw [numL_step (by omega), show (digitsVal (b :: r) * 10 + (c - 48)) / 10 = digitsVal (b :: r) by omega, show (digitsVal (b :: r) * 10 + (c - 48)) % 10 = c - 48 by omega, e, show 48 + (c - 48) = c by omega]
theorem num_canon : ∀ (k n : Nat), n ≤ k → Canon (numL n) = true := by
  intro k
  induction k with
  | zero =>
    intro n h
    rw [show n = 0 by omega, numL_lt (by decide)]
    rfl
  | succ k ih =>
    intro n h
    by_cases hn : n < 10
    · rw [numL_lt hn]
      unfold Canon
      by_cases h0 : n = 0
      · subst h0
        rfl
      · rw [Bool.or_eq_true]
        exact .inr (decide_eq_true (by omega))
    · rw [numL_step (by omega)]
      have e := ih (n / 10) (by omega)
      have hv : numL (n / 10) ≠ [48] := fun z => by
        have := numL_val (n / 10)
        rw [z] at this
        have z0 : digitsVal [48] = 0 := rfl
        omega
      unfold Canon at e ⊢
      rw [Bool.or_eq_true] at e ⊢
      rcases e with z | z
      · exact absurd (of_decide_eq_true z) hv
      · cases hA : numL (n / 10) with
        | nil => exact absurd hA (numL_ne _)
        | cons c r =>
          rw [hA] at z
          exact .inr z
/-- how a share is written -/
def textL (t d : Int) : List Nat := (if t < 0 then [45] else []) ++ numL t.natAbs ++ (if d ≠ 1 then 47 :: numL d.natAbs else [])
/-- so many figures -/
def fig (A : List Nat) : Option Nat := if A ≠ [] ∧ A.length ≤ 12 ∧ A.all isDig = true then some (digitsVal A) else none
def numIn (A : List Nat) : Option Nat := if A ≠ [] ∧ A.length ≤ 12 ∧ A.all isDig = true ∧ Canon A = true then some (digitsVal A) else none
/-- what stands ahead of the first stroke, and what behind it -/
def cutAt : List Nat → List Nat × Option (List Nat)
  | [] => ([], none)
  | c :: r => if c = 47 then ([], some r) else (c :: (cutAt r).1, (cutAt r).2)
theorem cutAt_none : ∀ {L : List Nat}, (cutAt L).2 = none → (cutAt L).1 = L ∧ 47 ∉ L
  | [], _ => ⟨rfl, fun z => nomatch z⟩
  | c :: r, h => by
    unfold cutAt at h ⊢
    by_cases hc : c = 47
    · rw [if_pos hc] at h
      cases h
    · rw [if_neg hc] at h ⊢
      obtain ⟨h1, h2⟩ := cutAt_none (L := r) h
      refine ⟨congrArg (c :: ·) h1, fun z => ?_⟩
      rcases List.mem_cons.mp z with e | e
      · exact hc e.symm
      · exact h2 e
theorem cutAt_some : ∀ {L q : List Nat}, (cutAt L).2 = some q → L = (cutAt L).1 ++ (47 :: q) ∧ 47 ∉ (cutAt L).1
  | [], _, h => by cases h
  | c :: r, q, h => by
    unfold cutAt at h ⊢
    by_cases hc : c = 47
    · rw [if_pos hc] at h ⊢
      cases h
      rw [hc]
      exact ⟨rfl, fun z => nomatch z⟩
    · rw [if_neg hc] at h ⊢
      obtain ⟨h1, h2⟩ := cutAt_some (L := r) h
      refine ⟨congrArg (c :: ·) h1, fun z => ?_⟩
      rcases List.mem_cons.mp z with e | e
      · exact hc e.symm
      · exact h2 e
def neg (L : List Nat) : Bool := match L with | 45 :: _ => true | _ => false
def bare (L : List Nat) : List Nat := if neg L = true then L.drop 1 else L
def sg (s : Bool) (a : Nat) : Int := if s = true then -(a : Int) else (a : Int)
def pairP (s : Bool) (L : List Nat) : Option Nat → Option Nat → Option (Int × Int)
  | some a, some b => if b = 0 then none else if textL (frT (sg s a) b) (frB (sg s a) b) = L then some (frT (sg s a) b, frB (sg s a) b) else none
  | _, _ => none
def pairL (s two : Bool) : Option Nat → Option Nat → Option (Int × Int)
  | some a, some b => if (two = true ∧ b < 2) ∨ (s = true ∧ a = 0) ∨ Int.gcd a b ≠ 1 then none else some (sg s a, (b : Int))
  | _, _ => none
def botP : Option (List Nat) → Option Nat
  | none => some 1
  | some B => fig B
def botL : Option (List Nat) → Option Nat
  | none => some 1
  | some B => if 47 ∈ B then none else numIn B
/-- what the program reads -/
def readP (L : List Nat) : Option (Int × Int) := pairP (neg L) L (fig (bare (cutAt L).1)) (botP (cutAt L).2)
/-- what the law reads -/
def readL (L : List Nat) : Option (Int × Int) := pairL (neg L) (cutAt (bare L)).2.isSome (numIn (cutAt (bare L)).1) (botL (cutAt (bare L)).2)
end Nv

set_option maxRecDepth 100000
namespace Nv
open PySem PySem.NumText TL
theorem neg_cons {L : List Nat} (h : neg L = true) : ∃ r, L = 45 :: r := by
  unfold neg at h
  split at h
  · exact ⟨_, rfl⟩
  · cases h
theorem neg_cut (L : List Nat) : neg (cutAt L).1 = neg L := by
  cases L with
  | nil => rfl
  | cons c r =>
    unfold cutAt
    by_cases hc : c = 47
    · rw [if_pos hc, hc]
      rfl
    · rw [if_neg hc]
      by_cases h5 : c = 45
      · rw [h5]
        rfl
      · have e : ∀ z : List Nat, neg (c :: z) = false := fun z => by
          unfold neg
          split
          · rename_i e
            cases e
            exact absurd rfl h5
          · rfl
        rw [e, e]
theorem cut_bare (L : List Nat) : (cutAt (bare L)).1 = bare (cutAt L).1 ∧ (cutAt (bare L)).2 = (cutAt L).2 := by
  unfold bare
  rw [neg_cut]
  by_cases h : neg L = true
  · obtain ⟨r, rfl⟩ := neg_cons h
    rw [if_pos h]
    have e : cutAt (45 :: r) = (45 :: (cutAt r).1, (cutAt r).2) := by
      show (if (45 : Nat) = 47 then _ else _) = _
      rw [if_neg (by decide)]
    rw [e, if_pos h]
    exact ⟨rfl, rfl⟩
  · rw [if_neg h, if_neg h]
    exact ⟨rfl, rfl⟩
theorem fig_of_numIn {A : List Nat} {a : Nat} (h : numIn A = some a) : fig A = some a ∧ Canon A = true := by
  unfold numIn at h
  split at h
  · rename_i q
    unfold fig
    rw [if_pos ⟨q.1, q.2.1, q.2.2.1⟩]
    exact ⟨h, q.2.2.2⟩
  · cases h
theorem fig_some {A : List Nat} {a : Nat} (h : fig A = some a) : A ≠ [] ∧ A.length ≤ 12 ∧ A.all isDig = true ∧ a = digitsVal A := by
  unfold fig at h
  split at h
  · rename_i q
    exact ⟨q.1, q.2.1, q.2.2, (Option.some.inj h).symm⟩
  · cases h
theorem numIn_of {A : List Nat} {a : Nat} (h : fig A = some a) : numIn A = if Canon A = true then some a else none := by
  obtain ⟨h1, h2, h3, h4⟩ := fig_some h
  unfold numIn
  by_cases c : Canon A = true
  · rw [if_pos ⟨h1, h2, h3, c⟩, if_pos c, h4]
  · rw [if_neg (fun q => c q.2.2.2), if_neg c]
theorem numIn_none {A : List Nat} (h : fig A = none) : numIn A = none := by
  cases e : numIn A with
  | none => rfl
  | some a =>
    rw [(fig_of_numIn e).1] at h
    cases h
theorem canon_iff {A : List Nat} (hd : AllDigits A) : numL (digitsVal A) = A ↔ Canon A = true := by
  constructor
  · intro h
    rw [← h]
    exact num_canon _ _ (Nat.le_refl _)
  · exact canon_num _ A rfl hd
theorem no45 {A : List Nat} (hd : AllDigits A) {r : List Nat} (h : A = 45 :: r) : False := by
  have := hd 45 (by rw [h]; exact List.mem_cons_self)
  omega
theorem no47 {A : List Nat} (hd : AllDigits A) : 47 ∉ A := fun h => by
  have := hd 47 h
  omega
theorem split_eq : ∀ {x y p q : List Nat}, 47 ∉ x → 47 ∉ y → x ++ 47 :: p = y ++ 47 :: q → x = y ∧ p = q
  | [], [], p, q, _, _, h => by
    cases h
    exact ⟨rfl, rfl⟩
  | [], b :: y, p, q, _, h2, h => by
    have := (List.cons.inj h).1
    exact absurd (this ▸ List.mem_cons_self) h2
  | a :: x, [], p, q, h1, _, h => by
    have := (List.cons.inj h).1
    exact absurd (this ▸ List.mem_cons_self) h1
  | a :: x, b :: y, p, q, h1, h2, h => by
    obtain ⟨e, h⟩ := List.cons.inj h
    obtain ⟨h3, h4⟩ := split_eq (fun z => h1 (List.mem_cons_of_mem _ z)) (fun z => h2 (List.mem_cons_of_mem _ z)) h
    exact ⟨by rw [e, h3], h4⟩
/-- signs ahead of figures -/
theorem sign_eq {s : Bool} {T : Int} {A : List Nat} (hd : AllDigits A) (h : (if T < 0 then [45] else []) ++ numL T.natAbs = (if s = true then [45] else []) ++ A) : (T < 0 ↔ s = true) ∧ A = numL T.natAbs := by
  cases s with
  | true =>
    rw [if_pos rfl] at h
    by_cases ht : T < 0
    · rw [if_pos ht] at h
      exact ⟨⟨fun _ => rfl, fun _ => ht⟩, (List.cons.inj h).2.symm⟩
    · rw [if_neg ht] at h
      exact (no45 (numL_digits T.natAbs) h).elim
  | false =>
    rw [if_neg (show ¬ (false = true) by decide)] at h
    by_cases ht : T < 0
    · rw [if_pos ht] at h
      exact (no45 hd h.symm).elim
    · rw [if_neg ht] at h
      exact ⟨⟨fun z => absurd z ht, fun z => nomatch z⟩, h.symm⟩
theorem frs (t : Int) {b : Int} (hb : 0 < b) : frT t b * ((Int.gcd t b : Nat) : Int) = t ∧ frB t b * ((Int.gcd t b : Nat) : Int) = b := by
  have e : per t b = ((Int.gcd t b : Nat) : Int) := by
    unfold per
    rw [if_neg (by omega)]
  have h1 : frT t b * per t b = t := fdiv_mul (per_dvd_l t b)
  have h2 : frB t b * per t b = b := fdiv_mul (per_dvd_r t b)
  rw [e] at h1 h2
  exact ⟨h1, h2⟩
theorem low {t b : Int} (hb : 0 < b) (h : Int.gcd t b = 1) : frT t b = t ∧ frB t b = b := by
  obtain ⟨h1, h2⟩ := frs t hb
  rw [h, show (((1 : Nat) : Nat) : Int) = 1 from rfl, Int.mul_one] at h1 h2
  exact ⟨h1, h2⟩
theorem gcd_sgn (s : Bool) (a b : Nat) : Int.gcd (sg s a) b = Int.gcd a b := by
  unfold sg
  cases s
  · rfl
  · rw [if_pos rfl, Int.neg_gcd]
theorem abs_sgn (s : Bool) (a : Nat) : (sg s a).natAbs = a := by
  unfold sg
  cases s
  · rw [if_neg (by decide)]; omega
  · rw [if_pos rfl]; omega
/-- with a stroke: the text is a share's just where -/
theorem stroke {s : Bool} {A B : List Nat} (hA : AllDigits A) (hB : AllDigits B) (hb : digitsVal B ≠ 0) :
    textL (frT (sg s (digitsVal A)) (digitsVal B)) (frB (sg s (digitsVal A)) (digitsVal B)) = (if s = true then [45] else []) ++ A ++ 47 :: B ↔
      Canon A = true ∧ Canon B = true ∧ 2 ≤ digitsVal B ∧ ¬ (s = true ∧ digitsVal A = 0) ∧ Int.gcd (digitsVal A : Int) (digitsVal B : Int) = 1 := by
  generalize ht : (sg s (digitsVal A)) = t
  have ha : t.natAbs = digitsVal A := by rw [← ht]; exact abs_sgn s _
  have hg : Int.gcd t (digitsVal B : Int) = Int.gcd (digitsVal A : Int) (digitsVal B : Int) := by rw [← ht]; exact gcd_sgn s _ _
  have hbp : (0 : Int) < (digitsVal B : Int) := by omega
  obtain ⟨f1, f2⟩ := frs t hbp
  have dp := frB_pos t (b := (digitsVal B : Int)) (by omega)
  have gp := gcd_pos t (b := (digitsVal B : Int)) (by omega)
  constructor
  · intro h
    have hD : frB t (digitsVal B) ≠ 1 := fun z => by
      unfold textL at h
      rw [z, if_neg (show ¬ ((1 : Int) ≠ 1) from fun y => y rfl), List.append_nil] at h
      have m : 47 ∈ (if s = true then [45] else []) ++ A ++ 47 :: B := List.mem_append_right _ List.mem_cons_self
      rw [← h] at m
      rcases List.mem_append.mp m with z | z
      · split at z
        · exact absurd (List.mem_singleton.mp z) (by decide)
        · cases z
      · exact no47 (numL_digits _) z
    unfold textL at h
    rw [if_pos hD] at h
    have n1 : 47 ∉ (if frT t (digitsVal B) < 0 then [45] else []) ++ numL (frT t (digitsVal B)).natAbs := fun m => by
      rcases List.mem_append.mp m with z | z
      · split at z
        · exact absurd (List.mem_singleton.mp z) (by decide)
        · cases z
      · exact no47 (numL_digits _) z
    have n2 : 47 ∉ (if s = true then [45] else []) ++ A := fun m => by
      rcases List.mem_append.mp m with z | z
      · split at z
        · exact absurd (List.mem_singleton.mp z) (by decide)
        · cases z
      · exact no47 hA z
    obtain ⟨h1, h2⟩ := split_eq n1 n2 h
    obtain ⟨hs, hA2⟩ := sign_eq hA h1
    have va : digitsVal A = (frT t (digitsVal B)).natAbs := by rw [hA2, numL_val]
    have vb : digitsVal B = (frB t (digitsVal B)).natAbs := by
      have := numL_val (frB t (digitsVal B)).natAbs
      rw [h2] at this
      exact this
    have g1 : Int.gcd t (digitsVal B : Int) = 1 := by
      have hk : frB t (digitsVal B) = (digitsVal B : Int) := by omega
      rw [hk] at f2
      have := Int.eq_of_mul_eq_mul_left (a := (digitsVal B : Int)) (by omega) (f2.trans (Int.mul_one _).symm)
      omega
    refine ⟨(canon_iff hA).mp (by rw [va]; exact hA2.symm), (canon_iff hB).mp (by rw [vb]; exact h2), ?_, fun z => ?_, by rw [← hg]; exact g1⟩
    · omega
    · have : frT t (digitsVal B) < 0 := hs.mpr z.1
      omega
  · rintro ⟨cA, cB, b2, hz, g1⟩
    obtain ⟨e1, e2⟩ := low hbp (hg.trans g1)
    rw [e1, e2]
    unfold textL
    rw [if_pos (show (digitsVal B : Int) ≠ 1 by omega), ha, (canon_iff hA).mpr cA, show ((digitsVal B : Int)).natAbs = digitsVal B by omega, (canon_iff hB).mpr cB]
    have hs : (if t < 0 then [45] else []) = (if s = true then [45] else ([] : List Nat)) := by
      cases s with
      | true =>
        have : digitsVal A ≠ 0 := fun z => hz ⟨rfl, z⟩
        unfold sg at ht
        rw [if_pos rfl] at ht
        rw [if_pos (show t < 0 by omega), if_pos rfl]
      | false =>
        unfold sg at ht
        rw [if_neg (show ¬ (false = true) by decide)] at ht
        rw [if_neg (show ¬ t < 0 by omega), if_neg (show ¬ (false = true) by decide)]
    rw [hs]
/-- without a stroke -/
theorem nostroke {s : Bool} {A : List Nat} (hA : AllDigits A) :
    textL (sg s (digitsVal A)) 1 = (if s = true then [45] else []) ++ A ↔ Canon A = true ∧ ¬ (s = true ∧ digitsVal A = 0) := by
  generalize ht : (sg s (digitsVal A)) = t
  have ha : t.natAbs = digitsVal A := by rw [← ht]; exact abs_sgn s _
  unfold textL
  rw [if_neg (show ¬ ((1 : Int) ≠ 1) from fun y => y rfl), List.append_nil]
  constructor
  · intro h
    obtain ⟨hs, hA2⟩ := sign_eq hA h
    refine ⟨(canon_iff hA).mp (by rw [← ha]; exact hA2.symm), fun z => ?_⟩
    have := hs.mpr z.1
    omega
  · rintro ⟨cA, hz⟩
    rw [ha, (canon_iff hA).mpr cA]
    have hs : (if t < 0 then [45] else []) = (if s = true then [45] else ([] : List Nat)) := by
      cases s with
      | true =>
        have : digitsVal A ≠ 0 := fun z => hz ⟨rfl, z⟩
        unfold sg at ht
        rw [if_pos rfl] at ht
        rw [if_pos (show t < 0 by omega), if_pos rfl]
      | false =>
        unfold sg at ht
        rw [if_neg (show ¬ (false = true) by decide)] at ht
        rw [if_neg (show ¬ t < 0 by omega), if_neg (show ¬ (false = true) by decide)]
    rw [hs]
theorem bare_back (L : List Nat) : L = (if neg L = true then [45] else []) ++ bare L := by
  unfold bare
  by_cases h : neg L = true
  · obtain ⟨r, rfl⟩ := neg_cons h
    rw [if_pos h, if_pos h]
    rfl
  · rw [if_neg h, if_neg h]
    rfl
theorem pairP_none (s : Bool) (L : List Nat) (o : Option Nat) : pairP s L none o = none := by cases o <;> rfl
theorem pairP_none2 (s : Bool) (L : List Nat) (o : Option Nat) : pairP s L o none = none := by cases o <;> rfl
theorem pairL_none (s t : Bool) (o : Option Nat) : pairL s t none o = none := by cases o <;> rfl
theorem pairL_none2 (s t : Bool) (o : Option Nat) : pairL s t o none = none := by cases o <;> rfl
theorem read_same (L : List Nat) : readP L = readL L := by
  unfold readP readL
  obtain ⟨c1, c2⟩ := cut_bare L
  rw [← c1, ← c2]
  have hL := bare_back L
  cases hB : (cutAt (bare L)).2 with
  | none =>
    obtain ⟨e1, _⟩ := cutAt_none hB
    rw [e1]
    cases hA : fig (bare L) with
    | none => rw [numIn_none hA, pairP_none, pairL_none]
    | some a =>
      obtain ⟨_, _, hd, rfl⟩ := fig_some hA
      have hd := allDig hd
      rw [numIn_of hA]
      have key := nostroke (s := neg L) hd
      rw [← hL] at key
      have eP : pairP (neg L) L (some (digitsVal (bare L))) (botP none) = if textL (sg (neg L) (digitsVal (bare L))) 1 = L then some (sg (neg L) (digitsVal (bare L)), 1) else none := by
        show (if (1 : Nat) = 0 then none else if textL (frT (sg (neg L) (digitsVal (bare L))) 1) (frB (sg (neg L) (digitsVal (bare L))) 1) = L then some (frT (sg (neg L) (digitsVal (bare L))) 1, frB (sg (neg L) (digitsVal (bare L))) 1) else none) = _
        rw [if_neg (show ¬ (1 : Nat) = 0 by decide), frT_one, frB_one]
      rw [eP]
      by_cases cA : Canon (bare L) = true
      · rw [if_pos cA]
        have eL : pairL (neg L) (none : Option (List Nat)).isSome (some (digitsVal (bare L))) (botL none) = if (false = true ∧ 1 < 2) ∨ (neg L = true ∧ digitsVal (bare L) = 0) ∨ Int.gcd (digitsVal (bare L) : Int) ((1 : Nat) : Int) ≠ 1 then none else some (sg (neg L) (digitsVal (bare L)), 1) := rfl
        rw [eL]
        by_cases hz : neg L = true ∧ digitsVal (bare L) = 0
        · rw [if_neg (fun z => (key.mp z).2 hz), if_pos (.inr (.inl hz))]
        · rw [if_pos (key.mpr ⟨cA, hz⟩), if_neg]
          rintro (z | z | z)
          · exact Bool.noConfusion z.1
          · exact hz z
          · exact z (Int.gcd_one_right _)
      · rw [if_neg cA, pairL_none, if_neg (fun z => cA (key.mp z).1)]
  | some B =>
    obtain ⟨e1, n1⟩ := cutAt_some hB
    cases hA : fig (cutAt (bare L)).1 with
    | none => rw [numIn_none hA, pairP_none, pairL_none]
    | some a =>
      have eb : botP (some B) = fig B := rfl
      have el : botL (some B) = if 47 ∈ B then none else numIn B := rfl
      rw [eb, el]
      cases hF : fig B with
      | none =>
        rw [numIn_none hF, pairP_none2, show (if 47 ∈ B then none else (none : Option Nat)) = none by split <;> rfl, pairL_none2]
      | some b =>
        obtain ⟨_, _, hd, rfl⟩ := fig_some hA
        obtain ⟨_, _, hd2, rfl⟩ := fig_some hF
        have hd := allDig hd
        have hd2 := allDig hd2
        rw [numIn_of hA, numIn_of hF, if_neg (no47 hd2)]
        generalize hAA : (cutAt (bare L)).1 = A at *
        have eP : pairP (neg L) L (some (digitsVal A)) (some (digitsVal B)) = if digitsVal B = 0 then none else if textL (frT (sg (neg L) (digitsVal A)) (digitsVal B)) (frB (sg (neg L) (digitsVal A)) (digitsVal B)) = L then some (frT (sg (neg L) (digitsVal A)) (digitsVal B), frB (sg (neg L) (digitsVal A)) (digitsVal B)) else none := rfl
        rw [eP]
        have eL : pairL (neg L) (some B).isSome (some (digitsVal A)) (some (digitsVal B)) = if (true = true ∧ digitsVal B < 2) ∨ (neg L = true ∧ digitsVal A = 0) ∨ Int.gcd (digitsVal A : Int) (digitsVal B : Int) ≠ 1 then none else some (sg (neg L) (digitsVal A), (digitsVal B : Int)) := rfl
        by_cases hb : digitsVal B = 0
        · rw [if_pos hb]
          by_cases cA : Canon A = true
          · by_cases cB : Canon B = true
            · rw [if_pos cA, if_pos cB, eL, if_pos (.inl ⟨rfl, by omega⟩)]
            · rw [if_neg cB, pairL_none2]
          · rw [if_neg cA, pairL_none]
        · rw [if_neg hb]
          have key := stroke (s := neg L) hd hd2 hb
          rw [List.append_assoc, ← e1, ← hL] at key
          by_cases cA : Canon A = true
          · by_cases cB : Canon B = true
            · rw [if_pos cA, if_pos cB, eL]
              by_cases cc : 2 ≤ digitsVal B ∧ ¬ (neg L = true ∧ digitsVal A = 0) ∧ Int.gcd (digitsVal A : Int) (digitsVal B : Int) = 1
              · rw [if_pos (key.mpr ⟨cA, cB, cc.1, cc.2.1, cc.2.2⟩), if_neg]
                · obtain ⟨x1, x2⟩ := low (t := sg (neg L) (digitsVal A)) (b := (digitsVal B : Int)) (by omega) ((gcd_sgn _ _ _).trans cc.2.2)
                  rw [x1, x2]
                · rintro (z | z | z)
                  · have := z.2
                    omega
                  · exact cc.2.1 z
                  · exact z cc.2.2
              · rw [if_neg (fun z => cc (key.mp z).2.2), if_pos]
                apply Classical.byContradiction
                intro z
                refine cc ⟨?_, fun y => z (.inr (.inl y)), ?_⟩
                · apply Classical.byContradiction
                  intro y
                  exact z (.inl ⟨rfl, by omega⟩)
                · apply Classical.byContradiction
                  intro y
                  exact z (.inr (.inr y))
            · rw [if_neg cB, pairL_none2, if_neg (fun z => cB (key.mp z).2.1)]
          · rw [if_neg cA, pairL_none, if_neg (fun z => cA (key.mp z).1)]
/-- a share in lowest terms is read as it is written -/
theorem read_text {t d : Int} (hd : 0 < d) (g : Int.gcd t d = 1) (ht : t.natAbs < 10 ^ 12) (hd2 : d.natAbs < 10 ^ 12) : readP (textL t d) = some (t, d) := by
  have fg : ∀ n : Nat, n < 10 ^ 12 → fig (numL n) = some n := fun n h => by
    unfold fig
    rw [if_pos ⟨numL_ne n, numL_len (by decide) h, digAll (numL_digits n)⟩, numL_val]
  have es : sg (decide (t < 0)) t.natAbs = t := by
    unfold sg
    by_cases h : t < 0
    · rw [if_pos (decide_eq_true h)]; omega
    · rw [if_neg (fun z => h (of_decide_eq_true z))]; omega
  have cut1 : ∀ {x q : List Nat}, 47 ∉ x → cutAt (x ++ 47 :: q) = (x, some q) := by
    intro x q hx
    induction x with
    | nil => rfl
    | cons c r ih =>
      have hc : c ≠ 47 := fun z => hx (by rw [z]; exact List.mem_cons_self)
      show (if c = 47 then ([], some (r ++ 47 :: q)) else (c :: (cutAt (r ++ 47 :: q)).1, (cutAt (r ++ 47 :: q)).2)) = _
      rw [if_neg hc, ih (fun z => hx (List.mem_cons_of_mem _ z))]
  have cut0 : ∀ {x : List Nat}, 47 ∉ x → cutAt x = (x, none) := by
    intro x hx
    induction x with
    | nil => rfl
    | cons c r ih =>
      have hc : c ≠ 47 := fun z => hx (by rw [z]; exact List.mem_cons_self)
      show (if c = 47 then _ else _) = _
      rw [if_neg hc, ih (fun z => hx (List.mem_cons_of_mem _ z))]
  have nn : ∀ n : Nat, neg (numL n) = false := fun n => by
    cases h : neg (numL n) with
    | false => rfl
    | true =>
      obtain ⟨r, e⟩ := neg_cons h
      exact (no45 (numL_digits n) e).elim
  have hbare : ∀ q : List Nat, neg ((if t < 0 then [45] else []) ++ numL t.natAbs ++ q) = decide (t < 0) := fun q => by
    by_cases h : t < 0
    · rw [if_pos h, decide_eq_true h]
      rfl
    · rw [if_neg h, decide_eq_false h]
      have e := nn t.natAbs
      cases hA : numL t.natAbs with
      | nil => exact absurd hA (numL_ne _)
      | cons c r =>
        rw [hA] at e
        by_cases h5 : c = 45
        · rw [h5] at e; cases e
        · show neg (c :: (r ++ q)) = false
          unfold neg
          split
          · rename_i z
            cases z
            exact absurd rfl h5
          · rfl
  have b1 : bare ((if t < 0 then [45] else []) ++ numL t.natAbs) = numL t.natAbs := by
    have e := hbare []
    rw [List.append_nil] at e
    unfold bare
    rw [e]
    by_cases h : t < 0
    · rw [if_pos (decide_eq_true h), if_pos h]
      rfl
    · rw [if_neg (fun z => h (of_decide_eq_true z)), if_neg h]
      rfl
  have n1 : 47 ∉ (if t < 0 then [45] else []) ++ numL t.natAbs := fun m => by
    rcases List.mem_append.mp m with z | z
    · split at z
      · exact absurd (List.mem_singleton.mp z) (by decide)
      · cases z
    · exact no47 (numL_digits _) z
  obtain ⟨x1, x2⟩ := low hd g
  by_cases hd1 : d = 1
  · have eT : textL t d = (if t < 0 then [45] else []) ++ numL t.natAbs := by
      unfold textL
      rw [if_neg (show ¬ (d ≠ 1) from fun z => z hd1), List.append_nil]
    have eN := hbare []
    rw [List.append_nil] at eN
    unfold readP
    rw [eT, cut0 n1, eN]
    show pairP _ _ (fig (bare ((if t < 0 then [45] else []) ++ numL t.natAbs))) (some 1) = _
    rw [b1, fg _ ht]
    show (if (1 : Nat) = 0 then none else if textL (frT (sg (decide (t < 0)) t.natAbs) 1) (frB (sg (decide (t < 0)) t.natAbs) 1) = _ then some (frT (sg (decide (t < 0)) t.natAbs) 1, frB (sg (decide (t < 0)) t.natAbs) 1) else none) = _
    rw [if_neg (show ¬ (1 : Nat) = 0 by decide)]
    have hT : textL (frT (sg (decide (t < 0)) t.natAbs) 1) (frB (sg (decide (t < 0)) t.natAbs) 1) = (if t < 0 then [45] else []) ++ numL t.natAbs := by
      rw [es, frT_one, frB_one, ← eT, hd1]
    rw [if_pos hT, es, frT_one, frB_one, hd1]
  · have eT : textL t d = (if t < 0 then [45] else []) ++ numL t.natAbs ++ 47 :: numL d.natAbs := by
      unfold textL
      rw [if_pos hd1]
    have ed : ((d.natAbs : Nat) : Int) = d := by omega
    unfold readP
    rw [eT, cut1 n1, hbare]
    show pairP _ _ (fig (bare ((if t < 0 then [45] else []) ++ numL t.natAbs))) (fig (numL d.natAbs)) = _
    rw [b1, fg _ ht, fg _ hd2]
    show (if d.natAbs = 0 then none else if textL (frT (sg (decide (t < 0)) t.natAbs) (d.natAbs : Int)) (frB (sg (decide (t < 0)) t.natAbs) (d.natAbs : Int)) = _ then some (frT (sg (decide (t < 0)) t.natAbs) (d.natAbs : Int), frB (sg (decide (t < 0)) t.natAbs) (d.natAbs : Int)) else none) = _
    rw [if_neg (show ¬ d.natAbs = 0 by omega)]
    have hT : textL (frT (sg (decide (t < 0)) t.natAbs) (d.natAbs : Int)) (frB (sg (decide (t < 0)) t.natAbs) (d.natAbs : Int)) = (if t < 0 then [45] else []) ++ numL t.natAbs ++ 47 :: numL d.natAbs := by
      rw [es, ed, x1, x2, ← eT]
    rw [if_pos hT, es, ed, x1, x2]
end Nv

set_option maxRecDepth 100000
set_option maxHeartbeats 4000000
namespace Nv
open PySem PySem.Spec PyProof.Rows L2
section
variable {prog : Program} {w : World} {A : Around} {E : Value → Shared → Prop} {s : Shared}
/-- sep.join(reversed(a list)) from where the iterator stands -/
theorem join_rev {x : Str} {t : Tok} {it l : Addr} {items : Array Value} {ys : List Str} {Q : Value → Shared → Prop} (hh : A.handled = none) (hit : s.heap.IsRevIter it l ((items.size : Int) - 1)) (hl : s.heap.IsList l items) (hne : l ≠ it)
    (hn : items.size ≤ sizeLine) (hP : ∀ acc : Array Value, ItemsOf (fun i v => items[items.size - 1 - i]? = some v) acc items.size → StrsAre acc.toList ys) (hok : (ys.map (·.length)).sum + ys.length * x.length ≤ 16777216)
    (hq : ∀ (h' : Heap) (tk : Nat) (t' : Tok), (∀ b o, b ≠ it → s.heap.get? b = some o → h'.get? b = some o) → Q (.str (Txt.join x ys) t') { s with heap := h', toks := tk }) :
    wpAny (model prog w) A (call (.builtin "str.join") [.str x t, .ref it]) Q E s := by
  have kind : s.TypeIs (.ref it) "list_reverseiterator" := hit.typeIs
  have hh1 : A.in1.handled = none := hh
  refine wpAny_call (codeAny_call_builtin F.slot_str_join.plain F.entry_str_join (F.slot_str_join.check _ _ _ _ _ _ _ _ (typeIs_str _ _ _) (F.args_str_join_2 _ _) ?_))
  rw [join_tree_other]
  refine wpAny_bind (wpAny_typeOf kind ?_)
  show wpAny _ A.in1 ((pyIter (.ref it)).tryCatch _ >>= fun z => collect z >>= fun got => joinTail x got) _ _ s
  refine wpAny_bind (wpAny_tryCatch (wpAny_pyIter_revIter (l := l) (i := (items.size : Int) - 1) hit ?_))
  refine wpAny_bind (RT.collect_rev (A := A.in1) hh1 hit hl hne hn fun h' tk acc hk hacc => ?_)
  obtain ⟨ps, hps, ht⟩ := strsAre_values (hP acc hacc)
  subst ht
  rw [hps]
  have fits := joinOk_of hok
  unfold JoinOk at fits
  rw [Bool.not_eq_true'] at fits
  have gives : Gives (joinTail x (strValues ps)) (joinMade x ps) := by
    have g0 := gives_joinTail x ps fits
    cases ps with
    | nil => exact g0
    | cons p1 rest => cases rest <;> exact g0
  exact gives prog w A (wants Q E) _ (post_join ps ⟨joinFit_length fits, fun t' k => hq h' k t' hk⟩)
end
section
variable {X : Cx}
/-- sep.join(reversed(xs)), xs a list of texts -/
theorem pe_joinRev {o e : Expr} {to te : TE} {apos pos p pos2 : Pos} (hc : X.calm = true) (ho : PE X o to) (hg : Gl X "reversed") (hm : X.mg "reversed" = none) (he : PE X e te)
    (hs1 : starEach [.Call (.Name "reversed" p) [e] [] pos2] X.env = [(false, eval (.Call (.Name "reversed" p) [e] [] pos2) X.env)] := by rfl)
    (hs : starEach [e] X.env = (false, eval e X.env) :: starEach [] X.env := by rfl) (hbase : attributeBase o "join" X.env (eval o X.env) = eval o X.env := by rfl) (hline : (apos.endLine == pos.line) = true := by rfl) :
    PE X (.Call (.Attribute o "join" apos) [.Call (.Name "reversed" p) [e] [] pos2] [] pos) (fun σ H Q => to σ H fun x H1 => (∃ a, x = .str a) ∧ te σ H1 fun y H2 => ∃ (a : Str) (q : Addr) (ys : List Str),
      x = .str a ∧ y = .ref q ∧ SqL X.K H2 q (ys.map V.str) ∧ (ys.reverse.map (·.length)).sum + ys.reverse.length * a.length ≤ 16777216 ∧ Q (.str (Txt.join a ys.reverse)) H2) := by
  refine ⟨fun pins s σ H Q I h => ?_⟩
  refine PySem.Call_method1 hbase hs1 hline (thn (ho.run pins s σ H _ I h) fun v s1 hv => ?_)
  obtain ⟨x, H1, I1, r1, ⟨a, rfl⟩, q1⟩ := hv
  obtain ⟨t, rfl⟩ := _root_.id r1
  refine ⟨"str", _, F.plainAttrs_str, F.slot_str_join, F.type_str_join, typeIs_str _ _ _, (fun _ e => nomatch e), Calls.callWith_builtin rfl (Calls.evalArgs_plain (Calls.spliced_cons ?_))⟩
  refine Call_ (ld_blt I1 hg hm PyProof.Rows.boot_reversed (PyProof.Rows.callWith_type1 (args_cons (thn (he.run pins s1 σ H1 _ I1 q1) fun u s2 hu => args_nil ?_) hs) hs rfl))
  obtain ⟨y, H2, I2, r2, a', q, ys, ea, rfl, hq, hz, q3⟩ := hu
  cases ea
  obtain rfl : u = Value.ref q := r2
  obtain ⟨its, rv, pl, hsz⟩ := I2.list hq
  have lenI : its.length = ys.length := by rw [← rv.length, List.length_map]
  refine call_reversed_list pl.isList (Calls.spliced_nil ?_)
  have hl := pl.isList
  obtain ⟨ol, hol, _⟩ := id hl
  have hne : q ≠ s2.heap.objs.size := Nat.ne_of_lt (Heap.lt_size hol)
  have hn : its.toArray.size ≤ sizeLine := by rw [List.size_toArray, ← rv.length]; exact hsz
  refine join_rev (s := { s2 with heap := s2.heap.push (revObj q ((its.toArray.size : Int) - 1)) }) (I2.ok.hd hc) ⟨_, Heap.get?_push_size _ rfl, rfl, rfl⟩ (hl.push _) hne hn (fun acc hacc => ?_) hz (fun h' tk t' hk => ?_)
  · have vr := RT.vals_rev rv hacc
    rw [← List.map_reverse] at vr
    generalize acc.toList = L at vr
    generalize ys.reverse = zs at vr
    induction zs generalizing L with
    | nil => cases vr; exact .nil
    | cons z zs ih =>
      cases vr with
      | cons r rr =>
        obtain ⟨tt, rfl⟩ := r
        exact .cons z tt (ih _ rr)
  · refine ⟨.str _, H2, ?_, ⟨t', rfl⟩, q3⟩
    refine I2.kept (t' := tk) (h' := h') fun b o e => hk b o (Nat.ne_of_lt (Heap.lt_size e)) (Heap.get?_push_of_some _ e)
/-- thirteen ones -/
theorem op_ones : OpR X (binaryOp .Mult) (fun x y H Q => x = .str "1" ∧ y = .int 13 ∧ Q (.str (SX.S (List.replicate 13 49))) H) := by
  intro pins s σ H x y v u Q I rx ry h
  obtain ⟨rfl, rfl, q⟩ := h
  obtain ⟨t1, rfl⟩ := rx
  obtain ⟨t2, rfl⟩ := ry
  refine PySem.P.mul_str (x := "1") (n := 13) (by decide) (fun _ _ => by decide +kernel) (fun _ _ => by decide +kernel) ?_
  have e : (⟨(List.replicate (13 : Int).toNat (Str.ofString "1").cps).foldl (· ++ ·) #[]⟩ : Str) = SX.S (List.replicate 13 49) := by decide +kernel
  rw [if_neg (show ¬ (13 : Int) < 1 by decide), if_neg (show ¬ (((13 : Int) == 1 || (Str.ofString "1").length == 0) = true) by decide +kernel), e]
  exact ⟨by decide +kernel, .str (SX.S (List.replicate 13 49)), H, I.tok _, ⟨_, rfl⟩, q⟩
end
end Nv

set_option maxRecDepth 100000
set_option maxHeartbeats 4000000
namespace Nv
open PySem PySem.Spec PyProof.Rows L2
def topS (i : Nat) : Stmt := PySem.Challenge.pw_nevernought_k02_shares_written_and_read.main.body.getD i (.Pass ⟨0, 0, 0, 0⟩)
section
variable {P : Program} {w : World} {K : PySem.W.Frag} {mg : Str → Option Value} {base : Heap}
def spGcd : Sp := fun vs H Q _ => ∃ a b : Int, vs = [.int a, .int b] ∧ Q (.int ((Int.gcd a b : Nat) : Int)) H
def mGcd (σ : L2.St) (_ : Hp) : Nat := match σ with
  | [_, some (.int y)] => y.natAbs
  | _ => 0
abbrev sGcd : Stmt := topS 13
def spPGcd : Sp := fun vs H Q _ => ∃ a b : Int, vs = [.int a, .int b] ∧ b.natAbs < 2 ^ 6000 ∧ Q (.int ((Int.gcd a b : Nat) : Int)) H
theorem scGcd : FnScope ["one", "other"] ["one", "other"] (defScope sGcd) := ⟨rfl, rfl, rfl, by decide +kernel, rfl, by decide +kernel, by decide +kernel⟩
/-- numbers of at most 6000 bits are divided as ever -/
theorem ok_gcd {f : Addr} {fd : FuncData} {k : Nat} (F : Fun K "common_divisor" "common_divisor" sGcd f fd) (ma : mg "abs" = none) (mL : ∃ t, mg "LONG" = some (.int 6000 t)) : FnOk P w K mg base CX0 (k + 1) f fd ["one", "other"] spPGcd := by
  obtain ⟨tL, hL⟩ := mL
  refine F.ok scGcd (fun vs H Q E h => ?_) (fun cdv A outer s H vs Q E hr h => ?_)
  · obtain ⟨a, b, rfl, _⟩ := h
    rfl
  · obtain ⟨a, b, rfl, hb, q⟩ := h
    refine ⟨_, pss_cons (ps_if (pt_cmpR op_gt (pe_bits (pv 1)) (pe_glob (v := .int 6000) (by rfl) hL ⟨_, rfl⟩) (nomark _)) pss_never pss_nil)
      (pss_cons (ps_while PassesOwn.never (pt_cmpR op_ne (pv 1) pe_int (nomark _))
        (pss_one (ps_par (i := 0) (j := 1) (by rfl) scGcd.nd rfl rfl (by decide) rfl rfl (pa_cons (pv 1) (pa_cons (pe_op op_modN (pv 0) (pv 1)) pa_nil)) (by rfl))))
      (pss_one (ps_ret (pe_callB call_abs (by rfl) ma (by decide +kernel) (pa_cons (pv 0) pa_nil))))), ?_⟩
    have hs : ¬ (6000 : Int) < ((Builtin.Int.intBits b : Nat) : Int) := by
      have := PyProof.Rows.intBits_le hb
      omega
    refine ⟨_, rfl, b, rfl, _, 6000, rfl, rfl, _, rfl, ite2 (fun c => absurd (of_decide_eq_true c) hs) (fun _ => ?_)⟩
    refine while_by (fun σ H' => ∃ x y : Int, σ = [some (.int x), some (.int y)] ∧ H' = H ∧ Int.gcd x y = Int.gcd a b) mGcd ⟨a, b, rfl, rfl, rfl⟩ (fun σ H' hP => ?_) (fun σ H Q Q' hh hc => ?_)
    · obtain ⟨x, y, rfl, rfl, e⟩ := hP
      refine ⟨_, rfl, rfl, _, rfl, ?_⟩
      refine ite2 (fun c => ?_) (fun c => ?_)
      · have hy : y ≠ 0 := fun z => by
          subst z
          exact absurd c (by decide)
        refine ⟨_, rfl, _, rfl, _, rfl, x, y, rfl, rfl, hy, _, _, rfl, ⟨y, x.fmod y, rfl, rfl, ?_⟩, fmod_small x hy⟩
        rw [gcd_step]
        exact e
      · have hy : y = 0 := Classical.byContradiction fun z => c (by
          show (!decide (V.int y = V.int 0)) = true
          rw [decide_eq_false (fun q => z (V.int.inj q))]
          rfl)
        subst hy
        refine ⟨_, rfl, x, rfl, ?_⟩
        rw [gcd_zero, e]
        exact q
    · obtain ⟨v, e1, e2, k, e3, e4⟩ := hc
      exact ⟨v, e1, e2, k, e3, hh _ _ e4⟩
end
abbrev sNE : Stmt := inClass (topS 1) 0
theorem scNE : FnScope ["self", "word", "message"] ["self", "word", "message"] (defScope sNE) := ⟨rfl, rfl, rfl, by decide +kernel, rfl, by decide +kernel, by decide +kernel⟩
/-- the fields of an exception that has its word alone -/
def wordOf (w : Str) : List (Str × V) := [(Str.ofString "word", .str w)]
/-- an exception that is being made gets its word -/
def made (a C : Addr) (w : Str) (H : Hp) (Q : VK) : Prop := ∀ dx, H dx = none → dx ≠ a → Q .non (upd (upd H dx (exd dx (wordOf w))) a (exo a C (some dx)))
def spNE (K : PySem.W.Frag) : Sp := fun vs H Q _ => ∃ (a C : Addr) (w m : Str), vs = [.ref a, .str w, .str m] ∧ OexC K C ∧ PySem.W.findIn K (.ref C) "word" = some none ∧ H a = some (exo a C none) ∧ made a C w H Q
theorem same_new {H : Hp} {p : Addr} {o : HO} (h : H p = none) : Same H (upd H p o) := fun b x e => by
  rw [upd_ne (ne_of_none e h)]
  exact e
/-- a new pair of numbers is told; all that stood stands -/
def newSh (H : Hp) (Q : VK) (t b : Int) : Prop := ∀ (p : Addr) (H' : Hp), Same H H' → H p = none → H' p = some (.tup [.int t, .int b]) → Q (.ref p) H'
theorem newSh.at_ {H : Hp} {Q : VK} {t b : Int} (q : newSh H Q t b) : ∀ p, H p = none → Q (.ref p) (upd H p (.tup [.int t, .int b])) := fun p hp => q p _ (same_new hp) hp upd_same
/-! The law's bag: [the script's numbers, a place, what is left of a great one, a salt, a count]. -/
def bagL (l : Addr) (i j s n : Int) : List V := [.ref l, .int i, .int j, .int s, .int n]
structure BagAt (l b : Addr) (H : Hp) : Prop where
  ex : ∃ i j s n : Int, H b = some (.lst (bagL l i j s n)) ∧ 0 ≤ i ∧ 0 ≤ j ∧ 0 ≤ s ∧ s < 2147483647
structure Bag (l b : Addr) (H : Hp) : Prop where
  ex : ∃ ns : List Int, l ≠ b ∧ H l = some (.lst (ns.map V.int)) ∧ BagAt l b H
/-- but for b all is as it was -/
def But (b : Addr) (H H' : Hp) : Prop := ∀ a, a ≠ b → H' a = H a
theorem But.refl (b : Addr) (H : Hp) : But b H H := fun _ _ => rfl
theorem But.trans {b : Addr} {H H1 H2 : Hp} (x : But b H H1) (y : But b H1 H2) : But b H H2 := fun a n => (y a n).trans (x a n)
theorem But.upd {b : Addr} {H H1 : Hp} {o : HO} (x : But b H H1) : But b H (upd H1 b o) := fun a n => (upd_ne n).trans (x a n)
theorem keep {a b : TS} {D : Ends} {σ : L2.St} {H : Hp} (M : L2.St → Hp → Prop) (h : ∀ σ' H', M σ' H' → b D σ' H') (k : (∀ σ' H', M σ' H' → b D σ' H') → a { D with nx := b D } σ H) : tSeq a b D σ H := k h
def spPull : Sp := fun vs H Q _ => ∃ (l b : Addr) (m : Int), vs = [.ref b, .int m] ∧ 0 < m ∧ m.natAbs < 2 ^ 8000 ∧ Bag l b H ∧ ∀ (r : Int) (H' : Hp), 0 ≤ r → r < m → Bag l b H' → But b H H' → Q (.int r) H'
/-- a number that is reckoned with -/
def Fit (i : Int) : Prop := i.natAbs < 2 ^ 1000
theorem Fit.mulOk {i j : Int} (a : Fit i) (b : Fit j) : CMulW i j := wide_mul a b (by decide) (by decide) (by decide)
theorem Fit.mul {i j : Int} (a : Fit i) (b : Fit j) : (i * j).natAbs < 2 ^ 8000 := Nat.lt_of_lt_of_le (wide_lt a b) (Nat.pow_le_pow_right (by decide) (by decide))
theorem fr_low (t : Int) {b : Int} (hb : b ≠ 0) : Int.gcd (frT t b) (frB t b) = 1 := by
  have h1 : frT t b * per t b = t := fdiv_mul (per_dvd_l t b)
  have h2 : frB t b * per t b = b := fdiv_mul (per_dvd_r t b)
  have hp : (per t b).natAbs = Int.gcd t b := by
    unfold per
    split <;> omega
  have e : Int.gcd t b = Int.gcd (frT t b) (frB t b) * Int.gcd t b := by
    have := Int.gcd_mul_right (frT t b) (per t b) (frB t b)
    rw [h1, h2, hp] at this
    exact this
  have gp := gcd_pos t hb
  exact Nat.eq_of_mul_eq_mul_right gp (by rw [Nat.one_mul]; exact e.symm)
/-- but for b all that was tracked is as it was -/
def Grow (b : Addr) (H H' : Hp) : Prop := ∀ a o, a ≠ b → H a = some o → H' a = some o
theorem Grow.refl (b : Addr) (H : Hp) : Grow b H H := fun _ _ _ h => h
theorem Grow.trans {b : Addr} {H H1 H2 : Hp} (x : Grow b H H1) (y : Grow b H1 H2) : Grow b H H2 := fun a o n h => y a o n (x a o n h)
theorem But.grow {b : Addr} {H H' : Hp} (x : But b H H') : Grow b H H' := fun a o n h => by rw [x a n]; exact h
theorem Same.grow {b : Addr} {H H' : Hp} (x : Same H H') : Grow b H H' := fun a o _ h => x a o h
theorem Bag.is {l b : Addr} {H : Hp} (B : Bag l b H) : ∃ o, H b = some o := by
  obtain ⟨ns, _, _, ⟨i, j, s, n, hb, _⟩⟩ := B
  exact ⟨_, hb⟩
theorem Bag.ne {l b p : Addr} {H : Hp} (B : Bag l b H) (h : H p = none) : p ≠ b := fun z => by
  obtain ⟨o, e⟩ := B.is
  rw [z, e] at h
  cases h
theorem Grow.free {b p : Addr} {H H' : Hp} (x : Grow b H H') (n : p ≠ b) (h : H' p = none) : H p = none := by
  cases e : H p with
  | none => rfl
  | some o =>
    rw [x p o n e] at h
    cases h
/-- a bag stays one where all else only grows -/
theorem Bag.same {l b : Addr} {H H' : Hp} (B : Bag l b H) (x : Same H H') : Bag l b H' := by
  obtain ⟨ns, nl, hl, ⟨i, j, s, n, hb, r⟩⟩ := B
  exact ⟨ns, nl, x _ _ hl, ⟨i, j, s, n, x _ _ hb, r⟩⟩
/-- a share that the law draws -/
structure Drawn (t b : Int) : Prop where
  top : t.natAbs < 10 ^ 12
  bot : b.natAbs < 10 ^ 12
  pos : 0 < b
  low : Int.gcd t b = 1
theorem Drawn.fitT {t b : Int} (d : Drawn t b) : Fit t := Nat.lt_of_lt_of_le d.top (Nat.le_trans (show 10 ^ 12 ≤ 2 ^ 45 by decide) (Nat.pow_le_pow_right (by decide) (by decide)))
theorem Drawn.fitB {t b : Int} (d : Drawn t b) : Fit b := Nat.lt_of_lt_of_le d.bot (Nat.le_trans (show 10 ^ 12 ≤ 2 ^ 45 by decide) (Nat.pow_le_pow_right (by decide) (by decide)))
theorem drawn_fr {t b : Int} (ht : t.natAbs < 10 ^ 12) (hb : b.natAbs < 10 ^ 12) (h0 : b ≠ 0) : Drawn (frT t b) (frB t b) := ⟨Nat.lt_of_le_of_lt (frT_le t h0) ht, Nat.lt_of_le_of_lt (frB_le t h0) hb, frB_pos t h0, fr_low t h0⟩
theorem fit8 {i : Int} {n : Nat} (h : i.natAbs < 2 ^ n) (hn : n ≤ 8000) : i.natAbs < 2 ^ 8000 := Nat.lt_of_lt_of_le h (Nat.pow_le_pow_right (by decide) hn)
def spDraw : Sp := fun vs H Q _ => ∃ l b : Addr, vs = [.ref b] ∧ Bag l b H ∧ ∀ (p : Addr) (t d : Int) (H' : Hp), Drawn t d → Bag l b H' → Grow b H H' → H p = none → H' p = some (.tup [.int t, .int d]) → Q (.ref p) H'
section
variable {P : Program} {w : World} {K : PySem.W.Frag} {mg : Str → Option Value} {base : Heap}
theorem ok_NE {f : Addr} {fd : FuncData} {k : Nat} {dvs : List V} (F : FunD K "__init__" "NeverError.__init__" (defArgs sNE) (defBody sNE) (defScope sNE) dvs [] f fd) (mv : mg "ValueError" = none)
    (vV : PySem.W.findCls K (.type "ValueError") (.type "type") "__init__" = some (.val (.builtin "ValueError.__init__"))) : FnOk P w K mg base CX0 (k + 1) f fd ["self", "word", "message"] (spNE K) := by
  refine F.ok scNE (fun vs H Q E h => ?_) (fun cdv A outer s H vs Q E hr h => ?_)
  · obtain ⟨a, C, w, m, rfl, _⟩ := h
    rfl
  · obtain ⟨a, C, w, m, rfl, ho, hn, ha, q⟩ := h
    refine ⟨_, pss_cons (ps_expr (pe_veinit (by rfl) mv vV (pa_cons (pv 0) (pa_cons (pv 2) pa_nil)))) (pss_one (ps_ost (pv 0) (pv 1))), ?_⟩
    refine ⟨_, rfl, _, rfl, a, C, [.str m], rfl, (by show 1 ≤ 1000; decide), ho, ha, ?_⟩
    exact ⟨_, rfl, _, rfl, a, C, rfl, ho, hn, .inl ⟨ha, fun dx n ne => q dx n ne⟩⟩
abbrev sLGcd : Stmt := topS 25
theorem scLGcd : FnScope ["_law_one", "_law_other"] ["_law_one", "_law_other"] (defScope sLGcd) := ⟨rfl, rfl, rfl, by decide +kernel, rfl, by decide +kernel, by decide +kernel⟩
theorem ok_law_gcd {f : Addr} {fd : FuncData} {k : Nat} (F : Fun K "_law_gcd" "_law_gcd" sLGcd f fd) (ma : mg "abs" = none) : FnOk P w K mg base CX0 (k + 1) f fd ["_law_one", "_law_other"] spGcd := by
  refine F.ok scLGcd (fun vs H Q E h => ?_) (fun cdv A outer s H vs Q E hr h => ?_)
  · obtain ⟨a, b, rfl, _⟩ := h
    rfl
  · obtain ⟨a, b, rfl, q⟩ := h
    refine ⟨_, pss_cons (ps_while PassesOwn.never (pt_cmpR op_ne (pv 1) pe_int (nomark _))
        (pss_one (ps_par (i := 0) (j := 1) (by rfl) scLGcd.nd rfl rfl (by decide) rfl rfl (pa_cons (pv 1) (pa_cons (pe_op op_modN (pv 0) (pv 1)) pa_nil)) (by rfl))))
      (pss_one (ps_ret (pe_callB call_abs (by rfl) ma (by decide +kernel) (pa_cons (pv 0) pa_nil)))), ?_⟩
    refine while_by (fun σ H' => ∃ x y : Int, σ = [some (.int x), some (.int y)] ∧ H' = H ∧ Int.gcd x y = Int.gcd a b) mGcd ⟨a, b, rfl, rfl, rfl⟩ (fun σ H' hP => ?_) (fun σ H Q Q' hh hc => ?_)
    · obtain ⟨x, y, rfl, rfl, e⟩ := hP
      refine ⟨_, rfl, rfl, _, rfl, ?_⟩
      refine ite2 (fun c => ?_) (fun c => ?_)
      · have hy : y ≠ 0 := fun z => by
          subst z
          exact absurd c (by decide)
        refine ⟨_, rfl, _, rfl, _, rfl, x, y, rfl, rfl, hy, _, _, rfl, ⟨y, x.fmod y, rfl, rfl, ?_⟩, fmod_small x hy⟩
        rw [gcd_step]
        exact e
      · have hy : y = 0 := Classical.byContradiction fun z => c (by
          show (!decide (V.int y = V.int 0)) = true
          rw [decide_eq_false (fun q => z (V.int.inj q))]
          rfl)
        subst hy
        refine ⟨_, rfl, x, rfl, ?_⟩
        rw [gcd_zero, e]
        exact q
    · obtain ⟨v, e1, e2, k, e3, e4⟩ := hc
      exact ⟨v, e1, e2, k, e3, hh _ _ e4⟩
def spFr : Sp := fun vs H Q _ => ∃ t b : Int, vs = [.int t, .int b] ∧ b ≠ 0 ∧ b.natAbs < 2 ^ 8000 ∧ newSh H Q (frT t b) (frB t b)
theorem at0 {a b : V} : atI [a, b] 0 = some a := rfl
theorem at1 {a b : V} : atI [a, b] 1 = some b := rfl
abbrev sLFr : Stmt := topS 26
theorem scLFr : FnScope ["_law_top", "_law_bottom", "_law_per"] ["_law_top", "_law_bottom"] (defScope sLFr) := ⟨rfl, rfl, rfl, by decide +kernel, rfl, by decide +kernel, by decide +kernel⟩
theorem ok_law_fr {f : Addr} {fd : FuncData} (F : Fun K "_law_fr" "_law_fr" sLFr f fd) (GG : C8.Cal P w K mg base 1 "_law_gcd" spGcd []) : FnOk P w K mg base CX0 2 f fd ["_law_top", "_law_bottom"] spFr := by
  refine F.ok scLFr (fun vs H Q E h => ?_) (fun cdv A outer s H vs Q E hr h => ?_)
  · obtain ⟨a, b, rfl, _⟩ := h
    rfl
  · obtain ⟨t, b, rfl, e, hb, q1⟩ := h
    refine ⟨_, pss_cons (ps_set (i := 2) scLFr.nd rfl (.inl rfl) (C8.pe_c GG hr (by decide) (by rfl) (pa_cons (pv 0) (pa_cons (pv 1) pa_nil))))
      (pss_cons (ps_set (i := 2) scLFr.nd rfl (.inl rfl) (pe_ifExp (pt_cmpR op_lt (pv 1) pe_int (nomark _)) (pe_op op_sub pe_int (pv 2)) (pv 2)))
      (pss_one (ps_ret (pe_tup (pa_cons (pe_op op_div (pv 0) (pv 2)) (pa_cons (pe_op op_div (pv 1) (pv 2)) pa_nil)))))), ?_⟩
    refine ⟨_, rfl, _, rfl, t, b, rfl, ?_⟩
    have fin : ∀ d : Int, d = per t b → tRet (tTup (tCons (tOp (rI DivOk fun i j => .int (i.fdiv j)) (tVar 0) (tVar 2)) (tCons (tOp (rI DivOk fun i j => .int (i.fdiv j)) (tVar 1) (tVar 2)) tNil)))
        { nx := fun _ H' => Q .non H', rt := Q } [some (.int t), some (.int b), some (.int d)] H := fun d hd => by
      have ok : DivOk t d := ⟨by rw [hd]; exact per_ne t e, by rw [hd]; exact Nat.lt_of_le_of_lt (per_le t e) hb⟩
      refine ⟨_, rfl, _, rfl, t, d, rfl, rfl, ok, _, rfl, _, rfl, b, d, rfl, rfl, ok, (by show 2 ≤ sizeLine; decide), fun p hp => ?_⟩
      rw [hd]
      exact q1.at_ p hp
    refine ⟨_, rfl, b, 0, rfl, rfl, _, rfl, ite2 (fun c2 => ?_) (fun c2 => ?_)⟩
    · have l : b < 0 := of_decide_eq_true c2
      refine ⟨_, rfl, 0, _, rfl, rfl, ?_⟩
      exact fin _ (by unfold per; rw [if_pos l]; omega)
    · have l : ¬ b < 0 := fun z => c2 (decide_eq_true z)
      refine ⟨_, rfl, ?_⟩
      exact fin _ (by unfold per; rw [if_neg l])
abbrev sPull : Stmt := topS 21
theorem scPull : FnScope ["_law_bag_here", "_law_sides", "_law_cell", "_law_got", "_law_seed"] ["_law_bag_here", "_law_sides"] (defScope sPull) := ⟨rfl, rfl, rfl, by decide +kernel, rfl, by decide +kernel, by decide +kernel⟩
theorem at_in {xs : List V} {r : Int} (h0 : 0 ≤ r) (h : r.toNat < xs.length) : atI xs r = some xs[r.toNat] := by
  obtain ⟨n, rfl⟩ := Int.eq_ofNat_of_zero_le h0
  exact atI_nat (List.getElem?_eq_getElem h)
theorem ok_pull {f : Addr} {fd : FuncData} {k : Nat} (F : Fun K "_law_pull" "_law_pull" sPull f fd) (ml : mg "len" = none) : FnOk P w K mg base CX0 (k + 1) f fd ["_law_bag_here", "_law_sides"] spPull := by
  refine F.ok scPull (fun vs H Q E h => ?_) (fun cdv A outer s H vs Q E hr h => ?_)
  · obtain ⟨l, b, m, rfl, _⟩ := h
    rfl
  · obtain ⟨l, b, m, rfl, hm, hm9, ⟨ns, nlb, hl, ⟨i, j, sa, n, hb, hi, hj, hs, hs2⟩⟩, q⟩ := h
    have hm8 : CDivW 0 m := wide_div hm hm9 (by decide) (by decide)
    refine ⟨_, pss_cons (ps_if (PW.pt (pw_and (pt_cmpR op_eq (pe_ix ix_list (pv 0) pe_int (fun _ _ => rfl)) pe_int (nomark _))
          (pw_and1 (pt_cmpR op_lt (pe_ix ix_list (pv 0) pe_int (fun _ _ => rfl)) (pe_callB call_len_seq (by rfl) ml PySem.boot_len (pa_cons (pe_ix ix_list (pv 0) pe_int (fun _ _ => rfl)) pa_nil)) (nomark _)))))
        (pss_cons (ps_set (i := 2) scPull.nd rfl (.inl rfl) (pe_ix ix_list (pe_ix ix_list (pv 0) pe_int (fun _ _ => rfl)) (pe_ix ix_list (pv 0) pe_int (fun _ _ => rfl)) (fun _ _ => rfl)))
        (pss_cons (ps_asg (pe_op op_add (pe_ix ix_list (pv 0) pe_int (fun _ _ => rfl)) pe_int) (pg_sub (pv 0) pe_int set_list))
        (pss_one (ps_if (pt_cmpR op_ge (pv 2) (pe_op op_pow pe_int pe_int) (nomark _)) (pss_one (ps_asg (pv 2) (pg_sub (pv 0) pe_int set_list)))
          (pss_one (ps_asg (pe_op op_mod (pe_op op_add (pe_op op_add (pe_op op_mul (pe_ix ix_list (pv 0) pe_int (fun _ _ => rfl)) pe_int) (pe_op op_mod (pv 2) pe_int)) pe_int) pe_int) (pg_sub (pv 0) pe_int set_list)))))))
        pss_nil)
      (pss_cons (ps_if (pt_cmpR op_gt (pe_ix ix_list (pv 0) pe_int (fun _ _ => rfl)) pe_int (nomark _))
        (pss_cons (ps_set (i := 3) scPull.nd rfl (.inl rfl) (pe_op op_mod (pe_ix ix_list (pv 0) pe_int (fun _ _ => rfl)) (pv 1)))
        (pss_cons (ps_asg (pe_op op_fdivW (pe_ix ix_list (pv 0) pe_int (fun _ _ => rfl)) (pv 1)) (pg_sub (pv 0) pe_int set_list))
        (pss_one (ps_ret (pv 3))))) pss_nil)
      (pss_cons (ps_asg (pe_op op_add (pe_ix ix_list (pv 0) pe_int (fun _ _ => rfl)) pe_int) (pg_sub (pv 0) pe_int set_list))
      (pss_cons (ps_set (i := 4) scPull.nd rfl (.inl rfl) (pe_op op_mod (pe_op op_add (pe_ix ix_list (pv 0) pe_int (fun _ _ => rfl)) (pe_op op_mul (pe_ix ix_list (pv 0) pe_int (fun _ _ => rfl)) pe_int)) pe_int))
      (pss_cons (ps_asg (pe_op op_mod (pe_op op_add (pe_op op_add (pe_op op_mul (pe_op op_mod (pe_op op_mul (pv 4) (pv 4)) pe_int) (pe_op op_add (pe_op op_mod (pv 4) pe_int) pe_int)) (pe_op op_mul pe_int (pv 4))) pe_int) pe_int) (pg_sub (pv 0) pe_int set_list))
      (pss_one (ps_ret (pe_op op_mod (pe_op op_add (pe_op op_fdiv (pe_ix ix_list (pv 0) pe_int (fun _ _ => rfl)) pe_int) (pe_op op_mul (pe_op op_mod (pe_ix ix_list (pv 0) pe_int (fun _ _ => rfl)) pe_int) pe_int)) (pv 1)))))))), ?_⟩
    refine keep (fun σ' H' => ∃ (i j sa n : Int) (y : Option V), σ' = [some (.ref b), some (.int m), y, none, none] ∧ H' b = some (.lst (bagL l i j sa n)) ∧ 0 ≤ i ∧ 0 ≤ j ∧ 0 ≤ sa ∧ sa < 2147483647 ∧ But b H H') (fun σ' H1 hM => ?_) (fun rest => ?_)
    · obtain ⟨i, j, sa, n, y, rfl, hb, hi, hj, hs, hs2, bt⟩ := hM
      have bagOf : ∀ (H2 : Hp), But b H H2 → BagAt l b H2 → Bag l b H2 := fun H2 bt2 x => ⟨ns, nlb, by rw [bt2 l nlb]; exact hl, x⟩
      refine ⟨_, rfl, b, _, 2, _, rfl, rfl, SqL.of hb, rfl, j, 0, rfl, rfl, _, rfl, ite2 (fun c => ?_) (fun c => ?_)⟩
      · -- what is left of a great number
        refine ⟨_, rfl, b, _, 2, _, rfl, rfl, SqL.of hb, rfl, _, rfl, j, m, rfl, rfl, hm, ?_⟩
        refine ⟨_, rfl, b, _, 2, _, rfl, rfl, SqL.of hb, rfl, _, rfl, j, m, rfl, rfl, hm8, _, rfl, b, _, 2, 2, rfl, rfl, hb, rfl, ?_⟩
        refine ⟨_, rfl, ?_⟩
        exact q _ _ (Int.emod_nonneg j (by omega)) (Int.emod_lt_of_pos j hm) (bagOf _ bt.upd ⟨⟨i, j / m, sa, n, upd_same, hi, Int.ediv_nonneg hj (by omega), hs, hs2⟩⟩) bt.upd
      · refine ⟨_, rfl, b, _, 4, _, rfl, rfl, SqL.of hb, rfl, n, 1, rfl, rfl, _, rfl, b, _, 4, 4, rfl, rfl, hb, rfl, ?_⟩
        have hb2 : (upd H1 b (.lst (bagL l i j sa (n + 1)))) b = some (.lst (bagL l i j sa (n + 1))) := upd_same
        refine ⟨_, rfl, b, _, 3, _, rfl, rfl, SqL.of hb2, rfl, _, rfl, b, _, 4, _, rfl, rfl, SqL.of hb2, rfl, n + 1, 7211, rfl, rfl, .inr ⟨by decide, by decide⟩, sa, _, rfl, rfl, _, 2147483647, rfl, rfl, (by show (0 : Int) < _; decide), ?_⟩
        have r0 := Int.emod_nonneg (sa + (n + 1) * 7211) (show (2147483647 : Int) ≠ 0 by decide)
        have r1 := Int.emod_lt_of_pos (sa + (n + 1) * 7211) (show (0 : Int) < 2147483647 by decide)
        show tSeq _ _ _ [some (.ref b), some (.int m), y, none, some (.int ((sa + (n + 1) * 7211) % 2147483647))] _
        generalize (sa + (n + 1) * 7211) % 2147483647 = sd at r0 r1 ⊢
        have t0 := Int.emod_nonneg (sd * sd) (show (2147483629 : Int) ≠ 0 by decide)
        have t1 := Int.emod_lt_of_pos (sd * sd) (show (0 : Int) < 2147483629 by decide)
        refine ⟨_, rfl, _, rfl, sd, sd, rfl, rfl, .inl ⟨by omega, by omega⟩, _, 2147483629, rfl, rfl, (by show (0 : Int) < _; decide), _, rfl, sd, 30011, rfl, rfl, (by show (0 : Int) < _; decide), _, 5, rfl, rfl, _, _, rfl, rfl, .inl ⟨by omega, by omega⟩, _, rfl, 20011, sd, rfl, rfl, .inl ⟨by decide, by decide⟩, _, _, rfl, rfl, _, 977, rfl, rfl, _, 2147483647, rfl, rfl, (by show (0 : Int) < _; decide), _, rfl, b, _, 3, 3, rfl, rfl, hb2, rfl, ?_⟩
        have s0 := Int.emod_nonneg (sd * sd % 2147483629 * (sd % 30011 + 5) + 20011 * sd + 977) (show (2147483647 : Int) ≠ 0 by decide)
        have s1 := Int.emod_lt_of_pos (sd * sd % 2147483629 * (sd % 30011 + 5) + 20011 * sd + 977) (show (0 : Int) < 2147483647 by decide)
        have hb3 : (upd (upd H1 b (.lst (bagL l i j sa (n + 1)))) b (.lst (bagL l i j ((sd * sd % 2147483629 * (sd % 30011 + 5) + 20011 * sd + 977) % 2147483647) (n + 1)))) b = some (.lst (bagL l i j ((sd * sd % 2147483629 * (sd % 30011 + 5) + 20011 * sd + 977) % 2147483647) (n + 1))) := upd_same
        refine ⟨_, rfl, b, _, 3, _, rfl, rfl, SqL.of hb3, rfl, _, 71, rfl, rfl, ⟨by decide, by decide⟩, _, rfl, b, _, 3, _, rfl, rfl, SqL.of hb3, rfl, _, 8191, rfl, rfl, (by show (0 : Int) < _; decide), _, 41, rfl, rfl, .inr ⟨by decide, by decide⟩, _, _, rfl, rfl, _, rfl, _, m, rfl, rfl, hm, ?_⟩
        exact q _ _ (Int.emod_nonneg _ (by omega)) (Int.emod_lt_of_pos _ hm) (bagOf _ bt.upd.upd ⟨⟨i, j, _, n + 1, upd_same, hi, hj, s0, s1⟩⟩) bt.upd.upd
    · have stay := rest [some (.ref b), some (.int m), none, none, none] H ⟨i, j, sa, n, none, rfl, hb, hi, hj, hs, hs2, But.refl b H⟩
      refine ⟨_, rfl, b, _, 2, _, rfl, rfl, SqL.of hb, rfl, rfl, _, rfl, ite2 (fun c => ?_) (fun c => ?_)⟩
      · refine ⟨_, rfl, b, _, 1, _, rfl, rfl, SqL.of hb, rfl, _, rfl, b, _, 0, _, rfl, rfl, SqL.of hb, rfl, l, _, rfl, .inl (SqL.of hl), i, _, rfl, rfl, _, rfl, ite2 (fun c2 => ?_) (fun c2 => ?_)⟩
        · have hlt : i < ((ns.map V.int).length : Int) := of_decide_eq_true c2
          rw [List.length_map] at hlt
          obtain ⟨cell, hc⟩ : ∃ cell : Int, atI (ns.map V.int) i = some (.int cell) := by
            have h1 : i.toNat < (ns.map V.int).length := by rw [List.length_map]; omega
            refine ⟨ns[i.toNat]'(by rw [List.length_map] at h1; exact h1), ?_⟩
            rw [at_in hi h1, List.getElem_map]
          refine ⟨_, rfl, b, _, 0, _, rfl, rfl, SqL.of hb, rfl, _, rfl, b, _, 1, _, rfl, rfl, SqL.of hb, rfl, l, _, i, _, rfl, rfl, SqL.of hl, hc, ?_⟩
          refine ⟨_, rfl, b, _, 1, _, rfl, rfl, SqL.of hb, rfl, i, 1, rfl, rfl, _, rfl, b, _, 1, 1, rfl, rfl, hb, rfl, ?_⟩
          have hb2 : (upd H b (.lst (bagL l (i + 1) j sa n))) b = some (.lst (bagL l (i + 1) j sa n)) := upd_same
          refine ⟨_, rfl, 10, 18, rfl, rfl, ⟨by decide, by decide, by decide⟩, cell, _, rfl, rfl, _, rfl, ite2 (fun c3 => ?_) (fun c3 => ?_)⟩
          · have hbig : (10 : Int) ^ (18 : Int).toNat ≤ cell := of_decide_eq_true c3
            have hpos : (0 : Int) ≤ cell := Int.le_trans (by decide) hbig
            refine ⟨_, rfl, _, rfl, b, _, 2, 2, rfl, rfl, hb2, rfl, ?_⟩
            exact rest _ _ ⟨i + 1, cell, sa, n, _, rfl, upd_same, by omega, hpos, hs, hs2, (But.refl b H).upd.upd⟩
          · refine ⟨_, rfl, b, _, 3, _, rfl, rfl, SqL.of hb2, rfl, sa, 40283, rfl, rfl, .inr ⟨by decide, by decide⟩, _, rfl, cell, 2147483587, rfl, rfl, (by show (0 : Int) < _; decide), _, _, rfl, rfl, _, 7, rfl, rfl, _, 2147483647, rfl, rfl, (by show (0 : Int) < _; decide), _, rfl, b, _, 3, 3, rfl, rfl, hb2, rfl, ?_⟩
            exact rest _ _ ⟨i + 1, j, _, n, _, rfl, upd_same, by omega, hj, Int.emod_nonneg _ (by decide), Int.emod_lt_of_pos _ (by decide), (But.refl b H).upd.upd⟩
        · exact stay
      · exact iteF stay
abbrev sOf : Stmt := topS 22
theorem scOf : FnScope ["_law_bag_here", "_law_some"] ["_law_bag_here", "_law_some"] (defScope sOf) := ⟨rfl, rfl, rfl, by decide +kernel, rfl, by decide +kernel, by decide +kernel⟩
/-- one of those that are there -/
def spOf : Sp := fun vs H Q _ => ∃ (l b o : Addr) (xs : List V), vs = [.ref b, .ref o] ∧ o ≠ b ∧ H o = some (.lst xs) ∧ 0 < xs.length ∧ xs.length ≤ 1000 ∧ Bag l b H ∧ ∀ (v : V) (H' : Hp), v ∈ xs → Bag l b H' → But b H H' → Q v H'
theorem small_fit {n : Nat} (h : n ≤ 1000) : ((n : Int)).natAbs < 2 ^ 8000 := Nat.lt_of_le_of_lt (show ((n : Int)).natAbs ≤ 2 ^ 10 by omega) (Nat.pow_lt_pow_right (by decide) (by decide))
theorem ok_of {f : Addr} {fd : FuncData} (F : Fun K "_law_of" "_law_of" sOf f fd) (GP : C8.Cal P w K mg base 1 "_law_pull" spPull []) (ml : mg "len" = none) : FnOk P w K mg base CX0 2 f fd ["_law_bag_here", "_law_some"] spOf := by
  refine F.ok scOf (fun vs H Q E h => ?_) (fun cdv A outer s H vs Q E hr h => ?_)
  · obtain ⟨l, b, o, xs, rfl, _⟩ := h
    rfl
  · obtain ⟨l, b, o, xs, rfl, nob, ho, h0, h1, hB, q⟩ := h
    refine ⟨_, pss_one (ps_ret (pe_ix ix_list (pv 1) (C8.pe_c GP hr (by decide) (by rfl) (pa_cons (pv 0) (pa_cons (pe_callB call_len_seq (by rfl) ml PySem.boot_len (pa_cons (pv 1) pa_nil)) pa_nil))) (fun _ _ => rfl))), ?_⟩
    refine ⟨_, rfl, _, rfl, _, rfl, o, xs, rfl, .inl (SqL.of ho), l, b, _, rfl, by omega, small_fit h1, hB, fun r H' r0 r1 hB' bt => ?_⟩
    have ho' : H' o = some (.lst xs) := by rw [bt o nob]; exact ho
    have hlt : r.toNat < xs.length := by omega
    exact ⟨o, xs, r, xs[r.toNat], rfl, rfl, SqL.of ho', at_in r0 hlt, q _ _ (List.getElem_mem hlt) hB' bt⟩
abbrev sLight : Stmt := topS 28
theorem scLight : FnScope ["_law_bag_here"] ["_law_bag_here"] (defScope sLight) := ⟨rfl, rfl, rfl, by decide +kernel, rfl, by decide +kernel, by decide +kernel⟩
/-- the end of a drawing: fr(t, d) -/
theorem draw_end {l b : Addr} {H H1 : Hp} {Q : VK} {E : XK} {t d : Int} (g : Grow b H H1) (B : Bag l b H1) (ht : t.natAbs < 10 ^ 12) (hd : d.natAbs < 10 ^ 12) (h0 : d ≠ 0)
    (q : ∀ (p : Addr) (t d : Int) (H' : Hp), Drawn t d → Bag l b H' → Grow b H H' → H p = none → H' p = some (.tup [.int t, .int d]) → Q (.ref p) H') : spFr [.int t, .int d] H1 Q E :=
  ⟨t, d, rfl, h0, fit8 (n := 45) (Nat.lt_trans hd (by decide)) (by decide), fun p H' sm hp ep => q p _ _ _ (drawn_fr ht hd h0) (B.same sm) (g.trans (Same.grow sm)) (g.free (B.ne hp) hp) ep⟩
theorem ok_light {f : Addr} {fd : FuncData} (F : Fun K "_law_light" "_law_light" sLight f fd) (GF : C8.Cal P w K mg base 2 "_law_fr" spFr []) (GP : C8.Cal P w K mg base 1 "_law_pull" spPull []) : FnOk P w K mg base CX0 3 f fd ["_law_bag_here"] spDraw := by
  refine F.ok scLight (fun vs H Q E h => ?_) (fun cdv A outer s H vs Q E hr h => ?_)
  · obtain ⟨l, b, rfl, _⟩ := h
    rfl
  · obtain ⟨l, b, rfl, B, q⟩ := h
    refine ⟨_, pss_one (ps_ret (C8.pe_c GF hr (by decide) (by rfl) (pa_cons (pe_op op_sub (C8.pe_c GP hr (by decide) (by rfl) (pa_cons (pv 0) (pa_cons pe_int pa_nil))) pe_int)
      (pa_cons (pe_ix ix_list (pe_lst (pa_cons pe_int (pa_cons pe_int (pa_cons pe_int (pa_cons pe_int (pa_cons pe_int (pa_cons pe_int pa_nil))))))) (C8.pe_c GP hr (by decide) (by rfl) (pa_cons (pv 0) (pa_cons pe_int pa_nil))) (fun _ _ => rfl)) pa_nil)))), ?_⟩
    refine ⟨_, rfl, l, b, 9, rfl, by decide, fit8 (n := 4) (by decide) (by decide), B, fun r H1 r0 r1 B1 t1 => ?_⟩
    refine ⟨r, 4, rfl, rfl, (by show 6 ≤ sizeLine; decide), fun o no => ?_⟩
    have B2 := B1.same (same_new (o := .lst [.int 1, .int 1, .int 1, .int 2, .int 3, .int 5]) no)
    refine ⟨_, rfl, l, b, 6, rfl, by decide, fit8 (n := 4) (by decide) (by decide), B2, fun r2 H2 s0 s1 B3 t2 => ?_⟩
    have nob := B1.ne no
    have ho : H2 o = some (.lst [.int 1, .int 1, .int 1, .int 2, .int 3, .int 5]) := by rw [t2 o nob, upd_same]
    have g : Grow b H H2 := t1.grow.trans ((Same.grow (same_new no)).trans t2.grow)
    have pick : ∃ d : Int, atI [V.int 1, V.int 1, V.int 1, V.int 2, V.int 3, V.int 5] r2 = some (.int d) ∧ 0 < d ∧ d ≤ 5 := by
      have : r2 = 0 ∨ r2 = 1 ∨ r2 = 2 ∨ r2 = 3 ∨ r2 = 4 ∨ r2 = 5 := by omega
      rcases this with e | e | e | e | e | e <;> subst e
      · exact ⟨1, rfl, by decide, by decide⟩
      · exact ⟨1, rfl, by decide, by decide⟩
      · exact ⟨1, rfl, by decide, by decide⟩
      · exact ⟨2, rfl, by decide, by decide⟩
      · exact ⟨3, rfl, by decide, by decide⟩
      · exact ⟨5, rfl, by decide, by decide⟩
    obtain ⟨d, hd, d0, d5⟩ := pick
    exact ⟨o, _, r2, _, rfl, rfl, SqL.of ho, hd, draw_end (E := C8.E0) g B3 (Nat.lt_of_le_of_lt (show (r - 4).natAbs ≤ 9 by omega) (by decide)) (Nat.lt_of_le_of_lt (show d.natAbs ≤ 9 by omega) (by decide)) (by omega) q⟩
abbrev sLShare : Stmt := topS 27
theorem scLShare : FnScope ["_law_bag_here", "_law_way"] ["_law_bag_here"] (defScope sLShare) := ⟨rfl, rfl, rfl, by decide +kernel, rfl, by decide +kernel, by decide +kernel⟩
theorem ok_law_share {f : Addr} {fd : FuncData} (F : Fun K "_law_share" "_law_share" sLShare f fd) (GF : C8.Cal P w K mg base 2 "_law_fr" spFr []) (GP : C8.Cal P w K mg base 1 "_law_pull" spPull []) (GL : C8.Cal P w K mg base 3 "_law_light" spDraw []) :
    FnOk P w K mg base CX0 4 f fd ["_law_bag_here"] spDraw := by
  refine F.ok scLShare (fun vs H Q E h => ?_) (fun cdv A outer s H vs Q E hr h => ?_)
  · obtain ⟨l, b, rfl, _⟩ := h
    rfl
  · obtain ⟨l, b, rfl, B, q⟩ := h
    refine ⟨_, pss_cons (ps_set (i := 1) scLShare.nd rfl (.inl rfl) (C8.pe_c GP hr (by decide) (by rfl) (pa_cons (pv 0) (pa_cons pe_int pa_nil))))
      (pss_cons (ps_if (pt_cmpR op_eq (pv 1) pe_int (nomark _)) (pss_one (ps_ret (C8.pe_c GF hr (by decide) (by rfl)
          (pa_cons (pe_op op_add (pe_op op_sub (C8.pe_c GP hr (by decide) (by rfl) (pa_cons (pv 0) (pa_cons (pe_op op_sub (pe_op op_mul pe_int (pe_op op_pow pe_int pe_int)) pe_int) pa_nil))) (pe_op op_pow pe_int pe_int)) pe_int)
          (pa_cons (pe_op op_add pe_int (C8.pe_c GP hr (by decide) (by rfl) (pa_cons (pv 0) (pa_cons (pe_op op_sub (pe_op op_pow pe_int pe_int) pe_int) pa_nil)))) pa_nil))))) pss_nil)
      (pss_cons (ps_if (pt_cmpR op_eq (pv 1) pe_int (nomark _)) (pss_one (ps_ret (C8.pe_c GF hr (by decide) (by rfl)
          (pa_cons (pe_ix ix_list (pe_lst (pa_cons (pe_op op_sub pe_int (pe_op op_pow pe_int pe_int)) (pa_cons (pe_op op_sub (pe_op op_pow pe_int pe_int) pe_int) pa_nil))) (C8.pe_c GP hr (by decide) (by rfl) (pa_cons (pv 0) (pa_cons pe_int pa_nil))) (fun _ _ => rfl))
          (pa_cons (pe_ix ix_list (pe_lst (pa_cons pe_int (pa_cons (pe_op op_sub (pe_op op_pow pe_int pe_int) pe_int) (pa_cons (pe_op op_sub (pe_op op_pow pe_int pe_int) pe_int) pa_nil)))) (C8.pe_c GP hr (by decide) (by rfl) (pa_cons (pv 0) (pa_cons pe_int pa_nil))) (fun _ _ => rfl)) pa_nil))))) pss_nil)
      (pss_one (ps_ret (C8.pe_c GL hr (by decide) (by rfl) (pa_cons (pv 0) pa_nil)))))), ?_⟩
    refine ⟨_, rfl, l, b, 12, rfl, by decide, fit8 (n := 4) (by decide) (by decide), B, fun r H1 r0 r1 B1 t1 => ?_⟩
    refine ⟨_, rfl, rfl, _, rfl, ite2 (fun c => ?_) (fun c => ?_)⟩
    · refine ⟨_, rfl, 10, 12, rfl, rfl, ⟨by decide, by decide, by decide⟩, 2, _, rfl, rfl, .inl ⟨by decide, by decide⟩, _, 1, rfl, rfl, l, b, 2 * 10 ^ 12 - 1, rfl, by decide, fit8 (n := 50) (by decide) (by decide), B1, fun r2 H2 s0 s1 B2 t2 => ?_⟩
      refine ⟨10, 12, rfl, rfl, ⟨by decide, by decide, by decide⟩, r2, 10 ^ 12, rfl, rfl, _, 1, rfl, rfl, _, rfl, 10, 12, rfl, rfl, ⟨by decide, by decide, by decide⟩, _, 1, rfl, rfl, l, b, 10 ^ 12 - 1, rfl, by decide, fit8 (n := 50) (by decide) (by decide), B2, fun r3 H3 u0 u1 B3 t3 => ?_⟩
      have k : (10 : Int) ^ 12 = 1000000000000 := by decide
      rw [k] at s1 u1
      refine ⟨1, r3, rfl, rfl, draw_end (E := C8.E0) (t1.grow.trans (t2.grow.trans t3.grow)) B3 ?_ ?_ (by omega) q⟩
      · rw [k]
        exact Nat.lt_of_le_of_lt (show (r2 - 1000000000000 + 1).natAbs ≤ 999999999999 by omega) (by decide)
      · exact Nat.lt_of_le_of_lt (show (1 + r3).natAbs ≤ 999999999999 by omega) (by decide)
    · refine ⟨_, rfl, rfl, _, rfl, ite2 (fun c => ?_) (fun c => ?_)⟩
      · refine ⟨10, 12, rfl, rfl, ⟨by decide, by decide, by decide⟩, 1, 10 ^ 12, rfl, rfl, 10, 12, rfl, rfl, ⟨by decide, by decide, by decide⟩, 10 ^ 12, 1, rfl, rfl, (by show 2 ≤ sizeLine; decide), fun o no => ?_⟩
        have B2 := B1.same (same_new (o := .lst [.int (1 - 10 ^ 12), .int (10 ^ 12 - 1)]) no)
        refine ⟨_, rfl, l, b, 2, rfl, by decide, fit8 (n := 4) (by decide) (by decide), B2, fun r2 H2 s0 s1 B3 t2 => ?_⟩
        have nob := B1.ne no
        have ho : H2 o = some (.lst [.int (1 - 10 ^ 12), .int (10 ^ 12 - 1)]) := by rw [t2 o nob, upd_same]
        have pick : ∃ d : Int, atI [V.int (1 - 10 ^ 12), V.int (10 ^ 12 - 1)] r2 = some (.int d) ∧ d.natAbs < 10 ^ 12 := by
          have : r2 = 0 ∨ r2 = 1 := by omega
          rcases this with e | e <;> subst e
          · exact ⟨1 - 10 ^ 12, rfl, by decide⟩
          · exact ⟨10 ^ 12 - 1, rfl, by decide⟩
        obtain ⟨t, ht, tb⟩ := pick
        refine ⟨o, _, r2, _, rfl, rfl, SqL.of ho, ht, 10, 12, rfl, rfl, ⟨by decide, by decide, by decide⟩, 10 ^ 12, 1, rfl, rfl, 10, 12, rfl, rfl, ⟨by decide, by decide, by decide⟩, 10 ^ 12, 2, rfl, rfl, (by show 3 ≤ sizeLine; decide), fun o2 no2 => ?_⟩
        have B4 := B3.same (same_new (o := .lst [.int 1, .int (10 ^ 12 - 1), .int (10 ^ 12 - 2)]) no2)
        refine ⟨_, rfl, l, b, 3, rfl, by decide, fit8 (n := 4) (by decide) (by decide), B4, fun r3 H3 u0 u1 B5 t3 => ?_⟩
        have ho2 : H3 o2 = some (.lst [.int 1, .int (10 ^ 12 - 1), .int (10 ^ 12 - 2)]) := by rw [t3 o2 (B3.ne no2), upd_same]
        have pick2 : ∃ d : Int, atI [V.int 1, V.int (10 ^ 12 - 1), V.int (10 ^ 12 - 2)] r3 = some (.int d) ∧ d.natAbs < 10 ^ 12 ∧ d ≠ 0 := by
          have : r3 = 0 ∨ r3 = 1 ∨ r3 = 2 := by omega
          rcases this with e | e | e <;> subst e
          · exact ⟨1, rfl, by decide, by decide⟩
          · exact ⟨10 ^ 12 - 1, rfl, by decide, by decide⟩
          · exact ⟨10 ^ 12 - 2, rfl, by decide, by decide⟩
        obtain ⟨d, hd, db, d0⟩ := pick2
        exact ⟨o2, _, r3, _, rfl, rfl, SqL.of ho2, hd, draw_end (E := C8.E0) (t1.grow.trans ((Same.grow (same_new no)).trans (t2.grow.trans ((Same.grow (same_new no2)).trans t3.grow)))) B5 tb db d0 q⟩
      · exact ⟨_, rfl, l, b, rfl, B1, fun p t d H2 dr B2 g n e => q p t d H2 dr B2 (t1.grow.trans g) (t1.grow.free (B1.ne n) n) e⟩
abbrev sBag : Stmt := topS 20
theorem scBag : FnScope ["_law_script", "_law_salt", "_law_cell"] ["_law_script"] (defScope sBag) := ⟨rfl, rfl, rfl, by decide +kernel, rfl, by decide +kernel, by decide +kernel⟩
/-- a new bag of a script -/
def spBag (K : PySem.W.Frag) : Sp := fun vs H Q _ => ∃ (a : Addr) (ns : List Int), vs = [.ref a] ∧ SqL K H a (ns.map V.int) ∧ ∀ (l b : Addr) (H' : Hp), Same H H' → H b = none → H l = none → Bag l b H' → Q (.ref b) H'
theorem cut63 (ns : List Int) : ∃ ms : List Int, cutV (ns.map V.int) none (some 63) = ms.map V.int := by
  refine ⟨(ns.drop (HT.sIx ns.length 0 none)).take (HT.sIx ns.length ns.length (some 63) - HT.sIx ns.length 0 none), ?_⟩
  unfold cutV
  rw [List.length_map, List.map_take, List.map_drop]
theorem ok_bag {f : Addr} {fd : FuncData} {k : Nat} (F : Fun K "_law_bag" "_law_bag" sBag f fd) (ml : mg "list" = none) : FnOk P w K mg base CX0 (k + 1) f fd ["_law_script"] (spBag K) := by
  refine F.ok scBag (fun vs H Q E h => ?_) (fun cdv A outer s H vs Q E hr h => ?_)
  · obtain ⟨a, ns, rfl, _⟩ := h
    rfl
  · obtain ⟨a, ns, rfl, hS, q⟩ := h
    refine ⟨_, pss_cons (ps_set (i := 1) scBag.nd rfl (.inl rfl) pe_int)
      (pss_cons (ps_for PassesOwn.never rfl (pi_list (pe_slice sl_list (pv 0) po_none (po_some pe_int))) (pg_name (i := 2) scBag.nd rfl (.inl rfl))
        (pss_one (ps_set (i := 1) scBag.nd rfl (.inl rfl) (pe_op op_mod (pe_op op_add (pe_op op_add (pe_op op_mul (pv 1) pe_int) (pe_op op_mod (pv 2) pe_int)) pe_int) pe_int))))
      (pss_one (ps_ret (pe_lst (pa_cons (pe_callTy call_list_of (by rfl) ml (by decide +kernel) (pa_cons (pe_slice sl_list (pv 0) po_none (po_some pe_int)) pa_nil)) (pa_cons pe_int (pa_cons pe_int (pa_cons (pv 1) (pa_cons pe_int pa_nil))))))))), ?_⟩
    obtain ⟨ms, em⟩ := cut63 ns
    refine ⟨_, rfl, 63, rfl, a, _, rfl, hS, fun c nc => ?_⟩
    rw [em]
    have sm : Same H (upd H c (.lst (ms.map V.int))) := same_new nc
    refine ⟨c, rfl, ⟨_, SqL.of upd_same⟩, for_list (K := K) (a := c) (xs := ms.map V.int) (fun i σ H' => ∃ (sa : Int) (y : Option V), σ = [some (.ref a), some (.int sa), y] ∧ 0 ≤ sa ∧ sa < 2147483647 ∧ H' = upd H c (.lst (ms.map V.int))) ⟨9454, none, rfl, by decide, by decide, rfl⟩
      (fun i σ H' _ hP => by obtain ⟨_, _, _, _, _, e⟩ := hP; rw [e]; exact SqL.of upd_same) ?_ ?_⟩
    · rintro i y σ H' hi ⟨sa, y2, rfl, h0, h1, rfl⟩
      obtain ⟨z, rfl⟩ : ∃ z : Int, y = .int z := by
        rw [List.getElem?_map] at hi
        cases e : ms[i]? with
        | none =>
          rw [e] at hi
          cases hi
        | some z =>
          rw [e] at hi
          exact ⟨z, (Option.some.inj hi).symm⟩
      refine ⟨_, rfl, sa, 48611, rfl, rfl, .inr ⟨by decide, by decide⟩, _, rfl, z, 2147483629, rfl, rfl, (by show (0 : Int) < _; decide), _, _, rfl, rfl, _, 23, rfl, rfl, _, 2147483647, rfl, rfl, (by show (0 : Int) < _; decide), ?_⟩
      exact ⟨_, some (.int z), rfl, Int.emod_nonneg _ (by decide), Int.emod_lt_of_pos _ (by decide), rfl⟩
    · rintro σ H' ⟨sa, y2, rfl, h0, h1, rfl⟩
      refine ⟨_, rfl, 63, rfl, a, _, rfl, sm.seq hS, fun c2 nc2 => ?_⟩
      rw [em]
      refine ⟨c2, _, rfl, .inl (SqL.of upd_same), fun l nl => ?_⟩
      refine ⟨_, rfl, (by show 5 ≤ sizeLine; decide), fun b nb => ?_⟩
      have s2 := sm.trans (same_new (o := .lst (ms.map V.int)) nc2)
      have s3 := s2.trans (same_new (o := .lst (ms.map V.int)) nl)
      have s4 := s3.trans (same_new (o := .lst (bagL l 0 0 sa 0)) nb)
      refine q l b _ s4 (s3.free nb) (s2.free nl) ⟨ms, ne_of_none upd_same nb, ?_, ⟨0, 0, sa, 0, upd_same, by decide, by decide, h0, h1⟩⟩
      rw [upd_ne (ne_of_none upd_same nb), upd_same]
end
/-! The law's own comparison: of equal data it tells True. -/
structure Scal (K : PySem.W.Frag) (x : V) : Prop where
  ex : ∃ (t : Value) (b1 b2 b3 : Bool), (∀ H, TyX K H x t) ∧ PySem.W.kitAny K t [.type "list", .type "tuple"] = some false ∧ PySem.W.kitOne K t (.type "bool") = some b1 ∧ PySem.W.kitOne K t (.type "int") = some b2 ∧ PySem.W.kitOne K t (.type "str") = some b3 ∧ scal x x = true
theorem kit2 {K : PySem.W.Frag} {t : String} {a b : String} (h1 : kitB t a = some false) (h2 : kitB t b = some false) : PySem.W.kitAny K (.type t) [.type a, .type b] = some false :=
  kitAny_cons (b := false) (kit_ty h1) (fun _ => kitAny_cons (b := false) (kit_ty h2) (fun _ => kitAny_nil) (fun z => nomatch z)) (fun z => nomatch z)
theorem Scal.int {K : PySem.W.Frag} (i : Int) : Scal K (.int i) := ⟨.type "int", false, true, false, fun _ => .base (.int i), kit2 (by decide +kernel) (by decide +kernel), kit_ty (by decide +kernel), kit_ty (by decide +kernel), kit_ty (by decide +kernel), rfl⟩
theorem Scal.str {K : PySem.W.Frag} (z : Str) : Scal K (.str z) := ⟨.type "str", false, false, true, fun _ => .base (.str z), kit2 (by decide +kernel) (by decide +kernel), kit_ty (by decide +kernel), kit_ty (by decide +kernel), kit_ty (by decide +kernel), rfl⟩
theorem Scal.bl {K : PySem.W.Frag} (b : Bool) : Scal K (.bl b) := ⟨.type "bool", true, true, false, fun _ => .base (.bl b), kit2 (by decide +kernel) (by decide +kernel), kit_ty (by decide +kernel), kit_ty (by decide +kernel), kit_ty (by decide +kernel), rfl⟩
theorem Scal.non {K : PySem.W.Frag} : Scal K .non := ⟨.type "NoneType", false, false, false, fun _ => .base .non, kit2 (by decide +kernel) (by decide +kernel), kit_ty (by decide +kernel), kit_ty (by decide +kernel), kit_ty (by decide +kernel), rfl⟩
/-- x and y are equal data, at most n within one another -/
def Twin (K : PySem.W.Frag) (H : Hp) : Nat → V → V → Prop
  | 0, x, y => x = y ∧ Scal K x
  | n + 1, x, y => (x = y ∧ Scal K x) ∨ ∃ (a b : Addr) (xs ys : List V), x = .ref a ∧ y = .ref b ∧ ((SqL K H a xs ∧ SqL K H b ys) ∨ (SqT K H a xs ∧ SqT K H b ys)) ∧ xs.length = ys.length ∧ ys.length ≤ 1000 ∧ ∀ (i : Nat) (u v : V), xs[i]? = some u → ys[i]? = some v → Twin K H n u v
theorem seqT {K : PySem.W.Frag} {H H' : Hp} {a : Addr} {xs : List V} (e : Same H H') (h : SqT K H a xs) : SqT K H' a xs := by
  rcases h with (h | ⟨o, h⟩) | h
  · exact .inl (.inl (e _ _ h))
  · exact .inl (.inr ⟨o, e _ _ h⟩)
  · exact .inr h
theorem Twin.same {K : PySem.W.Frag} {H H' : Hp} (s : Same H H') : ∀ {n : Nat} {x y : V}, Twin K H n x y → Twin K H' n x y
  | 0, _, _, h => h
  | n + 1, _, _, h => by
    rcases h with h | ⟨a, b, xs, ys, e1, e2, q, l, m, r⟩
    · exact .inl h
    · refine .inr ⟨a, b, xs, ys, e1, e2, ?_, l, m, fun i u v hu hv => (r i u v hu hv).same s⟩
      rcases q with ⟨q1, q2⟩ | ⟨q1, q2⟩
      · exact .inl ⟨s.seq q1, s.seq q2⟩
      · exact .inr ⟨seqT s q1, seqT s q2⟩
theorem Twin.one {K : PySem.W.Frag} {H : Hp} {x : V} (s : Scal K x) : ∀ n : Nat, Twin K H n x x
  | 0 => ⟨rfl, s⟩
  | _ + 1 => .inl ⟨rfl, s⟩
theorem tyL {K : PySem.W.Frag} {H : Hp} {a : Addr} {xs : List V} (h : SqL K H a xs) : TyX K H (.ref a) (.type "list") := by
  rcases h with (h | ⟨o, h⟩) | ⟨o, its, n, h1, h2, _⟩
  · exact .base (.lst h)
  · exact .base (.frz h)
  · exact .kList h1 h2
theorem tyT {K : PySem.W.Frag} {H : Hp} {a : Addr} {xs : List V} (h : SqT K H a xs) : TyX K H (.ref a) (.type "tuple") := by
  rcases h with (h | ⟨o, h⟩) | ⟨o, its, n, h1, h2, _⟩
  · exact .base (.tup h)
  · exact .fTuple h
  · exact .kTuple h1 h2
abbrev sSame : Stmt := topS 23
theorem scSame : FnScope ["_law_found", "_law_due", "_law_k"] ["_law_found", "_law_due"] (defScope sSame) := ⟨rfl, rfl, rfl, by decide +kernel, rfl, by decide +kernel, by decide +kernel⟩
def spSame (K : PySem.W.Frag) (n : Nat) : Sp := fun vs H Q _ => ∃ x y : V, vs = [x, y] ∧ Twin K H n x y ∧ ∀ H', Same H H' → Q (.bl true) H'
/-- the names that the comparison reads stand for the built-in ones -/
structure Blt (mg : Str → Option Value) : Prop where
  isi : mg "isinstance" = none
  lst : mg "list" = none
  tup : mg "tuple" = none
  len : mg "len" = none
  all : mg "all" = none
  rng : mg "range" = none
  bol : mg "bool" = none
  int : mg "int" = none
  str : mg "str" = none
  abs : mg "abs" = none
section
variable {P : Program} {w : World} {K : PySem.W.Frag} {mg : Str → Option Value} {base : Heap}
theorem not_same {b : Bool} {A B : Prop} (h : B) : if (!decide (V.bl b = V.bl b)) = true then A else B := by
  rw [decide_eq_true rfl]
  exact iteF h
theorem yes_if {σ : L2.St} {H : Hp} {A B : Hp → Prop} (h : A H) : tYes σ H fun b H3 => if b = true then A H3 else B H3 := by
  show if true = true then A H else B H
  exact iteT h
theorem ok_same {f : Addr} {fd : FuncData} (F : Fun K "_law_same" "_law_same" sSame f fd) (gf : mg "_law_same" = some (.ref f)) (bf : Binds K fd ["_law_found", "_law_due"] []) (T : Blt mg) :
    ∀ n : Nat, FnOk P w K mg base CX0 (n + 1) f fd ["_law_found", "_law_due"] (spSame K n) := by
  have top : ∀ (n k : Nat), (n = 0 ∨ ∃ m, n = m + 1 ∧ k = m + 1 ∧ FnOk P w K mg base CX0 (m + 1) f fd ["_law_found", "_law_due"] (spSame K m)) → FnOk P w K mg base CX0 (k + 1) f fd ["_law_found", "_law_due"] (spSame K n) := by
    intro n k hn
    -- what the recursion keeps: nothing at depth 0
    have G : ∃ (j : Nat) (sp : Sp), j ≤ k ∧ FnOk P w K mg base CX0 j f fd ["_law_found", "_law_due"] sp ∧ ∀ m, n = m + 1 → sp = spSame K m := by
      rcases hn with e | ⟨m, e, ek, g⟩
      · subst e
        exact ⟨0, fun _ _ _ _ => False, Nat.zero_le _, ⟨fun _ _ _ _ z => z.elim, fun _ _ _ _ _ _ _ _ _ _ _ _ _ z => z.elim⟩, fun m z => nomatch z⟩
      · exact ⟨m + 1, spSame K m, by omega, g, fun m' z => by rw [e] at z; cases z; rfl⟩
    obtain ⟨j, sp, hj, g, hsp⟩ := G
    refine F.ok scSame (fun vs H Q E h => ?_) (fun cdv A outer s H vs Q E hr h => ?_)
    · obtain ⟨x, y, rfl, _⟩ := h
      rfl
    · obtain ⟨x, y, rfl, tw, q⟩ := h
      refine ⟨_, pss_cons (ps_if (pt_val (pe_callB call_isiT (by rfl) T.isi (by decide +kernel) (pa_cons (pv 1) (pa_cons (pe_tup (pa_cons (pe_bltn (v := .ty "list") (by rfl) T.lst (by decide +kernel) rfl) (pa_cons (pe_bltn (v := .ty "tuple") (by rfl) T.tup (by decide +kernel) rfl) pa_nil))) pa_nil))))
          (pss_cons (ps_if (PW.pt (pw_or (pt_cmpR op_ne (pe_callB call_isi (by rfl) T.isi (by decide +kernel) (pa_cons (pv 0) (pa_cons (pe_bltn (v := .ty "list") (by rfl) T.lst (by decide +kernel) rfl) pa_nil))) (pe_callB call_isi (by rfl) T.isi (by decide +kernel) (pa_cons (pv 1) (pa_cons (pe_bltn (v := .ty "list") (by rfl) T.lst (by decide +kernel) rfl) pa_nil))) (nomark _))
              (pw_or1 (pt_cmpR op_ne (pe_callB call_isi (by rfl) T.isi (by decide +kernel) (pa_cons (pv 0) (pa_cons (pe_bltn (v := .ty "tuple") (by rfl) T.tup (by decide +kernel) rfl) pa_nil))) (pe_callB call_isi (by rfl) T.isi (by decide +kernel) (pa_cons (pv 1) (pa_cons (pe_bltn (v := .ty "tuple") (by rfl) T.tup (by decide +kernel) rfl) pa_nil))) (nomark _))))) (pss_one (ps_ret pe_bl)) pss_nil)
          (pss_one (ps_ret (pe_and (pe_cmpR op_eq (pe_callB call_len_seq (by rfl) T.len PySem.boot_len (pa_cons (pv 0) pa_nil)) (pe_callB call_len_seq (by rfl) T.len PySem.boot_len (pa_cons (pv 1) pa_nil)) (nomark _))
            (pe_one (pe_callB (cr_all rfl) (by rfl) T.all (by decide +kernel) (pa_cons (pe_lc (own := [("_law_k", 2)]) (g := gName 2) (tt := tYes) rfl scSame.nd (pi_range1 (by rfl) T.rng (pa_cons (pe_callB call_len_seq (by rfl) T.len PySem.boot_len (pa_cons (pv 1) pa_nil)) pa_nil))
              (blkOk_by (N := ["_law_found", "_law_due", "_law_k"]) (sc := defScope sSame) (by decide +kernel)) (fun _ _ _ _ _ => pg_name (i := 2) scSame.nd rfl (Or.inl rfl)) (fun _ _ _ _ _ => pts_nil)
              (fun _ _ _ _ _ => pe_call g (hr.mono hj) (by rfl) gf F.kp bf .nil pass0 (pa_cons (pe_ix (r := rIx K) ix_seq (pv 0) (pv 2) (fun _ _ => rfl)) (pa_cons (pe_ix (r := rIx K) ix_seq (pv 1) (pv 2) (fun _ _ => rfl)) pa_nil)))) pa_nil))))))) pss_nil)
        (pss_cons (ps_if (PW.pt (pw_or (pt_cmpR op_isN (pv 1) pe_non (nomark _)) (pw_or1 (pt_cmpR op_isN (pv 0) pe_non (nomark _))))) (pss_one (ps_ret (pe_and (pe_cmpR op_isN (pv 0) pe_non (nomark _)) (pe_one (pe_cmpR op_isN (pv 1) pe_non (nomark _)))))) pss_nil)
        (pss_cons (ps_if (PW.pt (pw_or (pt_cmpR op_ne (pe_callB call_isi (by rfl) T.isi (by decide +kernel) (pa_cons (pv 1) (pa_cons (pe_bltn (v := .ty "bool") (by rfl) T.bol (by decide +kernel) rfl) pa_nil))) (pe_callB call_isi (by rfl) T.isi (by decide +kernel) (pa_cons (pv 0) (pa_cons (pe_bltn (v := .ty "bool") (by rfl) T.bol (by decide +kernel) rfl) pa_nil))) (nomark _))
              (pw_or1 (pt_cmpR op_ne (pe_callB call_isi (by rfl) T.isi (by decide +kernel) (pa_cons (pv 1) (pa_cons (pe_bltn (v := .ty "int") (by rfl) T.int (by decide +kernel) rfl) pa_nil))) (pe_callB call_isi (by rfl) T.isi (by decide +kernel) (pa_cons (pv 0) (pa_cons (pe_bltn (v := .ty "int") (by rfl) T.int (by decide +kernel) rfl) pa_nil))) (nomark _))))) (pss_one (ps_ret pe_bl)) pss_nil)
        (pss_one (ps_ret (pe_and (pe_cmpR op_eq (pe_callB call_isi (by rfl) T.isi (by decide +kernel) (pa_cons (pv 1) (pa_cons (pe_bltn (v := .ty "str") (by rfl) T.str (by decide +kernel) rfl) pa_nil))) (pe_callB call_isi (by rfl) T.isi (by decide +kernel) (pa_cons (pv 0) (pa_cons (pe_bltn (v := .ty "str") (by rfl) T.str (by decide +kernel) rfl) pa_nil))) (nomark _))
            (pe_one (pe_cmpR op_eq (pv 0) (pv 1) (nomark _)))))))), ?_⟩
      refine ⟨_, rfl, (by show 2 ≤ sizeLine; decide), fun c nc => ?_⟩
      have sm : Same H (upd H c (.tup [.ty "list", .ty "tuple"])) := same_new nc
      have lt : Paired ClsV [V.ty "list", V.ty "tuple"] [.type "list", .type "tuple"] := .cons (.ty _) (.cons (.ty _) .nil)
      by_cases hs : x = y ∧ Scal K x
      · obtain ⟨rfl, ⟨t, b1, b2, b3, ty, k0, k1, k2, k3, ks⟩⟩ := hs
        refine ⟨x, c, _, t, _, false, rfl, upd_same, lt, ty _, k0, _, rfl, iteF ?_⟩
        refine ⟨_, rfl, rfl, _, rfl, ite2 (fun e => ?_) (fun e => ?_)⟩
        · have en : x = .non := of_decide_eq_true e
          subst en
          refine iteT ⟨_, rfl, rfl, _, rfl, iteT ⟨_, rfl, rfl, ?_⟩⟩
          exact q _ sm
        · refine ⟨_, rfl, rfl, _, rfl, ?_⟩
          rw [eq_false_of_ne_true e]
          refine iteF ?_
          refine ⟨_, rfl, x, _, t, _, b1, rfl, .ty _, ty _, k1, _, rfl, x, _, t, _, b1, rfl, .ty _, ty _, k1, rfl, _, rfl, not_same ?_⟩
          refine ⟨_, rfl, x, _, t, _, b2, rfl, .ty _, ty _, k2, _, rfl, x, _, t, _, b2, rfl, .ty _, ty _, k2, rfl, _, rfl, not_same ?_⟩
          refine ⟨_, rfl, x, _, t, _, b3, rfl, .ty _, ty _, k3, _, rfl, x, _, t, _, b3, rfl, .ty _, ty _, k3, rfl, _, rfl, ?_⟩
          rw [decide_eq_true rfl]
          refine iteT ⟨_, rfl, _, rfl, ks, ?_⟩
          rw [decide_eq_true rfl]
          exact q _ sm
      · cases n with
        | zero => exact absurd tw hs
        | succ m =>
          have esp := hsp m rfl
          subst esp
          rcases tw with tw | ⟨a, b, xs, ys, rfl, rfl, kd, hl, hl2, r⟩
          · exact absurd tw hs
          · have kd' : ∀ H', Same H H' → (SqL K H' a xs ∧ SqL K H' b ys) ∨ (SqT K H' a xs ∧ SqT K H' b ys) := fun H' z => by
              rcases kd with ⟨q1, q2⟩ | ⟨q1, q2⟩
              · exact .inl ⟨z.seq q1, z.seq q2⟩
              · exact .inr ⟨seqT z q1, seqT z q2⟩
            have tys : ∃ (t : Value) (b1 b2 : Bool), (∀ H', Same H H' → TyX K H' (.ref a) t ∧ TyX K H' (.ref b) t) ∧ PySem.W.kitAny K t [.type "list", .type "tuple"] = some true ∧ PySem.W.kitOne K t (.type "list") = some b1 ∧ PySem.W.kitOne K t (.type "tuple") = some b2 := by
              rcases kd with ⟨q1, q2⟩ | ⟨q1, q2⟩
              · exact ⟨.type "list", true, false, fun H' z => ⟨tyL (z.seq q1), tyL (z.seq q2)⟩, kitAny_cons (b := true) (kit_ty (by decide +kernel)) (fun z => nomatch z) (fun _ => rfl), kit_ty (by decide +kernel), kit_ty (by decide +kernel)⟩
              · exact ⟨.type "tuple", false, true, fun H' z => ⟨tyT (seqT z q1), tyT (seqT z q2)⟩, kitAny_cons (b := false) (kit_ty (by decide +kernel)) (fun _ => kitAny_cons (b := true) (kit_ty (by decide +kernel)) (fun z => nomatch z) (fun _ => rfl)) (fun z => nomatch z), kit_ty (by decide +kernel), kit_ty (by decide +kernel)⟩
            obtain ⟨t, b1, b2, ty, k0, k1, k2⟩ := tys
            have ls : ∀ H', Same H H' → (SqL K H' a xs ∨ SqT K H' a xs) ∧ (SqL K H' b ys ∨ SqT K H' b ys) := fun H' z => by
              rcases kd' H' z with ⟨q1, q2⟩ | ⟨q1, q2⟩
              · exact ⟨.inl q1, .inl q2⟩
              · exact ⟨.inr q1, .inr q2⟩
            have ixs : ∀ (H' : Hp), Same H H' → ∀ (zs : List V) (z : Addr) (i : Nat) (v : V) (Q' : VK), (SqL K H' z zs ∨ SqT K H' z zs) → zs[i]? = some v → Q' v H' → rIx K (.ref z) (.int (0 + (i : Int))) H' Q' := fun H' _ zs z i v Q' hz hv hq => by
              have e : (0 : Int) + (i : Int) = (i : Int) := Int.zero_add _
              rw [e]
              rcases hz with hz | hz
              · exact .inl ⟨z, zs, i, v, rfl, rfl, hz, atI_nat hv, hq⟩
              · exact .inr (.inl ⟨z, zs, i, v, rfl, rfl, hz, atI_nat hv, hq⟩)
            refine ⟨_, c, _, t, _, true, rfl, upd_same, lt, (ty _ sm).2, k0, _, rfl, iteT ?_⟩
            refine ⟨_, rfl, _, _, t, _, b1, rfl, .ty _, (ty _ sm).1, k1, _, rfl, _, _, t, _, b1, rfl, .ty _, (ty _ sm).2, k1, rfl, _, rfl, not_same ?_⟩
            refine ⟨_, rfl, _, _, t, _, b2, rfl, .ty _, (ty _ sm).1, k2, _, rfl, _, _, t, _, b2, rfl, .ty _, (ty _ sm).2, k2, rfl, _, rfl, not_same ?_⟩
            refine ⟨_, rfl, a, xs, rfl, (ls _ sm).1, _, rfl, b, ys, rfl, (ls _ sm).2, rfl, _, rfl, ?_⟩
            rw [hl, decide_eq_true rfl]
            refine iteT ⟨_, rfl, b, ys, rfl, (ls _ sm).2, (ys.length : Int), rfl, by omega, by omega, fun D hD => ?_⟩
            have sD := sm.trans (same_new (o := .lst []) hD)
            refine lc_range (lo := 0) (n := (ys.length : Int).toNat) (fun i H' => Same H H' ∧ H D = none ∧ H' D = some (.lst ((List.replicate i true).map V.bl))) ⟨sD, sm.free hD, upd_same⟩ (fun i H' hi hP => ?_) (fun H' hP => ?_)
            · obtain ⟨s1, nD, eD⟩ := hP
              have hi' : i < ys.length := by omega
              have hx : xs[i]? = some (xs[i]'(by omega)) := List.getElem?_eq_getElem (by omega)
              have hy : ys[i]? = some ys[i] := List.getElem?_eq_getElem hi'
              refine ⟨rfl, yes_if ?_⟩
              refine ⟨_, rfl, _, rfl, ixs H' s1 xs a i _ _ (ls _ s1).1 hx ⟨_, rfl, _, rfl, ixs H' s1 ys b i _ _ (ls _ s1).2 hy ⟨_, _, rfl, (r i _ _ hx hy).same s1, fun H2 s2 => ?_⟩⟩⟩
              refine ⟨_, s2 _ _ eD, ?_, ?_, nD, ?_⟩
              · rw [List.length_map, List.length_replicate]
                exact small1000 (by omega)
              · exact fun z o hz => by
                  rw [upd_ne (ne_of_none hz nD)]
                  exact s2 _ _ (s1 _ _ hz)
              · rw [upd_same, List.replicate_succ', List.map_append]
                rfl
            · obtain ⟨s1, nD, eD⟩ := hP
              refine ⟨D, List.replicate (ys.length : Int).toNat true, rfl, SqL.of eD, ?_⟩
              have e : (List.replicate (ys.length : Int).toNat true).all id = true := by
                rw [List.all_replicate]
                split <;> rfl
              rw [e]
              exact q _ s1
  intro n
  induction n with
  | zero => exact top 0 0 (.inl rfl)
  | succ m ih => exact top (m + 1) (m + 1) (.inr ⟨m, rfl, rfl, ih⟩)
end
open LamX
/-- keep, behind a statement -/
theorem keepN {a b : TS} {D : Ends} {rt : VK} {bk ct : L2.St → Hp → Prop} {σ : L2.St} {H : Hp} (M : L2.St → Hp → Prop) (h : ∀ σ' H', M σ' H' → b D σ' H') (k : (∀ σ' H', M σ' H' → b D σ' H') → a { D with nx := b D } σ H) : Ends.nx { nx := tSeq a b D, rt := rt, bk := bk, ct := ct } σ H := k h
/-- the bag and the tables of code objects stand -/
structure Ok (l b : Addr) (T : List (Addr × Str)) (H : Hp) : Prop where
  bag : Bag l b H
  tab : Tabs T H
theorem tabs_lst {D : Addr} {xs : List V} {T : List (Addr × Str)} {H H' : Hp} (hD : H D = some (.lst xs)) (t : Tabs T H) (g : Grow D H H') : Tabs T H' := fun p hp => by
  obtain ⟨ps, h1, h2, h3⟩ := t p hp
  refine ⟨ps, g _ _ (fun z => ?_) h1, h2, fun pos cv hc => ?_⟩
  · rw [z, hD] at h1
    cases h1
  · obtain ⟨c, e1, e2⟩ := h3 pos cv hc
    refine ⟨c, e1, g _ _ (fun z => ?_) e2⟩
    rw [z, hD] at e2
    have e3 := Option.some.inj e2
    unfold CodeO at e3
    cases e3
theorem tabs_grow {l b : Addr} {T : List (Addr × Str)} {H H' : Hp} (B : Bag l b H) (t : Tabs T H) (g : Grow b H H') : Tabs T H' := by
  obtain ⟨ns, _, _, ⟨i, j, s, n, hb, _⟩⟩ := B
  exact tabs_lst hb t g
theorem Ok.grow {l b : Addr} {T : List (Addr × Str)} {H H' : Hp} (o : Ok l b T H) (g : Grow b H H') (B : Bag l b H') : Ok l b T H' := ⟨B, tabs_grow o.bag o.tab g⟩
theorem Ok.same {l b : Addr} {T : List (Addr × Str)} {H H' : Hp} (o : Ok l b T H) (s : Same H H') : Ok l b T H' := ⟨o.bag.same s, o.tab.ext s⟩
theorem Ok.ext {l b : Addr} {T : List (Addr × Str)} {H H' : Hp} (o : Ok l b T H) (e : ExtN H H') (t : Tabs T H') : Ok l b T H' := by
  obtain ⟨ns, nl, hl, ⟨i, j, s, n, hb, r⟩⟩ := o.bag
  exact ⟨⟨ns, nl, e _ _ hl (fun _ z => nomatch z), ⟨i, j, s, n, e _ _ hb (fun _ z => nomatch z), r⟩⟩, t⟩
/-- a list that is being built stands beside the bag -/
theorem Bag.beside {l b D : Addr} {H : Hp} {o : HO} (B : Bag l b H) (n1 : D ≠ b) (n2 : D ≠ l) : Bag l b (upd H D o) := by
  obtain ⟨ns, nl, hl, ⟨i, j, s, n, hb, r⟩⟩ := B
  exact ⟨ns, nl, by rw [upd_ne n2.symm]; exact hl, ⟨i, j, s, n, by rw [upd_ne n1.symm]; exact hb, r⟩⟩
theorem Bag.neL {l b p : Addr} {H : Hp} (B : Bag l b H) (h : H p = none) : p ≠ l := fun z => by
  obtain ⟨ns, nl, hl, _⟩ := B
  rw [z, hl] at h
  cases h
def shV (t b : Int) : HO := .tup [.int t, .int b]
theorem twin_sh {K : PySem.W.Frag} {H : Hp} {p q : Addr} {t b : Int} (hp : H p = some (shV t b)) (hq : H q = some (shV t b)) : Twin K H 1 (.ref p) (.ref q) :=
  .inr ⟨p, q, _, _, rfl, rfl, .inr ⟨SqT.of hp, SqT.of hq⟩, rfl, (by show 2 ≤ 1000; decide), fun i u v hu hv => by
    have e : u = v := Option.some.inj (hu.symm.trans hv)
    subst e
    match i with
    | 0 => cases hu; exact ⟨rfl, Scal.int t⟩
    | 1 => cases hu; exact ⟨rfl, Scal.int b⟩
    | i + 2 => cases hu⟩
theorem Twin.up {K : PySem.W.Frag} {H : Hp} : ∀ {n : Nat} {x y : V}, Twin K H n x y → Twin K H (n + 1) x y
  | 0, _, _, h => .inl h
  | n + 1, _, _, h => by
    rcases h with h | ⟨a, b, xs, ys, e1, e2, q, l, m, r⟩
    · exact .inl h
    · exact .inr ⟨a, b, xs, ys, e1, e2, q, l, m, fun i u v hu hv => (r i u v hu hv).up⟩
theorem paired_at {R : V → V → Prop} : ∀ {xs ys : List V}, Paired R xs ys → ∀ (i : Nat) (u v : V), xs[i]? = some u → ys[i]? = some v → R u v
  | _, _, .nil, _, _, _, hu, _ => by cases hu
  | _, _, .cons h _, 0, _, _, hu, hv => by cases hu; cases hv; exact h
  | _, _, .cons _ r, i + 1, u, v, hu, hv => paired_at r i u v hu hv
/-- lists or tuples item by item -/
theorem twin_all {K : PySem.W.Frag} {H : Hp} {n : Nat} {a b : Addr} {xs ys : List V} (h : (SqL K H a xs ∧ SqL K H b ys) ∨ (SqT K H a xs ∧ SqT K H b ys)) (l : ys.length ≤ 1000) (r : Paired (Twin K H n) xs ys) : Twin K H (n + 1) (.ref a) (.ref b) :=
  .inr ⟨a, b, xs, ys, rfl, rfl, h, Paired.length r, l, paired_at r⟩
end Nv

set_option maxRecDepth 100000
set_option maxHeartbeats 4000000
namespace Nv
open PySem PySem.Spec PyProof.Rows L2 LamX
abbrev sBN : Stmt := inClass (topS 3) 0
abbrev sBS : Stmt := inClass (topS 2) 0
abbrev sShare : Stmt := topS 14
theorem scBN : FnScope ["self"] ["self"] (defScope sBN) := ⟨rfl, rfl, rfl, by decide +kernel, rfl, by decide +kernel, by decide +kernel⟩
theorem scBS : FnScope ["self"] ["self"] (defScope sBS) := ⟨rfl, rfl, rfl, by decide +kernel, rfl, by decide +kernel, by decide +kernel⟩
theorem scShare : FnScope ["top", "bottom", "divisor"] ["top", "bottom"] (defScope sShare) := ⟨rfl, rfl, rfl, by decide +kernel, rfl, by decide +kernel, by decide +kernel⟩
def spBN (C : Addr) (x : Str) : Sp := fun vs H Q _ => ∃ a : Addr, vs = [.ref a] ∧ H a = some (exo a C none) ∧ made a C x H Q
/-- what is known of the two classes: NeverError at CN (its __init__ at fN), ByNought at C (its __init__ at fI) -/
structure Errs (K : PySem.W.Frag) (mg : Str → Option Value) (x : Str) (CN C fN fI : Addr) : Prop where
  oex : OexC K C
  xf : XfC K C
  word : PySem.W.findIn K (.ref C) "word" = some none
  gC : mg x = some (.ref C)
  gN : mg "NeverError" = some (.ref CN)
  iC : PySem.W.findIn K (.ref C) "__init__" = some (some (.ref fI))
  tI : PySem.W.typeIn K (.ref fI) = some (.type "function")
  rd : ClX.CRead K CN (.type "type")
  cv : ClX.CVal K CN (.type "type") "__init__" (.ref fN) (.ref fN)
  kp : PySem.W.keepIn K (.ref fN) = true
  hit : PySem.W.exmOne K (.ref C) (.ref CN) = some true
section
variable {P : Program} {w : World} {K : PySem.W.Frag} {mg : Str → Option Value} {base : Heap} {CN C fN fI : Addr}
theorem ok_BN {f : Addr} {fd fdN : FuncData} (F : Fun K "__init__" "ByNought.__init__" sBN f fd) (R : Errs K mg "ByNought" CN C fN fI) (GN : FnOk P w K mg base CX0 1 fN fdN ["self", "word", "message"] (spNE K)) (bN : Binds K fdN ["self", "word", "message"] []) :
    FnOk P w K mg base CX0 2 f fd ["self"] (spBN C "ByNought") := by
  refine F.ok scBN (fun vs H Q E h => ?_) (fun cdv A outer s H vs Q E hr h => ?_)
  · obtain ⟨a, rfl, _⟩ := h
    rfl
  · obtain ⟨a, rfl, ha, q⟩ := h
    refine ⟨_, pss_one (ps_expr (pe_clsdef (pe_glob (v := .ref CN) (by rfl) R.gN rfl) R.rd R.cv R.kp GN hr bN .nil pass0 (pa_cons (pv 0) (pa_cons pe_str (pa_cons pe_str pa_nil))))), ?_⟩
    exact ⟨rfl, _, rfl, a, C, _, _, rfl, R.oex, R.word, ha, q⟩
theorem ok_BS {f : Addr} {fd fdN : FuncData} (F : Fun K "__init__" "BadShare.__init__" sBS f fd) (R : Errs K mg "BadShare" CN C fN fI) (GN : FnOk P w K mg base CX0 1 fN fdN ["self", "word", "message"] (spNE K)) (bN : Binds K fdN ["self", "word", "message"] []) :
    FnOk P w K mg base CX0 2 f fd ["self"] (spBN C "BadShare") := by
  refine F.ok scBS (fun vs H Q E h => ?_) (fun cdv A outer s H vs Q E hr h => ?_)
  · obtain ⟨a, rfl, _⟩ := h
    rfl
  · obtain ⟨a, rfl, ha, q⟩ := h
    refine ⟨_, pss_one (ps_expr (pe_clsdef (pe_glob (v := .ref CN) (by rfl) R.gN rfl) R.rd R.cv R.kp GN hr bN .nil pass0 (pa_cons (pv 0) (pa_cons pe_str (pa_cons pe_str pa_nil))))), ?_⟩
    exact ⟨rfl, _, rfl, a, C, _, _, rfl, R.oex, R.word, ha, q⟩
theorem up6 {n : Nat} (h : n < 2 ^ 6000) : n < 2 ^ 8000 := Nat.lt_of_lt_of_le h (Nat.pow_le_pow_right (by decide) (by decide))
/-- share(top, bottom) -/
def spShare (C : Addr) : Sp := fun vs H Q E => ∃ t b : Int, vs = [.int t, .int b] ∧ b.natAbs < 2 ^ 6000 ∧ (b ≠ 0 → newSh H Q (frT t b) (frB t b)) ∧
  (b = 0 → ∀ d H', Same H H' → H d = none → H' d = some (.xd (wordOf "ByNought")) → E (.ref C) (some d) H')
theorem ok_share {f : Addr} {fd fdI : FuncData} {dvs : List V} (F : FunD K "share" "share" (defArgs sShare) (defBody sShare) (defScope sShare) dvs [] f fd) (R : Errs K mg "ByNought" CN C fN fI)
    (GG : C8.Cal P w K mg base 1 "common_divisor" spPGcd []) (GI : FnOk P w K mg base CX0 2 fI fdI ["self"] (spBN C "ByNought")) (bI : Binds K fdI ["self"] []) : FnOk P w K mg base (L2.CX P w) 4 f fd ["top", "bottom"] (spShare C) := by
  refine F.ok scShare (fun vs H Q E h => ?_) (fun cdv A outer s H vs Q E hr h => ?_)
  · obtain ⟨a, b, rfl, _⟩ := h
    rfl
  · obtain ⟨t, b, rfl, hb, q1, q0⟩ := h
    refine ⟨_, pss_cons (ps_if (pt_cmpR op_eq (pv 1) pe_int (nomark _)) (pss_one (ps_raise rfl (takes_of rfl rfl rfl rfl) (pmk_bare R.oex R.iC R.tI GI hr bI pass0 (by rfl) R.gC))) pss_nil)
      (pss_cons (ps_set (i := 2) scShare.nd rfl (.inl rfl) (C8.pe_c GG hr (by decide) (by rfl) (pa_cons (pv 0) (pa_cons (pv 1) pa_nil))))
      (pss_cons (ps_if (pt_cmpR op_lt (pv 1) pe_int (nomark _)) (pss_one (ps_set (i := 2) scShare.nd rfl (.inl rfl) (pe_un un_neg (pv 2)))) pss_nil)
      (pss_one (ps_ret (pe_tup (pa_cons (pe_op op_div (pv 0) (pv 2)) (pa_cons (pe_op op_div (pv 1) (pv 2)) pa_nil))))))), ?_⟩
    refine ⟨_, rfl, rfl, _, rfl, ite2 (fun c => ?_) (fun c => ?_)⟩
    · have e : b = 0 := V.int.inj (of_decide_eq_true c)
      refine ⟨by decide, fun a na => ⟨a, rfl, upd_same, fun dx nx ne => ⟨rfl, dx, wordOf "ByNought", upd_same, ?_, ?_, ?_⟩⟩⟩
      · rw [upd_ne ne, upd_same]
      · rw [upd_ne ne] at nx
        exact nx
      · refine q0 e dx _ (fun z o hz => ?_) ?_ upd_same
        · have h1 : z ≠ a := ne_of_none hz na
          have h2 : z ≠ dx := fun y => by
            rw [upd_ne ne, ← y, hz] at nx
            cases nx
          rw [upd_ne h2, del_ne h1, upd_ne h1, upd_ne h2, upd_ne h1]
          exact hz
        · rw [upd_ne ne] at nx
          exact nx
    · have e : b ≠ 0 := fun z => c (by
        subst z
        exact decide_eq_true rfl)
      refine ⟨_, rfl, _, rfl, t, b, rfl, hb, ?_⟩
      have fin : ∀ d : Int, d = per t b → tRet (tTup (tCons (tOp (rI DivOk fun i j => .int (i.fdiv j)) (tVar 0) (tVar 2)) (tCons (tOp (rI DivOk fun i j => .int (i.fdiv j)) (tVar 1) (tVar 2)) tNil)))
          { nx := fun _ H' => Q .non H', rt := Q } [some (.int t), some (.int b), some (.int d)] H := fun d hd => by
        have ok : DivOk t d := ⟨by rw [hd]; exact per_ne t e, by rw [hd]; exact up6 (Nat.lt_of_le_of_lt (per_le t e) hb)⟩
        refine ⟨_, rfl, _, rfl, t, d, rfl, rfl, ok, _, rfl, _, rfl, b, d, rfl, rfl, ok, (by show 2 ≤ sizeLine; decide), fun p hp => ?_⟩
        rw [hd]
        exact (q1 e).at_ p hp
      refine ⟨_, rfl, b, 0, rfl, rfl, _, rfl, ite2 (fun c2 => ?_) (fun c2 => ?_)⟩
      · have l : b < 0 := of_decide_eq_true c2
        refine ⟨_, rfl, _, rfl, ?_⟩
        exact fin _ (by unfold per; rw [if_pos l])
      · have l : ¬ b < 0 := fun z => c2 (decide_eq_true z)
        exact fin _ (by unfold per; rw [if_neg l])

/-- a def that may raise, called by its name -/
structure CalX (P : Program) (w : World) (K : PySem.W.Frag) (mg : Str → Option Value) (base : Heap) (k : Nat) (x : Str) (sp : Sp) (dvs : List V) : Prop where
  ex : ∃ (f : Addr) (fd : FuncData) (ps : List Str) (ds : List Value), FnOk P w K mg base (L2.CX P w) k f fd ps sp ∧ mg x = some (.ref f) ∧ PySem.W.keepIn K (.ref f) = true ∧ Binds K fd ps ds ∧ Vals dvs ds
section
variable {X : Cx} {k j : Nat} {x : Str} {sp : Sp} {dvs : List V} {e : Expr} {es : List Expr} {p pos : Pos} {t : TA} {E : XK}
theorem pe_cxE (c : CalX X.prog X.w X.K X.mg X.base k x sp dvs) (hr : Room j X.A) (hk : k ≤ j) (hx : Passes (L2.CX X.prog X.w) X E) (hg : Gl X x) (ha : PA X (e :: es) t)
    (hdb : (x == ("__debug__" : Str)) = false := by decide) (he : starEach (e :: es) X.env = (false, eval e X.env) :: starEach es X.env := by rfl) (hpl : (backTo pos (starEach es X.env)).any (·.1) = false := by rfl) :
    PE X (.Call (.Name x p) (e :: es) [] pos) (tCall sp dvs E t) := by
  obtain ⟨f, fd, ps, ds, F, hm, kp, b, d⟩ := c.ex
  exact pe_call F (hr.mono hk) hg hm kp b d hx ha hdb he hpl
theorem pe_cx (c : CalX X.prog X.w X.K X.mg X.base k x sp dvs) (hr : Room j X.A) (hk : k ≤ j) (hg : Gl X x) (ha : PA X (e :: es) t)
    (hdb : (x == ("__debug__" : Str)) = false := by decide) (he : starEach (e :: es) X.env = (false, eval e X.env) :: starEach es X.env := by rfl) (hpl : (backTo pos (starEach es X.env)).any (·.1) = false := by rfl) :
    PE X (.Call (.Name x p) (e :: es) [] pos) (tCall sp dvs L2.E0 t) := pe_cxE c hr hk passL hg ha hdb he hpl
end
/-! texts -/
theorem ofS (n : Nat) : Str.ofString (toString ((n : Nat) : Int)) = SX.S (TL.numL n) := SX.num_S n
theorem str_empty : Str.ofString "" = SX.S [] := by decide +kernel
theorem str_minus : Str.ofString "-" = SX.S [45] := by decide +kernel
theorem str_stroke : Str.ofString "/" = SX.S [47] := by decide +kernel
theorem log60 {i : Int} (h : i.natAbs < 10 ^ 60) : i.natAbs.log2 < 1920 := Nat.lt_trans (PySem.Flt.log2_lt_of (k := 200) (by decide) (Nat.lt_of_lt_of_le h (by decide))) (by decide)
abbrev sFig : Stmt := topS 15
abbrev sText : Stmt := topS 16
theorem scFig : FnScope ["number", "pieces", "piece"] ["number"] (defScope sFig) := ⟨rfl, rfl, rfl, by decide +kernel, rfl, by decide +kernel, by decide +kernel⟩
theorem scText : FnScope ["one", "top", "bottom", "text"] ["one"] (defScope sText) := ⟨rfl, rfl, rfl, by decide +kernel, rfl, by decide +kernel, by decide +kernel⟩
def spFig : Sp := fun vs H Q _ => ∃ i : Int, vs = [.int i] ∧ 0 ≤ i ∧ i.natAbs < 10 ^ 60 ∧ ∀ H', Same H H' → Q (.str (SX.S (TL.numL i.natAbs))) H'
def spText (K : PySem.W.Frag) : Sp := fun vs H Q _ => ∃ (p : Addr) (t d : Int), vs = [.ref p] ∧ SqT K H p [.int t, .int d] ∧ t.natAbs < 10 ^ 60 ∧ 0 < d ∧ d.natAbs < 10 ^ 60 ∧ ∀ H', Same H H' → Q (.str (SX.S (textL t d))) H'
/-- the names of the top that the program's texts are made with -/
structure Tops (mg : Str → Option Value) : Prop where
  piece : ∃ t, mg "PIECE" = some (.int (10 ^ 60) t)
  len : ∃ t, mg "PIECE_LENGTH" = some (.int 60 t)
  most : ∃ t, mg "MOST_FIGURES" = some (.int 12 t)
  figs : ∃ t, mg "FIGURES" = some (.str "0123456789" t)
  rev : mg "reversed" = none
  dvm : mg "divmod" = none
  any : mg "any" = none
section
variable {P : Program} {w : World} {K : PySem.W.Frag} {mg : Str → Option Value} {base : Heap} {CN C fN fI : Addr}
theorem ok_fig {f : Addr} {fd : FuncData} {k : Nat} (F : Fun K "figures_of" "figures_of" sFig f fd) (T : Blt mg) (Z : Tops mg) : FnOk P w K mg base CX0 (k + 1) f fd ["number"] spFig := by
  obtain ⟨t1, h1⟩ := Z.piece
  obtain ⟨t2, h2⟩ := Z.len
  refine F.ok scFig (fun vs H Q E h => ?_) (fun cdv A outer s H vs Q E hr h => ?_)
  · obtain ⟨i, rfl, _⟩ := h
    rfl
  · obtain ⟨i, rfl, i0, i1, q⟩ := h
    refine ⟨_, pss_cons (ps_set (i := 1) scFig.nd rfl (.inl rfl) (pe_lst pa_nil))
      (pss_cons (ps_while PassesOwn.never (pt_cmpR op_ge (pv 0) (pe_glob (v := .int (10 ^ 60)) (by rfl) h1 ⟨_, rfl⟩) (nomark _))
        (pss_cons (ps_asg (pe_callB call_divmod (by rfl) Z.dvm (by decide +kernel) (pa_cons (pv 0) (pa_cons (pe_glob (v := .int (10 ^ 60)) (by rfl) h1 ⟨_, rfl⟩) pa_nil))) (pg_tup rfl (pgs_cons (pg_name (i := 0) scFig.nd rfl (.inl rfl)) (pgs_cons (pg_name (i := 2) scFig.nd rfl (.inl rfl)) pgs_nil))))
        (pss_one (ps_expr (pe_bm PySem.F.plainAttrs_list PySem.F.slot_list_append PySem.F.type_list_append mt_append (pv 1) (pa_cons (pe_bm PySem.F.plainAttrs_str PySem.F.slot_str_zfill PySem.F.type_str_zfill mt_zfill (pe_callTy call_str_int (by rfl) T.str (by decide +kernel) (pa_cons (pv 2) pa_nil)) (pa_cons (pe_glob (v := .int 60) (by rfl) h2 ⟨_, rfl⟩) pa_nil)) pa_nil))))))
      (pss_cons (ps_expr (pe_bm PySem.F.plainAttrs_list PySem.F.slot_list_append PySem.F.type_list_append mt_append (pv 1) (pa_cons (pe_callTy call_str_int (by rfl) T.str (by decide +kernel) (pa_cons (pv 0) pa_nil)) pa_nil)))
      (pss_one (ps_ret (pe_joinRev rfl pe_str (by rfl) Z.rev (pv 1)))))), ?_⟩
    refine ⟨Nat.zero_le _, fun l nl => ?_⟩
    have s1 := same_new (o := .lst []) nl
    refine while_by (fun σ H' => σ = [some (.int i), some (.ref l), none] ∧ H' = upd H l (.lst [])) (fun _ _ => 0) ⟨rfl, rfl⟩ (fun σ H' hP => ?_) (fun σ H Q Q' hh hc => ?_)
    · obtain ⟨rfl, rfl⟩ := hP
      refine ⟨_, rfl, i, _, rfl, rfl, _, rfl, ite2 (fun c => ?_) (fun c => ?_)⟩
      · have z := of_decide_eq_true c
        have z2 : (10 : Int) ^ 60 = 1000000000000000000000000000000000000000000000000000000000000 := by decide
        have z3 : (10 : Nat) ^ 60 = 1000000000000000000000000000000000000000000000000000000000000 := by decide
        rw [z2] at z
        rw [z3] at i1
        omega
      · refine ⟨_, rfl, .inl ⟨rfl, _, SqL.of upd_same⟩, _, rfl, i, rfl, log60 i1, l, _, _, rfl, rfl, upd_same, (by show 0 < sizeLine; decide), ?_⟩
        have ei : Str.ofString (toString i) = SX.S (TL.numL i.natAbs) := by
          have : i = ((i.natAbs : Nat) : Int) := by omega
          rw [this]
          exact ofS _
        have ll : (TL.numL i.natAbs).length ≤ 60 := TL.numL_len (by decide) i1
        refine ⟨⟨_, rfl⟩, _, rfl, _, l, [Str.ofString (toString i)], rfl, rfl, SqL.of upd_same, ?_, ?_⟩
        · rw [ei]
          show ((SX.S (TL.numL i.natAbs)).length + 0) + 1 * (Str.ofString "").length ≤ 16777216
          rw [SX.S_len, str_empty, SX.S_len]
          show _ + 1 * 0 ≤ _
          omega
        · have ej : Txt.join (Str.ofString "") [Str.ofString (toString i)].reverse = SX.S (TL.numL i.natAbs) := by
            rw [ei, str_empty]
            exact SX.join_S [] [TL.numL i.natAbs]
          rw [ej]
          refine q _ (fun z o hz => ?_)
          have nz := ne_of_none hz nl
          rw [upd_ne nz, upd_ne nz]
          exact hz
    · obtain ⟨v, e1, a1, a2, e2, e3, k, e4, e5⟩ := hc
      exact ⟨v, e1, a1, a2, e2, e3, k, e4, hh _ _ e5⟩
theorem ok_text {f : Addr} {fd : FuncData} (F : Fun K "share_text" "share_text" sText f fd) (T : Blt mg) (GF : C8.Cal P w K mg base 1 "figures_of" spFig []) : FnOk P w K mg base CX0 2 f fd ["one"] (spText K) := by
  refine F.ok scText (fun vs H Q E h => ?_) (fun cdv A outer s H vs Q E hr h => ?_)
  · obtain ⟨p, t, d, rfl, _⟩ := h
    rfl
  · obtain ⟨p, t, d, rfl, hp, ht, d0, hd, q⟩ := h
    refine ⟨_, pss_cons (ps_asg (pv 0) (pg_tup rfl (pgs_cons (pg_name (i := 1) scText.nd rfl (.inl rfl)) (pgs_cons (pg_name (i := 2) scText.nd rfl (.inl rfl)) pgs_nil))))
      (pss_cons (ps_set (i := 3) scText.nd rfl (.inl rfl) (C8.pe_c GF hr (by decide) (by rfl) (pa_cons (pe_callB call_abs (by rfl) T.abs (by decide +kernel) (pa_cons (pv 1) pa_nil)) pa_nil)))
      (pss_cons (ps_if (pt_cmpR op_lt (pv 1) pe_int (nomark _)) (pss_one (ps_set (i := 3) scText.nd rfl (.inl rfl) (pe_op op_add_str pe_str (pv 3)))) pss_nil)
      (pss_cons (ps_if (pt_cmpR op_ne (pv 2) pe_int (nomark _)) (pss_one (ps_set (i := 3) scText.nd rfl (.inl rfl) (pe_op op_add_str (pe_op op_add_str (pv 3) pe_str) (C8.pe_c GF hr (by decide) (by rfl) (pa_cons (pv 2) pa_nil))))) pss_nil)
      (pss_one (ps_ret (pv 3)))))), ?_⟩
    have lt : (TL.numL t.natAbs).length ≤ 60 := TL.numL_len (by decide) ht
    have ld : (TL.numL d.natAbs).length ≤ 60 := TL.numL_len (by decide) hd
    have ea : (if t < 0 then -t else t).natAbs = t.natAbs := by split <;> omega
    refine ⟨_, rfl, p, _, rfl, hp, rfl, _, _, rfl, _, _, rfl, rfl, _, rfl, t, rfl, _, rfl, by split <;> omega, by rw [ea]; exact ht, fun H1 s1 => ?_⟩
    rw [ea]
    refine keepN (fun σ' H' => σ' = [some (.ref p), some (.int t), some (.int d), some (.str (SX.S ((if t < 0 then [45] else []) ++ TL.numL t.natAbs)))] ∧ H' = H1) (fun σ' H' hM => ?_) (fun rest => ?_)
    · obtain ⟨rfl, rfl⟩ := hM
      refine ⟨_, rfl, rfl, _, rfl, ite2 (fun c => ?_) (fun c => ?_)⟩
      · have e : d ≠ 1 := fun z => by
          rw [z, decide_eq_true rfl] at c
          cases c
        have l1 : ((if t < 0 then [45] else []) ++ TL.numL t.natAbs).length ≤ 61 := by
          rw [List.length_append]
          split
          · show 1 + _ ≤ _; omega
          · show 0 + _ ≤ _; omega
        refine ⟨_, rfl, _, _, rfl, rfl, ?_, _, rfl, d, rfl, by omega, hd, fun H2 s2 => ⟨_, _, rfl, rfl, ?_, _, rfl, ?_⟩⟩
        · rw [SX.S_len, str_stroke, SX.S_len, sizeLine_eq]
          show _ + 1 ≤ _
          omega
        · rw [str_stroke, SX.S_cat, SX.S_len, SX.S_len, List.length_append, sizeLine_eq]
          show _ + 1 + _ ≤ _
          omega
        · rw [str_stroke, SX.S_cat, SX.S_cat]
          have et : (if t < 0 then [45] else []) ++ TL.numL t.natAbs ++ [47] ++ TL.numL d.natAbs = textL t d := by
            unfold textL
            rw [if_pos e, List.append_assoc _ [47]]
            rfl
          rw [et]
          exact q _ (s1.trans s2)
      · have e : d = 1 := Classical.byContradiction fun z => c (by
          rw [decide_eq_false (fun y => z (V.int.inj y))]
          rfl)
        refine ⟨_, rfl, ?_⟩
        have et : (if t < 0 then [45] else []) ++ TL.numL t.natAbs = textL t d := by
          unfold textL
          rw [if_neg (show ¬ (d ≠ 1) from fun z => z e), List.append_nil]
        rw [et]
        exact q _ s1
    · refine ⟨_, rfl, t, 0, rfl, rfl, _, rfl, ite2 (fun c => ?_) (fun c => ?_)⟩
      · have e : t < 0 := of_decide_eq_true c
        refine ⟨_, rfl, _, _, rfl, rfl, ?_, ?_⟩
        · rw [str_minus, SX.S_len, SX.S_len, sizeLine_eq]
          show 1 + _ ≤ _
          omega
        · refine rest _ _ ⟨?_, rfl⟩
          rw [str_minus, SX.S_cat, if_pos e]
          rfl
      · have e : ¬ t < 0 := fun z => c (decide_eq_true z)
        refine rest _ _ ⟨?_, rfl⟩
        rw [if_neg e]
        rfl
end
section
end
end
end Nv

set_option maxRecDepth 100000
set_option maxHeartbeats 4000000
namespace Nv
open PySem PySem.Spec PyProof.Rows L2 LamX
abbrev sFigs : Stmt := topS 17
abbrev sRead : Stmt := topS 18
theorem scFigs : FnScope ["text", "sign"] ["text"] (defScope sFigs) := ⟨rfl, rfl, rfl, by decide +kernel, rfl, by decide +kernel, by decide +kernel⟩
/-- an error of class C with its word comes out -/
def raises (H : Hp) (E : XK) (C : Addr) (x : Str) : Prop := ∀ d H', Same H H' → H d = none → H' d = some (.xd (wordOf x)) → E (.ref C) (some d) H'
def figsL : List Nat := [48, 49, 50, 51, 52, 53, 54, 55, 56, 57]
theorem figs_eq : Str.ofString "0123456789" = SX.S figsL := by decide +kernel
theorem figs_in (c : Nat) : decide (c ∈ figsL) = isDig c := by
  unfold isDig figsL
  rw [← Bool.decide_and]
  refine decide_eq_decide.mpr ?_
  simp only [List.mem_cons, List.not_mem_nil, or_false]
  omega
theorem any_not (L : List Nat) : (L.map fun c => !isDig c).any id = !(L.all isDig) := by
  induction L with
  | nil => rfl
  | cons c L ih =>
    rw [List.map_cons, List.any_cons, List.all_cons, ih]
    cases isDig c <;> rfl
theorem one_S (c : Nat) : (⟨#[c]⟩ : Str) = SX.S [c] := rfl
def spFigs (C : Addr) : Sp := fun vs H Q E => ∃ L : List Nat, vs = [.str (SX.S L)] ∧ L.length ≤ 1000 ∧ (∀ a, fig L = some a → ∀ H', Same H H' → Q (.int (a : Nat)) H') ∧ (fig L = none → raises H E C "BadShare")
section
variable {P : Program} {w : World} {K : PySem.W.Frag} {mg : Str → Option Value} {base : Heap} {CN C fN fI : Addr}
theorem raises.same {H H1 : Hp} {E : XK} {x : Str} (s : Same H H1) (q : raises H E C x) : raises H1 E C x := fun d H' s' n e => q d H' (s.trans s') (s.free n) e
/-- the raising of an error without arguments -/
theorem raise_bare {H : Hp} {E : XK} {x : Str} (q : raises H E C x) : ([] : List V).length ≤ 1000 ∧ ∀ a, H a = none → spBN C x (.ref a :: ([] ++ [])) (upd H a (exo a C none))
    (fun v H2 => v = .non ∧ ∃ (d : Addr) (fs : List (Str × V)), H2 a = some (exo a C (some d)) ∧ H2 d = some (exd d fs) ∧ H d = none ∧ E (.ref C) (some d) (upd (del H2 a) d (.xd fs))) (fun _ _ _ => False) := by
  refine ⟨by decide, fun a na => ⟨a, rfl, upd_same, fun dx nx ne => ⟨rfl, dx, wordOf x, upd_same, ?_, ?_, ?_⟩⟩⟩
  · rw [upd_ne ne, upd_same]
  · rw [upd_ne ne] at nx
    exact nx
  · refine q dx _ (fun z o hz => ?_) ?_ upd_same
    · have h1 : z ≠ a := ne_of_none hz na
      have h2 : z ≠ dx := fun y => by
        rw [upd_ne ne, ← y, hz] at nx
        cases nx
      rw [upd_ne h2, del_ne h1, upd_ne h1, upd_ne h2, upd_ne h1]
      exact hz
    · rw [upd_ne ne] at nx
      exact nx
theorem ok_figs {f : Addr} {fd fdI : FuncData} (F : Fun K "read_figures" "read_figures" sFigs f fd) (T : Blt mg) (Z : Tops mg) (R : Errs K mg "BadShare" CN C fN fI)
    (GI : FnOk P w K mg base CX0 2 fI fdI ["self"] (spBN C "BadShare")) (bI : Binds K fdI ["self"] []) : FnOk P w K mg base (L2.CX P w) 4 f fd ["text"] (spFigs C) := by
  obtain ⟨t1, h1⟩ := Z.most
  obtain ⟨t2, h2⟩ := Z.figs
  refine F.okX scFigs (fun vs H Q E h => ?_) (fun cdv A outer s H vs Q E hr h => ?_)
  · obtain ⟨L, rfl, _⟩ := h
    rfl
  · obtain ⟨L, rfl, hl0, q1, q0⟩ := h
    have hl : (SX.S L).length ≤ sizeLine := by rw [SX.S_len, sizeLine_eq]; omega
    refine ⟨_, pss_cons (ps_if (PW.pt (pw_or (pt_cmpR op_eq (pv 0) pe_str (nomark _)) (pw_or1 (pt_cmpR op_gt (pe_callB call_len_str (by rfl) T.len PySem.boot_len (pa_cons (pv 0) pa_nil)) (pe_glob (v := .int 12) (by rfl) h1 ⟨_, rfl⟩) (nomark _)))))
        (pss_one (ps_raise rfl (takes_of rfl rfl rfl rfl) (pmk_bare R.oex R.iC R.tI GI hr bI pass0 (by rfl) R.gC))) pss_nil)
      (pss_cons (ps_if (pt_val (pe_callB (cr_any rfl) (by rfl) Z.any (by decide +kernel) (pa_cons (pe_lc (own := [("sign", 1)]) (g := gName 1) (tt := tYes) rfl scFigs.nd (pi_str (pv 0))
              (blkOk_by (N := ["text", "sign"]) (sc := defScope sFigs) (by decide +kernel)) (fun _ _ _ _ _ => pg_name (i := 1) scFigs.nd rfl (Or.inl rfl)) (fun _ _ _ _ _ => pts_nil)
              (fun _ _ _ _ _ => pe_cmpR op_notIn_sign (pv 1) (pe_glob (v := .str "0123456789") (by rfl) h2 ⟨_, rfl⟩) (by rfl))) pa_nil)))
        (pss_one (ps_raise rfl (takes_of rfl rfl rfl rfl) (pmk_bare R.oex R.iC R.tI GI hr bI pass0 (by rfl) R.gC))) pss_nil)
      (pss_one (ps_ret (pe_callTy call_int_str (by rfl) T.int (by decide +kernel) (pa_cons (pv 0) pa_nil))))), ?_⟩
    refine ⟨_, rfl, rfl, _, rfl, ite2 (fun c => ?_) (fun c => ?_)⟩
    · have e : L = [] := by
        have z := V.str.inj (of_decide_eq_true c)
        rw [str_empty] at z
        exact congrArg TL.tl z
      refine iteT (raise_bare (q0 ?_))
      rw [e]
      rfl
    · have e : L ≠ [] := fun z => c (by
        rw [z, str_empty]
        exact decide_eq_true rfl)
      refine ⟨_, rfl, _, rfl, hl, _, 12, rfl, rfl, _, rfl, ite2 (fun c2 => ?_) (fun c2 => ?_)⟩
      · have z := of_decide_eq_true c2
        rw [SX.S_len] at z
        refine raise_bare (q0 ?_)
        unfold fig
        exact if_neg fun y => by omega
      · have l12 : L.length ≤ 12 := by
          have z : ¬ (12 : Int) < ((SX.S L).length : Int) := fun z => c2 (decide_eq_true z)
          rw [SX.S_len] at z
          omega
        refine ⟨_, rfl, _, rfl, fun D hD => ?_⟩
        refine lc_it (walk_str (z := SX.S L)) (fun i H' => Same H H' ∧ H' D = some (.lst (((L.take i).map fun c => !isDig c).map V.bl))) ⟨same_new hD, upd_same⟩ (fun _ _ _ _ => trivial) (fun i x H1 H2 hi hP hY => ?_) (fun H' hP => ?_)
        · obtain ⟨s1, eD⟩ := hP
          obtain ⟨rfl, c0, hc0, rfl⟩ := hY
          have hc1 : L[i]? = some c0 := by simpa [SX.S] using hc0
          refine ⟨rfl, yes_if ⟨_, rfl, c0, _, rfl, rfl, _, eD, ?_, ?_, ?_⟩⟩
          · rw [List.length_map, List.length_map, List.length_take]
            exact small1000 (by omega)
          · exact fun z o hz => by
              rw [upd_ne (ne_of_none hz hD)]
              exact s1 _ _ hz
          · rw [upd_same, List.take_add_one, hc1, List.map_append, List.map_append]
            have ee : (!decide (c0 ∈ (Str.ofString "0123456789").cps.toList)) = !isDig c0 := by
              rw [figs_eq]
              exact congrArg (fun z => !z) (figs_in c0)
            rw [ee]
            rfl
        · obtain ⟨s1, eD⟩ := hP
          have sz : (SX.S L).cps.size = L.length := SX.S_len L
          rw [sz, List.take_length] at eD
          refine ⟨D, _, rfl, SqL.of eD, ?_⟩
          rw [any_not]
          refine ⟨_, rfl, ite2 (fun c3 => ?_) (fun c3 => ?_)⟩
          · refine raise_bare ((q0 ?_).same s1)
            unfold fig
            refine if_neg fun y => ?_
            rw [y.2.2] at c3
            cases c3
          · have ad : L.all isDig = true := by
              cases hA : L.all isDig with
              | true => rfl
              | false => rw [hA] at c3; exact absurd rfl c3
            refine ⟨_, rfl, _, _, rfl, SX.int_S (a := L) ad e (by omega), by rw [SX.S_len]; omega, ?_⟩
            refine q1 _ ?_ _ s1
            unfold fig
            exact if_pos ⟨e, l12, ad⟩
end
end Nv

set_option maxRecDepth 100000
set_option maxHeartbeats 4000000
namespace Nv
open PySem PySem.Spec PyProof.Rows L2 LamX
theorem scRead : FnScope ["text", "above", "slash", "below", "below_nought", "top", "bottom", "told"] ["text"] (defScope sRead) := ⟨rfl, rfl, rfl, by decide +kernel, rfl, by decide +kernel, by decide +kernel⟩
theorem starts_neg (p : List Nat) : Txt.startswith (SX.S p) (Str.ofString "-") = neg p := by
  have h : (Txt.startswith (SX.S p) (SX.S [45]) = true) ↔ neg p = true := by
    have a := TL.at_iff (x := SX.S p) (y := SX.S [45]) (by show [45] ≠ []; decide) 0
    have b : Txt.startswith (SX.S p) (SX.S [45]) = true ↔ StrLaws.At (SX.S p) (SX.S [45]) (SX.S p).length 0 := by
      unfold Txt.startswith StrLaws.At
      rw [Bool.and_eq_true, decide_eq_true_eq]
    rw [b, a]
    show (p.take 1 == [45]) = true ↔ _
    cases p with
    | nil => exact ⟨fun z => (nomatch z), fun z => (nomatch z)⟩
    | cons c r =>
      show ([c] == [45]) = true ↔ _
      rw [beq_iff_eq]
      constructor
      · intro z
        cases z
        rfl
      · intro z
        obtain ⟨r', e⟩ := neg_cons z
        cases e
        rfl
  rw [str_minus]
  cases h1 : neg p with
  | true => exact h.mpr h1
  | false =>
    cases h2 : Txt.startswith (SX.S p) (SX.S [45]) with
    | false => rfl
    | true => rw [h.mp h2] at h1; cases h1
def slashL (o : Option (List Nat)) : List Nat := if o.isSome = true then [47] else []
theorem part_cut (L : List Nat) : Txt.partition (SX.S L) (Str.ofString "/") = (SX.S (cutAt L).1, SX.S (slashL (cutAt L).2), SX.S ((cutAt L).2.getD [])) := by
  rw [str_stroke]
  cases h : (cutAt L).2 with
  | none =>
    obtain ⟨e, n⟩ := cutAt_none h
    rw [e]
    exact SX.partition_none (by decide) (TL.par_none1 n)
  | some q =>
    obtain ⟨e, n⟩ := cutAt_some h
    have z := SX.partition_some (a := (cutAt L).1 ++ ([47] ++ q)) (b := [47]) (by decide) (SX.par_head (sep := []) q n)
    have e' : L = (cutAt L).1 ++ ([47] ++ q) := e
    rw [← e'] at z
    exact z
theorem cut_len (L : List Nat) : (cutAt L).1.length ≤ L.length ∧ ((cutAt L).2.getD []).length ≤ L.length := by
  cases h : (cutAt L).2 with
  | none =>
    obtain ⟨e, n⟩ := cutAt_none h
    rw [e]
    exact ⟨Nat.le_refl _, Nat.zero_le _⟩
  | some q =>
    obtain ⟨e, n⟩ := cutAt_some h
    have l : L.length = (cutAt L).1.length + (1 + q.length) := by
      conv => lhs; rw [e]
      rw [List.length_append, List.length_cons]
      omega
    constructor
    · omega
    · show q.length ≤ _
      omega
theorem bare_len (L : List Nat) : (bare L).length ≤ L.length := by
  unfold bare
  split
  · rw [List.length_drop]; omega
  · exact Nat.le_refl _
theorem val_lt : ∀ (n : Nat) (A : List Nat), A.length = n → NumText.AllDigits A → NumText.digitsVal A < 10 ^ n := by
  intro n
  induction n with
  | zero =>
    intro A h _
    rw [List.length_eq_zero_iff.mp h]
    decide
  | succ n ih =>
    intro A h hd
    have hne : A ≠ [] := fun z => by rw [z] at h; cases h
    obtain ⟨B, c, rfl⟩ : ∃ B c, A = B ++ [c] := ⟨A.dropLast, A.getLast hne, (List.dropLast_concat_getLast hne).symm⟩
    rw [val_snoc]
    have hc := hd c (List.mem_append_right _ (List.mem_singleton.mpr rfl))
    have := ih B (by rw [List.length_append] at h; simpa using h) (fun x hx => hd x (List.mem_append_left _ hx))
    rw [Nat.pow_succ]
    omega
theorem fig_lt {A : List Nat} {a : Nat} (h : fig A = some a) : a < 10 ^ 12 := by
  obtain ⟨_, l, d, e⟩ := fig_some h
  rw [e]
  exact Nat.lt_of_lt_of_le (val_lt _ A rfl (allDig d)) (Nat.pow_le_pow_right (by decide) l)
theorem lt60 {t : Int} (h : t.natAbs < 10 ^ 12) : t.natAbs < 10 ^ 60 := Nat.lt_of_lt_of_le h (Nat.pow_le_pow_right (by decide) (by decide))
def spRead (C : Addr) : Sp := fun vs H Q E => ∃ L : List Nat, vs = [.str (SX.S L)] ∧ L.length ≤ 1000 ∧ (∀ t d, readP L = some (t, d) → newSh H Q t d) ∧ (readP L = none → raises H E C "BadShare")
theorem newSh.same {H H1 : Hp} {Q : VK} {t b : Int} (s : Same H H1) (q : newSh H Q t b) : newSh H1 Q t b := fun p H' s' n e => q p H' (s.trans s') (s.free n) e
section
variable {P : Program} {w : World} {K : PySem.W.Frag} {mg : Str → Option Value} {base : Heap} {CN C C2 fN fI : Addr}
theorem ok_read {f : Addr} {fd fdI : FuncData} (F : Fun K "read_share" "read_share" sRead f fd) (R : Errs K mg "BadShare" CN C fN fI)
    (GI : FnOk P w K mg base CX0 2 fI fdI ["self"] (spBN C "BadShare")) (bI : Binds K fdI ["self"] [])
    (GF : CalX P w K mg base 4 "read_figures" (spFigs C) []) (GS : CalX P w K mg base 4 "share" (spShare C2) []) (GT : C8.Cal P w K mg base 2 "share_text" (spText K) []) :
    FnOk P w K mg base (L2.CX P w) 5 f fd ["text"] (spRead C) := by
  refine F.okX scRead (fun vs H Q E h => ?_) (fun cdv A outer s H vs Q E hr h => ?_)
  · obtain ⟨L, rfl, _⟩ := h
    rfl
  · obtain ⟨L, rfl, hl0, q1, q0⟩ := h
    have hl : (SX.S L).length ≤ sizeLine := by rw [SX.S_len, sizeLine_eq]; omega
    refine ⟨_, pss_cons (ps_asg (pe_partition (pv 0) pe_str) (pg_tup rfl (pgs_cons (pg_name (i := 1) scRead.nd rfl (.inl rfl)) (pgs_cons (pg_name (i := 2) scRead.nd rfl (.inl rfl)) (pgs_cons (pg_name (i := 3) scRead.nd rfl (.inl rfl)) pgs_nil)))))
      (pss_cons (ps_set (i := 4) scRead.nd rfl (.inl rfl) (pe_m1 PySem.F.slot_str_startswith PySem.F.type_str_startswith mt_startswith (pv 1) pe_str))
      (pss_cons (ps_set (i := 5) scRead.nd rfl (.inl rfl) (pe_cxE GF hr (by decide) (passes_call (takes_of rfl rfl rfl rfl) (fun _ _ _ _ z => z)) (by rfl) (pa_cons (pe_ifExp (pt_val (pv 4)) (pe_slice C8.sl_txt (pv 1) (po_some pe_int) po_none) (pv 1)) pa_nil)))
      (pss_cons (ps_set (i := 6) scRead.nd rfl (.inl rfl) (pe_ifExp (pt_truth (pv 2) (fun _ => rfl)) (pe_cxE GF hr (by decide) (passes_call (takes_of rfl rfl rfl rfl) (fun _ _ _ _ z => z)) (by rfl) (pa_cons (pv 3) pa_nil)) pe_int))
      (pss_cons (ps_if (pt_cmpR op_eq (pv 6) pe_int (nomark _)) (pss_one (ps_raise rfl (takes_of rfl rfl rfl rfl) (pmk_bare R.oex R.iC R.tI GI (hr.mono (by decide)) bI pass0 (by rfl) R.gC))) pss_nil)
      (pss_cons (ps_set (i := 7) scRead.nd rfl (.inl rfl) (pe_cxE GS hr (by decide) (passes_call (takes_of rfl rfl rfl rfl) (fun _ _ _ _ z => z)) (by rfl) (pa_cons (pe_ifExp (pt_val (pv 4)) (pe_un un_neg (pv 5)) (pv 5)) (pa_cons (pv 6) pa_nil))))
      (pss_cons (ps_if (pt_cmpR op_ne (C8.pe_c GT hr (by decide) (by rfl) (pa_cons (pv 7) pa_nil)) (pv 0) (nomark _)) (pss_one (ps_raise rfl (takes_of rfl rfl rfl rfl) (pmk_bare R.oex R.iC R.tI GI (hr.mono (by decide)) bI pass0 (by rfl) R.gC))) pss_nil)
      (pss_one (ps_ret (pv 7))))))))), ?_⟩
    refine ⟨_, rfl, ⟨_, rfl⟩, _, _, rfl, rfl, by decide, hl, fun p0 n0 => ?_⟩
    rw [part_cut]
    have s0 := same_new (o := .tup [.str (SX.S (cutAt L).1), .str (SX.S (slashL (cutAt L).2)), .str (SX.S ((cutAt L).2.getD []))]) n0
    obtain ⟨l1, l2⟩ := cut_len L
    refine ⟨p0, _, rfl, SqT.of upd_same, rfl, _, _, rfl, _, _, rfl, _, _, rfl, rfl, ?_⟩
    refine ⟨_, rfl, ⟨_, rfl⟩, _, _, rfl, rfl, ?_⟩
    rw [starts_neg, neg_cut]
    have hbr : bare (cutAt L).1 = if neg L = true then (cutAt L).1.drop 1 else (cutAt L).1 := by
      unfold bare
      rw [neg_cut]
    have lb : (bare (cutAt L).1).length ≤ 1000 := Nat.le_trans (bare_len _) (by omega)
    have none1 : fig (bare (cutAt L).1) = none → readP L = none := fun z => by
      unfold readP
      rw [z, pairP_none]
    have none2 : botP (cutAt L).2 = none → readP L = none := fun z => by
      unfold readP
      rw [z, pairP_none2]
    refine keepN (fun σ' H' => ∃ a : Nat, σ' = [some (.str (SX.S L)), some (.str (SX.S (cutAt L).1)), some (.str (SX.S (slashL (cutAt L).2))), some (.str (SX.S ((cutAt L).2.getD []))), some (.bl (neg L)), some (.int a), none, none] ∧ Same H H' ∧ fig (bare (cutAt L).1) = some a) (fun σ' H' hM => ?_) (fun rest => ?_)
    · obtain ⟨a, rfl, s1, ha⟩ := hM
      refine keep (fun σ' H' => ∃ b : Nat, σ' = [some (.str (SX.S L)), some (.str (SX.S (cutAt L).1)), some (.str (SX.S (slashL (cutAt L).2))), some (.str (SX.S ((cutAt L).2.getD []))), some (.bl (neg L)), some (.int a), some (.int b), none] ∧ Same H H' ∧ botP (cutAt L).2 = some b ∧ b < 10 ^ 12) (fun σ' H' hM => ?_) (fun rest => ?_)
      · obtain ⟨b, rfl, s2, hb, lb2⟩ := hM
        refine ⟨_, rfl, rfl, _, rfl, ite2 (fun c => ?_) (fun c => ?_)⟩
        · have e : (b : Int) = 0 := V.int.inj (of_decide_eq_true c)
          refine raise_bare ((q0 ?_).same s2)
          unfold readP
          rw [ha, hb]
          exact if_pos (by omega)
        · have e : (b : Int) ≠ 0 := fun z => c (by
            rw [z]
            exact decide_eq_true rfl)
          have e' : b ≠ 0 := by omega
          refine keepN (fun σ' H' => ∃ pt : Addr, σ' = [some (.str (SX.S L)), some (.str (SX.S (cutAt L).1)), some (.str (SX.S (slashL (cutAt L).2))), some (.str (SX.S ((cutAt L).2.getD []))), some (.bl (neg L)), some (.int a), some (.int b), some (.ref pt)] ∧ Same H H' ∧ H pt = none ∧ H' pt = some (.tup [.int (frT (sg (neg L) a) b), .int (frB (sg (neg L) a) b)])) (fun σ' H' hM => ?_) (fun rest => ?_)
          · obtain ⟨pt, rfl, s3, np, ep⟩ := hM
            have lA := fig_lt ha
            have t12 : (frT (sg (neg L) a) b).natAbs < 10 ^ 12 := Nat.lt_of_le_of_lt (frT_le _ e) (by rw [abs_sgn]; exact lA)
            have b12 : (frB (sg (neg L) a) b).natAbs < 10 ^ 12 := Nat.lt_of_le_of_lt (frB_le _ e) (by omega)
            refine ⟨_, rfl, pt, _, _, rfl, SqT.of ep, lt60 t12, frB_pos _ e, lt60 b12, fun H4 s4 => ?_⟩
            refine ⟨_, rfl, rfl, _, rfl, ite2 (fun c2 => ?_) (fun c2 => ?_)⟩
            · have ne : textL (frT (sg (neg L) a) b) (frB (sg (neg L) a) b) ≠ L := fun z => by
                rw [z, decide_eq_true rfl] at c2
                cases c2
              refine raise_bare ((q0 ?_).same (s3.trans s4))
              unfold readP
              rw [ha, hb]
              show (if b = 0 then none else if _ then _ else _) = none
              rw [if_neg e', if_neg ne]
            · have eq : textL (frT (sg (neg L) a) b) (frB (sg (neg L) a) b) = L := Classical.byContradiction fun z => c2 (by
                rw [decide_eq_false (fun y => z (congrArg TL.tl (V.str.inj y)))]
                rfl)
              refine ⟨_, rfl, q1 _ _ ?_ pt _ (s3.trans s4) np (s4 _ _ ep)⟩
              unfold readP
              rw [ha, hb]
              show (if b = 0 then none else if _ then _ else _) = _
              rw [if_neg e', if_pos eq]
          · have fin : ∀ (t : Int) (Qk : VK), t = sg (neg L) a → (∀ (pt : Addr) (H4 : Hp), Same H H4 → H pt = none → H4 pt = some (.tup [.int (frT (sg (neg L) a) b), .int (frB (sg (neg L) a) b)]) → Qk (.ref pt) H4) → spShare C2 ([.int t, .int b] ++ []) H' Qk E := fun t Qk et k => by
              subst et
              refine ⟨_, _, rfl, ?_, fun _ pt H4 s4 n4 e4 => k pt H4 (s2.trans s4) (s2.free n4) e4, fun z => absurd z e⟩
              exact Nat.lt_of_lt_of_le (by omega : (b : Int).natAbs < 10 ^ 12) (Nat.le_trans (show 10 ^ 12 ≤ 2 ^ 45 by decide) (Nat.pow_le_pow_right (by decide) (by decide)))
            have rest' : ∀ (pt : Addr) (H4 : Hp), Same H H4 → H pt = none → H4 pt = some (.tup [.int (frT (sg (neg L) a) b), .int (frB (sg (neg L) a) b)]) → _ := fun pt H4 s4 n4 e4 => rest _ H4 ⟨pt, rfl, s4, n4, e4⟩
            refine ⟨_, rfl, _, rfl, ite2 (fun c3 => ?_) (fun c3 => ?_)⟩
            · refine ⟨_, rfl, a, rfl, _, rfl, fin _ _ ?_ rest'⟩
              unfold sg
              rw [if_pos c3]
            · refine ⟨_, rfl, _, rfl, fin _ _ ?_ rest'⟩
              unfold sg
              rw [if_neg c3]
      · cases ho : (cutAt L).2 with
        | none =>
          rw [ho] at rest
          refine ⟨_, rfl, _, ⟨?_, rfl⟩, iteF (rest _ _ ⟨1, rfl, s1, rfl, by decide⟩)⟩
          decide
        | some B =>
          rw [ho] at rest l2 none2
          refine ⟨_, rfl, _, ⟨?_, rfl⟩, iteT ⟨_, rfl, B, rfl, Nat.le_trans l2 hl0, fun b hb H4 s4 => rest _ _ ⟨b, rfl, s1.trans s4, hb, fig_lt hb⟩, fun z => (q0 (none2 z)).same s1⟩⟩
          show 1 ≤ sizeLine
          decide
    · refine ⟨_, rfl, _, rfl, ite2 (fun c => ?_) (fun c => ?_)⟩
      · refine ⟨_, rfl, _, rfl, _, rfl, ?_, bare (cutAt L).1, ?_, lb, fun a ha H' s' => rest _ _ ⟨a, rfl, s0.trans s', ha⟩, fun z => (q0 (none1 z)).same s0⟩
        · show (SX.S (cutAt L).1).length ≤ sizeLine
          rw [SX.S_len, sizeLine_eq]
          omega
        · rw [hbr, if_pos c]
          exact congrArg (fun z => [V.str z]) (SX.slice_from (by decide))
      · refine ⟨_, rfl, bare (cutAt L).1, ?_, lb, fun a ha H' s' => rest _ _ ⟨a, rfl, s0.trans s', ha⟩, fun z => (q0 (none1 z)).same s0⟩
        rw [hbr, if_neg c]
        rfl
end
end Nv

set_option maxRecDepth 100000
set_option maxHeartbeats 4000000
namespace Nv
open PySem PySem.Spec PyProof.Rows L2 LamX
abbrev sNumIn : Stmt := topS 29
abbrev sShIn : Stmt := topS 30
theorem scNumIn : FnScope ["_law_text", "_law_sign"] ["_law_text"] (defScope sNumIn) := ⟨rfl, rfl, rfl, by decide +kernel, rfl, by decide +kernel, by decide +kernel⟩
/-- a number, or None -/
def optV : Option Nat → V
  | some a => .int (a : Nat)
  | none => .non
theorem all_dig (L : List Nat) : (L.map isDig).all id = L.all isDig := by
  rw [List.all_map]
  rfl
def spNumIn : Sp := fun vs H Q E => ∃ L : List Nat, vs = [.str (SX.S L)] ∧ L.length ≤ 1000 ∧ ∀ H', Same H H' → Q (optV (numIn L)) H'
theorem str_nought : Str.ofString "0" = SX.S [48] := by decide +kernel
section
variable {P : Program} {w : World} {K : PySem.W.Frag} {mg : Str → Option Value} {base : Heap}
theorem ok_numIn {f : Addr} {fd : FuncData} {k : Nat} (F : Fun K "_law_number_in" "_law_number_in" sNumIn f fd) (T : Blt mg) : FnOk P w K mg base CX0 (k + 1) f fd ["_law_text"] spNumIn := by
  refine F.ok scNumIn (fun vs H Q E h => ?_) (fun cdv A outer s H vs Q E hr h => ?_)
  · obtain ⟨L, rfl, _⟩ := h
    rfl
  · obtain ⟨L, rfl, hl0, q⟩ := h
    have hl : (SX.S L).length ≤ sizeLine := by rw [SX.S_len, sizeLine_eq]; omega
    have no : numIn L = none → ∀ H', Same H H' → Q .non H' := fun z H' s' => by
      have := q H' s'
      rw [z] at this
      exact this
    have yes : ∀ a, numIn L = some a → ∀ H', Same H H' → Q (.int (a : Nat)) H' := fun a z H' s' => by
      have := q H' s'
      rw [z] at this
      exact this
    refine ⟨_, pss_cons (ps_if (PW.pt (pw_or (pt_not (pt_chain op_le op_le pe_int (pe_callB call_len_str (by rfl) T.len PySem.boot_len (pa_cons (pv 0) pa_nil)) pe_int))
          (pw_or1 (pt_not (pt_val (pe_callB (cr_all rfl) (by rfl) T.all (by decide +kernel) (pa_cons (pe_lc (own := [("_law_sign", 1)]) (g := gName 1) (tt := tYes) rfl scNumIn.nd (pi_str (pv 0))
              (blkOk_by (N := ["_law_text", "_law_sign"]) (sc := defScope sNumIn) (by decide +kernel)) (fun _ _ _ _ _ => pg_name (i := 1) scNumIn.nd rfl (Or.inl rfl)) (fun _ _ _ _ _ => pts_nil)
              (fun _ _ _ _ _ => pe_cmpR op_in_sign (pv 1) pe_str (by rfl))) pa_nil)))))))
        (pss_one (ps_ret pe_non)) pss_nil)
      (pss_one (ps_ret (pe_ifExp (PW.pt (pw_or (pt_cmpR op_eq (pv 0) pe_str (nomark _)) (pw_or1 (pt_cmpR op_ne (pe_ix ix_str (pv 0) pe_int (fun _ _ => rfl)) pe_str (nomark _)))))
        (pe_callTy call_int_str (by rfl) T.int (by decide +kernel) (pa_cons (pv 0) pa_nil)) pe_non))), ?_⟩
    refine ⟨_, rfl, _, rfl, hl, 1, _, rfl, rfl, _, rfl, ?_⟩
    rw [SX.S_len]
    have nn : ¬ (L ≠ [] ∧ L.length ≤ 12 ∧ L.all isDig = true ∧ Canon L = true) → numIn L = none := fun z => by
      unfold numIn
      exact if_neg z
    refine ite2 (fun c1 => ?_) (fun c1 => ?_)
    · have g1 : (1 : Int) ≤ (L.length : Int) := of_decide_eq_true c1
      have e : L ≠ [] := fun z => by
        rw [z] at g1
        exact absurd g1 (by decide)
      refine ⟨_, 12, rfl, rfl, _, rfl, ite2 (fun c2 => ?_) (fun c2 => ?_)⟩
      · have g2 : ¬ (L.length : Int) ≤ 12 := fun z => by
          rw [decide_eq_true z] at c2
          cases c2
        exact iteT (no (nn fun y => by omega) H (Same.refl H))
      · have g2 : (L.length : Int) ≤ 12 := Classical.byContradiction fun z => c2 (by
          rw [decide_eq_false z]
          rfl)
        have l12 : L.length ≤ 12 := by omega
        refine ⟨_, rfl, _, rfl, fun D hD => ?_⟩
        refine lc_it (walk_str (z := SX.S L)) (fun i H' => Same H H' ∧ H' D = some (.lst (((L.take i).map isDig).map V.bl))) ⟨same_new hD, upd_same⟩ (fun _ _ _ _ => trivial) (fun i x H1 H2 hi hP hY => ?_) (fun H' hP => ?_)
        · obtain ⟨s1, eD⟩ := hP
          obtain ⟨rfl, c0, hc0, rfl⟩ := hY
          have hc1 : L[i]? = some c0 := by simpa [SX.S] using hc0
          refine ⟨rfl, yes_if ⟨_, rfl, c0, _, rfl, rfl, _, eD, ?_, ?_, ?_⟩⟩
          · rw [List.length_map, List.length_map, List.length_take]
            exact small1000 (by omega)
          · exact fun z o hz => by
              rw [upd_ne (ne_of_none hz hD)]
              exact s1 _ _ hz
          · rw [upd_same, List.take_add_one, hc1, List.map_append, List.map_append]
            have ee : decide (c0 ∈ (Str.ofString "0123456789").cps.toList) = isDig c0 := by
              rw [figs_eq]
              exact figs_in c0
            rw [ee]
            rfl
        · obtain ⟨s1, eD⟩ := hP
          have sz : (SX.S L).cps.size = L.length := SX.S_len L
          rw [sz, List.take_length] at eD
          refine ⟨D, _, rfl, SqL.of eD, ?_⟩
          rw [all_dig]
          refine ⟨_, rfl, ite2 (fun c3 => ?_) (fun c3 => ?_)⟩
          · refine no (nn fun y => ?_) _ s1
            rw [y.2.2.1] at c3
            cases c3
          · have ad : L.all isDig = true := by
              cases hA : L.all isDig with
              | true => rfl
              | false => rw [hA] at c3; exact absurd rfl c3
            have yy : Canon L = true → numIn L = some (NumText.digitsVal L) := fun z => by
              unfold numIn
              exact if_pos ⟨e, l12, ad, z⟩
            refine ⟨_, rfl, rfl, _, rfl, ite2 (fun c4 => ?_) (fun c4 => ?_)⟩
            · have z : L = [48] := by
                have z := V.str.inj (of_decide_eq_true c4)
                rw [str_nought] at z
                exact congrArg TL.tl z
              refine iteT ⟨_, rfl, _, _, rfl, SX.int_S (a := L) ad e (by omega), by rw [SX.S_len]; omega, ?_⟩
              refine yes _ (yy ?_) _ s1
              rw [z]
              rfl
            · have n48 : L ≠ [48] := fun z => c4 (by
                rw [z, str_nought]
                exact decide_eq_true rfl)
              obtain ⟨c0, r, er⟩ : ∃ c0 r, L = c0 :: r := by
                cases L with
                | nil => exact absurd rfl e
                | cons c r => exact ⟨c, r, rfl⟩
              refine ⟨_, rfl, _, 0, c0, rfl, rfl, hl, ?_, rfl, _, rfl, ite2 (fun c5 => ?_) (fun c5 => ?_)⟩
              · show atI L ((0 : Nat) : Int) = some c0
                refine atI_nat ?_
                rw [er]
                rfl
              · have n0 : c0 ≠ 48 := fun z => by
                  rw [z, str_nought] at c5
                  exact absurd c5 (by decide +kernel)
                refine ⟨_, rfl, _, _, rfl, SX.int_S (a := L) ad e (by omega), by rw [SX.S_len]; omega, ?_⟩
                refine yes _ (yy ?_) _ s1
                rw [er]
                unfold Canon
                rw [Bool.or_eq_true]
                exact .inr (decide_eq_true n0)
              · have n0 : c0 = 48 := Classical.byContradiction fun z => c5 (by
                  rw [decide_eq_false (fun y => z (by
                    have y' := V.str.inj y
                    rw [str_nought] at y'
                    have y2 : [c0] = [48] := congrArg TL.tl y'
                    cases y2
                    rfl))]
                  rfl)
                refine no (nn fun y => ?_) _ s1
                have y4 := y.2.2.2
                unfold Canon at y4
                rw [Bool.or_eq_true] at y4
                rcases y4 with y4 | y4
                · exact n48 (of_decide_eq_true y4)
                · rw [er] at y4
                  exact absurd n0 (of_decide_eq_true y4)
    · have g1 : ¬ (1 : Int) ≤ (L.length : Int) := fun z => c1 (decide_eq_true z)
      have e : L = [] := List.length_eq_zero_iff.mp (by omega)
      refine ⟨_, rfl, iteT (iteT (no (nn fun y => y.1 e) H (Same.refl H)))⟩
end
end Nv

set_option maxRecDepth 100000
set_option maxHeartbeats 4000000
namespace Nv
open PySem PySem.Spec PyProof.Rows L2 LamX
abbrev nShIn : List Str := ["_law_text", "_law_bare", "_law_words", "_law_numbers", "_law_word", "_law_below"]
theorem scShIn : FnScope nShIn ["_law_text"] (defScope sShIn) := ⟨rfl, rfl, rfl, by decide +kernel, rfl, by decide +kernel, by decide +kernel⟩
theorem spl_bound : ∀ (l acc : List Nat), (TL.spl [47] 0 acc l).length ≤ l.length + 1 ∧ 1 ≤ (TL.spl [47] 0 acc l).length ∧ ∀ w ∈ TL.spl [47] 0 acc l, w.length ≤ acc.length + l.length
  | [], acc => by
    rw [TL.spl_nil]
    refine ⟨Nat.le_refl _, Nat.le_refl _, fun w hw => ?_⟩
    rw [List.mem_singleton.mp hw]
    exact Nat.le_refl _
  | c :: r, acc => by
    cases h : TL.pre [47] (c :: r) with
    | true =>
      rw [TL.spl_hit h]
      obtain ⟨h1, h2, h3⟩ := spl_bound r []
      refine ⟨?_, ?_, fun w hw => ?_⟩
      · rw [List.length_cons, List.length_cons]
        exact Nat.succ_le_succ h1
      · rw [List.length_cons]
        omega
      · rcases List.mem_cons.mp hw with e | e
        · rw [e]
          omega
        · have := h3 w e
          rw [List.length_cons]
          have z : ([] : List Nat).length = 0 := rfl
          omega
    | false =>
      rw [TL.spl_miss h]
      obtain ⟨h1, h2, h3⟩ := spl_bound r (acc ++ [c])
      refine ⟨?_, h2, fun w hw => ?_⟩
      · rw [List.length_cons]
        omega
      · have := h3 w hw
        rw [List.length_append] at this
        rw [List.length_cons]
        have z : [c].length = 1 := rfl
        omega
/-- a text's words between its strokes -/
def ws (M : List Nat) : List (List Nat) := TL.spl [47] 0 [] M
theorem ws_none {M : List Nat} (h : (cutAt M).2 = none) : ws M = [(cutAt M).1] := by
  obtain ⟨e, n⟩ := cutAt_none h
  rw [e]
  exact TL.spl_last1 n
theorem ws_some {M B : List Nat} (h : (cutAt M).2 = some B) : ws M = (cutAt M).1 :: ws B := by
  obtain ⟨e, n⟩ := cutAt_some h
  unfold ws
  conv => lhs; rw [e]
  exact TL.spl_part1 (s := 47) (S := []) (rest := B) n
theorem ws_two {B : List Nat} (h : 47 ∉ B) : ws B = [B] := TL.spl_last1 h
theorem ws_more {B : List Nat} (h : 47 ∈ B) : 2 ≤ (ws B).length := by
  cases hc : (cutAt B).2 with
  | none =>
    obtain ⟨e, n⟩ := cutAt_none hc
    exact absurd h n
  | some q =>
    rw [ws_some hc, List.length_cons]
    have := (spl_bound q []).2.1
    unfold ws
    omega
theorem bare_same (L : List Nat) : bare L = L ↔ neg L ≠ true := by
  unfold bare
  constructor
  · intro h z
    rw [if_pos z] at h
    obtain ⟨r, e⟩ := neg_cons z
    rw [e] at h
    have := congrArg List.length h
    rw [List.length_drop, List.length_cons] at this
    omega
  · intro z
    rw [if_neg z]
theorem take_neg (L : List Nat) : (L.take 1 = [45]) ↔ neg L = true := by
  cases L with
  | nil => exact ⟨fun z => (nomatch z), fun z => (nomatch z)⟩
  | cons c r =>
    constructor
    · intro z
      have z' : [c] = [45] := z
      cases z'
      rfl
    · intro z
      obtain ⟨r', e⟩ := neg_cons z
      cases e
      rfl
def numV (w : List Nat) : V := optV (numIn w)
theorem numV_flat (w : List Nat) : flatV (numV w) = true := by
  unfold numV
  cases numIn w <;> rfl
theorem numV_non (w : List Nat) : eqV (numV w) .non = (numIn w).isNone := by
  unfold numV
  cases numIn w <;> rfl
def spShIn : Sp := fun vs H Q E => ∃ L : List Nat, vs = [.str (SX.S L)] ∧ L.length ≤ 900 ∧ (∀ t d, readL L = some (t, d) → newSh H Q t d) ∧ (readL L = none → ∀ H', Same H H' → Q .non H')
section
variable {P : Program} {w : World} {K : PySem.W.Frag} {mg : Str → Option Value} {base : Heap}
theorem ok_shIn {f : Addr} {fd : FuncData} (F : Fun K "_law_share_in" "_law_share_in" sShIn f fd) (T : Blt mg) (GN : C8.Cal P w K mg base 1 "_law_number_in" spNumIn []) (GG : C8.Cal P w K mg base 1 "_law_gcd" spGcd []) : FnOk P w K mg base CX0 2 f fd ["_law_text"] spShIn := by
  refine F.ok scShIn (fun vs H Q E h => ?_) (fun cdv A outer s H vs Q E hr h => ?_)
  · obtain ⟨L, rfl, _⟩ := h
    rfl
  · obtain ⟨L, rfl, hl0, q1, q0⟩ := h
    have hl : (SX.S L).length ≤ sizeLine := by rw [SX.S_len, sizeLine_eq]; omega
    refine ⟨_, pss_cons (ps_set (i := 1) scShIn.nd rfl (.inl rfl) (pe_ifExp (pt_cmpR op_eq (pe_slice C8.sl_txt (pv 0) po_none (po_some pe_int)) pe_str (nomark _)) (pe_slice C8.sl_txt (pv 0) (po_some pe_int) po_none) (pv 0)))
      (pss_cons (ps_set (i := 2) scShIn.nd rfl (.inl rfl) (pe_split (pv 1) pe_str))
      (pss_cons (ps_setLc (i := 3) (own := [("_law_word", 4)]) (g := gName 4) (tt := tYes) rfl scShIn.nd rfl rfl (sw_true rfl rfl rfl (by decide +kernel)) (pi_list (pv 2)) (blkOk_by (N := nShIn) (sc := defScope sShIn) (by decide +kernel))
            (fun _ _ _ _ _ => pg_name (i := 4) scShIn.nd rfl (Or.inl rfl)) (fun _ _ _ _ _ => pts_nil)
            (fun _ _ _ _ _ => C8.pe_c GN hr (by decide) (by rfl) (pa_cons (pv 4) pa_nil)))
      (pss_cons (ps_if (PW.pt (pw_or (pt_cmpR op_gt (pe_callB call_len_seq (by rfl) T.len PySem.boot_len (pa_cons (pv 2) pa_nil)) pe_int (nomark _)) (pw_or1 (pt_cmpR op_in_seq pe_non (pv 3) (by rfl))))) (pss_one (ps_ret pe_non)) pss_nil)
      (pss_cons (ps_set (i := 5) scShIn.nd rfl (.inl rfl) (pe_ifExp (pt_cmpR op_eq (pe_callB call_len_seq (by rfl) T.len PySem.boot_len (pa_cons (pv 2) pa_nil)) pe_int (nomark _)) pe_int (pe_ix ix_list (pv 3) pe_int (fun _ _ => rfl))))
      (pss_cons (ps_if (PW.pt (pw_or (PW.pt (pw_and (pt_cmpR op_eq (pe_callB call_len_seq (by rfl) T.len PySem.boot_len (pa_cons (pv 2) pa_nil)) pe_int (nomark _)) (pw_and1 (pt_cmpR op_lt (pv 5) pe_int (nomark _)))))
          (pw_or (PW.pt (pw_and (pt_cmpR op_ne (pv 1) (pv 0) (nomark _)) (pw_and1 (pt_cmpR op_eq (pe_ix ix_list (pv 3) pe_int (fun _ _ => rfl)) pe_int (nomark _)))))
          (pw_or1 (pt_cmpR op_ne (C8.pe_c GG hr (by decide) (by rfl) (pa_cons (pe_ix ix_list (pv 3) pe_int (fun _ _ => rfl)) (pa_cons (pv 5) pa_nil))) pe_int (nomark _)))))) (pss_one (ps_ret pe_non)) pss_nil)
      (pss_one (ps_ret (pe_tup (pa_cons (pe_ifExp (pt_cmpR op_eq (pv 1) (pv 0) (nomark _)) (pe_ix ix_list (pv 3) pe_int (fun _ _ => rfl)) (pe_op op_sub pe_int (pe_ix ix_list (pv 3) pe_int (fun _ _ => rfl)))) (pa_cons (pv 5) pa_nil)))))))))), ?_⟩
    have lb : (bare L).length ≤ 900 := Nat.le_trans (bare_len L) hl0
    obtain ⟨w1, _, w3⟩ := spl_bound (bare L) []
    have w1 : (ws (bare L)).length ≤ 901 := by
      show (TL.spl [47] 0 [] (bare L)).length ≤ 901
      omega
    have w3 : ∀ x ∈ ws (bare L), x.length ≤ 900 := fun x hx => by
      have z : ([] : List Nat).length = 0 := rfl
      have := w3 x hx
      omega
    have nn1 : numIn (cutAt (bare L)).1 = none → readL L = none := fun z => by
      unfold readL
      rw [z, pairL_none]
    have nn2 : botL (cutAt (bare L)).2 = none → readL L = none := fun z => by
      unfold readL
      rw [z, pairL_none2]
    refine keep (fun σ' H' => σ' = [some (.str (SX.S L)), some (.str (SX.S (bare L))), none, none, none, none] ∧ H' = H) (fun σ' H' hM => ?_) (fun rest => ?_)
    · obtain ⟨rfl, rfl⟩ := hM
      have hbl : (SX.S (bare L)).length + 2 ≤ sizeLine := by rw [SX.S_len, sizeLine_eq]; omega
      refine ⟨_, rfl, ⟨_, rfl⟩, _, _, rfl, rfl, by decide, hbl, fun W nW => ?_⟩
      have ew : (Txt.split (SX.S (bare L)) (Str.ofString "/")).map V.str = (ws (bare L)).map fun x => V.str (SX.S x) := by
        rw [str_stroke, SX.split_S (by decide) (by decide), List.map_map]
        rfl
      rw [ew]
      have sW := same_new (o := .lst ((ws (bare L)).map fun x => V.str (SX.S x))) nW
      refine ⟨_, rfl, W, rfl, ⟨_, SqL.of upd_same⟩, fun D hD => ?_⟩
      refine lc_list (K := K) (a := W) (xs := (ws (bare L)).map fun x => V.str (SX.S x)) (fun i J => Same H' J ∧ J W = some (.lst ((ws (bare L)).map fun x => V.str (SX.S x))) ∧ J D = some (.lst (((ws (bare L)).take i).map numV)) ∧ H' D = none) ⟨sW.trans (same_new hD), (same_new hD) _ _ upd_same, upd_same, sW.free hD⟩ (fun i J _ hP => SqL.of hP.2.1) (fun i x J hx hP => ?_) (fun J hP => ?_)
      · obtain ⟨s1, eW, eD, nD⟩ := hP
        rw [List.getElem?_map] at hx
        obtain ⟨x0, hx0, rfl⟩ : ∃ x0, (ws (bare L))[i]? = some x0 ∧ V.str (SX.S x0) = x := by
          cases hc : (ws (bare L))[i]? with
          | none => rw [hc] at hx; cases hx
          | some x0 => rw [hc] at hx; exact ⟨x0, rfl, Option.some.inj hx⟩
        have hWD : W ≠ D := fun z => by
          rw [← z, upd_same] at hD
          cases hD
        refine ⟨rfl, yes_if ⟨_, rfl, x0, rfl, Nat.le_trans (w3 x0 (List.mem_of_getElem? hx0)) (by decide), fun J1 s2 => ⟨_, s2 _ _ eD, ?_, ?_, ?_, ?_, nD⟩⟩⟩
        · rw [List.length_map, List.length_take]
          exact small1000 (by omega)
        · exact fun z o hz => by
            rw [upd_ne (ne_of_none hz nD)]
            exact s2 _ _ (s1 _ _ hz)
        · rw [upd_ne hWD]
          exact s2 _ _ eW
        · rw [upd_same, List.take_add_one, hx0, List.map_append]
          rfl
      · obtain ⟨s1, eW, eD, nD⟩ := hP
        rw [List.length_map, List.take_length] at eD
        have lW : ((ws (bare L)).map fun x => V.str (SX.S x)).length = (ws (bare L)).length := List.length_map ..
        have fl : ((ws (bare L)).map numV).all flatV = true := List.all_eq_true.mpr fun v hv => by
          obtain ⟨x, _, rfl⟩ := List.mem_map.mp hv
          exact numV_flat x
        have iv : inV .non ((ws (bare L)).map numV) = (ws (bare L)).any fun x => (numIn x).isNone := by
          unfold inV
          rw [List.any_map]
          exact congrArg (fun g => (ws (bare L)).any g) (funext fun x => numV_non x)
        refine keepN (fun σ' J' => J' = J ∧ ∃ (two : Bool) (a b : Nat) (rs : List V), σ' = [some (.str (SX.S L)), some (.str (SX.S (bare L))), some (.ref W), some (.ref D), none, none] ∧ (ws (bare L)).length = (if two = true then 2 else 1) ∧ (cutAt (bare L)).2.isSome = two ∧ numIn (cutAt (bare L)).1 = some a ∧ botL (cutAt (bare L)).2 = some b ∧ (ws (bare L)).map numV = .int (a : Nat) :: rs ∧ (two = true → rs = [.int (b : Nat)]) ∧ (two = false → b = 1)) (fun σ' J' hM => ?_) (fun rest => ?_)
        · obtain ⟨rfl, two, a, b, rs, rfl, ln, ho, ha, hb, en, e2, e1⟩ := hM
          rw [en] at eD
          refine keep (fun σ' J1 => J1 = J' ∧ σ' = [some (.str (SX.S L)), some (.str (SX.S (bare L))), some (.ref W), some (.ref D), none, some (.int (b : Nat))]) (fun σ' J1 hM => ?_) (fun rest => ?_)
          · obtain ⟨rfl, rfl⟩ := hM
            have at0 : atI (V.int (a : Nat) :: rs) 0 = some (.int (a : Nat)) := atI_nat (j := 0) rfl
            have rd : readL L = if (two = true ∧ b < 2) ∨ (neg L = true ∧ a = 0) ∨ Int.gcd a b ≠ 1 then none else some (sg (neg L) a, (b : Int)) := by
              unfold readL
              rw [ha, hb, ho]
              rfl
            have bad : (two = true ∧ b < 2) ∨ (neg L = true ∧ a = 0) ∨ Int.gcd a b ≠ 1 → Q .non J1 := fun z => q0 (by rw [rd, if_pos z]) _ s1
            have ed : (decide (V.str (SX.S (bare L)) = V.str (SX.S L))) = !neg L := by
              cases hn : neg L with
              | true => exact decide_eq_false fun y => (bare_same L).mp (congrArg TL.tl (V.str.inj y)) hn
              | false => exact decide_eq_true (by rw [(bare_same L).mpr (by rw [hn]; decide)])
            have fin : ¬ ((two = true ∧ b < 2) ∨ (neg L = true ∧ a = 0) ∨ Int.gcd a b ≠ 1) → _ := fun nb => q1 (sg (neg L) a) b (by rw [rd, if_neg nb])
            have fin' : ¬ ((two = true ∧ b < 2) ∨ (neg L = true ∧ a = 0) ∨ Int.gcd a b ≠ 1) → tRet (tTup (tCons (tIf (tTest (tOp rEq (tVar 1) (tVar 0))) (tOp (rIxL K) (tVar 3) (tC (V.int 0))) (tOp (rI0 fun i j => V.int (i - j)) (tC (V.int 0)) (tOp (rIxL K) (tVar 3) (tC (V.int 0))))) (tCons (tVar 5) tNil)))
                { nx := fun _ H' => Q V.non H', rt := Q } [some (V.str (SX.S L)), some (V.str (SX.S (bare L))), some (V.ref W), some (V.ref D), none, some (V.int (b : Nat))] J1 := fun nb => by
              refine ⟨_, rfl, _, rfl, rfl, _, rfl, ?_⟩
              rw [ed]
              cases hn : neg L with
              | true =>
                refine iteF ⟨_, rfl, D, _, 0, .int (a : Nat), rfl, rfl, SqL.of eD, at0, 0, a, rfl, rfl, _, rfl, (by show 2 ≤ sizeLine; decide), fun p hp => ?_⟩
                have z := (fin nb).same s1
                have e : sg (neg L) a = 0 - (a : Int) := by
                  unfold sg
                  rw [if_pos hn]
                  omega
                rw [e] at z
                exact z.at_ p hp
              | false =>
                refine iteT ⟨_, rfl, D, _, 0, .int (a : Nat), rfl, rfl, SqL.of eD, at0, _, rfl, (by show 2 ≤ sizeLine; decide), fun p hp => ?_⟩
                have z := (fin nb).same s1
                have e : sg (neg L) a = (a : Int) := by
                  unfold sg
                  rw [hn]
                  rfl
                rw [e] at z
                exact z.at_ p hp
            refine ⟨_, rfl, W, _, rfl, .inl (SqL.of eW), rfl, _, rfl, ?_⟩
            rw [lW, ln]
            cases htwo : two with
            | true =>
              refine iteT ⟨_, rfl, b, 2, rfl, rfl, _, rfl, ite2 (fun d1 => ?_) (fun d1 => ?_)⟩
              · have z := of_decide_eq_true d1
                exact iteT (bad (.inl ⟨htwo, by omega⟩))
              · have n1 : ¬ (two = true ∧ b < 2) := fun z => d1 (decide_eq_true (by omega))
                refine ⟨_, rfl, _, rfl, rfl, _, rfl, ?_⟩
                rw [ed]
                cases hn : neg L with
                | true =>
                  refine iteT ⟨_, rfl, D, _, 0, .int (a : Nat), rfl, rfl, SqL.of eD, at0, rfl, _, rfl, ite2 (fun d2 => ?_) (fun d2 => ?_)⟩
                  · exact iteT (bad (.inr (.inl ⟨hn, by have z := V.int.inj (of_decide_eq_true d2); omega⟩)))
                  · have n2 : ¬ (neg L = true ∧ a = 0) := fun z => d2 (by rw [z.2]; exact decide_eq_true rfl)
                    refine ⟨_, rfl, D, _, 0, .int (a : Nat), rfl, rfl, SqL.of eD, at0, _, rfl, a, b, rfl, rfl, _, rfl, ite2 (fun d3 => ?_) (fun d3 => ?_)⟩
                    · exact bad (.inr (.inr fun z => by
                        rw [z] at d3
                        exact absurd d3 (by decide)))
                    · have g1 : Int.gcd a b = 1 := Classical.byContradiction fun z => d3 (by
                        rw [decide_eq_false (fun y => z (by have y' := V.int.inj y; omega))]
                        rfl)
                      exact fin' (fun z => z.elim n1 (fun z => z.elim n2 (fun z => z g1)))
                | false =>
                  have n2 : ¬ (neg L = true ∧ a = 0) := fun z => by rw [hn] at z; exact absurd z.1 (by decide)
                  refine iteF (iteF ?_)
                  refine ⟨_, rfl, D, _, 0, .int (a : Nat), rfl, rfl, SqL.of eD, at0, _, rfl, a, b, rfl, rfl, _, rfl, ite2 (fun d3 => ?_) (fun d3 => ?_)⟩
                  · exact bad (.inr (.inr fun z => by
                      rw [z] at d3
                      exact absurd d3 (by decide)))
                  · have g1 : Int.gcd a b = 1 := Classical.byContradiction fun z => d3 (by
                      rw [decide_eq_false (fun y => z (by have y' := V.int.inj y; omega))]
                      rfl)
                    exact fin' (fun z => z.elim n1 (fun z => z.elim n2 (fun z => z g1)))
            | false =>
              have n1 : ¬ (two = true ∧ b < 2) := fun z => by rw [htwo] at z; exact absurd z.1 (by decide)
              refine iteF (iteF ?_)
              refine ⟨_, rfl, _, rfl, rfl, _, rfl, ?_⟩
              rw [ed]
              cases hn : neg L with
              | true =>
                refine iteT ⟨_, rfl, D, _, 0, .int (a : Nat), rfl, rfl, SqL.of eD, at0, rfl, _, rfl, ite2 (fun d2 => ?_) (fun d2 => ?_)⟩
                · exact iteT (bad (.inr (.inl ⟨hn, by have z := V.int.inj (of_decide_eq_true d2); omega⟩)))
                · have n2 : ¬ (neg L = true ∧ a = 0) := fun z => d2 (by rw [z.2]; exact decide_eq_true rfl)
                  refine ⟨_, rfl, D, _, 0, .int (a : Nat), rfl, rfl, SqL.of eD, at0, _, rfl, a, b, rfl, rfl, _, rfl, ite2 (fun d3 => ?_) (fun d3 => ?_)⟩
                  · exact bad (.inr (.inr fun z => by
                      rw [z] at d3
                      exact absurd d3 (by decide)))
                  · have g1 : Int.gcd a b = 1 := Classical.byContradiction fun z => d3 (by
                      rw [decide_eq_false (fun y => z (by have y' := V.int.inj y; omega))]
                      rfl)
                    exact fin' (fun z => z.elim n1 (fun z => z.elim n2 (fun z => z g1)))
              | false =>
                have n2 : ¬ (neg L = true ∧ a = 0) := fun z => by rw [hn] at z; exact absurd z.1 (by decide)
                refine iteF (iteF ?_)
                refine ⟨_, rfl, D, _, 0, .int (a : Nat), rfl, rfl, SqL.of eD, at0, _, rfl, a, b, rfl, rfl, _, rfl, ite2 (fun d3 => ?_) (fun d3 => ?_)⟩
                · exact bad (.inr (.inr fun z => by
                    rw [z] at d3
                    exact absurd d3 (by decide)))
                · have g1 : Int.gcd a b = 1 := Classical.byContradiction fun z => d3 (by
                    rw [decide_eq_false (fun y => z (by have y' := V.int.inj y; omega))]
                    rfl)
                  exact fin' (fun z => z.elim n1 (fun z => z.elim n2 (fun z => z g1)))
          · refine ⟨_, rfl, W, _, rfl, .inl (SqL.of eW), rfl, _, rfl, ?_⟩
            rw [lW, ln]
            cases two with
            | false =>
              refine iteT (rest _ _ ⟨rfl, ?_⟩)
              rw [e1 rfl]
              rfl
            | true =>
              refine iteF ⟨_, rfl, D, _, 1, .int (b : Nat), rfl, rfl, SqL.of eD, ?_, rest _ _ ⟨rfl, rfl⟩⟩
              rw [e2 rfl]
              exact atI_nat (j := 1) rfl
        · refine ⟨_, rfl, W, _, rfl, .inl (SqL.of eW), _, 2, rfl, rfl, _, rfl, ?_⟩
          rw [lW]
          cases ho : (cutAt (bare L)).2 with
          | none =>
            rw [ws_none ho] at rest iv fl eD ⊢
            refine iteF ⟨_, rfl, D, _, rfl, .inl (SqL.of eD), rfl, fl, _, rfl, ite2 (fun c => ?_) (fun c => ?_)⟩
            · have c' : inV .non ([(cutAt (bare L)).1].map numV) = true := c
              rw [iv] at c'
              refine q0 (nn1 ?_) _ s1
              cases hx : numIn (cutAt (bare L)).1 with
              | none => rfl
              | some a => rw [List.any_cons, hx] at c'; cases c'
            · have c' : inV .non ([(cutAt (bare L)).1].map numV) ≠ true := c
              rw [iv] at c'
              cases hx : numIn (cutAt (bare L)).1 with
              | none => rw [List.any_cons, hx] at c'; exact absurd rfl c'
              | some a =>
                refine rest _ _ ⟨rfl, false, a, 1, [], rfl, rfl, by rw [ho]; rfl, hx, by rw [ho]; rfl, ?_, (fun z => by cases z), fun _ => rfl⟩
                show [numV (cutAt (bare L)).1] = _
                unfold numV
                rw [hx]
                rfl
          | some B =>
            by_cases h47 : 47 ∈ B
            · have l3 : 3 ≤ (ws (bare L)).length := by
                rw [ws_some ho, List.length_cons]
                have := ws_more h47
                omega
              refine ite2 (fun c => iteT (q0 (nn2 ?_) _ s1)) (fun c => absurd (decide_eq_true (by omega)) c)
              rw [ho]
              exact if_pos h47
            · have e2w : ws (bare L) = [(cutAt (bare L)).1, B] := by rw [ws_some ho, ws_two h47]
              have hbo : botL (cutAt (bare L)).2 = numIn B := by
                rw [ho]
                exact if_neg h47
              rw [e2w] at rest iv fl eD ⊢
              refine iteF ⟨_, rfl, D, _, rfl, .inl (SqL.of eD), rfl, fl, _, rfl, ite2 (fun c => ?_) (fun c => ?_)⟩
              · have c' : inV .non ([(cutAt (bare L)).1, B].map numV) = true := c
                rw [iv] at c'
                cases hx : numIn (cutAt (bare L)).1 with
                | none => exact q0 (nn1 hx) _ s1
                | some a =>
                  cases hy : numIn B with
                  | none => exact q0 (nn2 (by rw [hbo, hy])) _ s1
                  | some b => rw [List.any_cons, List.any_cons, hx, hy] at c'; cases c'
              · have c' : inV .non ([(cutAt (bare L)).1, B].map numV) ≠ true := c
                rw [iv] at c'
                cases hx : numIn (cutAt (bare L)).1 with
                | none => rw [List.any_cons, hx] at c'; exact absurd rfl c'
                | some a =>
                  cases hy : numIn B with
                  | none => rw [List.any_cons, List.any_cons, hx, hy] at c'; exact absurd rfl c'
                  | some b =>
                    refine rest _ _ ⟨rfl, true, a, b, [.int (b : Nat)], rfl, rfl, by rw [ho]; rfl, hx, by rw [hbo, hy], ?_, (fun _ => rfl), (fun z => by cases z)⟩
                    show [numV (cutAt (bare L)).1, numV B] = _
                    unfold numV
                    rw [hx, hy]
                    rfl
    · refine ⟨_, rfl, _, rfl, _, rfl, hl, rfl, _, rfl, ?_⟩
      rw [SX.slice_to (by decide)]
      refine ite2 (fun c => ?_) (fun c => ?_)
      · have e : neg L = true := (take_neg L).mp (by
          have z := V.str.inj (of_decide_eq_true c)
          rw [str_minus] at z
          exact congrArg TL.tl z)
        refine ⟨_, rfl, _, rfl, _, rfl, hl, rest _ _ ⟨?_, rfl⟩⟩
        rw [SX.slice_from (by decide)]
        unfold bare
        rw [if_pos e]
        rfl
      · have e : neg L ≠ true := fun z => c (by
          have y : L.take (1 : Int).toNat = [45] := (take_neg L).mpr z
          rw [y, str_minus]
          exact decide_eq_true rfl)
        refine ⟨_, rfl, rest _ _ ⟨?_, rfl⟩⟩
        rw [(bare_same L).mpr e]
        rfl
end
end Nv

set_option maxRecDepth 100000
set_option maxHeartbeats 8000000
namespace Nv
open PySem PySem.Spec PyProof.Rows L2 LamX
/-! _law_tried: what is told, or the refusal's word. -/
abbrev sTried : Stmt := topS 24
theorem scTried : FnScope ["_law_ask", "e"] ["_law_ask"] (defScope sTried) := ⟨rfl, rfl, rfl, by decide +kernel, rfl, by decide +kernel, by decide +kernel⟩
/-- C: the class of what is raised, if anything is -/
def eTried (C : Addr) (Q : VK) : XK := fun cls d H' => cls = .ref C ∧ ∃ (dd : Addr) (w : Str), d = some dd ∧ H' dd = some (.xd (wordOf w)) ∧ ∀ p, H' p = none → Q (.ref p) (upd H' p (.tup [.str "no", .str w]))
def TTried (C : Addr) : (XK → Hp → VK → Prop) → Hp → VK → Prop := fun tl H Q => tl (eTried C Q) H fun v H' => [V.str "told", v].length ≤ sizeLine ∧ ∀ p, H' p = none → Q (.ref p) (upd H' p (.tup [.str "told", v]))
section
variable {X : Cx} {CN C fN fI : Addr}
theorem tried_gives {g : Addr} {cdg : Value} {q x : Str} (R : Errs X.K X.mg x CN C fN fI) :
    GivesTo X ["_law_ask", "e"] "_law_tried" (defScope sTried) g cdg (defBody sTried) "_law_ask" q (TTried C) := by
  intro f c' s H Q tl act hc h
  refine ⟨_, pss_one (ps_try_named (X := (cxOf C8.CX0 X.prog X.w X.K X.mg X.base ["_law_ask", "e"] "_law_tried" (defScope sTried) g cdg X.A X.stack s H C8.E0).nox)
      (cl := [([.ref CN], 1, fun a cls d => tRet (tTup (tCons (tC (.str "no")) (tCons (tXf a cls d C "word" (tVar 1)) tNil))))])
      (tb := fun W D σ H => ∃ Ech : XK, (∀ cls d σ' H', Ech cls d H' → σ'.length = 2 → W cls d σ' H') ∧ σ = [some (.ref f), none] ∧ H c' = some (CodeO c' q) ∧ tl Ech H fun v H' => [V.str "told", v].length ≤ sizeLine ∧ ∀ p, H' p = none → D.rt (.ref p) (upd H' p (.tup [.str "told", v])))
      rfl rfl scTried.nd (fun W pn xe tk _ => ?_)
      (.one rfl rfl ⟨by rfl, by decide, .inl R.gN⟩ (fun a oe cls d pn hz hf => pss_one (ps_ret (pe_tup (pa_cons pe_str (pa_cons (pe_xf R.xf R.word hz hf (pv 1)) pa_nil))))) .stop)), ?_⟩
  · refine ⟨fun pins s' σ H' D I h' => ?_⟩
    obtain ⟨Ech, hW, h1, h2, h3⟩ := h'
    have tk' : Takes ((cxOf C8.CX0 X.prog X.w X.K X.mg X.base ["_law_ask", "e"] "_law_tried" (defScope sTried) g cdg X.A X.stack s H C8.E0).tr pn xe) (fun cls d σ H => σ.length = 2 → W cls d σ H) := fun u s2 z => by
      obtain ⟨a, B, sI, pins2, σ2, H2, cls, d, e, J, nb, up, sky, na, os, ag, w⟩ := z
      exact tk u s2 ⟨a, B, sI, pins2, σ2, H2, cls, d, e, J, nb, up, sky, na, os, ag, w J.len⟩
    have hp := fun p1 p2 => act _ pn xe Ech p1 p2 tk' hW
    refine (pss_one (ps_ret (pe_tup (pa_cons pe_str (pa_cons (hp _ _) pa_nil))))).run pins s' σ H' D I ?_
    subst h1
    exact ⟨rfl, h2, h3⟩
  · refine ⟨eTried C Q, fun cls d σ' H' hE hl => ?_, rfl, hc, h⟩
    obtain ⟨rfl, dd, w, rfl, hd, hq⟩ := hE
    refine ⟨true, R.hit, fun _ a na => ?_, fun z => nomatch z⟩
    have hs : (σ'.set 1 (some (V.ref a)))[1]? = some (some (V.ref a)) := by
      rw [List.getElem?_set_self (by omega)]
    exact ⟨_, hs, rfl, rfl, dd, wordOf w, .str w, rfl, hd, rfl, (by show 2 ≤ sizeLine; decide), fun p hp => hq p hp⟩
end
/-! The law. -/
abbrev sLaw : Stmt := topS 31
abbrev nLaw : List Str := ["_law_script", "_law_bag_here", "_law_turn", "_law_one", "_law_text", "_law_at", "_law_sign", "_law_bent", "_law_due"]
theorem scLaw : FnScope nLaw ["_law_script"] (defScope sLaw) := ⟨rfl, rfl, rfl, by decide +kernel, rfl, by decide +kernel, by decide +kernel⟩
def qLam : Str := "law.<locals>.<lambda>"
def spLaw (K : PySem.W.Frag) (Pt : Addr) : Sp := fun vs H Q _ => ∃ (a : Addr) (ns : List Int), vs = [.ref a] ∧ SqL K H a (ns.map V.int) ∧ Tabs [(Pt, qLam)] H ∧ ∀ H', Q (.bl true) H'
structure Calls (P : Program) (w : World) (K : PySem.W.Frag) (mg : Str → Option Value) (base : Heap) (C : Addr) : Prop where
  text : C8.Cal P w K mg base 2 "share_text" (spText K) []
  read : CalX P w K mg base 5 "read_share" (spRead C) []
  draw : C8.Cal P w K mg base 4 "_law_share" spDraw []
  shIn : C8.Cal P w K mg base 2 "_law_share_in" spShIn []
  pull : C8.Cal P w K mg base 1 "_law_pull" spPull []
  pick : C8.Cal P w K mg base 2 "_law_of" spOf []
  bag : C8.Cal P w K mg base 1 "_law_bag" (spBag K) []
  same2 : C8.Cal P w K mg base 3 "_law_same" (spSame K 2) []
/-! texts -/
theorem str_is (z : Str) : z = SX.S (TL.tl z) := TL.ext_tl rfl
theorem ofString_append (a b : String) : Str.ofString (a ++ b) = Str.ofString a ++ Str.ofString b := by
  rw [Str.ofString_eq_toList, Str.ofString_eq_toList a, Str.ofString_eq_toList b]
  refine TL.ext_tl ?_
  show ((a ++ b).toList.map Char.toNat).toArray.toList = ((a.toList.map Char.toNat).toArray ++ (b.toList.map Char.toNat).toArray).toList
  rw [String.toList_append, List.map_append, Array.toList_append]
theorem str_text {t d : Int} (hd : 0 < d) : Str.ofString (toString t) ++ (if d > 1 then Str.ofString "/" ++ Str.ofString (toString d) else Str.ofString "") = SX.S (textL t d) := by
  have e1 : Str.ofString (toString t) = SX.S ((if t < 0 then [45] else []) ++ TL.numL t.natAbs) := by
    by_cases h : t < 0
    · rw [toString_neg h, if_pos h]
      have e : (0 - t) = ((t.natAbs : Nat) : Int) := by omega
      rw [e]
      have : Str.ofString ("-" ++ toString ((t.natAbs : Nat) : Int)) = Str.ofString "-" ++ Str.ofString (toString ((t.natAbs : Nat) : Int)) := ofString_append _ _
      rw [this, ofS, str_minus, SX.S_cat]
    · rw [if_neg h]
      have e : t = ((t.natAbs : Nat) : Int) := by omega
      conv => lhs; rw [e]
      rw [ofS]
      rfl
  have e2 : Str.ofString (toString d) = SX.S (TL.numL d.natAbs) := by
    have e : d = ((d.natAbs : Nat) : Int) := by omega
    conv => lhs; rw [e]
    exact ofS _
  unfold textL
  rw [e1, e2, str_stroke, str_empty]
  by_cases h : d > 1
  · rw [if_pos h, if_pos (show d ≠ 1 by omega), SX.S_cat, SX.S_cat]
    rfl
  · rw [if_neg h, if_neg (show ¬ (d ≠ 1) by omega), SX.S_cat]
theorem text_len {t d : Int} (ht : t.natAbs < 10 ^ 12) (hd : d.natAbs < 10 ^ 12) : (textL t d).length ≤ 26 := by
  have lt : (TL.numL t.natAbs).length ≤ 12 := TL.numL_len (by decide) ht
  have ld : (TL.numL d.natAbs).length ≤ 12 := TL.numL_len (by decide) hd
  unfold textL
  rw [List.length_append, List.length_append]
  have h1 : (if t < 0 then [45] else [] : List Nat).length ≤ 1 := by split <;> decide
  have h2 : (if d ≠ 1 then 47 :: TL.numL d.natAbs else [] : List Nat).length ≤ 13 := by
    split
    · rw [List.length_cons]; omega
    · decide
  omega
end Nv

set_option maxRecDepth 100000
set_option maxHeartbeats 8000000
namespace Nv
open PySem PySem.Spec PyProof.Rows L2 LamX
theorem ofT_len {t : Int} (h : t.natAbs < 10 ^ 12) : (Str.ofString (toString t)).length ≤ 13 := by
  have lt : (TL.numL t.natAbs).length ≤ 12 := TL.numL_len (by decide) h
  by_cases c : t < 0
  · rw [toString_neg c, ofString_append]
    have e : (0 - t) = ((t.natAbs : Nat) : Int) := by omega
    rw [e, ofS, str_minus, SX.S_cat, SX.S_len, List.length_append]
    show 1 + _ ≤ _
    omega
  · have e : t = ((t.natAbs : Nat) : Int) := by omega
    rw [e, ofS, SX.S_len]
    omega
section
variable {P : Program} {w : World} {K : PySem.W.Frag} {mg : Str → Option Value} {base : Heap} {CN C fN fI : Addr}
theorem ok_law {f fT c Pt : Addr} {fdT : FuncData} {oc doc pm ct kV : Value} {od an : Option Addr} {osl : Array (Option Value)}
    (lk : K.lookup f = some ⟨oc, od, .func (PySem.W.fnOf "law" "law" (defArgs sLaw) (defBody sLaw) (defScope sLaw) .none kV doc pm an (.ref c) ct), osl⟩) (hcd : PySem.W.codeIn K (.ref c) "law" = true)
    (G : Calls P w K mg base C) (B : Blt mg) (R : Errs K mg "BadShare" CN C fN fI) (FT : Fun K "_law_tried" "_law_tried" sTried fT fdT) (gT : mg "_law_tried" = some (.ref fT)) (TB : TabB base mg c Pt) :
    FnOk P w K mg base CX0 9 f (PySem.W.fnOf "law" "law" (defArgs sLaw) (defBody sLaw) (defScope sLaw) .none kV doc pm an (.ref c) ct) ["_law_script"] (spLaw K Pt) := by
  have bT := FT.binds (ps := ["_law_ask"]) fun _ _ _ _ _ _ us hl => match us, hl with | [_], _ => rfl
  obtain ⟨ocT, odT, kVT, docT, pmT, anT, cdT, ctT, oslT, rfl, lkT, hcT⟩ := FT.ex
  refine fn_of lk hcd scLaw (fun vs H Q E h => ?_) (fun A outer s H vs Q E hr h => ?_)
  · obtain ⟨a, ns, rfl, _⟩ := h
    rfl
  · obtain ⟨a, ns, rfl, hS, hT, q⟩ := h
    suffices hh : ∃ t, PSs (cxOf CX0 P w K mg base nLaw "law" (defScope sLaw) f (.ref c) A outer s H E).nox (defBody sLaw) t ∧ t { nx := fun _ H' => Q .non H', rt := Q } (L2.start nLaw [.ref a]) H by
      obtain ⟨t, h1, h2⟩ := hh
      exact ⟨t, h1.nox, h2⟩
    refine ⟨_, pss_cons (ps_set (i := 1) scLaw.nd rfl (.inl rfl) (C8.pe_c G.bag hr (by decide) (by rfl) (pa_cons (pv 0) pa_nil)))
      (pss_cons (ps_for PassesOwn.never rfl (pi_range1 (by rfl) B.rng (pa_cons pe_int pa_nil)) (pg_name (i := 2) scLaw.nd rfl (.inl rfl))
        (pss_cons (ps_set (i := 3) scLaw.nd rfl (.inl rfl) (C8.pe_c G.draw hr (by decide) (by rfl) (pa_cons (pv 1) pa_nil)))
        (pss_cons (ps_set (i := 4) scLaw.nd rfl (.inl rfl) (pe_op op_add_str (pe_callTy call_str_int (by rfl) B.str (by decide +kernel) (pa_cons (pe_ix ix_tup (pv 3) pe_int (fun _ _ => rfl)) pa_nil))
          (pe_ifExp (pt_cmpR op_gt (pe_ix ix_tup (pv 3) pe_int (fun _ _ => rfl)) pe_int (nomark _)) (pe_op op_add_str pe_str (pe_callTy call_str_int (by rfl) B.str (by decide +kernel) (pa_cons (pe_ix ix_tup (pv 3) pe_int (fun _ _ => rfl)) pa_nil))) pe_str)))
        (pss_cons (ps_if (pt_not (pt_val (C8.pe_c G.same2 hr (by decide) (by rfl) (pa_cons (pe_lst (pa_cons (C8.pe_c G.text hr (by decide) (by rfl) (pa_cons (pv 3) pa_nil)) (pa_cons (pe_cx G.read hr (by decide) (by rfl) (pa_cons (pv 4) pa_nil)) pa_nil))) (pa_cons (pe_lst (pa_cons (pv 4) (pa_cons (pv 3) pa_nil))) pa_nil))))) (pss_one (ps_ret pe_bl)) pss_nil)
        (pss_cons (ps_set (i := 5) scLaw.nd rfl (.inl rfl) (C8.pe_c G.pull hr (by decide) (by rfl) (pa_cons (pv 1) (pa_cons (pe_op op_add (pe_callB call_len_str (by rfl) B.len PySem.boot_len (pa_cons (pv 4) pa_nil)) pe_int) pa_nil))))
        (pss_cons (ps_set (i := 6) scLaw.nd rfl (.inl rfl) (C8.pe_c G.pick hr (by decide) (by rfl) (pa_cons (pv 1) (pa_cons (pe_lst (pa_cons pe_str (pa_cons pe_str (pa_cons pe_str (pa_cons pe_str (pa_cons pe_str (pa_cons pe_str (pa_cons pe_str (pa_cons pe_str (pa_cons pe_str (pa_cons pe_str pa_nil))))))))))) pa_nil))))
        (pss_one (ps_for PassesOwn.never rfl (pi_list (pe_lst (pa_cons (pe_op op_add_str (pe_op op_add_str (pe_slice C8.sl_txt (pv 4) po_none (po_some (pv 5))) (pv 6)) (pe_slice C8.sl_txt (pv 4) (po_some (pv 5)) po_none))
            (pa_cons (pe_op op_add_str (pe_op op_add_str (pe_slice C8.sl_txt (pv 4) po_none (po_some (pv 5))) (pv 6)) (pe_slice C8.sl_txt (pv 4) (po_some (pe_op op_add (pv 5) pe_int)) po_none))
            (pa_cons (pe_op op_ones pe_str pe_int) (pa_cons (pe_op op_add_str pe_str (pe_op op_ones pe_str pe_int)) (pa_cons pe_str (pa_cons pe_str pa_nil)))))))) (pg_name (i := 7) scLaw.nd rfl (.inr rfl))
          (pss_cons (ps_set (i := 8) scLaw.nd rfl (.inl rfl) (C8.pe_c G.shIn hr (by decide) (by rfl) (pa_cons (pv 7) pa_nil)))
          (pss_one (ps_if (pt_not (pt_val (C8.pe_c G.same2 hr (by decide) (by rfl) (pa_cons (pe_lamcall (T := [(Pt, qLam)]) (k := 6) (by rfl) gT FT.kp lkT hcT bT scTried rfl (.inl rfl) (tried_gives R) TB rfl (List.mem_singleton.mpr (by rfl)) (fun p hp _ => by rw [List.mem_singleton.mp hp]; rfl) (hr.mono (by decide)) (lamS_by (sc := defScope sLaw) (by decide +kernel)) rfl (fun _ _ _ _ _ => rfl)
              (fun A outer s H E f c' hr2 => pe_cxE G.read hr2 (by decide) (passes_call (takes_of rfl rfl rfl rfl) (fun _ _ _ _ z => z)) (by rfl) (pa_cons (pv 7) pa_nil)))
            (pa_cons (pe_ifExp (pt_cmpR op_notN (pv 8) pe_non (nomark _)) (pe_tup (pa_cons pe_str (pa_cons (pv 8) pa_nil))) (pe_tup (pa_cons pe_str (pa_cons pe_str pa_nil)))) pa_nil))))) (pss_one (ps_ret pe_bl)) pss_nil)))))))))))
      (pss_one (ps_ret pe_bl))), ?_⟩
    -- the bag
    refine ⟨_, rfl, a, ns, rfl, hS, fun l b H1 s1 nb nl B1 => ?_⟩
    have O1 : Ok l b [(Pt, qLam)] H1 := ⟨B1, hT.ext s1⟩
    refine ⟨8, rfl, by decide, by decide, for_range (lo := 0) (n := (8 : Int).toNat) (fun i σ H' => ∃ y2 y3 y4 y5 y6 y7 y8, σ = [some (.ref a), some (.ref b), y2, y3, y4, y5, y6, y7, y8] ∧ Ok l b [(Pt, qLam)] H') ⟨_, _, _, _, _, _, _, rfl, O1⟩ ?_ ?_⟩
    · rintro i σ H0 hi ⟨y2, y3, y4, y5, y6, y7, y8, rfl, O0⟩
      -- a share, and its text
      refine ⟨_, rfl, l, b, rfl, O0.bag, fun p1 t d H2 dr B2 g2 n1 e1 => ?_⟩
      have O2 := O0.grow g2 B2
      have l26 := text_len dr.top dr.bot
      have lg : ∀ x : Int, x.natAbs < 10 ^ 12 → x.natAbs.log2 < 1920 := fun x hx => log60 (lt60 hx)
      refine keepN (fun σ' H' => σ' = [some (.ref a), some (.ref b), some (.int (0 + (i : Int))), some (.ref p1), some (.str (SX.S (textL t d))), y5, y6, y7, y8] ∧ H' = H2) (fun σ' H' hM => ?_) (fun rest => ?_)
      · obtain ⟨rfl, rfl⟩ := hM
        have hz : (SX.S (textL t d)).length ≤ sizeLine := by rw [SX.S_len, sizeLine_eq]; omega
        have rt := read_text dr.pos dr.low dr.top dr.bot
        refine ⟨_, rfl, p1, t, d, rfl, SqT.of e1, lt60 dr.top, dr.pos, lt60 dr.bot, fun J1 s1 => ?_⟩
        refine ⟨_, rfl, textL t d, rfl, by omega, fun t' d' hr' p2 J2 s2 n2 e2 => ?_, fun z => (by rw [rt] at z; cases z)⟩
        obtain ⟨rfl, rfl⟩ : t = t' ∧ d = d' := by
          rw [rt] at hr'
          cases hr'
          exact ⟨rfl, rfl⟩
        refine ⟨(by show 2 ≤ sizeLine; decide), fun L1 nL1 => ?_⟩
        have s3 := same_new (o := .lst [V.str (SX.S (textL t d)), V.ref p2]) nL1
        have f3 : (upd J2 L1 (.lst [V.str (SX.S (textL t d)), V.ref p2])) L1 = _ := upd_same
        generalize upd J2 L1 (.lst [V.str (SX.S (textL t d)), V.ref p2]) = J3 at s3 f3 ⊢
        refine ⟨_, rfl, _, rfl, (by show 2 ≤ sizeLine; decide), fun L2 nL2 => ?_⟩
        have s4 := same_new (o := .lst [V.str (SX.S (textL t d)), V.ref p1]) nL2
        have f4 : (upd J3 L2 (.lst [V.str (SX.S (textL t d)), V.ref p1])) L2 = _ := upd_same
        generalize upd J3 L2 (.lst [V.str (SX.S (textL t d)), V.ref p1]) = J4 at s4 f4 ⊢
        have s34 := Same.trans s3 s4
        have s14 := Same.trans s1 (Same.trans s2 s34)
        refine ⟨.ref L1, .ref L2, rfl, twin_all (.inl ⟨SqL.of (s4 _ _ f3), SqL.of f4⟩) (by show 2 ≤ 1000; decide) (.cons (Twin.one (Scal.str _) 1) (.cons (twin_sh (s34 _ _ e2) (s14 _ _ e1)) .nil)), fun J5 s5 => ⟨_, rfl, iteF ?_⟩⟩
        have O5 := O2.same (Same.trans s14 s5)
        clear s14 s34 s4 s3 s2 s1 f4 f3 nL2 nL1 e2 n2
        -- where, and which sign
        refine ⟨_, rfl, _, rfl, _, rfl, hz, _, 1, rfl, rfl, l, b, _, rfl, ?_, ?_, O5.bag, fun at_ J6 a0 a1 B6 t6 => ?_⟩
        · omega
        · rw [SX.S_len]
          exact small_fit (n := (textL t d).length + 1) (by omega)
        have O6 := O5.grow t6.grow B6
        refine ⟨_, rfl, (by show 10 ≤ sizeLine; decide), fun o no => ?_⟩
        have O7 := O6.same (same_new (o := .lst [.str "0", .str "7", .str "/", .str "-", .str " ", .str "", .str "a", .str "2", .str "\n", .str "+"]) no)
        refine ⟨l, b, o, _, rfl, O6.bag.ne no, upd_same, (by show 0 < 10; decide), (by show 10 ≤ 1000; decide), O7.bag, fun v J8 hv B8 t8 => ?_⟩
        have O8 := O7.grow t8.grow B8
        obtain ⟨sg, rfl, ls⟩ : ∃ sg : List Nat, v = .str (SX.S sg) ∧ sg.length ≤ 1 := by
          have all : ∀ v ∈ [V.str "0", .str "7", .str "/", .str "-", .str " ", .str "", .str "a", .str "2", .str "\n", .str "+"], ∃ z : Str, v = .str z ∧ z.length ≤ 1 := fun v hv => by
            simp only [List.mem_cons, List.not_mem_nil, or_false] at hv
            rcases hv with rfl | rfl | rfl | rfl | rfl | rfl | rfl | rfl | rfl | rfl <;> exact ⟨_, rfl, by decide +kernel⟩
          obtain ⟨z, rfl, lz⟩ := all v hv
          exact ⟨TL.tl z, congrArg V.str (str_is z), by rw [str_is z, SX.S_len] at lz; exact lz⟩
        clear hv t8 O7 no
        -- the bent texts
        have l1 : (SX.S (textL t d)).length = (textL t d).length := SX.S_len _
        have sl1 : Txt.slice (SX.S (textL t d)) none (some at_) = SX.S ((textL t d).take at_.toNat) := SX.slice_to a0
        have sl2 : Txt.slice (SX.S (textL t d)) (some at_) none = SX.S ((textL t d).drop at_.toNat) := SX.slice_from a0
        have sl3 : Txt.slice (SX.S (textL t d)) (some (at_ + 1)) none = SX.S ((textL t d).drop (at_ + 1).toNat) := SX.slice_from (by omega)
        have z1 : (Txt.slice (SX.S (textL t d)) none (some at_)).length ≤ 26 := by
          rw [sl1, SX.S_len, List.length_take]
          omega
        have z2 : (Txt.slice (SX.S (textL t d)) (some at_) none).length ≤ 26 := by
          rw [sl2, SX.S_len, List.length_drop]
          omega
        have z3 : (Txt.slice (SX.S (textL t d)) (some (at_ + 1)) none).length ≤ 26 := by
          rw [sl3, SX.S_len, List.length_drop]
          omega
        have z4 : (SX.S sg).length ≤ 1 := by rw [SX.S_len]; exact ls
        have cat : ∀ (x y : Str) (m n : Nat), x.length ≤ m → y.length ≤ n → (x ++ y).length ≤ m + n := fun x y m n hx hy => by
          rw [str_is x, str_is y, SX.S_cat, SX.S_len, List.length_append]
          rw [str_is x, SX.S_len] at hx
          rw [str_is y, SX.S_len] at hy
          omega
        have z5 := cat _ _ _ _ z1 z4
        have z6 := cat _ _ _ _ z5 z2
        have z7 := cat _ _ _ _ z5 z3
        have fits : ∀ (x y : Str) (m n : Nat), x.length ≤ m → y.length ≤ n → m + n ≤ 1000 → x.length + y.length ≤ sizeLine := fun x y m n hx hy h => by
          rw [sizeLine_eq]
          omega
        have z8 : (SX.S (List.replicate 13 49)).length ≤ 13 := by decide
        have z9 : (Str.ofString "1/").length ≤ 2 := by decide +kernel
        refine ⟨_, rfl, _, rfl, at_, rfl, _, rfl, hz, _, rfl, _, _, rfl, rfl, fits _ _ _ _ z1 z4 (by decide), ?_⟩
        refine ⟨_, rfl, _, rfl, at_, rfl, _, rfl, hz, _, _, rfl, rfl, fits _ _ _ _ z5 z2 (by decide), ?_⟩
        refine ⟨_, rfl, _, rfl, at_, rfl, _, rfl, hz, _, rfl, _, _, rfl, rfl, fits _ _ _ _ z1 z4 (by decide), ?_⟩
        refine ⟨_, rfl, _, rfl, at_, 1, rfl, rfl, _, rfl, _, rfl, hz, _, _, rfl, rfl, fits _ _ _ _ z5 z3 (by decide), ?_⟩
        refine ⟨rfl, rfl, rfl, rfl, _, _, rfl, rfl, fits _ _ _ _ z9 z8 (by decide), (by show 6 ≤ sizeLine; decide), fun LL nLL => ?_⟩
        have z10 := cat _ _ _ _ z9 z8
        have O9 := O8.same (same_new (o := .lst [.str ((Txt.slice (SX.S (textL t d)) none (some at_) ++ SX.S sg) ++ Txt.slice (SX.S (textL t d)) (some at_) none), .str ((Txt.slice (SX.S (textL t d)) none (some at_) ++ SX.S sg) ++ Txt.slice (SX.S (textL t d)) (some (at_ + 1)) none),
          .str (SX.S (List.replicate 13 49)), .str (Str.ofString "1/" ++ SX.S (List.replicate 13 49)), .str "2/4", .str "00"]) nLL)
        have nLb := O8.bag.ne nLL
        obtain ⟨xs, exs, hxs⟩ : ∃ xs : List V, xs = [V.str ((Txt.slice (SX.S (textL t d)) none (some at_) ++ SX.S sg) ++ Txt.slice (SX.S (textL t d)) (some at_) none), .str ((Txt.slice (SX.S (textL t d)) none (some at_) ++ SX.S sg) ++ Txt.slice (SX.S (textL t d)) (some (at_ + 1)) none),
          .str (SX.S (List.replicate 13 49)), .str (Str.ofString "1/" ++ SX.S (List.replicate 13 49)), .str "2/4", .str "00"] ∧ ∀ v ∈ xs, ∃ M : List Nat, v = .str (SX.S M) ∧ M.length ≤ 100 := by
          refine ⟨_, rfl, fun v hv => ?_⟩
          have all : ∃ z : Str, v = .str z ∧ z.length ≤ 100 := by
            simp only [List.mem_cons, List.not_mem_nil, or_false] at hv
            rcases hv with rfl | rfl | rfl | rfl | rfl | rfl
            · exact ⟨_, rfl, Nat.le_trans z6 (by decide)⟩
            · exact ⟨_, rfl, Nat.le_trans z7 (by decide)⟩
            · exact ⟨_, rfl, Nat.le_trans z8 (by decide)⟩
            · exact ⟨_, rfl, Nat.le_trans z10 (by decide)⟩
            · exact ⟨_, rfl, by decide +kernel⟩
            · exact ⟨_, rfl, by decide +kernel⟩
          obtain ⟨z, rfl, lz⟩ := all
          exact ⟨TL.tl z, congrArg V.str (str_is z), by rw [str_is z, SX.S_len] at lz; exact lz⟩
        rw [← exs] at O9 ⊢
        have fL : (upd J8 LL (.lst xs)) LL = _ := upd_same
        generalize upd J8 LL (.lst xs) = J9 at O9 fL ⊢
        refine ⟨LL, rfl, ⟨_, SqL.of fL⟩, for_list (K := K) (a := LL) (xs := xs) (fun k σ H' => ∃ y7 y8, σ = [some (.ref a), some (.ref b), some (.int (0 + (i : Int))), some (.ref p1), some (.str (SX.S (textL t d))), some (.int at_), some (.str (SX.S sg)), y7, y8] ∧ Ok l b [(Pt, qLam)] H' ∧ H' LL = some (.lst xs)) ⟨_, _, rfl, O9, fL⟩ (fun k σ H' _ hP => ?_) ?_ ?_⟩
        · obtain ⟨_, _, _, _, hh⟩ := hP
          exact SqL.of hh
        · rintro k v σ H' hv ⟨y7, y8, rfl, P0, fL0⟩
          obtain ⟨M, rfl, lM⟩ := hxs v (List.mem_of_getElem? hv)
          refine ⟨_, rfl, M, rfl, by omega, fun t2 d2 hr2 p3 K1 s1 n3 e3 => ?_, fun hn K1 s1 => ?_⟩
          · have P1 := P0.same s1
            have fL1 := s1 _ _ fL0
            refine ⟨P1.tab, fun K2 ex T2 => ?_⟩
            replace P1 := P1.ext ex T2
            replace fL1 := ex _ _ fL1 (fun _ z => nomatch z)
            replace e3 := ex _ _ e3 (fun _ z => nomatch z)
            refine ⟨_, rfl, M, rfl, by omega, fun t3 d3 hr3 p4 K3 s3 n4 e4 => ?_, fun z => (by rw [read_same, hr2] at z; cases z)⟩
            obtain ⟨rfl, rfl⟩ : t2 = t3 ∧ d2 = d3 := by
              rw [read_same, hr2] at hr3
              cases hr3
              exact ⟨rfl, rfl⟩
            refine ⟨(by show 2 ≤ sizeLine; decide), fun fo nf => ?_⟩
            have s4 := same_new (o := .tup [V.str "told", V.ref p4]) nf
            have f4 : (upd K3 fo (.tup [V.str "told", V.ref p4])) fo = _ := upd_same
            generalize upd K3 fo (.tup [V.str "told", V.ref p4]) = K4 at s4 f4 ⊢
            refine ⟨_, rfl, rfl, _, rfl, iteT ⟨_, rfl, (by show 2 ≤ sizeLine; decide), fun q2 nq => ?_⟩⟩
            have s5 := same_new (o := .tup [V.str "told", V.ref p3]) nq
            have s45 := Same.trans s4 s5
            have s35 := Same.trans s3 s45
            refine ⟨.ref fo, .ref q2, rfl, twin_all (.inr ⟨SqT.of (s5 _ _ f4), SqT.of upd_same⟩) (by show 2 ≤ 1000; decide) (.cons (Twin.one (Scal.str _) 1) (.cons (twin_sh (s45 _ _ e4) (s35 _ _ e3)) .nil)), fun K6 s6 => ⟨_, rfl, iteF ?_⟩⟩
            have s36 := Same.trans s35 s6
            exact ⟨_, _, rfl, P1.same s36, s36 _ _ fL1⟩
          · have P1 := P0.same s1
            have fL1 := s1 _ _ fL0
            refine ⟨P1.tab, fun K2 ex T2 => ?_⟩
            replace P1 := P1.ext ex T2
            replace fL1 := ex _ _ fL1 (fun _ z => nomatch z)
            refine ⟨_, rfl, M, rfl, by omega, fun t3 d3 hr3 p4 K3 s3 n4 e4 => (by rw [read_same, hn] at hr3; cases hr3), fun _ dx K3 s3 nd ed => ?_⟩
            refine ⟨rfl, dx, _, rfl, ed, fun fo nf => ?_⟩
            have s4 := same_new (o := .tup [V.str "no", V.str "BadShare"]) nf
            have f4 : (upd K3 fo (.tup [V.str "no", V.str "BadShare"])) fo = _ := upd_same
            generalize upd K3 fo (.tup [V.str "no", V.str "BadShare"]) = K4 at s4 f4 ⊢
            refine ⟨_, rfl, rfl, _, rfl, iteF ⟨(by show 2 ≤ sizeLine; decide), fun q2 nq => ?_⟩⟩
            have s5 := same_new (o := .tup [V.str "no", V.str "BadShare"]) nq
            have s45 := Same.trans s4 s5
            have s35 := Same.trans s3 s45
            refine ⟨.ref fo, .ref q2, rfl, twin_all (.inr ⟨SqT.of (s5 _ _ f4), SqT.of upd_same⟩) (by show 2 ≤ 1000; decide) (.cons (Twin.one (Scal.str _) 1) (.cons (Twin.one (Scal.str _) 1) .nil)), fun K6 s6 => ⟨_, rfl, iteF ?_⟩⟩
            have s36 := Same.trans s35 s6
            exact ⟨_, _, rfl, P1.same s36, s36 _ _ fL1⟩
        · rintro σ H' ⟨y7, y8, rfl, P0, _⟩
          exact ⟨_, _, _, _, _, _, _, rfl, P0⟩
      · refine ⟨_, rfl, p1, _, 0, .int t, rfl, rfl, SqT.of e1, at0, t, rfl, lg t dr.top, ?_⟩
        have st := str_text (t := t) dr.pos
        refine ⟨_, rfl, p1, _, 1, .int d, rfl, rfl, SqT.of e1, at1, d, 1, rfl, rfl, _, rfl, ite2 (fun c => ?_) (fun c => ?_)⟩
        · have g : 1 < d := of_decide_eq_true c
          rw [if_pos g] at st
          have lt := ofT_len dr.top
          have ld := ofT_len dr.bot
          refine ⟨_, rfl, p1, _, 1, .int d, rfl, rfl, SqT.of e1, at1, d, rfl, lg d dr.bot, _, _, rfl, rfl, ?_, _, _, rfl, rfl, ?_, rest _ _ ⟨?_, rfl⟩⟩
          · rw [sizeLine_eq, str_stroke, SX.S_len]
            show 1 + _ ≤ _
            omega
          · have e : (Str.ofString "/" ++ Str.ofString (toString d)).length = 1 + (Str.ofString (toString d)).length := by
              rw [str_is (Str.ofString (toString d)), str_stroke, SX.S_cat, SX.S_len, SX.S_len, List.length_append]
              rfl
            rw [sizeLine_eq, e]
            omega
          · rw [← st]
            rfl
        · have g : ¬ 1 < d := fun z => c (decide_eq_true z)
          rw [if_neg g] at st
          refine ⟨_, _, rfl, rfl, ?_, rest _ _ ⟨?_, rfl⟩⟩
          · have := ofT_len dr.top
            rw [sizeLine_eq, str_empty, SX.S_len]
            show (Str.ofString (toString t)).length + 0 ≤ _
            omega
          · rw [← st]
            rfl
    · rintro σ H' ⟨y2, y3, y4, y5, y6, y7, y8, rfl, O0⟩
      exact q _
end
end Nv

set_option maxRecDepth 100000
set_option maxHeartbeats 4000000
namespace Nv
open PySem PySem.Spec PyProof.Rows L2 LamX
/-- a def as the top has left it, under its own name -/
structure DefAt (K : PySem.W.Frag) (x : Str) (st : Stmt) (f : Addr) : Prop where
  ns : PySem.W.nsIn K mainGlobals x = some (some (.ref f))
  ex : ∃ (oc : Value) (od : Option Addr) (kV doc pm : Value) (an : Option Addr) (cdv ct : Value) (osl : Array (Option Value)), K.lookup f = some ⟨oc, od, .func (PySem.W.fnOf x x (defArgs st) (defBody st) (defScope st) .none kV doc pm an cdv ct), osl⟩ ∧ PySem.W.codeIn K cdv x = true
  kp : PySem.W.keepIn K (.ref f) = true
theorem DefAt.fn {K : PySem.W.Frag} {x : Str} {st : Stmt} {f : Addr} (D : DefAt K x st f) : ∃ fd, Fun K x x st f fd := by
  obtain ⟨oc, od, kV, doc, pm, an, cdv, ct, osl, l, c⟩ := D.ex
  exact ⟨_, fun_mk l c D.kp⟩
/-- what of a code object's fields a lambda's making asks -/
def codeOk (vs : Array Value) (c P : Addr) : Bool := (match (vs[11]? : Option Value) with | some (.ref Q) => Q == P | _ => false) && (match vs.getD 18 .none with | .str _ _ => true | _ => false) && (match vs.getD 7 .none with | .int _ _ => true | _ => false) &&
  (match vs.getD 9 .none with | .bool _ => true | _ => false) && (match vs.getD 10 .none with | .int _ _ => true | _ => false) && c != P
theorem codeHd_at {K : PySem.W.Frag} {c P : Addr} {d : Option Addr} {vs : Array Value} {sl : Array (Option Value)} (l : K.lookup c = some ⟨.type "code", d, .fields vs, sl⟩) (h : codeOk vs c P = true) : PySem.W.codeHdIn K c P = true := by
  unfold PySem.W.codeHdIn
  rw [l]
  exact h
theorem exm_of {K : PySem.W.Frag} {C D : Addr} (h1 : PySem.W.subIn K (.ref D) (.type "BaseException") = some true) (h2 : PySem.W.isClsIn K D = true) (h3 : PySem.W.typeIn K (.ref D) = some (.type "type")) (h4 : PySem.W.subIn K (.ref C) (.ref D) = some true) : PySem.W.exmOne K (.ref C) (.ref D) = some true := by
  have e2 : ((PySem.W.clsIn K D).isSome && PySem.W.typeIn K (.ref D) == some (.type "type")) = true := by
    have h2' : (PySem.W.clsIn K D).isSome = true := h2
    rw [h2', h3]
    rfl
  unfold PySem.W.exmOne
  rw [h1, if_pos (show ((some true : Option Bool) == some true) = true from rfl)]
  show (if ((PySem.W.clsIn K D).isSome && PySem.W.typeIn K (.ref D) == some (.type "type")) = true then PySem.W.subIn K (.ref C) (.ref D) else none) = some true
  rw [if_pos e2, h4]
section
variable {P : Program} {w : World} {K : PySem.W.Frag} {mg : Str → Option Value} {base : Heap}
theorem cal {k : Nat} {x : Str} {f : Addr} {fd : FuncData} {ps : List Str} {sp : Sp} (G : FnOk P w K mg base CX0 k f fd ps sp) (hm : mg x = some (.ref f)) (kp : PySem.W.keepIn K (.ref f) = true) (b : Binds K fd ps []) : C8.Cal P w K mg base k x sp [] := ⟨f, fd, ps, [], G, hm, kp, b, .nil⟩
theorem calX {k : Nat} {x : Str} {f : Addr} {fd : FuncData} {ps : List Str} {sp : Sp} (G : FnOk P w K mg base (L2.CX P w) k f fd ps sp) (hm : mg x = some (.ref f)) (kp : PySem.W.keepIn K (.ref f) = true) (b : Binds K fd ps []) : CalX P w K mg base k x sp [] := ⟨f, fd, ps, [], G, hm, kp, b, .nil⟩
theorem all_mk {l : PySem.W.OpenLaw} {h : Heap} {fa f0 f1 f2 f3 f4 f5 f6 f7 f8 f9 f10 f11 f12 f13 f14 f15 fS CN C C2 fN fI fI2 c Pt : Addr} (X : K.In h) (G : h.Ns mainGlobals mg) (hfa : mg "law" = some (.ref fa))
    (D0 : DefAt K "common_divisor" sGcd f0) (D1 : DefAt K "figures_of" sFig f1) (D2 : DefAt K "share_text" sText f2) (D3 : DefAt K "read_figures" sFigs f3) (D4 : DefAt K "read_share" sRead f4) (D5 : DefAt K "_law_bag" sBag f5) (D6 : DefAt K "_law_pull" sPull f6) (D7 : DefAt K "_law_of" sOf f7) (D8 : DefAt K "_law_same" sSame f8) (D9 : DefAt K "_law_tried" sTried f9) (D10 : DefAt K "_law_gcd" sLGcd f10) (D11 : DefAt K "_law_fr" sLFr f11) (D12 : DefAt K "_law_share" sLShare f12) (D13 : DefAt K "_law_light" sLight f13) (D14 : DefAt K "_law_number_in" sNumIn f14) (D15 : DefAt K "_law_share_in" sShIn f15)
    {ocL docL pmL ctL kVL : Value} {odL anL : Option Addr} {oslL : Array (Option Value)} {fL : Addr} (aL : PySem.W.nsIn K mainGlobals "law" = some (some (.ref fL)))
    (lL : K.lookup fL = some ⟨ocL, odL, .func (PySem.W.fnOf "law" "law" (defArgs sLaw) (defBody sLaw) (defScope sLaw) .none kVL docL pmL anL (.ref c) ctL), oslL⟩) (cL : PySem.W.codeIn K (.ref c) "law" = true)
    {dC : Option Addr} {vsC : Array Value} {slC : Array (Option Value)} (lC : K.lookup c = some ⟨.type "code", dC, .fields vsC, slC⟩) (tL : h.get? Pt = some { cls := .none, data := .fields #[] }) (hC : codeOk vsC c Pt = true) (nL : K.lookup Pt = none)
    {ocS docS pmS ctS kVS cdS : Value} {odS anS : Option Addr} {oslS : Array (Option Value)} {TS : Addr} {oTS : Obj} {uS : Value} {zS : Nat} (aS : PySem.W.nsIn K mainGlobals "share" = some (some (.ref fS)))
    (lS : K.lookup fS = some ⟨ocS, odS, .func (PySem.W.fnOf "share" "share" (defArgs sShare) (defBody sShare) (defScope sShare) (.ref TS) kVS docS pmS anS cdS ctS), oslS⟩) (cS : PySem.W.codeIn K cdS "share" = true) (kS : PySem.W.keepIn K (.ref fS) = true)
    (tS : K.lookup TS = some oTS) (dS : oTS.data = .seq [uS].toArray zS) (vS : L2.RelV (.int 1) uS)
    (R4 : PySem.W.nsIn K mainGlobals "NeverError" = some (some (.ref CN))) (R9 : PySem.W.findCls K (.ref CN) (.type "type") "__init__" = some (.val (.ref fN)))
    {ocN docN pmN ctN kVN cdN : Value} {odN anN : Option Addr} {oslN : Array (Option Value)} {TN : Addr} {oTN : Obj} {uN1 uN2 : Value} {zN : Nat}
    (lN : K.lookup fN = some ⟨ocN, odN, .func (PySem.W.fnOf "__init__" "NeverError.__init__" (defArgs sNE) (defBody sNE) (defScope sNE) (.ref TN) kVN docN pmN anN cdN ctN), oslN⟩) (cN : PySem.W.codeIn K cdN "NeverError.__init__" = true)
    (tN : K.lookup TN = some oTN) (dN : oTN.data = .seq [uN1, uN2].toArray zN) (vN1 : L2.RelV (.str "NeverError") uN1) (vN2 : L2.RelV (.str "refused") uN2)
    {ocU docU pmU ctU kVU cdU : Value} {odU anU : Option Addr} {oslU : Array (Option Value)} (U3 : PySem.W.nsIn K mainGlobals "BadShare" = some (some (.ref C))) (U5 : PySem.W.findIn K (.ref C) "__init__" = some (some (.ref fI)))
    (Ul : K.lookup fI = some ⟨ocU, odU, .func (PySem.W.fnOf "__init__" "BadShare.__init__" (defArgs sBS) (defBody sBS) (defScope sBS) .none kVU docU pmU anU cdU ctU), oslU⟩) (Uc : PySem.W.codeIn K cdU "BadShare.__init__" = true) (Uk : PySem.W.keepIn K (.ref fI) = true)
    (U0 : OexC K C) (U1 : XfC K C) (U2 : PySem.W.findIn K (.ref C) "word" = some none) (U6 : PySem.W.typeIn K (.ref fI) = some (.type "function")) (U17 : PySem.W.subIn K (.ref C) (.ref CN) = some true)
    {ocW docW pmW ctW kVW cdW : Value} {odW anW : Option Addr} {oslW : Array (Option Value)} (W3 : PySem.W.nsIn K mainGlobals "ByNought" = some (some (.ref C2))) (W5 : PySem.W.findIn K (.ref C2) "__init__" = some (some (.ref fI2)))
    (Wl : K.lookup fI2 = some ⟨ocW, odW, .func (PySem.W.fnOf "__init__" "ByNought.__init__" (defArgs sBN) (defBody sBN) (defScope sBN) .none kVW docW pmW anW cdW ctW), oslW⟩) (Wc : PySem.W.codeIn K cdW "ByNought.__init__" = true) (Wk : PySem.W.keepIn K (.ref fI2) = true)
    (W0 : OexC K C2) (W1 : XfC K C2) (W2 : PySem.W.findIn K (.ref C2) "word" = some none) (W6 : PySem.W.typeIn K (.ref fI2) = some (.type "function")) (W17 : PySem.W.subIn K (.ref C2) (.ref CN) = some true)
    (R7 : PySem.W.readsIn K CN (.type "type") = true)
    (R8 : PySem.W.specialIn K (.ref CN) "__getattribute__" = some (some (.builtin "type.__getattribute__"))) (R10 : PySem.W.keepIn K (.ref fN) = true) (R11 : PySem.W.subIn K (.ref CN) (.type "BaseException") = some true) (R15 : PySem.W.isClsIn K CN = true) (R16 : PySem.W.typeIn K (.ref CN) = some (.type "type"))
    (R12 : PySem.W.findCls K (.type "ValueError") (.type "type") "__init__" = some (.val (.builtin "ValueError.__init__"))) (R14 : PySem.W.nsIn K mainGlobals "ValueError" = some none)
    {m0 m1 m2 m3 m4 : Tok} (M0 : PySem.W.nsIn K mainGlobals "LONG" = some (some (.int 6000 m0))) (M1 : PySem.W.nsIn K mainGlobals "PIECE" = some (some (.int 1000000000000000000000000000000000000000000000000000000000000 m1))) (M2 : PySem.W.nsIn K mainGlobals "PIECE_LENGTH" = some (some (.int 60 m2))) (M3 : PySem.W.nsIn K mainGlobals "MOST_FIGURES" = some (some (.int 12 m3))) (M4 : PySem.W.nsIn K mainGlobals "FIGURES" = some (some (.str "0123456789" m4)))
    (B0 : PySem.W.nsIn K mainGlobals "isinstance" = some none) (B1 : PySem.W.nsIn K mainGlobals "list" = some none) (B2 : PySem.W.nsIn K mainGlobals "tuple" = some none) (B3 : PySem.W.nsIn K mainGlobals "len" = some none) (B4 : PySem.W.nsIn K mainGlobals "all" = some none) (B5 : PySem.W.nsIn K mainGlobals "range" = some none) (B6 : PySem.W.nsIn K mainGlobals "bool" = some none) (B7 : PySem.W.nsIn K mainGlobals "int" = some none) (B8 : PySem.W.nsIn K mainGlobals "str" = some none) (B9 : PySem.W.nsIn K mainGlobals "abs" = some none) (B10 : PySem.W.nsIn K mainGlobals "reversed" = some none) (B11 : PySem.W.nsIn K mainGlobals "divmod" = some none) (B12 : PySem.W.nsIn K mainGlobals "any" = some none) : LawAtS l w K CX0 9 63 "_law_script" mg fa h := by
  have e := hfa.symm.trans (PySem.W.mg_of X G aL)
  cases e
  have T : Blt mg := ⟨PySem.W.mg_none_of X G B0, PySem.W.mg_none_of X G B1, PySem.W.mg_none_of X G B2, PySem.W.mg_none_of X G B3, PySem.W.mg_none_of X G B4, PySem.W.mg_none_of X G B5, PySem.W.mg_none_of X G B6, PySem.W.mg_none_of X G B7, PySem.W.mg_none_of X G B8, PySem.W.mg_none_of X G B9⟩
  have Z : Tops mg := ⟨⟨m1, PySem.W.mg_of X G M1⟩, ⟨m2, PySem.W.mg_of X G M2⟩, ⟨m3, PySem.W.mg_of X G M3⟩, ⟨m4, PySem.W.mg_of X G M4⟩, PySem.W.mg_none_of X G B10, PySem.W.mg_none_of X G B11, PySem.W.mg_none_of X G B12⟩
  have R : Errs K mg "BadShare" CN C fN fI := ⟨U0, U1, U2, PySem.W.mg_of X G U3, PySem.W.mg_of X G R4, U5, U6, ⟨R7, R8⟩, ⟨R9, rfl⟩, R10, exm_of R11 R15 R16 U17⟩
  have R2 : Errs K mg "ByNought" CN C2 fN fI2 := ⟨W0, W1, W2, PySem.W.mg_of X G W3, PySem.W.mg_of X G R4, W5, W6, ⟨R7, R8⟩, ⟨R9, rfl⟩, R10, exm_of R11 R15 R16 W17⟩
  obtain ⟨fd0, F0⟩ := D0.fn
  have b0 := F0.binds (ps := ["one", "other"]) fun _ _ _ _ _ _ us hl => match us, hl with | [_, _], _ => rfl
  have g0 := PySem.W.mg_of X G D0.ns
  obtain ⟨fd1, F1⟩ := D1.fn
  have b1 := F1.binds (ps := ["number"]) fun _ _ _ _ _ _ us hl => match us, hl with | [_], _ => rfl
  have g1 := PySem.W.mg_of X G D1.ns
  obtain ⟨fd2, F2⟩ := D2.fn
  have b2 := F2.binds (ps := ["one"]) fun _ _ _ _ _ _ us hl => match us, hl with | [_], _ => rfl
  have g2 := PySem.W.mg_of X G D2.ns
  obtain ⟨fd3, F3⟩ := D3.fn
  have b3 := F3.binds (ps := ["text"]) fun _ _ _ _ _ _ us hl => match us, hl with | [_], _ => rfl
  have g3 := PySem.W.mg_of X G D3.ns
  obtain ⟨fd4, F4⟩ := D4.fn
  have b4 := F4.binds (ps := ["text"]) fun _ _ _ _ _ _ us hl => match us, hl with | [_], _ => rfl
  have g4 := PySem.W.mg_of X G D4.ns
  obtain ⟨fd5, F5⟩ := D5.fn
  have b5 := F5.binds (ps := ["_law_script"]) fun _ _ _ _ _ _ us hl => match us, hl with | [_], _ => rfl
  have g5 := PySem.W.mg_of X G D5.ns
  obtain ⟨fd6, F6⟩ := D6.fn
  have b6 := F6.binds (ps := ["_law_bag_here", "_law_sides"]) fun _ _ _ _ _ _ us hl => match us, hl with | [_, _], _ => rfl
  have g6 := PySem.W.mg_of X G D6.ns
  obtain ⟨fd7, F7⟩ := D7.fn
  have b7 := F7.binds (ps := ["_law_bag_here", "_law_some"]) fun _ _ _ _ _ _ us hl => match us, hl with | [_, _], _ => rfl
  have g7 := PySem.W.mg_of X G D7.ns
  obtain ⟨fd8, F8⟩ := D8.fn
  have b8 := F8.binds (ps := ["_law_found", "_law_due"]) fun _ _ _ _ _ _ us hl => match us, hl with | [_, _], _ => rfl
  have g8 := PySem.W.mg_of X G D8.ns
  obtain ⟨fd9, F9⟩ := D9.fn
  have b9 := F9.binds (ps := ["_law_ask"]) fun _ _ _ _ _ _ us hl => match us, hl with | [_], _ => rfl
  have g9 := PySem.W.mg_of X G D9.ns
  obtain ⟨fd10, F10⟩ := D10.fn
  have b10 := F10.binds (ps := ["_law_one", "_law_other"]) fun _ _ _ _ _ _ us hl => match us, hl with | [_, _], _ => rfl
  have g10 := PySem.W.mg_of X G D10.ns
  obtain ⟨fd11, F11⟩ := D11.fn
  have b11 := F11.binds (ps := ["_law_top", "_law_bottom"]) fun _ _ _ _ _ _ us hl => match us, hl with | [_, _], _ => rfl
  have g11 := PySem.W.mg_of X G D11.ns
  obtain ⟨fd12, F12⟩ := D12.fn
  have b12 := F12.binds (ps := ["_law_bag_here"]) fun _ _ _ _ _ _ us hl => match us, hl with | [_], _ => rfl
  have g12 := PySem.W.mg_of X G D12.ns
  obtain ⟨fd13, F13⟩ := D13.fn
  have b13 := F13.binds (ps := ["_law_bag_here"]) fun _ _ _ _ _ _ us hl => match us, hl with | [_], _ => rfl
  have g13 := PySem.W.mg_of X G D13.ns
  obtain ⟨fd14, F14⟩ := D14.fn
  have b14 := F14.binds (ps := ["_law_text"]) fun _ _ _ _ _ _ us hl => match us, hl with | [_], _ => rfl
  have g14 := PySem.W.mg_of X G D14.ns
  obtain ⟨fd15, F15⟩ := D15.fn
  have b15 := F15.binds (ps := ["_law_text"]) fun _ _ _ _ _ _ us hl => match us, hl with | [_], _ => rfl
  have g15 := PySem.W.mg_of X G D15.ns
  have FS : FunD K "share" "share" (defArgs sShare) (defBody sShare) (defScope sShare) [.int 1] [] fS _ := ⟨⟨ocS, odS, _, kVS, docS, pmS, anS, cdS, ctS, oslS, rfl, lS, cS, .inr ⟨by simp, TS, oTS, [uS], zS, rfl, tS, dS, .cons vS .nil⟩, .inl rfl⟩, kS⟩
  have FN : FunD K "__init__" "NeverError.__init__" (defArgs sNE) (defBody sNE) (defScope sNE) [.str "NeverError", .str "refused"] [] fN _ := ⟨⟨ocN, odN, _, kVN, docN, pmN, anN, cdN, ctN, oslN, rfl, lN, cN, .inr ⟨by simp, TN, oTN, [uN1, uN2], zN, rfl, tN, dN, .cons vN1 (.cons vN2 .nil)⟩, .inl rfl⟩, R10⟩
  have FI : Fun K "__init__" "BadShare.__init__" sBS fI _ := fun_mk Ul Uc Uk
  have bI := FI.binds (ps := ["self"]) fun _ _ _ _ _ _ us hl => match us, hl with | [_], _ => rfl
  have FI2 : Fun K "__init__" "ByNought.__init__" sBN fI2 _ := fun_mk Wl Wc Wk
  have bI2 := FI2.binds (ps := ["self"]) fun _ _ _ _ _ _ us hl => match us, hl with | [_], _ => rfl
  obtain ⟨ds0, v0, b0S⟩ := FS.binds1 (ps := ["top", "bottom"]) 2 1 (by simp) rfl fun T kV doc pm an cdv ct us its hu hi => match us, hu, its, hi with
    | [_, _], _, [_], _ => ⟨_, rfl, rfl⟩
  obtain ⟨dsN, vN, bN⟩ := FN.binds1 (ps := ["self", "word", "message"]) 3 2 (by simp) rfl fun T kV doc pm an cdv ct us its hu hi => match us, hu, its, hi with
    | [_, _, _], _, [_, _], _ => ⟨_, rfl, rfl⟩
  cases vN
  cases v0
  have gS := PySem.W.mg_of X G aS
  refine ⟨PySem.W.fnOf "law" "law" (defArgs sLaw) (defBody sLaw) (defScope sLaw) .none kVL docL pmL anL (.ref c) ctL, [(c, Pt)], spLaw K Pt, fun p hp => ?_, fun p hp => ?_, fun p hp => ?_, fun s v => .of_eq rfl, fun H a ns hl hb hT hS => ⟨a, ns, rfl, hS, fun p hp => ?_, fun _ => rfl⟩, fun base _ _ hTB => ?_⟩
  · rw [List.mem_singleton.mp hp]
    exact tL
  · rw [List.mem_singleton.mp hp]
    exact nL
  · rw [List.mem_singleton.mp hp]
    exact PySem.W.codeHd_of_K X (codeHd_at lC hC)
  · rw [List.mem_singleton.mp hp]
    exact TabS.nil (hT (c, Pt) (List.mem_singleton.mpr rfl))
  · have cG := cal (ok_gcd (P := l.prog) (w := w) (base := base) (k := 0) F0 T.abs ⟨_, PySem.W.mg_of X G M0⟩) g0 F0.kp b0
    have cLG := cal (ok_law_gcd (P := l.prog) (w := w) (base := base) (k := 0) F10 T.abs) g10 F10.kp b10
    have GN : FnOk l.prog w K mg base CX0 1 fN _ _ _ := ok_NE (k := 0) FN (PySem.W.mg_none_of X G R14) R12
    have GI := ok_BS FI R GN bN
    have GI2 := ok_BN FI2 R2 GN bN
    have GS := ok_share FS R2 cG GI2 bI2
    have cS0 : CalX l.prog w K mg base 4 "share" (spShare C2) [] := ⟨fS, _, _, _, GS, gS, kS, b0S, .nil⟩
    have cP := cal (ok_pull (P := l.prog) (w := w) (base := base) (k := 0) F6 T.len) g6 F6.kp b6
    have cF := cal (ok_law_fr F11 cLG) g11 F11.kp b11
    have cL' := cal (ok_light F13 cF cP) g13 F13.kp b13
    have cFig := cal (ok_fig (P := l.prog) (w := w) (base := base) (k := 0) F1 T Z) g1 F1.kp b1
    have cTx := cal (ok_text F2 T cFig) g2 F2.kp b2
    have cRF := calX (ok_figs F3 T Z R GI bI) g3 F3.kp b3
    have cNI := cal (ok_numIn (P := l.prog) (w := w) (base := base) (k := 0) F14 T) g14 F14.kp b14
    have GC : Calls l.prog w K mg base C := {
      text := cTx
      read := calX (ok_read F4 R GI bI cRF cS0 cTx) g4 F4.kp b4
      draw := cal (ok_law_share F12 cF cP cL') g12 F12.kp b12
      shIn := cal (ok_shIn F15 T cNI cLG) g15 F15.kp b15
      pull := cP
      pick := cal (ok_of F7 cP T.len) g7 F7.kp b7
      bag := cal (ok_bag (k := 0) F5 T.lst) g5 F5.kp b5
      same2 := cal (ok_same F8 g8 b8 T 2) g8 F8.kp b8 }
    exact ok_law lL cL GC T R F9 g9 (hTB (c, Pt) (List.mem_singleton.mpr rfl))
end
end Nv

open PySem PySem.W PyProof.Rows
set_option maxRecDepth 100000 in
set_option maxHeartbeats 0 in
theorem PySem.Challenge.cw_nevernought_k02_shares_written_and_read_holds : PySem.Challenge.rw_nevernought_k02_shares_written_and_read.Holds := by
  w_on; o_law; k_head; (case hw => w_witness2)
  k_fill
  refine LamX.walk_ofTs (l := PySem.Challenge.rw_nevernought_k02_shares_written_and_read) (n := 63) (k := 9) (x := "_law_script") (CX := fun _ => L2.CX0) rfl (by decide) rfl ⟨rfl, by decide, by decide⟩ (fun w h Y => PySem.W.km_in_of Y) ?F (fun _ _ _ _ _ z => z)
  case F =>
    intro w mg fa h Y KX G hmg
    refine' Nv.all_mk KX G hmg ?D0 ?D1 ?D2 ?D3 ?D4 ?D5 ?D6 ?D7 ?D8 ?D9 ?D10 ?D11 ?D12 ?D13 ?D14 ?D15 ?aL ?lL ?cL ?lC ?tL ?hC ?nL ?aS ?lS ?cS ?kS ?tS ?dS ?vS ?R4 ?R9 ?lN ?cN ?tN ?dN ?vN1 ?vN2 ?U3 ?U5 ?Ul ?Uc ?Uk ?U0 ?U1 ?U2 ?U6 ?U17 ?W3 ?W5 ?Wl ?Wc ?Wk ?W0 ?W1 ?W2 ?W6 ?W17 ?R7 ?R8 ?R10 ?R11 ?R15 ?R16 ?R12 ?R14 ?M0 ?M1 ?M2 ?M3 ?M4 ?B0 ?B1 ?B2 ?B3 ?B4 ?B5 ?B6 ?B7 ?B8 ?B9 ?B10 ?B11 ?B12
    (case D0 => exact ⟨by k_is, ⟨_, _, _, _, _, _, _, _, _, by k_is, by k_is⟩, by k_is⟩)
    (case D1 => exact ⟨by k_is, ⟨_, _, _, _, _, _, _, _, _, by k_is, by k_is⟩, by k_is⟩)
    (case D2 => exact ⟨by k_is, ⟨_, _, _, _, _, _, _, _, _, by k_is, by k_is⟩, by k_is⟩)
    (case D3 => exact ⟨by k_is, ⟨_, _, _, _, _, _, _, _, _, by k_is, by k_is⟩, by k_is⟩)
    (case D4 => exact ⟨by k_is, ⟨_, _, _, _, _, _, _, _, _, by k_is, by k_is⟩, by k_is⟩)
    (case D5 => exact ⟨by k_is, ⟨_, _, _, _, _, _, _, _, _, by k_is, by k_is⟩, by k_is⟩)
    (case D6 => exact ⟨by k_is, ⟨_, _, _, _, _, _, _, _, _, by k_is, by k_is⟩, by k_is⟩)
    (case D7 => exact ⟨by k_is, ⟨_, _, _, _, _, _, _, _, _, by k_is, by k_is⟩, by k_is⟩)
    (case D8 => exact ⟨by k_is, ⟨_, _, _, _, _, _, _, _, _, by k_is, by k_is⟩, by k_is⟩)
    (case D9 => exact ⟨by k_is, ⟨_, _, _, _, _, _, _, _, _, by k_is, by k_is⟩, by k_is⟩)
    (case D10 => exact ⟨by k_is, ⟨_, _, _, _, _, _, _, _, _, by k_is, by k_is⟩, by k_is⟩)
    (case D11 => exact ⟨by k_is, ⟨_, _, _, _, _, _, _, _, _, by k_is, by k_is⟩, by k_is⟩)
    (case D12 => exact ⟨by k_is, ⟨_, _, _, _, _, _, _, _, _, by k_is, by k_is⟩, by k_is⟩)
    (case D13 => exact ⟨by k_is, ⟨_, _, _, _, _, _, _, _, _, by k_is, by k_is⟩, by k_is⟩)
    (case D14 => exact ⟨by k_is, ⟨_, _, _, _, _, _, _, _, _, by k_is, by k_is⟩, by k_is⟩)
    (case D15 => exact ⟨by k_is, ⟨_, _, _, _, _, _, _, _, _, by k_is, by k_is⟩, by k_is⟩)
    (case aL => k_is)
    (case lL => k_is)
    (case cL => k_is)
    (case lC => k_is)
    (case tL => exact PySem.W.km_tabs_of Y _ (List.mem_singleton.mpr rfl))
    (case hC => rfl)
    (case nL => kernel_rfl)
    (case aS => k_is)
    (case lS => k_is)
    (case cS => k_is)
    (case kS => k_is)
    (case tS => k_is)
    (case dS => rfl)
    (case vS => exact ⟨_, rfl⟩)
    (case R4 => k_is)
    (case R9 => k_is)
    (case lN => k_is)
    (case cN => k_is)
    (case tN => k_is)
    (case dN => rfl)
    (case vN1 => exact ⟨_, rfl⟩)
    (case vN2 => exact ⟨_, rfl⟩)
    (case U3 => k_is)
    (case U5 => k_is)
    (case Ul => k_is)
    (case Uc => k_is)
    (case Uk => k_is)
    (case U0 => exact ⟨⟨_, _, _, _, _, _, _, _, _, _, _, _, _, _, _, by k_is, by decide +kernel⟩, by k_is, by k_is, by k_is, by k_is⟩)
    (case U1 => exact ⟨by k_is, by k_is, by k_is, by k_is⟩)
    (case U2 => k_is)
    (case U6 => k_is)
    (case U17 => k_is)
    (case W3 => k_is)
    (case W5 => k_is)
    (case Wl => k_is)
    (case Wc => k_is)
    (case Wk => k_is)
    (case W0 => exact ⟨⟨_, _, _, _, _, _, _, _, _, _, _, _, _, _, _, by k_is, by decide +kernel⟩, by k_is, by k_is, by k_is, by k_is⟩)
    (case W1 => exact ⟨by k_is, by k_is, by k_is, by k_is⟩)
    (case W2 => k_is)
    (case W6 => k_is)
    (case W17 => k_is)
    (case R7 => k_is)
    (case R8 => k_is)
    (case R10 => k_is)
    (case R11 => k_is)
    (case R15 => k_is)
    (case R16 => k_is)
    (case R12 => k_is)
    (case R14 => k_is)
    (case M0 => k_is)
    (case M1 => k_is)
    (case M2 => k_is)
    (case M3 => k_is)
    (case M4 => k_is)
    (case B0 => k_is)
    (case B1 => k_is)
    (case B2 => k_is)
    (case B3 => k_is)
    (case B4 => k_is)
    (case B5 => k_is)
    (case B6 => k_is)
    (case B7 => k_is)
    (case B8 => k_is)
    (case B9 => k_is)
    (case B10 => k_is)
    (case B11 => k_is)
    (case B12 => k_is)

