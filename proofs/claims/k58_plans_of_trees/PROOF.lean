import PyProof.Rows.All
import Wide.All
import OpenK.AllK
import Wide.FinOn
import PySem.Challenge.RW_rootbags_k58_plans_of_trees
import HandS.ExcInit
import HandS.ExcOwn
import HandS.HotCalls
import HandS.Lambda
import HandS.ClsMeth
import HandS.Defaults
import HandS.Words
import HandS.ExcField
import HandS.Iter
import HandS.Zip
import HandS.IsInst
import HandS.Wide
import HandS.WordsExc
import HandS.EndTab
import HandS.HeadHook1
import HandS.Walk
import KE.KeyNested
import HandS.DictTup
import PyProof.Rows.TupTab
import HandS.Set
import HandS.SetFor
import PyProof.Rows.SortStr
import HandS.Comp
import HandS.Codes
import HandS.StrMore
import HandS.WideBits
import HandS.Style
import HandS.TupAny
import HandS.Text
import HandS.Conv
import HandS.Dict
import HandS.MethStar
import HandS.WrittenGet
import HandS.Star
import HandS.Deep
import KE.GoesZip
import KE.GoesMore
import HandS.NoneIn
import KE.KStateDown
import HandS.Base
import HandS.Call
import HandS.Ends
import HandS.More
import HandS.Head0
import HandS.Head1
import HandS.Head2
import HandS.HeadEnd
import HandS.HeadHook2
import HandS.HeadHook3
import HandS.HeadHook4
import HandS.HeadWalk
set_option Elab.async false
set_option linter.all false
set_option maxRecDepth 100000
set_option maxHeartbeats 2000000
namespace RB
open PySem PySem.Spec PyProof.Rows L2

/-! ## errors of the program: made without arguments -/
section
variable {X : Cx}
/-- the class at C is called: its instance is made, its own __init__ runs -/
theorem exc_call {CX : CXT} {C fI : Addr} {k : Nat} {fd : FuncData} {ps : List Str} {sp : Sp} {pins : List (Addr × Obj)} {σ : L2.St} {H : Hp} {s : Shared} {Q : XK} (T : OexC X.K C)
    (iC : PySem.W.findIn X.K (.ref C) "__init__" = some (some (.ref fI))) (tI : PySem.W.typeIn X.K (.ref fI) = some (.type "function"))
    (F1 : FnOk X.prog X.w X.K X.mg X.base CX k fI fd ps sp) (hr : Room (k + 1) X.A) (hb : L2.Binds X.K fd ps []) (hx : Passes CX X (fun _ _ _ => False)) (I : Inv X pins σ H s)
    (h : ∀ a, H a = none → sp [.ref a] (upd H a (exo a C none)) (fun v H2 => v = .non ∧ ∃ (d : Addr) (fs : List (Str × V)), H2 a = some (exo a C (some d)) ∧ H2 d = some (exd d fs) ∧ H d = none ∧ Q (.ref C) (some d) (upd (del H2 a) d (.xd fs))) (fun _ _ _ => False)) :
    wpAny (model X.prog X.w) X.A (call (.ref C) []) (MkP X pins σ Q) X.xe s := by
  obtain ⟨nm, q, N, bs, bm, sn, sub, ab, col, dd, k0, k1, k2, k3, k5, hC, hbm⟩ := T.cls
  obtain ⟨hp, g, dr, tk, os⟩ := s
  let e : Addr := hp.objs.size + 1
  have he : hp.objs.size ≤ e := Nat.le_succ _
  have hp2 := h e (I.hok.fresh he)
  let h2 : Heap := (hp.push (PySem.W.kdv_tup [])).push (PySem.HandSPX.excO C hp.objs.size)
  have kk : ∀ b o, hp.get? b = some o → h2.get? b = some o := fun b o z => Heap.get?_push_of_some _ (Heap.get?_push_of_some _ z)
  have hget : h2.get? e = some (PySem.HandSPX.excO C hp.objs.size) := by
    show ((hp.push (PySem.W.kdv_tup [])).push (PySem.HandSPX.excO C hp.objs.size)).get? (hp.objs.size + 1) = _
    heap_get
  have J : Inv X pins σ (upd H e (exo e C none)) ⟨h2, g, dr, tk, os⟩ := I.laid (t' := tk) (a := e) (o := exo e C none) (h' := h2) kk he (exo_ok hget)
  have rv : Vals [V.ref e] [Value.ref e] := .cons rfl .nil
  have hl : ([Value.ref e] ++ []).length = ps.length := F1.len _ _ _ _ hp2
  refine wpAny_call (PySem.HandSPX.call_own F.excBase_ValueError (fun Y => PySem.HandSPX.refsVE_contains Y bm hbm) (I.kIn _ _ hC) (PySem.W.looks_findIn I.kIn iC) (fun self => PySem.W.bind_fn I.kIn self tI) (Nat.zero_le _) ?_)
  have b0 := hb ⟨h2, g, dr, tk, os⟩ [Value.ref e] J.kIn hl
  rw [List.append_nil] at b0
  refine codeAny_mono (F1.run _ X.stack _ _ ⟨[Value.ref e], []⟩ [Value.ref e] _ _ (fun _ _ _ => False) (hr.make C [] []) (J.env0.make C [] []) b0 rv hp2) fun r s' hq => ?_
  cases r with
  | error er => exact hx pins σ _ _ er s' J hq
  | ok fl =>
    cases fl with
    | ret u =>
      obtain ⟨v, H2, os2, bare2, un2, hok2, rv2, ev, d, fs, ea, ed, hd1, q2⟩ := hq
      subst ev
      obtain ⟨hh, g2, d2, t2, os'⟩ := s'
      exact ⟨rv2, mk_end (raises_own T.exC T.tyC) I he kk un2 hok2 os2 bare2 ea ed hd1 q2⟩
    | next => exact hq.elim
    | brk => exact hq.elim
    | cont => exact hq.elim
/-- an error of the program that takes no argument: what its class and its __init__ must have -/
structure Err0 (P : Program) (w : World) (K : PySem.W.Frag) (mg : Str → Option Value) (base : Heap) (k : Nat) (x code : Str) (C : Addr) : Prop where
  oex : OexC K C
  gC : mg x = some (.ref C)
  ini : ∃ (fI : Addr) (fd : FuncData) (ps : List Str), PySem.W.findIn K (.ref C) "__init__" = some (some (.ref fI)) ∧ PySem.W.typeIn K (.ref fI) = some (.type "function") ∧ L2.Binds K fd ps [] ∧
    FnOk P w K mg base CX0 k fI fd ps (fun vs H Q _ => ∃ a, vs = [.ref a] ∧ H a = some (exo a C none) ∧ ∀ dx, H dx = none → dx ≠ a → Q .non (upd (upd H dx (exd dx [("code", .str code)])) a (exo a C (some dx))))
/-- its reading: the error's own dict is new -/
def tErr0 (C : Addr) (code : Str) : L2.St → Hp → XK → Prop := fun _ H Q => ∀ d, H d = none → Q (.ref C) (some d) (upd H d (.xd [("code", .str code)]))
theorem pmk0 {k : Nat} {x code : Str} {C : Addr} {p pos : Pos} (T : Err0 X.prog X.w X.K X.mg X.base k x code C) (hr : Room (k + 1) X.A) (hg : Gl X x) (hdb : (x == ("__debug__" : Str)) = false := by decide) :
    PMk X (.Call (.Name x p) [] [] pos) (tErr0 C code) := by
  intro pins s σ H Q I h
  obtain ⟨fI, fd, ps, iC, tI, hb, F1⟩ := T.ini
  refine wpAny_Call_Name_kw (ld_glob I hg T.gC ?_ hdb)
  refine PySem.W.callWith_K0 I.kIn T.oex.kC (exc_call T.oex iC tI F1 hr hb pass0 I fun a na => ?_)
  refine ⟨a, rfl, upd_same, fun dx ndx dne => ⟨rfl, dx, [("code", .str code)], upd_same, ?_, ?_, ?_⟩⟩
  · rw [upd_ne dne, upd_same]
  · rw [upd_ne dne] at ndx
    exact ndx
  · have hd : H dx = none := by
      rw [upd_ne dne] at ndx
      exact ndx
    have e : upd (del (upd (upd (upd H a (exo a C none)) dx (exd dx [("code", .str code)])) a (exo a C (some dx))) a) dx (.xd [("code", .str code)]) = upd H dx (.xd [("code", .str code)]) := by
      funext b
      by_cases hb1 : b = dx
      · rw [hb1, upd_same, upd_same]
      · rw [upd_ne hb1, upd_ne hb1]
        by_cases hb2 : b = a
        · rw [hb2, del_same, na]
        · rw [del_ne hb2, upd_ne hb2, upd_ne hb1, upd_ne hb2]
    rw [e]
    exact h dx hd
end

/-! ## Base.__init__(self, ..) -/
section
variable {X : Cx}
theorem pe_bcall {CX : CXT} {k : Nat} {f B : Addr} {fd : FuncData} {ps : List Str} {sp : Sp} {E : XK} {x m : Str} {q apos pos : Pos} {e : Expr} {es : List Expr} {t : TA} {mc : Value} {pl : Sem Bool}
    (hg : Gl X x) (hm : X.mg x = some (.ref B)) (r : ClX.CRead X.K B mc) (at_ : PySem.W.findCls X.K (.ref B) mc m = some (.val (.ref f))) (kp : PySem.W.keepIn X.K (.ref f) = true)
    (F : FnOk X.prog X.w X.K X.mg X.base CX k f fd ps sp) (hr : Room k X.A) (hb : L2.Binds X.K fd ps []) (hx : Passes CX X E) (ha : PA X (e :: es) t) (hdb : (x == ("__debug__" : Str)) = false := by decide)
    (hst : starEach (e :: es) X.env = (false, eval e X.env) :: starEach es X.env := by rfl) (hpl : (backTo pos (starEach es X.env)).any (·.1) = false := by rfl)
    (ht : eval (.Call (.Attribute (.Name x q) m apos) (e :: es) [] pos) X.env = (do
      let ov ← eval (.Name x q) X.env
      standAt apos.atName
      let (f, first) ← holding [ov] (getMethod ov m pl)
      callWith pos f first (backTo pos (starEach (e :: es) X.env)) (backToKw pos (keywordEach [] X.env))) := by rfl) :
    PE X (.Call (.Attribute (.Name x q) m apos) (e :: es) [] pos) (tCall sp [] E t) := by
  refine ⟨fun pins s σ H Q I h => ?_⟩
  refine PySem.W.methodCall_KW (pl := pl) (ld_glob I hg hm ?_ hdb) ht
  refine PySem.W.method_cls I.kIn r.ga (PySem.W.cls_value I.kIn r.rd at_ rfl ?_)
  refine PySem.W.callWith_K (first := []) (h₀ := X.base) I.ok.mod.kin kp (thn (ha.run pos pins _ σ H _ (I.tok _) h) fun us s2 ⟨vs, H2, I2, r2, q2⟩ => ⟨I2.kIn, ?_⟩) hst hpl
  exact run_fn F hr hb .nil hx I2 r2 q2
end

/-! ## a def that is called while an error is handled: p is the error's object, kept where it stands -/
structure FnP (P : Program) (w : World) (K : PySem.W.Frag) (mg : Str → Option Value) (base : Heap) (k : Nat) (f : Addr) (fd : FuncData) (ps : List Str) (sp : Addr × Obj → Sp) : Prop where
  len : ∀ p vs H Q E, sp p vs H Q E → vs.length = ps.length
  run : ∀ (A : Around) (outer : List Env) (s : Shared) (H : Hp) (us : List Value) (vs : List V) (Q : VK) (p : Addr × Obj), L2H.RoomH k A → L2H.PinOk outer H s p → Env0 P w K mg base A outer s H → BindsTo s fd ⟨us, []⟩ (ps.zip us) → Vals vs us → sp p vs H Q E0 →
    codeAny (model P w) A (.call (.ref f) ⟨us, []⟩) (CR CX0 outer P w H s Q E0) s
theorem fnP_of {P : Program} {w : World} {K : PySem.W.Frag} {mg : Str → Option Value} {base : Heap} {k : Nat} {x : Str} {st : Stmt} {f : Addr} {fd : FuncData} {N ps : List Str} {sp : Addr × Obj → Sp} (F : L2.Fun K x x st f fd) (S : FnScope N ps (defScope st))
    (len : ∀ p vs H Q E, sp p vs H Q E → vs.length = ps.length)
    (hbody : ∀ (cdv : Value) (A : Around) (outer : List Env) (s : Shared) (H : Hp) (vs : List V) (Q : VK) (p : Addr × Obj), sp p vs H Q E0 →
      ∃ t, PSs (L2H.cxH CX0 P w K mg base N x (defScope st) f cdv A outer s H E0 p) (defBody st) t ∧ t { nx := fun _ H' => Q .non H', rt := Q } (L2.start N vs) H) :
    FnP P w K mg base (k + 1) f fd ps sp := by
  obtain ⟨oc, od, kV, doc, pm, an, cdv, ct, osl, rfl, lk, hcd⟩ := F.ex
  refine ⟨len, fun A outer s H us vs Q p hr hpin e0 hb r hsp => ?_⟩
  have hl := len _ _ _ _ _ hsp
  have KX : K.In s.heap := e0.mod.kin.keeps fun b o e => (e0.bs b o e).1
  have lim : s.heap.NoLimit := e0.mod.nolimit.keeps fun b o e => (e0.bs b o e).1
  refine codeAny_call_function hr.depth (KX _ _ lk) rfl S.co S.gen rfl (PySem.W.codeRec_of KX hcd) (hb _ _ _ _ ?_)
  have hkind : ∀ y ∈ ps.zip us, (defScope st).names.lookup y.1 = some .local ∨ ((defScope st).names.lookup y.1 = some .cell ∧ ((cellsFrom (s.heap.objs.size + 1) (defScope st).names []).lookup y.1).isSome = true) := by
    intro y hy
    have hm := (List.of_mem_zip (show (y.1, y.2) ∈ ps.zip us from hy)).1
    exact (S.par y.1 hm).imp (fun q => q) fun q => ⟨q, PySem.W.cellsFrom_some _ _ _ (.inl q)⟩
  refine wpAny_newFunctionEnv_cells S.kind hkind fun env he s1 ic => ?_
  subst he
  refine ⟨lim.keeps ic.toInCall.keep, codeAny_func ?_⟩
  obtain ⟨t, ht, hq⟩ := hbody cdv A outer s H vs Q p hsp
  have J := L2H.inv_startH (CX := CX0) (E := E0) S hpin e0 hl r ic
  refine wpAny_mono (ht.run [] s1 (L2.start N vs) H _ J hq) (fun fl s' hs => ?_) fun e s' hs => hs
  cases fl with
  | ret u => exact let ⟨v, _, H', J', rv, q⟩ := hs; ⟨v, H', J'.os, J'.bare, J'.base, J'.hok, rv, q⟩
  | next => exact let ⟨_, H', J', q⟩ := hs; ⟨V.non, H', J'.os, J'.bare, J'.base, J'.hok, rfl, q⟩
  | brk => exact let ⟨_, _, _, q⟩ := hs; q.elim
  | cont => exact let ⟨_, _, _, q⟩ := hs; q.elim
section
variable {X : Cx}
def tCallP (sp : Addr × Obj → Sp) (p : Addr × Obj) (t : TA) : TE := fun σ H Q => t σ H fun vs H1 => sp p vs H1 Q E0
theorem pe_callP {k : Nat} {f : Addr} {fd : FuncData} {ps : List Str} {sp : Addr × Obj → Sp} {p : Addr × Obj} {x : Str} {q pos : Pos} {e : Expr} {es : List Expr} {t : TA} (F : FnP X.prog X.w X.K X.mg X.base k f fd ps sp) (hr : L2H.RoomH k X.A) (hp : p ∈ X.pn)
    (hg : Gl X x) (hm : X.mg x = some (.ref f)) (hk : PySem.W.keepIn X.K (.ref f) = true) (hb : L2.Binds X.K fd ps []) (ha : PA X (e :: es) t) (hdb : (x == ("__debug__" : Str)) = false := by decide)
    (he : starEach (e :: es) X.env = (false, eval e X.env) :: starEach es X.env := by rfl) (hpl : (backTo pos (starEach es X.env)).any (·.1) = false := by rfl) :
    PE X (.Call (.Name x q) (e :: es) [] pos) (tCallP sp p t) := by
  refine ⟨fun pins s σ H Q I h => ?_⟩
  refine wpAny_Call_Name_kw (ld_glob I hg hm ?_ hdb)
  refine PySem.W.callWith_K (h₀ := X.base) I.ok.mod.kin hk (thn (ha.run pos pins s σ H _ I h) fun us s1 ⟨vs, H1, I1, r, q⟩ => ⟨I1.kIn, ?_⟩) he hpl
  have hl : (us ++ []).length = ps.length := by
    rw [List.append_nil, ← r.length]
    exact F.len _ _ _ _ _ q
  have b := hb s1 us I1.kIn hl
  rw [List.append_nil] at b
  obtain ⟨p1, p2, p3, p4, p5⟩ := I1.pin p (List.mem_append_left _ hp)
  have pin : L2H.PinOk X.stack H1 s1 p := ⟨p1, p2, fun z => (List.mem_cons.mp (I1.stkSub p.1 z)).elim p3 p4, p5⟩
  refine wpAny_call (codeAny_mono (F.run X.A X.stack s1 H1 us vs Q p hr pin I1.env0 b r q) fun r s' hq => ?_)
  cases r with
  | error e => exact (show False from hq).elim
  | ok fl =>
    cases fl with
    | ret u => exact I1.after hq
    | next => exact False.elim hq
    | brk => exact False.elim hq
    | cont => exact False.elim hq
/-- err.n, err the handled error p -/
def tXP (p : Addr × Obj) (n : Str) (te : TE) : TE := fun σ H Q => te σ H fun x H1 => x = .ref p.1 ∧ ∃ (dd : Addr) (fs : List (Str × V)) (v : V), p.2.dict = some dd ∧ H1 dd = some (.xd fs) ∧ fs.lookup n = some v ∧ Q v H1
theorem pe_xp {p : Addr × Obj} {C : Addr} {n : Str} {e : Expr} {te : TE} {pos : Pos} (T : XfC X.K C) (hno : PySem.W.findIn X.K (.ref C) n = some none) (hp : p ∈ X.pn) (hc : p.2.cls = .ref C) (hf : ∃ vs, p.2.data = .fields vs) (he : PE X e te)
    (hb : attributeBase e n X.env (eval e X.env) = eval e X.env := by rfl) : PE X (.Attribute e n pos) (tXP p n te) := by
  refine ⟨fun pins s σ H Q I h => ?_⟩
  refine attr_of hb (thn (he.run pins s σ H _ I h) fun u s1 ⟨x, H1, I1, rx, ex, dd, fs, v, ed, hx, l, q⟩ => ?_)
  subst ex
  cases (show u = Value.ref p.1 from rx)
  obtain ⟨mA, hns, rel⟩ := (show ObjOk X.prog X.w H1 s1.heap dd (.xd fs) from I1.hok dd _ hx)
  obtain ⟨od, ho, hl⟩ := lookIn_ns hns
  have rv := rel n
  rw [l] at rv
  obtain ⟨u, hu, ru⟩ := RelO.some_of rv
  obtain ⟨vs, hd⟩ := hf
  have at_ : PySem.W.InstAt s1.heap p.1 p.2 C (some od) := ⟨(I1.pin p (List.mem_append_left _ hp)).1, hc, by unfold PySem.W.notCls; rw [hd] <;> rfl, by rw [ed]; exact ho⟩
  exact HandSPX.exc_get I1.kIn at_ T.ga T.gg T.exC (PySem.W.findObj_own T.hdC hno rfl (by rw [hl, hu])) (handed_of ru) ⟨v, H1, I1.tok _, ru, q⟩
end

/-! ## try .. with several clauses that name the error, all by one name -/
abbrev Suites := List (Value × (Addr → Value → Option Addr → TS))
/-- what is wanted behind a suite, once the name is gone again -/
def gone (i : Nat) (D : Ends) : Ends := { nx := fun σ H => D.nx (σ.set i none) H, rt := D.rt, bk := fun σ H => D.bk (σ.set i none) H, ct := fun σ H => D.ct (σ.set i none) H }
def wNamed (K : PySem.W.Frag) (m i : Nat) (D : Ends) : Suites → WX
  | [] => fun _ _ _ _ => False
  | (c, ts) :: r => fun cls d σ H => ∃ b, PySem.W.exmOne K cls c = some b ∧ (b = true → ∀ a, H a = none → σ.length = m → ts a cls d (gone i D) (σ.set i (some (.ref a))) H) ∧ (b = false → wNamed K m i D r cls d σ H)
inductive Named (X : Cx) (n : Str) : List ExceptHandler → Suites → Prop
  | nil : Named X n [] []
  | cons {x : Str} {c : Value} {ts : Addr → Value → Option Addr → TS} {b₀ : Stmt} {su : List Stmt} {np pos' : Pos} {hds : List ExceptHandler} {l : Suites} (hc : Names X x c)
      (hsu : ∀ (a : Addr) (oe : Obj) (cls : Value) (d : Option Addr) (pn : List (Addr × Obj)), Zc cls d oe → (∃ vs, oe.data = .fields vs) → PSs (X.suite a ((a, oe) :: pn)) (b₀ :: su) (ts a cls d)) (r : Named X n hds l) :
      Named X n (.ExceptHandler (some (.Name x np)) (some n) (b₀ :: su) pos' :: hds) ((c, ts) :: l)
section
variable {X : Cx} {n : Str} {i : Nat} {pins : List (Addr × Obj)} {D : Ends}
/-- a suite has run: the name is gone, the error is let go -/
theorem suite_end {a : Addr} {q : Addr × Obj} {pos' : Pos} {f : Flow} {s6 : Shared} (ok : X.Ok) (hN : X.N.Nodup) (hi : X.N[i]? = some n) (hln : X.env.kindOf n = some .local) (h : SP (X.suite a (q :: (X.pn ++ pins))) [] (gone i D) f s6) :
    wpAny (model X.prog X.w) X.A (do bindName X.env n .none; unbindBehindTheSuite X.env n pos') (fun _ s7 => SP X pins D f s7) X.xe s6 := by
  cases f with
  | next => exact let ⟨σ6, H6, S6, q6⟩ := h; gone_ok (S6.unsuite ok) hN hi hln fun s7 J7 => ⟨_, _, J7, q6⟩
  | brk => exact let ⟨σ6, H6, S6, q6⟩ := h; gone_ok (S6.unsuite ok) hN hi hln fun s7 J7 => ⟨_, _, J7, q6⟩
  | cont => exact let ⟨σ6, H6, S6, q6⟩ := h; gone_ok (S6.unsuite ok) hN hi hln fun s7 J7 => ⟨_, _, J7, q6⟩
  | ret u => exact let ⟨v6, σ6, H6, S6, r6, q6⟩ := h; gone_ok (S6.unsuite ok) hN hi hln fun s7 J7 => ⟨_, _, _, J7, r6, q6⟩
/-- the clauses are asked, one after another; the error at a stands on the ground -/
theorem clauses {B : Heap} {a : Addr} {cls : Value} {d : Option Addr} {σ : L2.St} {H : Hp} {sI s' : Shared} (ok : X.Ok) (hs : X.stack = X.env :: X.outer) (hf : X.env.frame = some X.env.locals) (hN : X.N.Nodup) (hi : X.N[i]? = some n) (hln : X.env.kindOf n = some .local)
    (J : Inv X pins σ H sI) (nb : ∀ b o, sI.heap.get? b = some o → b ∉ frs X.stack → B.get? b = some o) (up : sI.heap.UpToSlots s'.heap) (os : s'.os = sI.os) (ag : AllBare s'.gens) (na : H a = none) (fl : HandSPX.FlyingZ B (X.env :: X.outer) a (Zc cls d) s'.heap) :
    ∀ {hds : List ExceptHandler} {l : Suites}, Named X n hds l → wNamed X.K X.N.length i D l cls d σ H → wpAny (model X.prog X.w) X.A (handleBy (.ref a) X.env hds) (SP X pins D) X.xe s' := by
  have ground : ∀ h, HandSPX.FlyingZ B (X.env :: X.outer) a (Zc cls d) h → s'.heap.UpToSlots h → ∃ oe : Obj, Inv (X.suite a ((a, oe) :: (X.pn ++ pins))) [] σ H { s' with heap := h } ∧ Inv X pins σ H { s' with heap := h } ∧ h.get? a = some oe ∧ Zc cls d oe ∧ ∃ vs, oe.data = .fields vs := by
    intro h fl1 up1
    have J1 : Inv X pins σ H { s' with heap := h } := J.landed nb fl1.1 (up.trans up1) os ag
    obtain ⟨oe, vs, he, hz, hd⟩ := fl1.there
    have nfr : a ∉ frs (X.env :: X.outer) := fun hm => by
      obtain ⟨_, o', e', hnf⟩ := fl1.2.2.1.mem hm
      rw [he] at e'
      cases e'
      exact hnf _ hd
    have nL : a ≠ X.env.locals := fun z => nfr (List.mem_filterMap.mpr ⟨X.env, List.mem_cons_self, by rw [hf, z]⟩)
    have nF : a ∉ X.fs := fun hm => by
      obtain ⟨e, he, q⟩ := List.mem_filterMap.mp hm
      exact nfr (List.mem_filterMap.mpr ⟨e, List.mem_cons_of_mem _ he, q⟩)
    exact ⟨oe, J1.suite he hd na nL nF, J1, he, hz, vs, hd⟩
  intro hds l hk
  induction hk with
  | nil => exact fun z => z.elim
  | @cons x c ts b₀ su np pos' hds2 l2 hc hsu r ih =>
    intro w
    obtain ⟨b, hb1, hyes, hno⟩ := w
    obtain ⟨oe3, S3, J3, he3, hz3, _⟩ := ground s'.heap fl (Heap.UpToSlots.refl _)
    refine wpAny_handleBy_cons (codeAny_handlers_test ?_) (by intro q; cases q)
    have LT : PySem.W.Looks (model X.prog X.w) s'.heap (typeOf (.ref a)) cls := fun A Q E s k q => wpAny_typeOf_ref (k _ _ he3) (by rw [hz3.1]; exact q)
    have LM := PySem.W.exm_one (M := model X.prog X.w) J3.kIn LT hb1
    have test : ∀ {Q : Value → Shared → Prop} {E : Value → Shared → Prop}, Q c s' → wpAny (model X.prog X.w) (X.A.mark (some (.ref a))) (eval (.Name x np) X.env) Q E s' := fun {Q E} q => by
      obtain ⟨hg, hdbg, hm | ⟨hm, hv, hnn⟩⟩ := hc
      · exact ld_glob (X := X.suite a ((a, oe3) :: (X.pn ++ pins))) S3 hg hm q hdbg
      · exact ld_blt (X := X.suite a ((a, oe3) :: (X.pn ++ pins))) S3 hg hm hv q hnn hdbg
    refine test (LM.here ?_)
    cases b with
    | true =>
      refine codeAny_handlers_suite_as ?_
      refine HandSPX.lands_againZ fl fun h4 fl4 up4 => ?_
      obtain ⟨oe4, S4, _, _, hz4, hd4⟩ := ground h4 fl4 up4
      refine store_ok (X := X.suite a ((a, oe4) :: (X.pn ++ pins))) (v := .ref a) S4 hN hi (.inl hln) rfl (fun s5 S5 => ?_) (.inr hln)
      exact wpAny_mono ((hsu a oe4 cls d (X.pn ++ pins) hz4 hd4).run [] s5 _ H _ S5 (hyes rfl a na J.len)) (fun f s6 hsp => suite_end ok hN hi hln hsp) (fun _ _ z => z.elim)
    | false => exact ih (hno rfl)
theorem ps_named {body : List Stmt} {h₀ : ExceptHandler} {hds : List ExceptHandler} {l : Suites} {pos : Pos} {tb : WX → TS} (hs : X.stack = X.env :: X.outer) (hf : X.env.frame = some X.env.locals) (hN : X.N.Nodup) (hi : X.N[i]? = some n) (hln : X.env.kindOf n = some .local)
    (hb : ∀ (W : WX) (pn : List (Addr × Obj)) (xe : Value → Shared → Prop), Takes (X.tr pn xe) W → PSs (X.tr pn xe) body (tb W)) (hh : Named X n (h₀ :: hds) l) :
    PS X (.Try body (h₀ :: hds) [] [] pos) (fun D σ H => tb (wNamed X.K X.N.length i D l) D σ H) := by
  refine ⟨fun pins s σ H D I h => ?_⟩
  have ok := I.ok
  refine wpAny_Try_except ?_
  refine wpAny_mono ((hb (wNamed X.K X.N.length i D l) (X.pn ++ pins) _ (fun u s' xx => ?_)).run [] s σ H D (I.toTry _) h) (fun f s1 hsp => ?_) (fun e s1 he => he)
  · obtain ⟨a, B, sI, pins', σ', H', cls, d, rfl, J', nb, up, sky, na, os, ag, w⟩ := xx
    have sky' : Sky B (X.env :: X.outer) a (Zc cls d) X.env.locals s'.heap := hs ▸ sky
    have hfr : X.A.frames = some (X.env :: X.outer) := ok.frames.trans (congrArg some hs)
    refine Sky.land Zc.steady hfr hf sky' fun h3 fl3 up3 => ?_
    exact clauses (s' := { s' with heap := h3 }) ok hs hf hN hi hln (J'.ofTry ok) nb (up.trans up3) os ag na fl3 hh w
  · cases f with
    | next => exact let ⟨σ', H', J', q⟩ := hsp; wpAny_execs_nil ⟨σ', H', J'.ofTry ok, q⟩
    | brk => exact let ⟨σ', H', J', q⟩ := hsp; ⟨σ', H', J'.ofTry ok, q⟩
    | cont => exact let ⟨σ', H', J', q⟩ := hsp; ⟨σ', H', J'.ofTry ok, q⟩
    | ret u => exact let ⟨v, σ', H', J', r, q⟩ := hsp; ⟨v, σ', H', J'.ofTry ok, r, q⟩
end

/-! ## numbers -/
/-- the greatest common divisor stays over a step of Euclid, whatever the rest is -/
theorem gcd_step (a b q : Int) : Int.gcd b (a - b * q) = Int.gcd a b := by
  rw [Int.gcd_comm a b]
  exact Int.gcd_sub_mul_left_right ..
theorem fmod_sub (a b : Int) : a.fmod b = a - b * a.fdiv b := by
  have h := Int.mul_fdiv_add_fmod a b
  omega
theorem gcd_fmod (a b : Int) : Int.gcd b (a.fmod b) = Int.gcd a b := by
  rw [fmod_sub]
  exact gcd_step a b _
theorem natAbs_fmod_lt (a b : Int) (h : b ≠ 0) : (a.fmod b).natAbs < b.natAbs := by
  by_cases hb : 0 < b
  · have h1 := Int.fmod_nonneg_of_pos a hb
    have h2 := Int.fmod_lt_of_pos a hb
    omega
  · have hn : 0 < -b := by omega
    have e : a.fmod b = -((-a).fmod (-b)) := by
      have := Int.neg_fmod_neg a b
      omega
    have h1 := Int.fmod_nonneg_of_pos (-a) hn
    have h2 := Int.fmod_lt_of_pos (-a) hn
    omega
theorem log2_mono {a b : Nat} (h : a ≤ b) : a.log2 ≤ b.log2 := by
  by_cases ha : a = 0
  · subst ha
    simp [Nat.log2_zero]
  · exact (Nat.le_log2 (by omega)).mpr (Nat.le_trans (Nat.log2_self_le ha) h)
theorem log2_lt {n k : Nat} (h : n < 2 ^ k) (hk : 0 < k) : n.log2 < k := PySem.Flt.log2_lt_of hk h
section
variable {X : Cx}
/-- // by a divisor of any sign, below 2 ^ 9000 -/
def CDivX (_ j : Int) : Prop := j ≠ 0 ∧ j.natAbs.log2 < 9000
theorem op_fdivX : OpR X (binaryOp .FloorDiv) (rI CDivX fun i j => .int (i.fdiv j)) := opI fun _ _ _ _ _ _ _ hc q => floordiv_int hc.1 q (.inl (PyProof.noPylong_of_log2 hc.2))
end

theorem lineN {n : Nat} (h : n ≤ 1000) : n ≤ sizeLine := Nat.le_of_lt (small1000 h)
/-! ## heaps -/
/-- all but r is as it was -/
def Fst (r : Addr) (H H' : Hp) : Prop := ∀ c rest, H r = some (.lst (c :: rest)) → ∃ rest', H' r = some (.lst (c :: rest'))
structure But (r : Addr) (H H' : Hp) : Prop where
  fn : ∀ b, b ≠ r → H' b = H b
  fst : Fst r H H'
instance {r : Addr} {H H' : Hp} : CoeFun (But r H H') fun _ => ∀ b, b ≠ r → H' b = H b := ⟨But.fn⟩
theorem Fst.trans {r : Addr} {H H1 H2 : Hp} (a : Fst r H H1) (b : Fst r H1 H2) : Fst r H H2 := fun c rest e => by
  obtain ⟨r1, e1⟩ := a c rest e
  exact b c r1 e1
theorem But.refl (r : Addr) (H : Hp) : But r H H := ⟨fun _ _ => rfl, fun c rest e => ⟨rest, e⟩⟩
theorem But.trans {r : Addr} {H H1 H2 : Hp} (a : But r H H1) (b : But r H1 H2) : But r H H2 := ⟨fun c hc => (b.fn c hc).trans (a.fn c hc), a.fst.trans b.fst⟩
theorem But.upd {r : Addr} {H : Hp} {c : V} {l l' : List V} (h : H r = some (.lst (c :: l))) : But r H (upd H r (.lst (c :: l'))) := ⟨fun _ hb => upd_ne hb, fun c2 rest e => by
  rw [h] at e
  cases e
  exact ⟨l', upd_same⟩⟩
theorem upd_new {H : Hp} {p : Addr} {o : HO} (h : H p = none) : Same H (upd H p o) := fun b x e => by
  rw [upd_ne (ne_of_none e h)]
  exact e
theorem SqL.cutInts (ns : List Int) (lo hi : Option Int) : ∃ ms : List Int, cutV (ns.map V.int) lo hi = ms.map V.int ∧ ms.length ≤ ns.length := by
  refine ⟨(ns.drop (HT.sIx (ns.map V.int).length 0 lo)).take (HT.sIx (ns.map V.int).length (ns.map V.int).length hi - HT.sIx (ns.map V.int).length 0 lo), ?_, ?_⟩
  · unfold cutV
    rw [← List.map_drop, ← List.map_take]
  · rw [List.length_take, List.length_drop]
    omega

/-! ## the law's draws: a list of four, the script's numbers, a place, what is left of a great number, a seed -/
def RngAt (H : Hp) (r c : Addr) (i b s : Int) : Prop := H r = some (.lst [.ref c, .int i, .int b, .int s]) ∧ (∃ cells : List Int, H c = some (.lst (cells.map V.int)) ∧ cells.length ≤ sizeLine) ∧ 0 ≤ i ∧ 0 ≤ b ∧ 0 ≤ s ∧ s < 2147483647
def RngOk (H : Hp) (r : Addr) : Prop := ∃ c i b s, RngAt H r c i b s
theorem RngAt.ne {H : Hp} {r c : Addr} {i b s : Int} (h : RngAt H r c i b s) : c ≠ r := by
  obtain ⟨h1, ⟨cells, h2, _⟩, _⟩ := h
  refine ne_of h2 h1 fun z => ?_
  have z2 : cells.map V.int = [.ref c, .int i, .int b, .int s] := HO.lst.inj z
  cases cells with
  | nil => cases z2
  | cons y l =>
    have z3 := (List.cons.inj z2).1
    cases z3
theorem RngAt.put {H : Hp} {r c : Addr} {i b s : Int} (h : RngAt H r c i b s) {i' b' s' : Int} (h1 : 0 ≤ i') (h2 : 0 ≤ b') (h3 : 0 ≤ s') (h4 : s' < 2147483647) : RngAt (upd H r (.lst [.ref c, .int i', .int b', .int s'])) r c i' b' s' := by
  obtain ⟨cells, e, l⟩ := h.2.1
  refine ⟨upd_same, ⟨cells, ?_, l⟩, h1, h2, h3, h4⟩
  rw [upd_ne h.ne]
  exact e
theorem RngOk.keep {H H' : Hp} {r : Addr} (h : RngOk H r) (k : ∀ b o, H b = some o → (∀ ps, o ≠ .tbl ps) → H' b = some o) : RngOk H' r := by
  obtain ⟨c, i, b, s, h1, ⟨cells, h2, l⟩, hh⟩ := h
  exact ⟨c, i, b, s, k _ _ h1 (fun _ z => nomatch z), ⟨cells, k _ _ h2 (fun _ z => nomatch z), l⟩, hh⟩
theorem RngOk.same {H H' : Hp} {r : Addr} (h : RngOk H r) (k : Same H H') : RngOk H' r := h.keep fun b o e _ => k b o e
section
variable {P : Program} {w : World} {K : PySem.W.Frag} {mg : Str → Option Value} {base : Heap}
/-! ### shared_factor, and the law's own -/
def spGcd : Sp := fun vs H Q _ => ∃ a b : Int, vs = [.int a, .int b] ∧ Q (.int (Int.gcd a b)) H
def spDraws (K : PySem.W.Frag) : Sp := fun vs H Q _ => ∃ (a : Addr) (ns : List Int), vs = [.ref a] ∧ SqL K H a (ns.map V.int) ∧ ns.length ≤ 1000 ∧ ∀ H' r, Same H H' → H r = none → RngOk H' r → Q (.ref r) H'
def spDraw : Sp := fun vs H Q _ => ∃ (r : Addr) (n : Int), vs = [.ref r, .int n] ∧ RngOk H r ∧ 0 < n ∧ n.natAbs.log2 < 9000 ∧ ∀ v H', 0 ≤ v → v < n → RngOk H' r → But r H H' → Q (.int v) H'
def spPick (K : PySem.W.Frag) : Sp := fun vs H Q _ => ∃ (r t : Addr) (xs : List V), vs = [.ref r, .ref t] ∧ RngOk H r ∧ SqL K H t xs ∧ t ≠ r ∧ 0 < xs.length ∧ xs.length ≤ 1000 ∧ ∀ (v : V) (i : Nat) (H' : Hp), xs[i]? = some v → RngOk H' r → But r H H' → Q v H'
end
/-! ## _law_same: data of the same kinds and values -/
/-- data as the law compares it -/
inductive Dat where
  | non | bl (b : Bool) | int (i : Int) | str (x : Str) | lst (ds : List Dat) | tup (ds : List Dat)
  /-- a dict: its keys, its values; an instance: its class, its attributes' names and values -/
  | dct (ks : List Str) (ds : List Dat) | ins (c : Str) (ks : List Str) (ds : List Dat)
/-- how deep it is -/
def Dat.deep : Dat → Nat
  | .lst ds => 1 + deeps ds
  | .tup ds => 1 + deeps ds
  | _ => 0
where deeps : List Dat → Nat
  | [] => 0
  | d :: r => max d.deep (deeps r)
mutual
/-- at v stands the datum d -/
inductive At (K : PySem.W.Frag) (H : Hp) : V → Dat → Prop
  | non : At K H .non .non
  | bl (b : Bool) : At K H (.bl b) (.bl b)
  | int (i : Int) : At K H (.int i) (.int i)
  | str (x : Str) : At K H (.str x) (.str x)
  | lst {a : Addr} {xs : List V} {ds : List Dat} : H a = some (.lst xs) → xs.length ≤ 100000 → AtAll K H xs ds → At K H (.ref a) (.lst ds)
  | tup {a : Addr} {xs : List V} {ds : List Dat} : H a = some (.tup xs) → xs.length ≤ 100000 → AtAll K H xs ds → At K H (.ref a) (.tup ds)
inductive AtAll (K : PySem.W.Frag) (H : Hp) : List V → List Dat → Prop
  | nil : AtAll K H [] []
  | cons {v : V} {vs : List V} {d : Dat} {ds : List Dat} : At K H v d → AtAll K H vs ds → AtAll K H (v :: vs) (d :: ds)
end
theorem AtAll.length {K : PySem.W.Frag} {H : Hp} : ∀ {xs : List V} {ds : List Dat}, AtAll K H xs ds → xs.length = ds.length
  | _, _, .nil => rfl
  | _, _, .cons _ t => congrArg Nat.succ (AtAll.length t)
theorem AtAll.get {K : PySem.W.Frag} {H : Hp} : ∀ {xs : List V} {ds : List Dat} {i : Nat} {x : V} {d : Dat}, AtAll K H xs ds → xs[i]? = some x → ds[i]? = some d → At K H x d
  | _, _, _, _, _, .nil, e, _ => by simp at e
  | _, _, 0, _, _, .cons a _, e, e2 => by
    simp at e e2
    subst e
    subst e2
    exact a
  | _, _, i + 1, _, _, .cons _ t, e, e2 => AtAll.get (i := i) t (by simpa using e) (by simpa using e2)
mutual
theorem At.same {K : PySem.W.Frag} {H H' : Hp} (s : Same H H') : ∀ {v : V} {d : Dat}, At K H v d → At K H' v d
  | _, _, .non => .non
  | _, _, .bl b => .bl b
  | _, _, .int i => .int i
  | _, _, .str x => .str x
  | _, _, .lst e l a => .lst (s _ _ e) l (AtAll.same s a)
  | _, _, .tup e l a => .tup (s _ _ e) l (AtAll.same s a)
theorem AtAll.same {K : PySem.W.Frag} {H H' : Hp} (s : Same H H') : ∀ {xs : List V} {ds : List Dat}, AtAll K H xs ds → AtAll K H' xs ds
  | _, _, .nil => .nil
  | _, _, .cons a t => .cons (At.same s a) (AtAll.same s t)
end
theorem deeps_mem {ds : List Dat} {d : Dat} (h : d ∈ ds) : d.deep ≤ Dat.deep.deeps ds := by
  induction ds with
  | nil => cases h
  | cons x r ih =>
    show d.deep ≤ max x.deep (Dat.deep.deeps r)
    rcases List.mem_cons.mp h with e | e
    · subst e
      exact Nat.le_max_left _ _
    · exact Nat.le_trans (ih e) (Nat.le_max_right _ _)

/-- the built-in class of a datum -/
def Dat.ty : Dat → String
  | .non => "NoneType" | .bl _ => "bool" | .int _ => "int" | .str _ => "str" | .lst _ => "list" | .tup _ => "tuple" | .dct _ _ => "dict" | .ins _ _ _ => "object"
theorem At.ty {K : PySem.W.Frag} {H : Hp} {v : V} {d : Dat} (h : At K H v d) : TyX K H v (.type d.ty) := by
  cases h with
  | non => exact .base .non
  | bl b => exact .base (.bl b)
  | int i => exact .base (.int i)
  | str x => exact .base (.str x)
  | lst e _ _ => exact .base (.lst e)
  | tup e _ _ => exact .base (.tup e)
def Dat.isL : Dat → Bool
  | .lst _ => true
  | _ => false
theorem kit_list {K : PySem.W.Frag} (d : Dat) : PySem.W.kitOne K (.type d.ty) (.type "list") = some d.isL := by
  cases d with
  | non => exact kit_ty (a := "NoneType") (b := "list") (r := false) (by decide +kernel)
  | bl b => exact kit_ty (a := "bool") (b := "list") (r := false) (by decide +kernel)
  | int i => exact kit_ty (a := "int") (b := "list") (r := false) (by decide +kernel)
  | str x => exact kit_ty (a := "str") (b := "list") (r := false) (by decide +kernel)
  | lst ds => exact kit_ty (a := "list") (b := "list") (r := true) (by decide +kernel)
  | tup ds => exact kit_ty (a := "tuple") (b := "list") (r := false) (by decide +kernel)
  | dct ks ds => exact kit_ty (a := "dict") (b := "list") (r := false) (by decide +kernel)
  | ins c ks ds => exact kit_ty (a := "object") (b := "list") (r := false) (by decide +kernel)
def Dat.isT : Dat → Bool
  | .tup _ => true
  | _ => false
theorem kit_tuple {K : PySem.W.Frag} (d : Dat) : PySem.W.kitOne K (.type d.ty) (.type "tuple") = some d.isT := by
  cases d with
  | non => exact kit_ty (a := "NoneType") (b := "tuple") (r := false) (by decide +kernel)
  | bl b => exact kit_ty (a := "bool") (b := "tuple") (r := false) (by decide +kernel)
  | int i => exact kit_ty (a := "int") (b := "tuple") (r := false) (by decide +kernel)
  | str x => exact kit_ty (a := "str") (b := "tuple") (r := false) (by decide +kernel)
  | lst ds => exact kit_ty (a := "list") (b := "tuple") (r := false) (by decide +kernel)
  | tup ds => exact kit_ty (a := "tuple") (b := "tuple") (r := true) (by decide +kernel)
  | dct ks ds => exact kit_ty (a := "dict") (b := "tuple") (r := false) (by decide +kernel)
  | ins c ks ds => exact kit_ty (a := "object") (b := "tuple") (r := false) (by decide +kernel)
def Dat.isB : Dat → Bool
  | .bl _ => true
  | _ => false
theorem kit_bool {K : PySem.W.Frag} (d : Dat) : PySem.W.kitOne K (.type d.ty) (.type "bool") = some d.isB := by
  cases d with
  | non => exact kit_ty (a := "NoneType") (b := "bool") (r := false) (by decide +kernel)
  | bl b => exact kit_ty (a := "bool") (b := "bool") (r := true) (by decide +kernel)
  | int i => exact kit_ty (a := "int") (b := "bool") (r := false) (by decide +kernel)
  | str x => exact kit_ty (a := "str") (b := "bool") (r := false) (by decide +kernel)
  | lst ds => exact kit_ty (a := "list") (b := "bool") (r := false) (by decide +kernel)
  | tup ds => exact kit_ty (a := "tuple") (b := "bool") (r := false) (by decide +kernel)
  | dct ks ds => exact kit_ty (a := "dict") (b := "bool") (r := false) (by decide +kernel)
  | ins c ks ds => exact kit_ty (a := "object") (b := "bool") (r := false) (by decide +kernel)
def Dat.isI : Dat → Bool
  | .bl _ => true
  | .int _ => true
  | _ => false
theorem kit_int {K : PySem.W.Frag} (d : Dat) : PySem.W.kitOne K (.type d.ty) (.type "int") = some d.isI := by
  cases d with
  | non => exact kit_ty (a := "NoneType") (b := "int") (r := false) (by decide +kernel)
  | bl b => exact kit_ty (a := "bool") (b := "int") (r := true) (by decide +kernel)
  | int i => exact kit_ty (a := "int") (b := "int") (r := true) (by decide +kernel)
  | str x => exact kit_ty (a := "str") (b := "int") (r := false) (by decide +kernel)
  | lst ds => exact kit_ty (a := "list") (b := "int") (r := false) (by decide +kernel)
  | tup ds => exact kit_ty (a := "tuple") (b := "int") (r := false) (by decide +kernel)
  | dct ks ds => exact kit_ty (a := "dict") (b := "int") (r := false) (by decide +kernel)
  | ins c ks ds => exact kit_ty (a := "object") (b := "int") (r := false) (by decide +kernel)
def Dat.isS : Dat → Bool
  | .str _ => true
  | _ => false
theorem kit_str {K : PySem.W.Frag} (d : Dat) : PySem.W.kitOne K (.type d.ty) (.type "str") = some d.isS := by
  cases d with
  | non => exact kit_ty (a := "NoneType") (b := "str") (r := false) (by decide +kernel)
  | bl b => exact kit_ty (a := "bool") (b := "str") (r := false) (by decide +kernel)
  | int i => exact kit_ty (a := "int") (b := "str") (r := false) (by decide +kernel)
  | str x => exact kit_ty (a := "str") (b := "str") (r := true) (by decide +kernel)
  | lst ds => exact kit_ty (a := "list") (b := "str") (r := false) (by decide +kernel)
  | tup ds => exact kit_ty (a := "tuple") (b := "str") (r := false) (by decide +kernel)
  | dct ks ds => exact kit_ty (a := "dict") (b := "str") (r := false) (by decide +kernel)
  | ins c ks ds => exact kit_ty (a := "object") (b := "str") (r := false) (by decide +kernel)
theorem yesI {σ : L2.St} {H : Hp} {A B : Hp → Prop} (h : A H) : tYes σ H (fun b H3 => if b = true then A H3 else B H3) := by
  show (if true = true then A H else B H)
  exact iteT h
/-- two walks side by side, in a comprehension -/
theorem lc_pairs {J : It} {xs ys : List V} {g : TG} {tt : L2.TT} {te : TE} {vs : List Nat} {σ : L2.St} {H1 : Hp} {D : Addr} {Qd : Hp → Prop} (hl : xs.length = ys.length) (Pv : Nat → Hp → Prop) (h0 : Pv 0 (upd H1 D (.lst [])))
    (hgo : ∀ i H, Pv i H → i < xs.length → J.go i H) (hst : ∀ H, Pv xs.length H → J.stop xs.length H)
    (hy : ∀ i H v H', Pv i H → i < xs.length → J.yld i H v H' → ∃ T x y, v = .ref T ∧ H T = none ∧ H' = upd H T (.tup [x, y]) ∧ xs[i]? = some x ∧ ys[i]? = some y)
    (hs : ∀ (i : Nat) (x y : V) (T : Addr) (H : Hp), xs[i]? = some x → ys[i]? = some y → Pv i H → H T = none → g (.ref T) (wipe σ vs) (upd H T (.tup [x, y])) fun σ2 H2 => wipe σ2 vs = wipe σ vs ∧ tt σ2 H2 fun b H3 =>
      if b = true then te σ2 H3 fun z H4 => ∃ acc, H4 D = some (.lst acc) ∧ acc.length < sizeLine ∧ Pv (i + 1) (upd H4 D (.lst (acc ++ [z]))) else Pv (i + 1) H3) (hd : ∀ H, Pv xs.length H → Qd H) :
    ∃ W : Nat → Nat → Hp → Prop, (∃ m, W 0 m (upd H1 D (.lst []))) ∧ ∀ i m H, W i m H →
      (J.stop i H ∧ Qd H) ∨ (J.go i H ∧ ∃ Nx : Hp → Prop, (∀ H', Nx H' → ∃ m', m' < m ∧ W (i + 1) m' H') ∧ ∀ x H', J.yld i H x H' → g x (wipe σ vs) H' fun σ2 H2 => wipe σ2 vs = wipe σ vs ∧ tt σ2 H2 fun b H3 =>
        if b = true then te σ2 H3 fun y H4 => ∃ acc, H4 D = some (.lst acc) ∧ acc.length < sizeLine ∧ Nx (upd H4 D (.lst (acc ++ [y]))) else Nx H3) := by
  refine ⟨fun i m H => m = xs.length - i ∧ i ≤ xs.length ∧ Pv i H, ⟨_, rfl, Nat.zero_le _, h0⟩, fun i m H hW => ?_⟩
  obtain ⟨em, hi, p⟩ := hW
  rcases Nat.lt_or_ge i xs.length with hlt | hge
  · refine .inr ⟨hgo i H p hlt, Pv (i + 1), fun H' p' => ⟨xs.length - (i + 1), by omega, rfl, hlt, p'⟩, fun v H' yl => ?_⟩
    obtain ⟨T, x, y, rfl, hT, rfl, hx, hy'⟩ := hy i H v H' p hlt yl
    exact hs i x y T H hx hy' p hT
  · have e : i = xs.length := by omega
    rw [e] at p ⊢
    exact .inl ⟨hst H p, hd H p⟩
def spSame (K : PySem.W.Frag) (n : Nat) : Sp := fun vs H Q _ => ∃ (v u : V) (d e : Dat), vs = [v, u] ∧ At K H v d ∧ At K H u e ∧ e.deep < n ∧ ∀ (b : Bool) (H' : Hp), (b = true ↔ d = e) → Same H H' → Q (.bl b) H'
theorem all_iff {ds es : List Dat} {bs : List Bool} (h1 : bs.length = ds.length) (h2 : ds.length = es.length) (h : ∀ (j : Nat) (b : Bool), bs[j]? = some b → (b = true ↔ ds[j]? = es[j]?)) : bs.all id = true ↔ ds = es := by
  constructor
  · intro ha
    refine List.ext_getElem? fun j => ?_
    cases e : bs[j]? with
    | none =>
      have := List.getElem?_eq_none_iff.mp e
      rw [List.getElem?_eq_none (by omega), List.getElem?_eq_none (by omega)]
    | some b =>
      refine (h j b e).mp ?_
      have hm : b ∈ bs := List.mem_of_getElem? e
      exact List.all_eq_true.mp ha b hm
  · intro e
    refine List.all_eq_true.mpr fun b hb => ?_
    obtain ⟨j, hj⟩ := List.getElem?_of_mem hb
    exact (h j b hj).mpr (by rw [e])
/-- what a comprehension of such comparisons leaves behind i turns -/
def SameInv (H : Hp) (D : Addr) (ds es : List Dat) (i : Nat) (H' : Hp) : Prop := Same H H' ∧ ∃ bs : List Bool, H' D = some (.lst (bs.map V.bl)) ∧ bs.length = i ∧ ∀ (j : Nat) (b : Bool), bs[j]? = some b → (b = true ↔ ds[j]? = es[j]?)
theorem SameInv.start {H : Hp} {D : Addr} {ds es : List Dat} (h : H D = none) : SameInv H D ds es 0 (upd H D (.lst [])) := ⟨upd_new h, [], upd_same, rfl, fun j b e => by simp at e⟩
theorem SameInv.step {H H1 H2 : Hp} {D T : Addr} {ds es : List Dat} {i : Nat} {x y : V} {b : Bool} (p : SameInv H D ds es i H1) (nD : H D = none) (nT : H1 T = none) (s : Same (upd H1 T (.tup [x, y])) H2) (hb : b = true ↔ ds[i]? = es[i]?) (hi : i < 1000000) :
    ∃ acc, H2 D = some (.lst acc) ∧ acc.length < sizeLine ∧ SameInv H D ds es (i + 1) (upd H2 D (.lst (acc ++ [.bl b]))) := by
  obtain ⟨s0, bs, hD, hl, hbs⟩ := p
  have s1 := (upd_new (o := .tup [x, y]) nT).trans s
  refine ⟨bs.map V.bl, s1 _ _ hD, ?_, fun c o e => ?_, bs ++ [b], ?_, ?_, fun j b' e => ?_⟩
  · rw [List.length_map, hl, sizeLine_eq]
    omega
  · rw [upd_ne (ne_of_none e nD)]
    exact s1 _ _ (s0 _ _ e)
  · rw [upd_same, List.map_append]
    rfl
  · rw [List.length_append, hl]
    rfl
  · rcases Nat.lt_or_ge j bs.length with h | h
    · rw [List.getElem?_append_left h] at e
      exact hbs j b' e
    · rw [List.getElem?_append_right h] at e
      have hj : j - bs.length = 0 := by
        rcases Nat.eq_zero_or_pos (j - bs.length) with z | z
        · exact z
        · rw [List.getElem?_eq_none (by simp; omega)] at e
          cases e
      rw [hj] at e
      have ej : j = i := by omega
      have eb : b = b' := Option.some.inj e
      rw [ej, ← eb]
      exact hb
structure TSame (mg : Str → Option Value) : Prop where
  isi : mg "isinstance" = none
  list : mg "list" = none
  tuple : mg "tuple" = none
  bool : mg "bool" = none
  int : mg "int" = none
  str : mg "str" = none
  len : mg "len" = none
  all : mg "all" = none
  zip : mg "zip" = none
theorem pe_isi {X : Cx} {i : Nat} {x y : Str} {T : String} {p1 p2 p3 p4 : Pos} (hN : X.N[i]? = some x) (hv : Vis X.env.scope x) (g1 : Gl X "isinstance") (m1 : X.mg "isinstance" = none) (g2 : Gl X y) (m2 : X.mg y = none) (hb : bootBuiltins y = some (.type T))
    (hn : y ≠ "__name__" := by decide) (hd : (y == ("__debug__" : Str)) = false := by decide) (hd1 : (x == ("__debug__" : Str)) = false := by decide) (hcd : (x == ("__classdict__" : Str)) = false := by decide)
    (h1 : starEach [.Name x p2, .Name y p3] X.env = (false, eval (.Name x p2) X.env) :: starEach [.Name y p3] X.env := by rfl) (h2 : starEach [.Name y p3] X.env = (false, eval (.Name y p3) X.env) :: starEach [] X.env := by rfl) (h3 : (backTo p4 (starEach [.Name y p3] X.env)).any (·.1) = false := by rfl) :
    PE X (.Call (.Name "isinstance" p1) [.Name x p2, .Name y p3] [] p4) (fun σ H Q => ∃ v d b, σ[i]? = some (some v) ∧ At X.K H v d ∧ PySem.W.kitOne X.K (.type d.ty) (.type T) = some b ∧ Q (.bl b) H) := by
  have hp := pe_callB (pos := p4) (p := p1) call_isi g1 m1 PyProof.Rows.boot_isinstance (pa_cons (pe_var (pos := p2) hN hv hd1 hcd) (pa_cons (pe_bltn (pos := p3) (v := .ty T) g2 m2 hb rfl hn hd) pa_nil h2) h1) (by decide) (by decide) h1 h3
  refine ⟨fun pins s σ H Q I h => ?_⟩
  obtain ⟨v, d, b, hs, a, k, q⟩ := h
  exact hp.run pins s σ H Q I ⟨v, hs, v, .ty T, .type d.ty, .type T, b, rfl, .ty T, a.ty, k, q⟩
/-- an error of the class at C, asked against the class at B -/
theorem exm_by {K : PySem.W.Frag} {C B : Addr} {b : Bool} (h1 : PySem.W.subIn K (.ref B) (.type "BaseException") = some true) (h2 : PySem.W.isClsIn K B = true) (h3 : PySem.W.typeIn K (.ref B) = some (.type "type")) (h4 : PySem.W.subIn K (.ref C) (.ref B) = some b) : PySem.W.exmOne K (.ref C) (.ref B) = some b := by
  have e1 : (PySem.W.subIn K (.ref B) (.type "BaseException") == some true) = true := by rw [h1] <;> rfl
  have e2 : ((PySem.W.clsIn K B).isSome && PySem.W.typeIn K (.ref B) == some (.type "type")) = true := by
    rw [show (PySem.W.clsIn K B).isSome = true from h2, h3] <;> rfl
  show (if _ then (if _ then PySem.W.subIn K (.ref C) (.ref B) else none) else none) = some b
  rw [if_pos e1, if_pos e2]
  exact h4
def spBag (K : PySem.W.Frag) : Sp := fun vs H Q _ => ∃ (a C : Addr) (c : Str), vs = [.ref a, .str c] ∧ OexC K C ∧ PySem.W.findIn K (.ref C) "code" = some none ∧ H a = some (exo a C none) ∧ ∀ dx, H dx = none → dx ≠ a → Q .non (upd (upd H dx (exd dx [("code", .str c)])) a (exo a C (some dx)))
/-- the pair in lowest terms -/
def lowS (n d : Int) : Int := if d < 0 then -(Int.gcd n d : Int) else Int.gcd n d
def spLowest (C : Addr) : Sp := fun vs H Q E => ∃ n d : Int, vs = [.int n, .int d] ∧ d.natAbs.log2 < 9000 ∧ (d = 0 → ∀ x, H x = none → E (.ref C) (some x) (upd H x (.xd [("code", .str "InvalidNumber")]))) ∧
  (d ≠ 0 → ∀ p, H p = none → Q (.ref p) (upd H p (.tup [.int (n.fdiv (lowS n d)), .int (d.fdiv (lowS n d))])))
theorem lowS_ok {n d : Int} (h : d ≠ 0) (hd : d.natAbs.log2 < 9000) : CDivX n (lowS n d) ∧ (lowS n d).natAbs ≤ d.natAbs := by
  have g0 : 0 < Int.gcd n d := Int.gcd_pos_of_ne_zero_right _ h
  have gl : Int.gcd n d ≤ d.natAbs := Nat.le_of_dvd (by omega) (Int.gcd_dvd_natAbs_right n d)
  have e : (lowS n d).natAbs = Int.gcd n d := by
    unfold lowS
    split <;> simp
  refine ⟨⟨?_, ?_⟩, ?_⟩
  · intro z
    rw [z] at e
    simp at e
    omega
  · rw [e]
    exact Nat.lt_of_le_of_lt (log2_mono gl) hd
  · omega
def spLow : Sp := fun vs H Q _ => ∃ n d : Int, vs = [.int n, .int d] ∧ d.natAbs.log2 < 9000 ∧ d ≠ 0 ∧ ∀ p, H p = none → Q (.ref p) (upd H p (.tup [.int (n.fdiv (lowS n d)), .int (d.fdiv (lowS n d))]))
/-! ## what the law reads off an error -/
def errNames : List Str := ["code", "limit", "name", "position", "modulus", "many", "exponent", "road", "order", "place", "line"]
structure XErr (K : PySem.W.Frag) (C : Addr) : Prop where
  xf : XfC K C
  no : ∀ n ∈ errNames, PySem.W.findIn K (.ref C) n = some none
def xerrB (K : PySem.W.Frag) (C : Addr) : Bool := xfB K C && errNames.all fun n => decide (PySem.W.findIn K (.ref C) n = some none)
theorem xerr_by {K : PySem.W.Frag} {C : Addr} (h : xerrB K C = true) : XErr K C := by
  obtain ⟨h1, h2⟩ := Bool.and_eq_true_iff.mp h
  exact ⟨xfB_ok h1, fun n hn => of_decide_eq_true (List.all_eq_true.mp h2 n hn)⟩
def cLimit : List V := [.str "SizeExceeded", .str "DigitsExceeded", .str "NestingTooDeep", .str "TermTooLarge", .str "LimitReached", .str "InvalidLimit"]
def cName : List V := [.str "InvalidName", .str "DuplicateName", .str "NameInUse", .str "CircularName", .str "UnknownName"]
def cPos : List V := [.str "InvalidText", .str "InvalidCommand"]
def cMod : List V := [.str "InvalidModulus", .str "SharedDivisor"]
def cMany : List V := [.str "InvalidChoice", .str "InvalidCount"]
/-- the attribute that goes with a code -/
def fieldOf (c : Str) : Option Str :=
  if inV (.str c) cLimit = true then some "limit" else if inV (.str c) cName = true then some "name" else if inV (.str c) cPos = true then some "position" else if inV (.str c) cMod = true then some "modulus" else if inV (.str c) cMany = true then some "many"
  else if decide (V.str c = V.str "InvalidExponent") = true then some "exponent" else if decide (V.str c = V.str "InvalidRoad") = true then some "road" else if decide (V.str c = V.str "InvalidOrder") = true then some "order" else if decide (V.str c = V.str "InvalidPlace") = true then some "place"
  else if decide (V.str c = V.str "InvalidSnapshot") = true then some "line" else none
def fieldVal (c : Str) (fs : List (Str × V)) : Option V := match fieldOf c with | some f => fs.lookup f | none => some .non
/-- the error p as the law sees it: its class, its attributes fs, its code c, the value v that goes with it -/
structure ErrAt (K : PySem.W.Frag) (H : Hp) (p : Addr × Obj) (C : Addr) (fs : List (Str × V)) (c : Str) (v : V) : Prop where
  x : XErr K C
  cls : p.2.cls = .ref C
  flds : ∃ us, p.2.data = .fields us
  at_ : ∃ dd, p.2.dict = some dd ∧ H dd = some (.xd fs)
  code : fs.lookup ("code" : Str) = some (V.str c)
  val : fieldVal c fs = some v
def spField (K : PySem.W.Frag) : Addr × Obj → Sp := fun p vs H Q _ => ∃ (C : Addr) (fs : List (Str × V)) (c : Str) (v : V), vs = [.ref p.1] ∧ ErrAt K H p C fs c v ∧ ∀ H', Same H H' → Q v H'
/-- an error of the class at C is caught by the law's two clauses -/
def Caught (K : PySem.W.Frag) (B M C : Addr) : Prop := ∃ b, PySem.W.exmOne K (.ref C) (.ref B) = some b ∧ (b = false → PySem.W.exmOne K (.ref C) (.ref M) = some true)
/-- what the law makes of an error of the class cls with the dict d -/
def ErrTo (K : PySem.W.Frag) (B M : Addr) (Q : VK) : XK := fun cls d H => ∃ (C dd : Addr) (fs : List (Str × V)) (c : Str) (v : V), cls = .ref C ∧ d = some dd ∧ H dd = some (.xd fs) ∧ XErr K C ∧ Caught K B M C ∧ fs.lookup ("code" : Str) = some (V.str c) ∧ fieldVal c fs = some v ∧
  ∀ H2 p, Same H H2 → H2 p = none → Q (.ref p) (upd H2 p (.tup [.str c, v]))
def TTry (K : PySem.W.Frag) (B M : Addr) : (XK → Hp → VK → Prop) → Hp → VK → Prop := fun tl H Q => tl (ErrTo K B M Q) H fun v H1 => 2 ≤ sizeLine ∧ ∀ p, H1 p = none → Q (.ref p) (upd H1 p (.tup [.str "value", v]))
/-- the suite: return (e.code, field(e)) -/
def tCaught (K : PySem.W.Frag) (a : Addr) (cls : Value) (d : Option Addr) : TS := fun D σ H => σ[1]? = some (some (.ref a)) ∧ ∃ (C dd : Addr) (fs : List (Str × V)) (c : Str) (v : V), cls = .ref C ∧ d = some dd ∧ H dd = some (.xd fs) ∧ XErr K C ∧ fs.lookup ("code" : Str) = some (V.str c) ∧ fieldVal c fs = some v ∧
  ∀ H2 p, Same H H2 → H2 p = none → D.rt (.ref p) (upd H2 p (.tup [.str c, v]))
theorem suite_caught {X : Cx} {f : Addr} {fd : FuncData} {k : Nat} {p1 p2 p3 p4 p5 p7 p8 : Pos} {k1 : Nat} (FF : FnP X.prog X.w X.K X.mg X.base k f fd ["_law_e"] (spField X.K)) (gF : X.mg "_law_field" = some (.ref f)) (kF : PySem.W.keepIn X.K (.ref f) = true) (bF : L2.Binds X.K fd ["_law_e"] []) (hr : L2H.RoomH k X.A)
    (hN : X.N[1]? = some ("_law_e" : Str)) (hV : Vis X.env.scope "_law_e") (hG : Gl X "_law_field") (hb : attributeBase (.Name "_law_e" p1) "code" X.env (eval (.Name "_law_e" p1) X.env) = eval (.Name "_law_e" p1) X.env)
    (h1 : starEach [.Attribute (.Name "_law_e" p1) "code" p2, .Call (.Name "_law_field" p3) [.Name "_law_e" p4] [] p5] X.env = (false, eval (.Attribute (.Name "_law_e" p1) "code" p2) X.env) :: starEach [.Call (.Name "_law_field" p3) [.Name "_law_e" p4] [] p5] X.env)
    (h2 : starEach [.Call (.Name "_law_field" p3) [.Name "_law_e" p4] [] p5] X.env = (false, eval (.Call (.Name "_law_field" p3) [.Name "_law_e" p4] [] p5) X.env) :: starEach [] X.env) (h3 : starEach [.Name "_law_e" p4] X.env = (false, eval (.Name "_law_e" p4) X.env) :: starEach [] X.env)
    (h4 : (backTo p5 (starEach [] X.env)).any (·.1) = false)
    (a : Addr) (oe : Obj) (cls : Value) (d : Option Addr) (pn : List (Addr × Obj)) (hz : Zc cls d oe) (hf : ∃ vs, oe.data = .fields vs) :
    PSs (X.suite a ((a, oe) :: pn)) [.Return (some (.Tuple [.Attribute (.Name "_law_e" p1) "code" p2, .Call (.Name "_law_field" p3) [.Name "_law_e" p4] [] p5] k1 p7)) p8] (tCaught X.K a cls d) := by
  refine ⟨fun pins s σ H D I h => ?_⟩
  obtain ⟨hs, C, dd, fs, c, v, rfl, rfl, hx, T, hc, hv, q⟩ := h
  have E1 : PE (X.suite a ((a, oe) :: pn)) (.Attribute (.Name "_law_e" p1) "code" p2) (tXP (a, oe) "code" (tVar 1)) := pe_xp T.xf (T.no "code" (by decide +kernel)) List.mem_cons_self hz.1 hf (pe_var (i := 1) hN hV) hb
  have E2 : PE (X.suite a ((a, oe) :: pn)) (.Call (.Name "_law_field" p3) [.Name "_law_e" p4] [] p5) (tCallP (spField X.K) (a, oe) (tCons (tVar 1) tNil)) := pe_callP FF ⟨hr.dp, hr.un⟩ List.mem_cons_self hG gF kF bF (pa_cons (pe_var (i := 1) hN hV) pa_nil h3) (by decide) h3 h4
  have hq := pss_one (ps_ret (pos := p8) (pe_tup (x1 := k1) (pos := p7) (pa_cons E1 (pa_cons E2 pa_nil h2) h1)))
  refine hq.run pins s σ H D I ⟨.ref a, hs, rfl, dd, fs, .str c, hz.2, hx, hc, .ref a, hs, C, fs, c, v, rfl, ⟨T, hz.1, hf, ⟨dd, hz.2, hx⟩, hc, hv⟩, fun H' sm => ⟨lineN (by decide : 2 ≤ 1000), fun p np => q H' p sm np⟩⟩
/-! ## lowest terms -/
theorem lowS_abs (n d : Int) : (lowS n d).natAbs = Int.gcd n d := by
  unfold lowS
  split <;> simp
theorem fdiv_is {x y s : Int} (h : s ≠ 0) (e : x = s * y) : x.fdiv s = y := by
  rw [e]
  exact Int.mul_fdiv_cancel_left _ h
theorem low_all {n d : Int} (h : d ≠ 0) : ∃ k m : Int, n = lowS n d * k ∧ d = lowS n d * m ∧ n.fdiv (lowS n d) = k ∧ d.fdiv (lowS n d) = m ∧ 1 ≤ m ∧ Int.gcd k m = 1 ∧ lowS n d ≠ 0 := by
  have g0 : 0 < Int.gcd n d := Int.gcd_pos_of_ne_zero_right _ h
  have ea := lowS_abs n d
  have s0 : lowS n d ≠ 0 := fun z => by
    rw [z] at ea
    simp at ea
    omega
  have d1 : lowS n d ∣ n := by
    refine Int.natAbs_dvd.mp ?_
    rw [ea]
    exact Int.gcd_dvd_left ..
  have d2 : lowS n d ∣ d := by
    refine Int.natAbs_dvd.mp ?_
    rw [ea]
    exact Int.gcd_dvd_right ..
  obtain ⟨k, hk⟩ := d1
  obtain ⟨m, hm⟩ := d2
  refine ⟨k, m, hk, hm, ?_, ?_, ?_, ?_, s0⟩
  · exact fdiv_is s0 hk
  · exact fdiv_is s0 hm
  · by_cases c : d < 0
    · have es : lowS n d = -(Int.gcd n d : Int) := if_pos c
      have : lowS n d < 0 := by omega
      have hm0 : 0 < m := by
        by_cases z : 0 < m
        · exact z
        · have := Int.mul_nonneg_of_nonpos_of_nonpos (Int.le_of_lt this) (Int.not_lt.mp z)
          omega
      omega
    · have es : lowS n d = (Int.gcd n d : Int) := if_neg c
      have : 0 < lowS n d := by omega
      have hm0 : 0 < m := by
        by_cases z : 0 < m
        · exact z
        · have := Int.mul_nonpos_of_nonneg_of_nonpos (Int.le_of_lt this) (Int.not_lt.mp z)
          omega
      omega
  · have e1 : Int.gcd n d = (lowS n d).natAbs * Int.gcd k m := by
      conv => lhs; rw [hk]; arg 2; rw [hm]
      exact Int.gcd_mul_left ..
    rw [ea] at e1
    exact Nat.eq_of_mul_eq_mul_left g0 (by omega)
theorem lowS_neg {n d : Int} (h : d ≠ 0) : lowS n (-d) = -lowS n d := by
  unfold lowS
  rw [Int.gcd_neg]
  split <;> split <;> omega
theorem low_neg {n d : Int} (h : d ≠ 0) : n.fdiv (lowS n (-d)) = -(n.fdiv (lowS n d)) ∧ (-d).fdiv (lowS n (-d)) = d.fdiv (lowS n d) := by
  obtain ⟨k, m, hk, hm, e1, e2, _, _, s0⟩ := low_all (n := n) h
  rw [lowS_neg h, e1, e2]
  have n0 : -lowS n d ≠ 0 := by omega
  refine ⟨?_, ?_⟩
  · have : n = -lowS n d * -k := by
      rw [Int.neg_mul_neg]
      exact hk
    exact fdiv_is n0 this
  · have : -d = -lowS n d * m := by
      rw [Int.neg_mul, ← hm]
    exact fdiv_is n0 this
theorem low_prod {n d : Int} (h : d ≠ 0) : n.fdiv (lowS n d) * d = n * d.fdiv (lowS n d) := by
  obtain ⟨k, m, hk, hm, e1, e2, _⟩ := low_all (n := n) h
  rw [e1, e2]
  conv => lhs; rw [hm]
  conv => rhs; rw [hk]
  rw [Int.mul_left_comm, Int.mul_assoc]
theorem low_le {n d : Int} (h : d ≠ 0) : (n.fdiv (lowS n d)).natAbs ≤ n.natAbs ∧ (d.fdiv (lowS n d)).natAbs ≤ d.natAbs := by
  obtain ⟨k, m, hk, hm, e1, e2, _, _, s0⟩ := low_all (n := n) h
  rw [e1, e2]
  have hs : 1 ≤ (lowS n d).natAbs := by omega
  refine ⟨?_, ?_⟩
  · conv => rhs; rw [hk]
    rw [Int.natAbs_mul]
    exact Nat.le_mul_of_pos_left _ hs
  · conv => rhs; rw [hm]
    rw [Int.natAbs_mul]
    exact Nat.le_mul_of_pos_left _ hs
theorem ten40 : (10 : Int) ^ (40 : Int).toNat = 10000000000000000000000000000000000000000 := by decide +kernel
theorem ten18 : (10 : Int) ^ (18 : Int).toNat = 1000000000000000000 := by decide +kernel
theorem great_of {v : V} {i : Nat} (h : ([.int 1, .int 1, .int 7, .int 60, .int ((10 : Int) ^ (40 : Int).toNat)] : List V)[i]? = some v) : ∃ g : Int, v = .int g ∧ 1 ≤ g ∧ g ≤ 10000000000000000000000000000000000000000 := by
  rw [ten40] at h
  match i, h with
  | 0, h => exact ⟨1, (Option.some.inj h).symm, by decide, by decide⟩
  | 1, h => exact ⟨1, (Option.some.inj h).symm, by decide, by decide⟩
  | 2, h => exact ⟨7, (Option.some.inj h).symm, by decide, by decide⟩
  | 3, h => exact ⟨60, (Option.some.inj h).symm, by decide, by decide⟩
  | 4, h => exact ⟨_, (Option.some.inj h).symm, by decide, by decide⟩
  | n + 5, h => simp at h
/-- a product stays small -/
theorem mul_small {a g : Int} {k : Nat} (ha : a.natAbs ≤ k) (h1 : 1 ≤ g) (h2 : g ≤ 10000000000000000000000000000000000000000) : (a * g).natAbs ≤ k * 10000000000000000000000000000000000000000 := by
  rw [Int.natAbs_mul]
  exact Nat.mul_le_mul ha (by omega)
theorem log_small {a : Nat} (h : a ≤ 100000000000000000000000000000000000000000000) : a.log2 < 200 := log2_lt (Nat.lt_of_le_of_lt h (by decide)) (by decide)
theorem mul_wide {a b : Int} (ha : a.natAbs.log2 < 200) (hb : b.natAbs.log2 < 200) : CMulW a b := by
  unfold CMulW
  omega
/-! ## tables of code objects beside the draws -/
theorem tabs_but {T : List (Addr × Str)} {H H' : Hp} {r : Addr} (t : LamX.Tabs T H) (R : RngOk H r) (b : But r H H') : LamX.Tabs T H' := fun p hp => by
  obtain ⟨ps, h1, h2, h3⟩ := t p hp
  obtain ⟨c, i, bb, s, hr, _⟩ := R
  have ne1 : p.1 ≠ r := ne_of h1 hr fun z => nomatch z
  refine ⟨ps, (b _ ne1).trans h1, h2, fun pos cv hc => ?_⟩
  obtain ⟨c', e1, e2⟩ := h3 pos cv hc
  refine ⟨c', e1, (b _ (ne_of e2 hr fun z => ?_)).trans e2⟩
  unfold LamX.CodeO at z
  cases z
theorem tabs_same {T : List (Addr × Str)} {H H' : Hp} (t : LamX.Tabs T H) (s : Same H H') : LamX.Tabs T H' := t.ext s
theorem rng_ext {H H' : Hp} {r : Addr} (h : RngOk H r) (e : LamX.ExtN H H') : RngOk H' r := h.keep e

end RB

set_option Elab.async false
set_option linter.all false
set_option maxRecDepth 100000
set_option maxHeartbeats 4000000
namespace RB
open PySem PySem.Spec PyProof.Rows L2
def topS (i : Nat) : Stmt := PySem.Challenge.pw_rootbags_k58_plans_of_trees.main.body.getD i (.Pass ⟨0, 0, 0, 0⟩)
abbrev s_operands : Stmt := topS 2
abbrev s_with_operands : Stmt := topS 3
abbrev s_put_step : Stmt := topS 4
abbrev s_planned : Stmt := topS 5
abbrev s_compiled : Stmt := topS 7
abbrev s_plan_trees : Stmt := topS 8
abbrev sDraws : Stmt := topS 10
abbrev sDraw : Stmt := topS 11
abbrev sPick : Stmt := topS 12
abbrev sSame : Stmt := topS 13
abbrev sGcd : Stmt := topS 14
abbrev sLow : Stmt := topS 15
abbrev s_law_trim : Stmt := topS 16
abbrev s_law_value : Stmt := topS 17
abbrev s_law_tree : Stmt := topS 18
abbrev s_law_number_text : Stmt := topS 19
abbrev s_law_numbers_text : Stmt := topS 20
abbrev s_law_level : Stmt := topS 21
abbrev s_law_operand : Stmt := topS 22
abbrev s_law_text : Stmt := topS 23
abbrev s_law_parts : Stmt := topS 24
abbrev s_law_nodes : Stmt := topS 25
abbrev s_law_term_names : Stmt := topS 26
abbrev s_law_wanted_tree : Stmt := topS 27
abbrev s_law_steps : Stmt := topS 28
abbrev s_law_compiled : Stmt := topS 29
abbrev sLaw : Stmt := topS 30
end RB

set_option Elab.async false
set_option linter.all false
set_option maxRecDepth 100000
set_option maxHeartbeats 4000000
namespace RB
open PySem PySem.Spec PyProof.Rows L2
/-! ## an error of the program with one field -/
def spErr1 (C : Addr) (code fld : Str) : Sp := fun vs H Q _ => ∃ (a : Addr) (v : V), vs = [.ref a, v] ∧ H a = some (exo a C none) ∧
  ∀ dx, H dx = none → dx ≠ a → Q .non (upd (upd (upd H dx (exd dx [("code", .str code)])) a (exo a C (some dx))) dx (exd dx [(fld, v), ("code", .str code)]))
structure Err1 (P : Program) (w : World) (K : PySem.W.Frag) (mg : Str → Option Value) (base : Heap) (k : Nat) (x code fld : Str) (C : Addr) : Prop where
  oex : OexC K C
  gC : mg x = some (.ref C)
  ini : ∃ (fI : Addr) (fd : FuncData) (ps : List Str), PySem.W.findIn K (.ref C) "__init__" = some (some (.ref fI)) ∧ PySem.W.typeIn K (.ref fI) = some (.type "function") ∧ L2.Binds K fd ps [] ∧
    FnOk P w K mg base CX0 k fI fd ps (spErr1 C code fld)
theorem mk1_of {C : Addr} {code fld : Str} {H1 : Hp} {v : V} {Q : XK} (h : ∀ d, H1 d = none → Q (.ref C) (some d) (upd H1 d (.xd [(fld, v), ("code", .str code)]))) : ∀ a, H1 a = none → spErr1 C code fld (.ref a :: ([v] ++ [])) (upd H1 a (exo a C none))
    (fun z H2 => z = .non ∧ ∃ (d : Addr) (fs : List (Str × V)), H2 a = some (exo a C (some d)) ∧ H2 d = some (exd d fs) ∧ H1 d = none ∧ Q (.ref C) (some d) (upd (del H2 a) d (.xd fs))) (fun _ _ _ => False) := by
  intro a na
  refine ⟨a, v, rfl, upd_same, fun dx ndx dne => ⟨rfl, dx, [(fld, v), ("code", .str code)], ?_, upd_same, ?_, ?_⟩⟩
  · rw [upd_ne dne.symm, upd_same]
  · rw [upd_ne dne] at ndx
    exact ndx
  · have hd : H1 dx = none := by
      rw [upd_ne dne] at ndx
      exact ndx
    have e : upd (del (upd (upd (upd (upd H1 a (exo a C none)) dx (exd dx [("code", .str code)])) a (exo a C (some dx))) dx (exd dx [(fld, v), ("code", .str code)])) a) dx (.xd [(fld, v), ("code", .str code)]) = upd H1 dx (.xd [(fld, v), ("code", .str code)]) := by
      funext b
      by_cases hb1 : b = dx
      · rw [hb1, upd_same, upd_same]
      · rw [upd_ne hb1, upd_ne hb1]
        by_cases hb2 : b = a
        · rw [hb2, del_same, na]
        · rw [del_ne hb2, upd_ne hb1, upd_ne hb2, upd_ne hb1, upd_ne hb2]
    rw [e]
    exact h dx hd
section
variable {X : Cx}
theorem pmk1 {k : Nat} {x code fld : Str} {C : Addr} {p pos : Pos} {e : Expr} {te : TE} (T : Err1 X.prog X.w X.K X.mg X.base k x code fld C) (hr : Room (k + 1) X.A) (hg : Gl X x) (he : PE X e te) (hdb : (x == ("__debug__" : Str)) = false := by decide)
    (hs : starEach [e] X.env = (false, eval e X.env) :: starEach [] X.env := by rfl) (hpl : (backTo pos (starEach [] X.env)).any (·.1) = false := by rfl) :
    PMk X (.Call (.Name x p) [e] [] pos) (tMkO C (spErr1 C code fld) [] (tCons te tNil)) := by
  obtain ⟨fI, fd, ps, iC, tI, hb, F1⟩ := T.ini
  exact pmk_oex (p := p) (pos := pos) T.oex iC tI F1 hr hb .nil pass0 hg T.gC (pa_cons he pa_nil hs) hdb hs hpl
end
end RB

set_option Elab.async false
set_option linter.all false
set_option maxRecDepth 100000
set_option maxHeartbeats 2000000
/-! data: a def as a plain function of data; a list that only this def holds may grow; one object (self) may change -/
namespace PD
open PySem PySem.Spec PyProof.Rows L2 RB
mutual
/-- at v stands the datum d -/
inductive DV (K : PySem.W.Frag) (H : Hp) : V → Dat → Prop
  | non : DV K H .non .non
  | bl (b : Bool) : DV K H (.bl b) (.bl b)
  | int (i : Int) : DV K H (.int i) (.int i)
  | str (x : Str) : DV K H (.str x) (.str x)
  | lst {a : Addr} {xs : List V} {ds : List Dat} : H a = some (.lst xs) → xs.length ≤ 100000 → DVs K H xs ds → DV K H (.ref a) (.lst ds)
  | tup {a : Addr} {xs : List V} {ds : List Dat} : SqT K H a xs → xs.length ≤ 100000 → DVs K H xs ds → DV K H (.ref a) (.tup ds)
  | dct {a : Addr} {ks : List Str} {xs : List V} {ds : List Dat} : H a = some (.dK (List.zipWith (fun k v => ((Sum.inr k : Key), v)) ks xs)) → ks.length = xs.length → ks.length ≤ 1000 → ks.Nodup → DVs K H xs ds → DV K H (.ref a) (.dct ks ds)
  | ins {a dx : Addr} {c : Str} {ks : List Str} {xs : List V} {ds : List Dat} : H a = some (.ins (He.ga K c) dx (List.zip ks xs)) → H dx = some (.own a) → ks.length = xs.length → DVs K H xs ds → DV K H (.ref a) (.ins c ks ds)
inductive DVs (K : PySem.W.Frag) (H : Hp) : List V → List Dat → Prop
  | nil : DVs K H [] []
  | cons {v : V} {vs : List V} {d : Dat} {ds : List Dat} : DV K H v d → DVs K H vs ds → DVs K H (v :: vs) (d :: ds)
end
/-- all stays -/
def Kp (H H' : Hp) : Prop := Same H H'
theorem Kp.of {H H' : Hp} (s : Same H H') : Kp H H' := s
theorem Kp.rd {H H' : Hp} (k : Kp H H') {a : Addr} {u : HO} (h : Rd H a u) (hu : ∀ C dx fs, u ≠ .ins C dx fs) : Rd H' a u := by
  rcases h with h | ⟨o, h⟩
  · exact .inl (k _ _ h)
  · exact .inr ⟨o, k _ _ h⟩
theorem Kp.sqL {K : PySem.W.Frag} {H H' : Hp} (k : Kp H H') {a : Addr} {xs : List V} (h : SqL K H a xs) : SqL K H' a xs := h.imp (fun r => k.rd r fun _ _ _ z => nomatch z) id
theorem Kp.sqT {K : PySem.W.Frag} {H H' : Hp} (k : Kp H H') {a : Addr} {xs : List V} (h : SqT K H a xs) : SqT K H' a xs := h.imp (fun r => k.rd r fun _ _ _ z => nomatch z) id
mutual
theorem DV.kp {K : PySem.W.Frag} {H H' : Hp} (k : Kp H H') : ∀ {v : V} {d : Dat}, DV K H v d → DV K H' v d
  | _, _, .non => .non
  | _, _, .bl b => .bl b
  | _, _, .int i => .int i
  | _, _, .str x => .str x
  | _, _, .lst e l a => .lst (k _ _ e) l (DVs.kp k a)
  | _, _, .tup e l a => .tup (k.sqT e) l (DVs.kp k a)
  | _, _, .dct e l m n a => .dct (k _ _ e) l m n (DVs.kp k a)
  | _, _, .ins e e2 l a => .ins (k _ _ e) (k _ _ e2) l (DVs.kp k a)
theorem DVs.kp {K : PySem.W.Frag} {H H' : Hp} (k : Kp H H') : ∀ {xs : List V} {ds : List Dat}, DVs K H xs ds → DVs K H' xs ds
  | _, _, .nil => .nil
  | _, _, .cons a t => .cons (DV.kp k a) (DVs.kp k t)
end
theorem DV.same {K : PySem.W.Frag} {H H' : Hp} (s : Same H H') {v : V} {d : Dat} (h : DV K H v d) : DV K H' v d := h.kp (.of s)
theorem DVs.same {K : PySem.W.Frag} {H H' : Hp} (s : Same H H') {v : List V} {d : List Dat} (h : DVs K H v d) : DVs K H' v d := h.kp (.of s)
theorem DVs.length {K : PySem.W.Frag} {H : Hp} : ∀ {xs : List V} {ds : List Dat}, DVs K H xs ds → xs.length = ds.length
  | _, _, .nil => rfl
  | _, _, .cons _ t => congrArg Nat.succ (DVs.length t)
theorem DVs.get {K : PySem.W.Frag} {H : Hp} : ∀ {xs : List V} {ds : List Dat} {i : Nat} {d : Dat}, DVs K H xs ds → ds[i]? = some d → ∃ x, xs[i]? = some x ∧ DV K H x d
  | _, _, _, _, .nil, e => by simp at e
  | _, _, 0, _, .cons a _, e => by
    simp at e
    subst e
    exact ⟨_, rfl, a⟩
  | _, _, i + 1, _, .cons _ t, e => by
    obtain ⟨x, h1, h2⟩ := DVs.get (i := i) t (by simpa using e)
    exact ⟨x, by simpa using h1, h2⟩
theorem DVs.get' {K : PySem.W.Frag} {H : Hp} {xs : List V} {ds : List Dat} {i : Nat} {x : V} (h : DVs K H xs ds) (e : xs[i]? = some x) : ∃ d, ds[i]? = some d ∧ DV K H x d := by
  have hl := h.length
  have hi : i < xs.length := by
    rcases Nat.lt_or_ge i xs.length with z | z
    · exact z
    · rw [List.getElem?_eq_none z] at e
      cases e
  have e2 : ds[i]? = some ds[i] := List.getElem?_eq_getElem (by omega)
  obtain ⟨y, h1, h2⟩ := h.get e2
  rw [e] at h1
  cases h1
  exact ⟨_, e2, h2⟩
theorem DVs.app {K : PySem.W.Frag} {H : Hp} : ∀ {xs ys : List V} {ds es : List Dat}, DVs K H xs ds → DVs K H ys es → DVs K H (xs ++ ys) (ds ++ es)
  | _, _, _, _, .nil, s => s
  | _, _, _, _, .cons r t, s => .cons r (DVs.app t s)
theorem DVs.take {K : PySem.W.Frag} {H : Hp} : ∀ {xs : List V} {ds : List Dat} (n : Nat), DVs K H xs ds → DVs K H (xs.take n) (ds.take n)
  | _, _, 0, _ => .nil
  | _, _, _ + 1, .nil => .nil
  | _, _, n + 1, .cons r t => .cons r (DVs.take n t)
theorem DVs.drop {K : PySem.W.Frag} {H : Hp} : ∀ {xs : List V} {ds : List Dat} (n : Nat), DVs K H xs ds → DVs K H (xs.drop n) (ds.drop n)
  | _, _, 0, r => r
  | _, _, _ + 1, .nil => .nil
  | _, _, n + 1, .cons _ t => DVs.drop n t
/-! ### outcomes -/
abbrev Fld := List (Str × Dat)
inductive Slot where
  | v (d : Dat) | own (ds : List Dat) | me | me2
abbrev DEnv := List (Option Slot)
/-- an expression's outcome -/
inductive RE where
  | ok (d : Dat) (S : Fld) | er (n : Str) (v : Dat) | bad
inductive RA where
  | ok (ds : List Dat) (S : Fld) | er (n : Str) (v : Dat) | bad
/-- a statement's -/
inductive RS where
  | nx (ρ : DEnv) (S : Fld) | rt (d : Dat) (S : Fld) | bk (ρ : DEnv) (S : Fld) | ct (ρ : DEnv) (S : Fld) | er (n : Str) (v : Dat) | bad
abbrev FE := DEnv → Fld → RE
abbrev FA := DEnv → Fld → RA
abbrev FS := DEnv → Fld → RS
/-- the attributes of an error -/
def datV : Dat → V
  | .int i => .int i
  | .str x => .str x
  | .bl b => .bl b
  | _ => .non
def errF (n : Str) (v : Dat) : List (Str × V) := match fieldOf n with
  | some f => [(f, datV v), ("code", .str n)]
  | none => [("code", .str n)]
mutual
/-- a datum as a key -/
def nk : Dat → Option NestedKey
  | .non => some .none
  | .bl b => some (.num (if b = true then 1 else 0))
  | .int i => some (.num i)
  | .str x => some (.text x)
  | .tup ds => (nks ds).map NestedKey.tup
  | _ => none
def nks : List Dat → Option (List NestedKey)
  | [] => some []
  | d :: ds => (nk d).bind fun k => (nks ds).map (k :: ·)
end
/-- one entry of a dict by nested keys: its key, the key's address, its value -/
abbrev Ent := NestedKey × Addr × V
inductive EntD (K : PySem.W.Frag) (H : Hp) : List Ent → List Dat → Prop
  | nil : EntD K H [] []
  | cons {k : NestedKey} {a : Addr} {v : V} {kd vd : Dat} {xs : List Ent} {ds : List Dat} : DV K H (.ref a) kd → nk kd = some k → k.depth ≤ 8 → DV K H v vd → EntD K H xs ds → EntD K H ((k, a, v) :: xs) (.tup [kd, vd] :: ds)
theorem EntD.same {K : PySem.W.Frag} {H H' : Hp} (s : Same H H') : ∀ {xs : List Ent} {ds : List Dat}, EntD K H xs ds → EntD K H' xs ds
  | _, _, .nil => .nil
  | _, _, .cons a b c d t => .cons (a.same s) b c (d.same s) (t.same s)
/-- what may change: an instance, a list; a list and a second list; a list and a dict by nested keys -/
inductive MK where
  | ins (C dx : Addr) | lst | two (y : Addr) | tab (y : Addr) (D : List Ent → HO)
/-- the second thing -/
def MK.sub : MK → Option Addr
  | .two y => some y
  | .tab y _ => some y
  | _ => none
/-- the run of a def: the written part, the heap at its start, what is wanted of an error, the errors' classes, self -/
structure Me where
  K : PySem.W.Frag
  H0 : Hp
  Hs : Hp
  E : XK
  ec : Str → Addr
  self : Option (Addr × MK)
  /-- the tables of its lambdas' code -/
  T : List (Addr × Str)
/-- the second thing that may change -/
def Me.sub (M : Me) (b : Addr) : Prop := ∃ x k, M.self = some (x, k) ∧ k.sub = some b
def Me.mine (M : Me) (b : Addr) : Prop := (∃ k, M.self = some (b, k)) ∨ (∃ q, (b, q) ∈ M.T) ∨ M.sub b
def Me.Er (M : Me) (n : Str) (v : Dat) : Prop := ∀ dd H', (∀ b o, M.H0 b = some o → ¬ M.mine b → H' b = some o) → M.H0 dd = none → H' dd = some (.xd (errF n v)) → M.E (.ref (M.ec n)) (some dd) H'
def SlotOk (M : Me) (Hf H : Hp) (v : V) : Slot → Prop
  | .v d => DV M.K Hf v d
  | .own ds => ∃ p vs, v = .ref p ∧ H p = some (.lst vs) ∧ Hf p = none ∧ vs.length ≤ 100000 ∧ DVs M.K Hf vs ds
  | .me => ∃ x k, M.self = some (x, k) ∧ v = .ref x
  | .me2 => ∃ y, M.sub y ∧ v = .ref y
inductive FV (K : PySem.W.Frag) (H : Hp) : List (Str × V) → Fld → Prop
  | nil : FV K H [] []
  | cons {f : Str} {v : V} {d : Dat} {vs : List (Str × V)} {ds : Fld} : DV K H v d → FV K H vs ds → FV K H ((f, v) :: vs) ((f, d) :: ds)
theorem FV.kp {K : PySem.W.Frag} {H H' : Hp} (k : Kp H H') : ∀ {vs : List (Str × V)} {ds : Fld}, FV K H vs ds → FV K H' vs ds
  | _, _, .nil => .nil
  | _, _, .cons a t => .cons (a.kp k) (t.kp k)
theorem FV.lookup {K : PySem.W.Frag} {H : Hp} {f : Str} {d : Dat} : ∀ {vs : List (Str × V)} {ds : Fld}, FV K H vs ds → ds.lookup f = some d → ∃ v, vs.lookup f = some v ∧ DV K H v d
  | _, _, .nil, e => by cases e
  | _, _, .cons (f := g) (v := v) (d := d') a t, e => by
    rw [List.lookup_cons] at e ⊢
    cases q : (f == g) with
    | true =>
      rw [q] at e
      cases e
      exact ⟨v, rfl, a⟩
    | false =>
      rw [q] at e
      exact FV.lookup t e
theorem FV.none {K : PySem.W.Frag} {H : Hp} {f : Str} : ∀ {vs : List (Str × V)} {ds : Fld}, FV K H vs ds → ds.lookup f = none → vs.lookup f = none
  | _, _, .nil, _ => rfl
  | _, _, .cons (f := g) a t, e => by
    rw [List.lookup_cons] at e ⊢
    cases q : (f == g) with
    | true =>
      rw [q] at e
      cases e
    | false =>
      rw [q] at e
      exact FV.none t e
def MeIs (K : PySem.W.Frag) (x : Addr) (H Hf : Hp) (S : Fld) : MK → Prop
  | .ins C dx => ∃ fs, H x = some (.ins C dx fs) ∧ FV K Hf fs S
  | .lst => ∃ vs, H x = some (.lst vs) ∧ vs.length ≤ 100000 ∧ DVs K Hf vs (S.map (·.2))
  | .two y => ∃ (vs : List V) (ds : List Dat) (ws : List V) (es : List Dat), S = [(("" : Str), Dat.lst ds), (("" : Str), Dat.lst es)] ∧ H x = some (.lst vs) ∧ vs.length ≤ 100000 ∧ DVs K Hf vs ds ∧ y ≠ x ∧ H y = some (.lst ws) ∧ ws.length ≤ 100000 ∧ DVs K Hf ws es
  | .tab y D => ∃ (vs : List V) (ds : List Dat) (ws : List Ent) (es : List Dat), S = [(("" : Str), Dat.lst ds), (("" : Str), Dat.lst es)] ∧ H x = some (.lst vs) ∧ vs.length ≤ 100000 ∧ DVs K Hf vs ds ∧ y ≠ x ∧ H y = some (D ws) ∧ (∀ ws ps, D ws ≠ .tbl ps) ∧ EntD K Hf ws es
theorem MeIs.there {K : PySem.W.Frag} {x : Addr} {H Hf : Hp} {S : Fld} {k : MK} (h : MeIs K x H Hf S k) : ∃ o, H x = some o := by
  cases k with
  | ins C dx => obtain ⟨fs, e, _⟩ := h; exact ⟨_, e⟩
  | lst => obtain ⟨fs, e, _⟩ := h; exact ⟨_, e⟩
  | two y => obtain ⟨vs, ds, ws, es, _, e, _⟩ := h; exact ⟨_, e⟩
  | tab y D => obtain ⟨vs, ds, ws, es, _, e, _⟩ := h; exact ⟨_, e⟩
theorem MeIs.thereS {K : PySem.W.Frag} {x b : Addr} {H Hf : Hp} {S : Fld} {k : MK} (h : MeIs K x H Hf S k) (hb : k.sub = some b) : ∃ o, H b = some o ∧ ∀ ps, o ≠ .tbl ps := by
  cases k with
  | ins C dx => cases hb
  | lst => cases hb
  | two y => cases hb; obtain ⟨vs, ds, ws, es, _, _, _, _, _, e, _⟩ := h; exact ⟨_, e, fun _ z => nomatch z⟩
  | tab y D => cases hb; obtain ⟨vs, ds, ws, es, _, _, _, _, _, e, n, _⟩ := h; exact ⟨_, e, n ws⟩
theorem MeIs.mono {K : PySem.W.Frag} {x : Addr} {H Hf H' Hf' : Hp} {S : Fld} {k : MK} (h : MeIs K x H Hf S k) (e : ∀ b o, b = x ∨ k.sub = some b → H b = some o → H' b = some o) (s : Same Hf Hf') : MeIs K x H' Hf' S k := by
  cases k with
  | ins C dx => obtain ⟨fs, a, b⟩ := h; exact ⟨fs, e _ _ (.inl rfl) a, b.kp (.of s)⟩
  | lst => obtain ⟨fs, a, l, b⟩ := h; exact ⟨fs, e _ _ (.inl rfl) a, l, b.same s⟩
  | two y => obtain ⟨vs, ds, ws, es, a, b, c, d, n, f, g, i⟩ := h; exact ⟨vs, ds, ws, es, a, e _ _ (.inl rfl) b, c, d.same s, n, e _ _ (.inr rfl) f, g, i.same s⟩
  | tab y D => obtain ⟨vs, ds, ws, es, a, b, c, d, n, f, g, i⟩ := h; exact ⟨vs, ds, ws, es, a, e _ _ (.inl rfl) b, c, d.same s, n, e _ _ (.inr rfl) f, g, i.same s⟩
structure Rel (M : Me) (σ : L2.St) (H : Hp) (ρ : DEnv) (S : Fld) (Hf : Hp) : Prop where
  len : σ.length = ρ.length
  base : Same M.Hs Hf
  sub : Same Hf H
  full : ∀ b o, M.H0 b = some o → ¬ M.mine b → H b = some o
  fresh : ∀ b, Hf b ≠ none → M.Hs b ≠ none ∨ M.H0 b = none
  ownF : ∀ (i : Nat) (ds : List Dat) (p : Addr), ρ[i]? = some (some (.own ds)) → σ[i]? = some (some (.ref p)) → M.H0 p = none
  slot : ∀ (i : Nat) (s : Slot), ρ[i]? = some (some s) → ∃ v, σ[i]? = some (some v) ∧ SlotOk M Hf H v s
  inj : ∀ (i j : Nat) (ds es : List Dat) (p : Addr), i ≠ j → ρ[i]? = some (some (.own ds)) → ρ[j]? = some (some (.own es)) → σ[i]? = some (some (.ref p)) → σ[j]? ≠ some (some (.ref p))
  me : ∀ x k, M.self = some (x, k) → Hf x = none ∧ M.H0 x ≠ none ∧ MeIs M.K x H Hf S k
  tabs : LamX.Tabs M.T H
  tabf : ∀ p ∈ M.T, Hf p.1 = none
  notb : ∀ b ps, Hf b = some (.tbl ps) → M.Hs b = some (.tbl ps)
  subs : ∀ b, M.sub b → Hf b = none ∧ M.H0 b ≠ none
/-- what may change is no datum, and was there -/
theorem Rel.own0 {M : Me} {σ : L2.St} {H : Hp} {ρ : DEnv} {S : Fld} {Hf : Hp} (R : Rel M σ H ρ S Hf) {x b : Addr} {k : MK} (e : M.self = some (x, k)) (h : b = x ∨ k.sub = some b) : Hf b = none ∧ M.H0 b ≠ none := by
  rcases h with rfl | h
  · obtain ⟨a, b, _⟩ := R.me _ k e
    exact ⟨a, b⟩
  · exact R.subs b ⟨x, k, e, h⟩
theorem Rel.subAt {M : Me} {σ : L2.St} {H : Hp} {ρ : DEnv} {S : Fld} {Hf : Hp} (R : Rel M σ H ρ S Hf) {b : Addr} (h : M.sub b) : ∃ o, H b = some o ∧ ∀ ps, o ≠ .tbl ps := by
  obtain ⟨x, k, e, h⟩ := h
  exact (R.me x k e).2.2.thereS h
/-- a list or an instance -/
def NLI (o : HO) : Prop := (∀ xs, o ≠ .lst xs) ∧ ∀ C dx fs, o ≠ .ins C dx fs
theorem tabs_keep {T : List (Addr × Str)} {H H' : Hp} (h : LamX.Tabs T H) (e : ∀ b o, H b = some o → NLI o → H' b = some o) : LamX.Tabs T H' := fun p hp => by
  obtain ⟨ps, h1, h2, h3⟩ := h p hp
  refine ⟨ps, e _ _ h1 ⟨fun _ z => (nomatch z), fun _ _ _ z => (nomatch z)⟩, h2, fun pos cv hc => ?_⟩
  obtain ⟨c, e1, e2⟩ := h3 pos cv hc
  exact ⟨c, e1, e _ _ e2 ⟨fun _ z => (nomatch z), fun _ _ _ z => (nomatch z)⟩⟩
theorem tabs_same {T : List (Addr × Str)} {H H' : Hp} (h : LamX.Tabs T H) (e : Same H H') : LamX.Tabs T H' := tabs_keep h fun b o z _ => e b o z
theorem tabs_at {T : List (Addr × Str)} {H : Hp} (h : LamX.Tabs T H) {b : Addr} {q : Str} (hb : (b, q) ∈ T) : ∃ ps, H b = some (.tbl ps) := by
  obtain ⟨ps, h1, _⟩ := h _ hb
  exact ⟨ps, h1⟩
theorem tabs_upd {T : List (Addr × Str)} {H : Hp} (h : LamX.Tabs T H) {x : Addr} {u o : HO} (hx : H x = some u) (hu : ¬ NLI u) : LamX.Tabs T (upd H x o) := tabs_keep h fun b w e n => by
  have : b ≠ x := fun z => by
    subst z
    rw [hx] at e
    cases e
    exact hu n
  rw [upd_ne this]
  exact e
theorem nli_lst {xs : List V} : ¬ NLI (.lst xs) := fun h => h.1 _ rfl
theorem nli_ins {C dx : Addr} {fs : List (Str × V)} : ¬ NLI (.ins C dx fs) := fun h => h.2 _ _ _ rfl
theorem MeIs.nli {K : PySem.W.Frag} {x : Addr} {H Hf : Hp} {S : Fld} {k : MK} (h : MeIs K x H Hf S k) : ∃ u, H x = some u ∧ ¬ NLI u := by
  cases k with
  | ins C dx => obtain ⟨fs, e, _⟩ := h; exact ⟨_, e, nli_ins⟩
  | lst => obtain ⟨fs, e, _⟩ := h; exact ⟨_, e, nli_lst⟩
  | two y => obtain ⟨vs, ds, ws, es, _, e, _⟩ := h; exact ⟨_, e, nli_lst⟩
  | tab y D => obtain ⟨vs, ds, ws, es, _, e, _⟩ := h; exact ⟨_, e, nli_lst⟩
theorem none_of_same {Hf H : Hp} (s : Same Hf H) {p : Addr} (h : H p = none) : Hf p = none := by
  cases e : Hf p with
  | none => rfl
  | some o => exact absurd ((s _ _ e).symm.trans h) (by simp)
/-- what may change is there -/
theorem Rel.mineAt {M : Me} {σ : L2.St} {H : Hp} {ρ : DEnv} {S : Fld} {Hf : Hp} (R : Rel M σ H ρ S Hf) {b : Addr} (m : M.mine b) : ∃ o, H b = some o := by
  rcases m with ⟨k, m⟩ | ⟨q, m⟩ | m
  · exact (R.me b k m).2.2.there
  · obtain ⟨ps, h⟩ := tabs_at R.tabs m
    exact ⟨_, h⟩
  · obtain ⟨o, h, _⟩ := R.subAt m
    exact ⟨o, h⟩
theorem Rel.notMine {M : Me} {σ : L2.St} {H : Hp} {ρ : DEnv} {S : Fld} {Hf : Hp} (R : Rel M σ H ρ S Hf) {p : Addr} (hp : H p = none) : ¬ M.mine p := fun m => by
  obtain ⟨o, e⟩ := R.mineAt m
  rw [hp] at e
  cases e
theorem Rel.H0none {M : Me} {σ : L2.St} {H : Hp} {ρ : DEnv} {S : Fld} {Hf : Hp} (R : Rel M σ H ρ S Hf) {p : Addr} (hp : H p = none) : M.H0 p = none := by
  cases e : M.H0 p with
  | none => rfl
  | some o =>
    by_cases m : M.mine p
    · exact (R.notMine hp m).elim
    · rw [R.full p o e m] at hp
      cases hp
theorem Rel.new {M : Me} {σ : L2.St} {H : Hp} {ρ : DEnv} {S : Fld} {Hf : Hp} (R : Rel M σ H ρ S Hf) {p : Addr} {o : HO} (hp : H p = none) (no : ∀ ps, o ≠ .tbl ps) : Rel M σ (upd H p o) ρ S (upd Hf p o) := by
  have hf := none_of_same R.sub hp
  refine ⟨R.len, fun b u e => ?_, fun b u e => ?_, fun b u e m => upd_new hp _ _ (R.full b u e m), fun b e => ?_, R.ownF, fun i s e => ?_, R.inj, fun x k e => ?_, tabs_same R.tabs (upd_new hp), fun q hq => ?_, fun b ps e => ?_, fun b m => ?_⟩
  · have z := R.base b u e
    rw [upd_ne (ne_of_none z hf)]
    exact z
  · by_cases hb : b = p
    · subst hb
      rw [upd_same] at e ⊢
      exact e
    · rw [upd_ne hb] at e ⊢
      exact R.sub _ _ e
  · by_cases hb : b = p
    · subst hb
      exact .inr (R.H0none hp)
    · rw [upd_ne hb] at e
      exact R.fresh b e
  · obtain ⟨v, h1, h2⟩ := R.slot i s e
    refine ⟨v, h1, ?_⟩
    cases s with
    | v d => exact DV.same (upd_new hf) h2
    | me => exact h2
    | me2 => exact h2
    | own ds =>
      obtain ⟨q, vs, rfl, a, b, c, d⟩ := h2
      have nq : q ≠ p := ne_of_none a hp
      exact ⟨q, vs, rfl, by rw [upd_ne nq]; exact a, by rw [upd_ne nq]; exact b, c, d.same (upd_new hf)⟩
  · obtain ⟨h1, h0, h2⟩ := R.me x k e
    obtain ⟨_, hx⟩ := h2.there
    have nq : x ≠ p := ne_of_none hx hp
    exact ⟨by rw [upd_ne nq]; exact h1, h0, h2.mono (fun b o _ z => upd_new hp _ _ z) (upd_new hf)⟩
  · obtain ⟨ps, e, _⟩ := R.tabs q hq
    rw [upd_ne (ne_of_none e hp)]
    exact R.tabf q hq
  · by_cases hb : b = p
    · rw [hb, upd_same] at e
      exact (no ps (Option.some.inj e)).elim
    · rw [upd_ne hb] at e
      exact R.notb b ps e
  · obtain ⟨o, ho, _⟩ := R.subAt m
    rw [upd_ne (ne_of_none ho hp)]
    exact R.subs b m
/-- what may be read: a datum, or a list that the def holds alone -/
def GV (K : PySem.W.Frag) (Hf H : Hp) (v : V) (d : Dat) : Prop := DV K Hf v d ∨ ∃ p vs ds, v = .ref p ∧ d = .lst ds ∧ H p = some (.lst vs) ∧ vs.length ≤ 100000 ∧ DVs K Hf vs ds
theorem GV.lst {K : PySem.W.Frag} {Hf H : Hp} {v : V} {ds : List Dat} (s : Same Hf H) (h : GV K Hf H v (.lst ds)) : ∃ a xs, v = .ref a ∧ H a = some (.lst xs) ∧ xs.length ≤ 100000 ∧ DVs K Hf xs ds := by
  rcases h with h | ⟨p, vs, es, rfl, e, a, b, c⟩
  · cases h with
    | lst a b c => exact ⟨_, _, rfl, s _ _ a, b, c⟩
  · cases e
    exact ⟨p, vs, rfl, a, b, c⟩
theorem GV.tup {K : PySem.W.Frag} {Hf H : Hp} {v : V} {ds : List Dat} (s : Same Hf H) (h : GV K Hf H v (.tup ds)) : ∃ a xs, v = .ref a ∧ SqT K H a xs ∧ xs.length ≤ 100000 ∧ DVs K Hf xs ds := by
  rcases h with h | ⟨p, vs, es, rfl, e, _⟩
  · cases h with
    | tup a b c => exact ⟨_, _, rfl, Kp.sqT (.of s) a, b, c⟩
  · cases e
theorem GV.int {K : PySem.W.Frag} {Hf H : Hp} {v : V} {i : Int} (h : GV K Hf H v (.int i)) : v = .int i := by
  rcases h with h | ⟨p, vs, es, rfl, e, _⟩
  · cases h; rfl
  · cases e
theorem GV.str {K : PySem.W.Frag} {Hf H : Hp} {v : V} {i : Str} (h : GV K Hf H v (.str i)) : v = .str i := by
  rcases h with h | ⟨p, vs, es, rfl, e, _⟩
  · cases h; rfl
  · cases e
theorem GV.bl {K : PySem.W.Frag} {Hf H : Hp} {v : V} {i : Bool} (h : GV K Hf H v (.bl i)) : v = .bl i := by
  rcases h with h | ⟨p, vs, es, rfl, e, _⟩
  · cases h; rfl
  · cases e
theorem GV.non {K : PySem.W.Frag} {Hf H : Hp} {v : V} (h : GV K Hf H v .non) : v = .non := by
  rcases h with h | ⟨p, vs, es, rfl, e, _⟩
  · cases h; rfl
  · cases e
/-- b is new, or a table, or may change -/
def NoT (M : Me) (H : Hp) (b : Addr) : Prop := ∀ o, H b = some o → (M.T ≠ [] ∧ ∃ ps, o = .tbl ps) ∨ M.mine b
theorem NoT.new {M : Me} {H : Hp} {b : Addr} (h : H b = none) : NoT M H b := fun o e => by rw [h] at e; cases e
theorem fshN {M : Me} {H Hf Hf' : Hp} (fr : ∀ b, Hf' b ≠ none → Hf b ≠ none ∨ H b = none) : ∀ b, Hf' b ≠ none → Hf b ≠ none ∨ NoT M H b := fun b z => (fr b z).imp id .new
/-- a step of an expression -/
structure Stp (M : Me) (σ : L2.St) (ρ : DEnv) (Hf H : Hp) (S' : Fld) (Hf' H' : Hp) : Prop where
  rel : Rel M σ H' ρ S' Hf'
  same : Same Hf Hf'
  fr : ∀ b o, H b = some o → ¬ M.mine b → (M.T ≠ [] → ∀ ps, o ≠ .tbl ps) → H' b = some o
  fsh : ∀ b, Hf' b ≠ none → Hf b ≠ none ∨ NoT M H b
theorem Stp.refl {M : Me} {σ : L2.St} {ρ : DEnv} {Hf H : Hp} {S : Fld} (R : Rel M σ H ρ S Hf) : Stp M σ ρ Hf H S Hf H := ⟨R, Same.refl _, fun _ _ e _ _ => e, fun _ e => .inl e⟩
theorem Stp.nn {M : Me} {σ : L2.St} {ρ : DEnv} {Hf H Hf1 H1 : Hp} {S1 : Fld} (a : Stp M σ ρ Hf H S1 Hf1 H1) {b : Addr} (h : NoT M H1 b) : NoT M H b := fun o e => by
  by_cases m : M.mine b
  · exact .inr m
  · by_cases t : M.T ≠ [] ∧ ∃ ps, o = .tbl ps
    · exact .inl t
    · exact h o (a.fr b o e m fun h ps z => t ⟨h, ps, z⟩)
theorem Stp.trans {M : Me} {σ : L2.St} {ρ : DEnv} {Hf H Hf1 H1 Hf2 H2 : Hp} {S1 S2 : Fld} (a : Stp M σ ρ Hf H S1 Hf1 H1) (b : Stp M σ ρ Hf1 H1 S2 Hf2 H2) : Stp M σ ρ Hf H S2 Hf2 H2 :=
  ⟨b.rel, a.same.trans b.same, fun c o e m t => b.fr c o (a.fr c o e m t) m t, fun c e => (b.fsh c e).elim (a.fsh c) fun z => .inr (a.nn z)⟩
theorem Stp.new {M : Me} {σ : L2.St} {ρ : DEnv} {Hf H Hf1 H1 : Hp} {S1 : Fld} (a : Stp M σ ρ Hf H S1 Hf1 H1) {p : Addr} {o : HO} (hp : H1 p = none) (no : ∀ ps, o ≠ .tbl ps) : Stp M σ ρ Hf H S1 (upd Hf1 p o) (upd H1 p o) :=
  ⟨a.rel.new hp no, a.same.trans (upd_new (none_of_same a.rel.sub hp)), fun c u e m t => upd_new hp _ _ (a.fr c u e m t), fun c e => by
    by_cases hc : c = p
    · subst hc
      exact .inr (a.nn (.new hp))
    · rw [upd_ne hc] at e
      exact a.fsh c e⟩
/-! ### readings -/
/-- an expression that gives a datum -/
def rdE (M : Me) (f : FE) : TE := fun σ H Q => ∃ ρ S Hf, Rel M σ H ρ S Hf ∧ match f ρ S with
  | .ok d S' => ∀ v H' Hf', Stp M σ ρ Hf H S' Hf' H' → DV M.K Hf' v d → Q v H'
  | .er n v => M.Er n v
  | .bad => False
/-- an own list, by its slot -/
def OV (K : PySem.W.Frag) (Hf : Hp) (σ : L2.St) (ρ : DEnv) (v : V) (d : Dat) : Prop := DV K Hf v d ∨ ∃ (i : Nat) (ds : List Dat), d = .lst ds ∧ ρ[i]? = some (some (.own ds)) ∧ σ[i]? = some (some v)
theorem OV.gv {M : Me} {σ : L2.St} {H : Hp} {ρ : DEnv} {S : Fld} {Hf : Hp} {v : V} {d : Dat} (R : Rel M σ H ρ S Hf) (h : OV M.K Hf σ ρ v d) : GV M.K Hf H v d := by
  rcases h with h | ⟨i, ds, rfl, e, e2⟩
  · exact .inl h
  · obtain ⟨w, e3, p, vs, rfl, a, _, b, c⟩ := R.slot i _ e
    rw [e2] at e3
    cases e3
    exact .inr ⟨p, vs, ds, rfl, rfl, a, b, c⟩
theorem OV.same {K : PySem.W.Frag} {Hf Hf' : Hp} {σ : L2.St} {ρ : DEnv} {v : V} {d : Dat} (h : OV K Hf σ ρ v d) (s : Same Hf Hf') : OV K Hf' σ ρ v d := h.imp (DV.same s) id
/-- .. that gives a datum or an own list -/
def rdO (M : Me) (f : FE) : TE := fun σ H Q => ∃ ρ S Hf, Rel M σ H ρ S Hf ∧ match f ρ S with
  | .ok d S' => ∀ v H' Hf', Stp M σ ρ Hf H S' Hf' H' → OV M.K Hf' σ ρ v d → Q v H'
  | .er n v => M.Er n v
  | .bad => False
def rdA (M : Me) (f : FA) : TA := fun σ H Q => ∃ ρ S Hf, Rel M σ H ρ S Hf ∧ match f ρ S with
  | .ok d S' => ∀ v H' Hf', Stp M σ ρ Hf H S' Hf' H' → DVs M.K Hf' v d → Q v H'
  | .er n v => M.Er n v
  | .bad => False
def rdT (M : Me) (f : FE) : TT := fun σ H Q => ∃ ρ S Hf, Rel M σ H ρ S Hf ∧ match f ρ S with
  | .ok (.bl b) S' => ∀ H' Hf', Stp M σ ρ Hf H S' Hf' H' → Q b H'
  | .ok _ _ => False
  | .er n v => M.Er n v
  | .bad => False
/-- what follows a statement -/
def Post (M : Me) (Hf : Hp) (D : Ends) : RS → Prop
  | .nx ρ S => ∀ σ H' Hf', Rel M σ H' ρ S Hf' → Same Hf Hf' → D.nx σ H'
  | .bk ρ S => ∀ σ H' Hf', Rel M σ H' ρ S Hf' → Same Hf Hf' → D.bk σ H'
  | .ct ρ S => ∀ σ H' Hf', Rel M σ H' ρ S Hf' → Same Hf Hf' → D.ct σ H'
  | .rt d S => ∀ v σ H' ρ Hf', Rel M σ H' ρ S Hf' → DV M.K Hf' v d → D.rt v H'
  | .er n v => M.Er n v
  | .bad => False
theorem Post.mono {M : Me} {Hf Hf1 : Hp} {D : Ends} {r : RS} (h : Post M Hf D r) (s : Same Hf Hf1) : Post M Hf1 D r := by
  cases r with
  | nx ρ S => exact fun σ H' Hf' R s' => h σ H' Hf' R (s.trans s')
  | bk ρ S => exact fun σ H' Hf' R s' => h σ H' Hf' R (s.trans s')
  | ct ρ S => exact fun σ H' Hf' R s' => h σ H' Hf' R (s.trans s')
  | rt d S => exact h
  | er n v => exact h
  | bad => exact h
def rdS (M : Me) (f : FS) : TS := fun D σ H => ∃ ρ S Hf, Rel M σ H ρ S Hf ∧ Post M Hf D (f ρ S)
section
variable {X : Cx} {M : Me}
theorem pe_weak {e : Expr} {t t' : TE} (h : PE X e t) (i : ∀ σ H Q, t' σ H Q → t σ H Q) : PE X e t' := ⟨fun pins s σ H Q I q => h.run pins s σ H Q I (i _ _ _ q)⟩
theorem pt_weak {e : Expr} {t t' : TT} (h : PT X e t) (i : ∀ σ H Q, t' σ H Q → t σ H Q) : PT X e t' := ⟨fun pins s σ H Q I q => h.run pins s σ H Q I (i _ _ _ q)⟩
theorem pa_weak {e : List Expr} {t t' : TA} (h : PA X e t) (i : ∀ σ H Q, t' σ H Q → t σ H Q) : PA X e t' := ⟨fun pos pins s σ H Q I q => h.run pos pins s σ H Q I (i _ _ _ q)⟩
theorem ps_weak {e : Stmt} {t t' : TS} (h : PS X e t) (i : ∀ D σ H, t' D σ H → t D σ H) : PS X e t' := ⟨fun pins s σ H D I q => h.run pins s σ H D I (i _ _ _ q)⟩
theorem pss_weak {e : List Stmt} {t t' : TS} (h : PSs X e t) (i : ∀ D σ H, t' D σ H → t D σ H) : PSs X e t' := ⟨fun pins s σ H D I q => h.run pins s σ H D I (i _ _ _ q)⟩
/-! ### functions of outcomes -/
def fVar (i : Nat) : FE := fun ρ S => match ρ[i]? with
  | some (some (.v d)) => .ok d S
  | _ => .bad
def fOwn (i : Nat) : FE := fun ρ S => match ρ[i]? with
  | some (some (.own ds)) => .ok (.lst ds) S
  | _ => .bad
def fC (d : Dat) : FE := fun _ S => .ok d S
def RE.bind (r : RE) (k : Dat → Fld → RE) : RE := match r with
  | .ok d S => k d S
  | .er n v => .er n v
  | .bad => .bad
def RE.bindA (r : RE) (k : Dat → Fld → RA) : RA := match r with
  | .ok d S => k d S
  | .er n v => .er n v
  | .bad => .bad
def RA.bind (r : RA) (k : List Dat → Fld → RE) : RE := match r with
  | .ok d S => k d S
  | .er n v => .er n v
  | .bad => .bad
def RA.bindA (r : RA) (k : List Dat → Fld → RA) : RA := match r with
  | .ok d S => k d S
  | .er n v => .er n v
  | .bad => .bad
def RE.bindS (r : RE) (k : Dat → Fld → RS) : RS := match r with
  | .ok d S => k d S
  | .er n v => .er n v
  | .bad => .bad
def ofO (o : Option Dat) (S : Fld) : RE := match o with
  | some d => .ok d S
  | none => .bad
def fOp (o : Dat → Dat → Option Dat) (a b : FE) : FE := fun ρ S => (a ρ S).bind fun x S1 => (b ρ S1).bind fun y S2 => ofO (o x y) S2
def fUn (o : Dat → Option Dat) (a : FE) : FE := fun ρ S => (a ρ S).bind fun x S1 => ofO (o x) S1
def fIf (c a b : FE) : FE := fun ρ S => (c ρ S).bind fun x S1 => match x with
  | .bl true => a ρ S1
  | .bl false => b ρ S1
  | _ => .bad
def fAnd (a b : FE) : FE := fun ρ S => (a ρ S).bind fun x S1 => match x with
  | .bl true => b ρ S1
  | .bl false => .ok (.bl false) S1
  | _ => .bad
def fOr (a b : FE) : FE := fun ρ S => (a ρ S).bind fun x S1 => match x with
  | .bl true => .ok (.bl true) S1
  | .bl false => b ρ S1
  | _ => .bad
def fNot (a : FE) : FE := fun ρ S => (a ρ S).bind fun x S1 => match x with
  | .bl b => .ok (.bl !b) S1
  | _ => .bad
def fChain (o o' : Dat → Dat → Option Dat) (a b c : FE) : FE := fun ρ S => (a ρ S).bind fun x S1 => (b ρ S1).bind fun y S2 => match o x y with
  | some (.bl true) => (c ρ S2).bind fun z S3 => ofO (o' y z) S3
  | some (.bl false) => .ok (.bl false) S2
  | _ => .bad
def fNil : FA := fun _ S => .ok [] S
def fCons (a : FE) (r : FA) : FA := fun ρ S => (a ρ S).bindA fun x S1 => (r ρ S1).bindA fun xs S2 => .ok (x :: xs) S2
def fApp (o : List Dat → Option Dat) (a : FA) : FE := fun ρ S => (a ρ S).bind fun xs S1 => ofO (o xs) S1
/-! ### rules -/
theorem ev_o {e : Expr} {f : FE} (h : PE X e (rdE M f)) : PE X e (rdO M f) := pe_weak h fun σ H Q ⟨ρ, S, Hf, R, q⟩ => ⟨ρ, S, Hf, R, by
  cases r : f ρ S with
  | ok d S' => rw [r] at q; exact fun v H' Hf' T hv => q v H' Hf' T (.inl hv)
  | er n v => rw [r] at q; exact q
  | bad => rw [r] at q; exact q⟩
theorem ev_var {e : Expr} {i : Nat} (h : PE X e (tVar i)) : PE X e (rdE M (fVar i)) := pe_weak h fun σ H Q ⟨ρ, S, Hf, R, q⟩ => by
  unfold fVar at q
  split at q
  · rename_i d S' e
    split at e
    · rename_i d' e2
      cases e
      obtain ⟨v, h1, h2⟩ := R.slot i _ e2
      exact ⟨v, h1, q v H Hf (.refl R) h2⟩
    · cases e
  · rename_i n v e
    split at e <;> cases e
  · exact q.elim
theorem ev_own {e : Expr} {i : Nat} (h : PE X e (tVar i)) : PE X e (rdO M (fOwn i)) := pe_weak h fun σ H Q ⟨ρ, S, Hf, R, q⟩ => by
  unfold fOwn at q
  split at q
  · rename_i d S' e
    split at e
    · rename_i d' e2
      cases e
      obtain ⟨v, h1, h2⟩ := R.slot i _ e2
      exact ⟨v, h1, q v H Hf (.refl R) (.inr ⟨i, _, rfl, e2, h1⟩)⟩
    · cases e
  · rename_i n v e
    split at e <;> cases e
  · exact q.elim
theorem ev_c {e : Expr} {v : V} {d : Dat} (h : PE X e (tC v)) (hd : ∀ H, DV M.K H v d) : PE X e (rdE M (fC d)) := pe_weak h fun σ H Q ⟨ρ, S, Hf, R, q⟩ => q v H Hf (.refl R) (hd _)
/-- an operation by values: what it needs of them, what it gives -/
def Sim2 (K : PySem.W.Frag) (r : R2) (o : Dat → Dat → Option Dat) : Prop := ∀ (x y : V) (H Hf : Hp) (dx dy z : Dat) (Q : VK), Same Hf H → GV K Hf H x dx → GV K Hf H y dy → o dx dy = some z → (∀ v, DV K Hf v z → Q v H) → (∀ p ob v, H p = none → (∀ ps, ob ≠ .tbl ps) → DV K (upd Hf p ob) v z → Q v (upd H p ob)) → r x y H Q
def Sim1 (K : PySem.W.Frag) (r : V → Hp → VK → Prop) (o : Dat → Option Dat) : Prop := ∀ (x : V) (H Hf : Hp) (dx z : Dat) (Q : VK), Same Hf H → GV K Hf H x dx → o dx = some z → (∀ v, DV K Hf v z → Q v H) → (∀ p ob v, H p = none → (∀ ps, ob ≠ .tbl ps) → DV K (upd Hf p ob) v z → Q v (upd H p ob)) → r x H Q
theorem rd_op {K : PySem.W.Frag} {M : Me} (hK : M.K = K) {r : R2} {o : Dat → Dat → Option Dat} (hs : Sim2 K r o) {fa fb : FE} {σ : L2.St} {H : Hp} {Q : VK} (h : rdE M (fOp o fa fb) σ H Q) : tOp r (rdO M fa) (rdO M fb) σ H Q := by
  obtain ⟨ρ, S, Hf, R, q⟩ := h
  refine ⟨ρ, S, Hf, R, ?_⟩
  unfold fOp RE.bind at q
  cases ea : fa ρ S with
  | er n v => rw [ea] at q; exact q
  | bad => rw [ea] at q; exact q
  | ok dx S1 =>
    rw [ea] at q
    intro x H1 Hf1 T1 hx
    refine ⟨ρ, S1, Hf1, T1.rel, ?_⟩
    cases eb : fb ρ S1 with
    | er n v => simp only [eb] at q; exact q
    | bad => simp only [eb] at q
    | ok dy S2 =>
      simp only [eb] at q
      intro y H2 Hf2 T2 hy
      have R2 := T2.rel
      unfold ofO at q
      cases eo : o dx dy with
      | none => rw [eo] at q; exact q.elim
      | some z =>
        rw [eo] at q
        subst hK
        exact hs x y H2 Hf2 dx dy z Q R2.sub ((hx.same T2.same).gv R2) (hy.gv R2) eo (fun v hv => q v H2 Hf2 (T1.trans T2) hv) fun p ob v hp no hv => q v _ _ ((T1.trans T2).new hp no) hv
theorem rd_un {K : PySem.W.Frag} {M : Me} (hK : M.K = K) {r : V → Hp → VK → Prop} {o : Dat → Option Dat} (hs : Sim1 K r o) {fa : FE} {σ : L2.St} {H : Hp} {Q : VK} (h : rdE M (fUn o fa) σ H Q) : rdO M fa σ H fun x H1 => r x H1 Q := by
  obtain ⟨ρ, S, Hf, R, q⟩ := h
  refine ⟨ρ, S, Hf, R, ?_⟩
  unfold fUn RE.bind at q
  cases ea : fa ρ S with
  | er n v => rw [ea] at q; exact q
  | bad => rw [ea] at q; exact q
  | ok dx S1 =>
    rw [ea] at q
    intro x H1 Hf1 T1 hx
    have R1 := T1.rel
    unfold ofO at q
    cases eo : o dx with
    | none => simp only [eo] at q
    | some z =>
      simp only [eo] at q
      subst hK
      exact hs x H1 Hf1 dx z Q R1.sub (hx.gv R1) eo (fun v hv => q v H1 Hf1 T1 hv) fun p ob v hp no hv => q v _ _ (T1.new hp no) hv
theorem ev_op {a b : Expr} {op : Operator} {pos : Pos} {r : R2} {o : Dat → Dat → Option Dat} {fa fb : FE} (ho : OpR X (binaryOp op) r) (hK : M.K = X.K) (hs : Sim2 X.K r o) (ha : PE X a (rdO M fa)) (hb : PE X b (rdO M fb)) : PE X (.BinOp a op b pos) (rdE M (fOp o fa fb)) :=
  pe_weak (pe_op ho ha hb) fun σ H Q h => rd_op hK hs h
theorem ev_un {a : Expr} {op : UnaryOp} {pos : Pos} {r : V → Hp → VK → Prop} {o : Dat → Option Dat} {fa : FE} (ho : UnR X (unaryOp op) r) (hK : M.K = X.K) (hs : Sim1 X.K r o) (ha : PE X a (rdO M fa)) : PE X (.UnaryOp op a pos) (rdE M (fUn o fa)) :=
  pe_weak (pe_un ho ha) fun σ H Q h => rd_un hK hs h
theorem ev_cmp {a b : Expr} {op : CmpOp} {pos : Pos} {r : R2} {o : Dat → Dat → Option Dat} {fa fb : FE} (ho : OpR X (compareOp op) r) (hm : behindInMarks op b = false) (hK : M.K = X.K) (hs : Sim2 X.K r o) (ha : PE X a (rdO M fa)) (hb : PE X b (rdO M fb)) : PE X (.Compare a [op] [b] pos) (rdE M (fOp o fa fb)) :=
  pe_weak (pe_cmpR ho ha hb hm) fun σ H Q h => rd_op hK hs h
end
end PD

set_option Elab.async false
set_option linter.all false
set_option maxRecDepth 100000
set_option maxHeartbeats 2000000
/-! dicts whose keys are tuples of tuples -/
namespace RBN
open PySem PySem.Spec PyProof.Rows L2 PD RB
variable {X : Cx} {pins : List (Addr × Obj)} {σ : L2.St} {H : Hp} {s : Shared}
mutual
theorem nested_of (I : L2.Inv X pins σ H s) : ∀ {v : V} {d : Dat} {u : Value} {k : NestedKey}, DV X.K H v d → RelV v u → nk d = some k → NestedIs s.heap k u
  | _, _, u, k, .non, r, e => by
    cases e
    have r : u = Value.none := r
    subst r
    exact .none
  | _, _, u, k, .bl b, r, e => by
    cases e
    have r : u = Value.bool b := r
    subst r
    exact .bool rfl
  | _, _, u, k, .int i, r, e => by
    cases e
    obtain ⟨t, rfl⟩ : ∃ t, u = Value.int i t := r
    exact .int _ _
  | _, _, u, k, .str x, r, e => by
    cases e
    obtain ⟨t, rfl⟩ : ∃ t, u = Value.str x t := r
    exact .text _ _
  | _, _, u, k, .tup (ds := ds) ha la va, r, e => by
    have r : u = Value.ref _ := r
    subst r
    have e : (nks ds).map NestedKey.tup = some k := e
    cases en : nks ds with
    | none => rw [en] at e; cases e
    | some ks =>
      rw [en] at e
      cases e
      obtain ⟨its, rv, ⟨o, ho, hc, n, hd⟩, _⟩ := I.tuple ha
      exact .tup ho hc hd (nested_all I va rv en)
  | _, _, u, k, .lst _ _ _, r, e => by cases e
  | _, _, u, k, .dct _ _ _ _ _, r, e => by cases e
  | _, _, u, k, .ins _ _ _ _, r, e => by cases e
theorem nested_all (I : L2.Inv X pins σ H s) : ∀ {vs : List V} {ds : List Dat} {us : List Value} {ks : List NestedKey}, DVs X.K H vs ds → Vals vs us → nks ds = some ks → NestedAll s.heap ks us
  | _, _, us, ks, .nil, r, e => by
    cases e
    cases r
    exact .nil
  | _, _, us, ks, .cons (d := d) (ds := ds) a t, r, e => by
    have e : ((nk d).bind fun k => (nks ds).map (k :: ·)) = some ks := e
    cases e1 : nk d with
    | none => rw [e1] at e; cases e
    | some k =>
      rw [e1] at e
      have e : (nks ds).map (k :: ·) = some ks := e
      cases e2 : nks ds with
      | none => rw [e2] at e; cases e
      | some ks' =>
        rw [e2] at e
        cases e
        cases r with
        | cons r1 r2 => exact .cons (nested_of I a r1 e1) (nested_all I t r2 e2)
end
def PairE (x : Ent) (y : NestedKey × Addr × Value) : Prop := x.1 = y.1 ∧ x.2.1 = y.2.1 ∧ RelV x.2.2 y.2.2
def atE (xs : List Ent) (k : NestedKey) : Option (Addr × V) := (xs.find? fun x => decide (x.1 = k)).map (·.2)
def RelAt (o : Option (Addr × V)) (q : Option (Addr × Value)) : Prop := match o with
  | none => q = none
  | some p => ∃ u, q = some (p.1, u) ∧ RelV p.2 u
theorem atE_rel {k : NestedKey} : ∀ {xs : List Ent} {ys : List (NestedKey × Addr × Value)}, Paired PairE xs ys → RelAt (atE xs k) (atKey ys k)
  | _, _, .nil => rfl
  | x :: xs, y :: ys, .cons r t => by
    obtain ⟨r1, r2, r3⟩ := r
    have ih := atE_rel (k := k) t
    unfold atE atKey at ih ⊢
    rw [List.find?_cons, List.find?_cons]
    by_cases h : x.1 = k
    · rw [decide_eq_true h, decide_eq_true (r1 ▸ h)]
      exact ⟨y.2.2, by rw [r2]; rfl, r3⟩
    · rw [decide_eq_false h, decide_eq_false (r1 ▸ h)]
      exact ih
theorem keys_rel : ∀ {xs : List Ent} {ys : List (NestedKey × Addr × Value)}, Paired PairE xs ys → xs.map (·.1) = ys.map (·.1)
  | _, _, .nil => rfl
  | _, _, .cons r t => by
    rw [List.map_cons, List.map_cons, r.1, keys_rel t]
theorem rel_app : ∀ {xs : List Ent} {ys : List (NestedKey × Addr × Value)} {x : Ent} {y : NestedKey × Addr × Value}, Paired PairE xs ys → PairE x y → Paired PairE (xs ++ [x]) (ys ++ [y])
  | _, _, _, _, .nil, r => .cons r .nil
  | _, _, _, _, .cons a t, r => .cons a (rel_app t r)
theorem rel_mem : ∀ {xs : List Ent} {ys : List (NestedKey × Addr × Value)}, Paired PairE xs ys → ∀ y ∈ ys, ∃ x ∈ xs, PairE x y
  | _, _, .nil, y, h => nomatch h
  | x :: xs, z :: ys, .cons r t, y, h => by
    rcases List.mem_cons.mp h with e | e
    · subst e
      exact ⟨x, List.mem_cons_self, r⟩
    · obtain ⟨x', h1, h2⟩ := rel_mem t y e
      exact ⟨x', List.mem_cons_of_mem _ h1, h2⟩
/-- the dict at a, its entries in their order -/
def DictN (P : Program) (w : World) (a : Addr) (xs : List Ent) : HO := .ext fun h => (a == sysModules) = false ∧ ∃ ys o es ep, Paired PairE xs ys ∧ h.get? a = some o ∧ o.ExactDict ∧ o.data = .dict es ep ∧ es.toList = ys.map (entryOfKey (nestedKind P w)) ∧ (ys.map (·.1)).Nodup
/-- the entries' keys are tuples that stand in H -/
def KeysIn (K : PySem.W.Frag) (H : Hp) (xs : List Ent) : Prop := ∀ x ∈ xs, ∃ d, DV K H (.ref x.2.1) d ∧ nk d = some x.1 ∧ x.1.depth ≤ 8
theorem KeysIn.same {K : PySem.W.Frag} {H H' : Hp} {xs : List Ent} (h : KeysIn K H xs) (q : Same H H') : KeysIn K H' xs := fun x hx => by
  obtain ⟨d, a, b, c⟩ := h x hx
  exact ⟨d, DV.same q a, b, c⟩
theorem dictN_new {P : Program} {w : World} {H : Hp} {h : Heap} {a : Addr} {xs : List Ent} {ys : List (NestedKey × Addr × Value)} (hm : (a == sysModules) = false) (r : Paired PairE xs ys) (D : h.DictOfH (nestedKind P w) a ys) : ObjOk P w H h a (DictN P w a xs) := by
  obtain ⟨o, es, ep, h1, h2, h3, h4, _, h6⟩ := D
  exact ⟨⟨hm, ys, o, es, ep, r, h1, h2, h3, h4, h6⟩, ⟨o, h1⟩, fun g1 g2 ⟨hm, ys, o, es, ep, r, h1, h2⟩ k => ⟨hm, ys, o, es, ep, r, k _ h1, h2⟩⟩
theorem dictN_get {a : Addr} {xs : List Ent} (I : L2.Inv X pins σ H s) (ha : H a = some (DictN X.prog X.w a xs)) (hk : KeysIn X.K H xs) : (a == sysModules) = false ∧ ∃ ys, Paired PairE xs ys ∧ s.heap.DictOfH (nestedKind X.prog X.w) a ys := by
  obtain ⟨hm, ys, o, es, ep, r, h1, h2, h3, h4, h6⟩ := (I.hok a _ ha).1
  refine ⟨hm, ys, r, o, es, ep, h1, h2, h3, h4, fun y hy => ?_, h6⟩
  obtain ⟨x, hx, r1, r2, _⟩ := rel_mem r y hy
  obtain ⟨d, q1, q2, q3⟩ := hk x hx
  rw [← r1, ← r2]
  exact ⟨nested_of I q1 (u := .ref x.2.1) (show RelV (.ref x.2.1) _ from rfl) q2, q3⟩
/-- a key that is asked for: a tuple that stands in H -/
def KeyAt (K : PySem.W.Frag) (H : Hp) (b : Addr) (k : NestedKey) : Prop := ∃ d, DV K H (.ref b) d ∧ nk d = some k ∧ k.depth ≤ 8
theorem KeyAt.is {b : Addr} {k : NestedKey} (I : L2.Inv X pins σ H s) (h : KeyAt X.K H b k) : (nestedKind X.prog X.w).is s.heap k b := by
  obtain ⟨d, q1, q2, q3⟩ := h
  exact ⟨nested_of I q1 (u := .ref b) (show RelV (.ref b) _ from rfl) q2, q3⟩
theorem room9 {P : Program} {w : World} {A : Around} (hu : A.units + 9 < cLine) : (nestedKind P w).room A.in1 := by
  show A.in1.units + 8 < cLine
  have : A.in1.units = A.units + 1 := rfl
  omega
/-- k in d, k not in d -/
def rInN (X : Cx) (neg : Bool) : R2 := fun x y H Q => ∃ (b a : Addr) (k : NestedKey) (xs : List Ent), x = V.ref b ∧ y = V.ref a ∧ KeyAt X.K H b k ∧ H a = some (DictN X.prog X.w a xs) ∧ KeysIn X.K H xs ∧ X.A.units + 9 < cLine ∧ Q (.bl (if neg then !(atE xs k).isSome else (atE xs k).isSome)) H
theorem some_rel {k : NestedKey} {xs : List Ent} {ys : List (NestedKey × Addr × Value)} (r : Paired PairE xs ys) : (atKey ys k).isSome = (atE xs k).isSome := by
  have h := atE_rel (k := k) r
  cases e : atE xs k with
  | none =>
    rw [e] at h
    have h : atKey ys k = none := h
    rw [h] <;> rfl
  | some p =>
    rw [e] at h
    obtain ⟨u, h, _⟩ := h
    rw [h] <;> rfl
theorem or_inN : OpR X (compareOp .In) (rInN X false) := by
  intro pins s σ H x y v u Q I rx ry h
  obtain ⟨b, a, k, xs, rfl, rfl, hd, ha, hk, hu, q⟩ := h
  cases rx
  cases ry
  obtain ⟨hm, ys, r, D⟩ := dictN_get I ha hk
  refine wpAny_in_heap (knd := nestedKind X.prog X.w) (k := k) (room9 hu) (hd.is I) hm D ?_
  rw [some_rel r]
  exact ⟨.bl _, H, I.tok _, rfl, q⟩
theorem or_notinN : OpR X (compareOp .NotIn) (rInN X true) := by
  intro pins s σ H x y v u Q I rx ry h
  obtain ⟨b, a, k, xs, rfl, rfl, hd, ha, hk, hu, q⟩ := h
  cases rx
  cases ry
  obtain ⟨hm, ys, r, D⟩ := dictN_get I ha hk
  refine wpAny_notIn_heap (knd := nestedKind X.prog X.w) (k := k) (room9 hu) (hd.is I) hm D ?_
  rw [some_rel r]
  exact ⟨.bl _, H, I.tok _, rfl, q⟩
/-- d[k] = v, a key that is not there -/
def rPutN (X : Cx) : TSet := fun o i v H Q => ∃ (a b : Addr) (k : NestedKey) (xs : List Ent), o = V.ref a ∧ i = V.ref b ∧ KeyAt X.K H b k ∧ H a = some (DictN X.prog X.w a xs) ∧ KeysIn X.K H xs ∧ X.A.units + 9 < cLine ∧ atE xs k = none ∧ xs.length < sizeLine ∧ Q (upd H a (DictN X.prog X.w a (xs ++ [(k, b, v)])))
theorem put_N : PSet X (rPutN X) := by
  intro pins s σ H o i v ov iv u Q I ro ri rv h
  obtain ⟨a, b, k, xs, rfl, rfl, hd, ha, hk, hu, hn, hl, q⟩ := h
  cases ro
  cases ri
  obtain ⟨hm, ys, r, D⟩ := dictN_get I ha hk
  have ln := Paired.length r
  have hn2 : atKey ys k = none := by
    have h := atE_rel (k := k) r
    rw [hn] at h
    exact h
  refine wpAny_setItem_heap (knd := nestedKind X.prog X.w) (k := k) (hsz := by omega) (room9 hu) (hd.is I) D fun h' D' hs => ?_
  have es : storedH ys k b u = ys ++ [(k, b, u)] := by
    unfold storedH
    rw [hn2]
    rfl
  rw [es] at D'
  have he : ∃ q, h'.get? a = some q := let ⟨q, _, _, hq, _⟩ := D'; ⟨q, hq⟩
  exact ⟨_, d_write I (by rw [ha]; exact True.intro) hs he (dictN_new hm (rel_app r ⟨rfl, rfl, rv⟩) D'), q⟩
/-- d[k], a key that is there -/
def rGetN (X : Cx) : R2 := fun x y H Q => ∃ (a b : Addr) (k : NestedKey) (xs : List Ent) (p : Addr × V), x = V.ref a ∧ y = V.ref b ∧ KeyAt X.K H b k ∧ H a = some (DictN X.prog X.w a xs) ∧ KeysIn X.K H xs ∧ X.A.units + 9 < cLine ∧ atE xs k = some p ∧ Q p.2 H
theorem ix_N : IxR X (rGetN X) := by
  intro value slice pins s σ H x y v u Q I rx ry h hs
  obtain ⟨a, b, k, xs, p, rfl, rfl, hd, ha, hk, hu, e, q⟩ := h
  cases rx
  cases ry
  obtain ⟨hm, ys, r, D⟩ := dictN_get I ha hk
  have z := atE_rel (k := k) r
  rw [e] at z
  obtain ⟨w, z1, z2⟩ := z
  exact tail_any D.typeIs slot_dict_getitem.lookup (wpAny_getItem_heap (knd := nestedKind X.prog X.w) (k := k) (room9 hu) (hd.is I) D z1 ⟨p.2, H, I.tok _, z2, q⟩) hs
/-- {} -/
def tDNewN (X : Cx) : TE := fun _ H Q => ∀ p, H p = none → Q (.ref p) (upd H p (DictN X.prog X.w p []))
theorem dictN_empty {P : Program} {w : World} {H : Hp} (h : Heap) (hb : sysModules < h.objs.size) : ObjOk P w H (h.push { cls := .type "dict", data := .dict #[] }) h.objs.size (DictN P w h.objs.size []) := by
  refine dictN_new (by rw [beq_eq_false_iff_ne]; exact Nat.ne_of_gt hb) .nil ⟨_, _, _, Heap.get?_push_size _ rfl, ⟨rfl, rfl, rfl⟩, rfl, rfl, (fun _ h => nomatch h), List.Pairwise.nil⟩
theorem pe_dnewN {pos : Pos} : PE X (.Dict [] [] pos) (tDNewN X) := ⟨fun pins s σ H Q I h =>
  wpAny_Dict_empty ⟨.ref s.heap.objs.size, upd H s.heap.objs.size (DictN X.prog X.w s.heap.objs.size []), I.laid (a := s.heap.objs.size) (t' := s.toks) (fun _ _ q => Heap.get?_push_of_some _ q) (Nat.le_refl _) (dictN_empty s.heap I.big), rfl, h _ (I.hok.fresh (Nat.le_refl _))⟩⟩
end RBN

set_option Elab.async false
set_option linter.all false
set_option maxRecDepth 100000
set_option maxHeartbeats 2000000
/-! sets whose members are carried by value (texts): what stands in the table, set(list), sorted(set) -/
namespace RBS
open PySem PySem.Spec PyProof.Rows L2
section
variable {P : Program} {w : World} {K : Type} [DecidableEq K]
/-- key reads a member's key off its value -/
def Told (knd : KeyKind P w K) (key : Value → K) : Prop := ∀ k v, knd.is k v = true → key v = k
/-- what is laid in a set's table: its entries' keys are ks, each once; the table rises -/
structure Laid (knd : KeyKind P w K) (key : Value → K) (ks : List K) (es : Array (Int × Value)) (t : SetTable) : Prop where
  el : ElemsOf knd es.toList
  pm : (es.toList.map fun e => key e.2).Perm ks
  nd : ks.Nodup
  fw : es.size < scanBound
  ft : t.fits es.size = true
  up : Ris t.place.toList
  og : w.params.followText "set-order" = true ∨ t.led = true
def SK (knd : KeyKind P w K) (key : Value → K) (h : Heap) (a : Addr) (ks : List K) : Prop := ∃ o es ep t, h.get? a = some o ∧ o.ExactSet ∧ o.data = .set es ep t ∧ Laid knd key ks es t
variable {knd : KeyKind P w K} {key : Value → K} {ks : List K} {es : Array (Int × Value)} {t : SetTable} {h h' : Heap} {a : Addr}
theorem SK.keep (R : SK knd key h a ks) (k : ∀ o, h.get? a = some o → h'.get? a = some o) : SK knd key h' a ks := R.elim fun o R => ⟨o, R.elim fun es R => ⟨es, R.elim fun ep R => ⟨ep, R.elim fun t R => ⟨t, k o R.1, R.2⟩⟩⟩⟩
theorem Laid.mem (T : Told knd key) (l : Laid knd key ks es t) {k : K} : k ∈ ks ↔ ∃ e ∈ es.toList, knd.is k e.2 = true := by
  rw [← l.pm.mem_iff, List.mem_map]
  refine ⟨fun ⟨e, he, q⟩ => ?_, fun ⟨e, he, q⟩ => ⟨e, he, T k e.2 q⟩⟩
  obtain ⟨⟨k', q', _⟩, _⟩ := l.el e he
  have := T k' e.2 q'
  rw [q] at this
  subst this
  exact ⟨e, he, q'⟩
variable {A : Around} {E : Value → Shared → Prop} {s : Shared} {o : Obj} {ep : Nat}
theorem put_ok {es1 : Array (Int × Value)} {t1 : SetTable} {ks1 : List K} {Q : Unit → Shared → Prop} (ho : s.heap.get? a = some o) (hd : o.data = .set es ep t) (l : Laid knd key ks1 es1 t1)
    (q : ∀ h2, Heap.SameBut a s.heap h2 → h2.get? a = some { o with data := .set es1 (ep + 1) t1 } → Q () { s with heap := h2 }) : wpAny (model P w) A (storeSet a es1 t1) Q E s :=
  wpAny_storeSet_of ho hd (q _ (.update ..) (store_at ho hd)) (fits_of_scanBound l.fw)
/-- the table may be laid anew -/
theorem Laid.again (l : Laid knd key ks es t) (m : Nat) : Laid knd key ks (relayAll t es m).1 (relayAll t es m).2.1 := by
  have p := relayAll_perm t es m
  have sz : (relayAll t es m).1.size = es.size := by
    have := p.length_eq
    simpa using this
  exact ⟨l.el.perm p, (p.map _).trans l.pm, l.nd, by rw [sz]; exact l.fw, relayAll_fits t es m, (relayAll_ris t es m), l.og.imp id fun z => by rw [relayAll_led]; exact z⟩
theorem Laid.more (T : Told knd key) (l : Laid knd key ks es t) {z : K} {v : Value} (hz : knd.is z v = true) (hv : v.scannable = true) (hn : z ∉ ks) (room : ks.length + 1 < scanBound) : Laid knd key (ks ++ [z]) (layNew t es (knd.hash z) v).1 (layNew t es (knd.hash z) v).2.1 := by
  have p := layNew_perm t es (knd.hash z) v
  rw [Array.toList_push] at p
  have pk : ((layNew t es (knd.hash z) v).1.toList.map fun e => key e.2).Perm (ks ++ [z]) := by
    refine (p.map _).trans ?_
    rw [List.map_append]
    have e1 : ([(knd.hash z, v)] : List (Int × Value)).map (fun e => key e.2) = [z] := by
      show [key v] = [z]
      rw [T z v hz]
    rw [e1]
    exact l.pm.append_right _
  have sz : (layNew t es (knd.hash z) v).1.size = ks.length + 1 := by
    have := pk.length_eq
    simpa using this
  refine ⟨(l.el.push hz hv).perm p, pk, ?_, by rw [sz]; exact room, layNew_fits t es _ v, layNew_ris t es _ v l.up, l.og.imp id fun y => by rw [layNew_led]; exact y⟩
  rw [List.nodup_append]
  exact ⟨l.nd, by simp, fun x hx y hy => by
    rw [List.mem_singleton.mp hy]
    exact fun q => hn (q ▸ hx)⟩
theorem Laid.off (l : Laid knd key ks es t) : Laid knd key ks es { t with plain := false } := ⟨l.el, l.pm, l.nd, l.fw, SetTable.fits_plain_off l.ft, l.up, l.og⟩
/-- behind the laying: the table is laid anew where it is too full -/
theorem lay_rest {G : Bool → Sem Unit} (hG : ∀ (b : Bool) (s1 : Shared) (Q' : Unit → Shared → Prop), Q' () s1 → wpAny (model P w) A (G b) Q' E s1) (ho : s.heap.get? a = some o) (hx : o.ExactSet) (hd : o.data = .set es ep t) {es1 : Array (Int × Value)} {t1 : SetTable} {ks1 : List K} (l : Laid knd key ks1 es1 t1) {wd : Bool} {Q : Option Bool → Shared → Prop}
    (q : ∀ h2, Heap.SameBut a s.heap h2 → SK knd key h2 a ks1 → Q (some true) { s with heap := h2 }) :
    wpAny (model P w) A (storeSet a es1 t1 >>= fun _ => if (!wd && t1.tooFull) = true then G (relayAll t1 es1 (SetTable.grown es1.size)).2.2 >>= fun _ => storeSet a (relayAll t1 es1 (SetTable.grown es1.size)).1 (relayAll t1 es1 (SetTable.grown es1.size)).2.1 >>= fun _ => pure (some true) else pure (some true)) Q E s := by
  refine wpAny_bind (put_ok ho hd l fun h2 sb e2 => ?_)
  by_cases c : (!wd && t1.tooFull) = true
  · rw [if_pos c]
    have l2 := l.again (SetTable.grown es1.size)
    refine wpAny_bind (hG _ _ _ (wpAny_bind (put_ok (s := { s with heap := h2 }) e2 rfl l2 fun h3 sb3 e3 => wpAny_pure (q h3 (sb.trans sb3) ⟨_, _, _, _, e3, hx, rfl, l2⟩))))
  · rw [if_neg c]
    exact wpAny_pure (q h2 sb ⟨_, _, _, _, e2, hx, rfl, l⟩)
theorem sk_add (T : Told knd key) (R : SK knd key s.heap a ks) {z : K} {v : Value} (hz : knd.is z v = true) (hv : v.scannable = true) (room : ks.length + 1 < scanBound) {Q : Bool → Shared → Prop}
    (q : ∀ h2 b, Heap.SameBut a s.heap h2 → SK knd key h2 a (if z ∈ ks then ks else ks ++ [z]) → Q b { s with heap := h2 }) : wpAny (model P w) A (setAddHashed a v (knd.hash z)) Q E s := by
  obtain ⟨o, es, ep, t, ho, hx, hd, l⟩ := R
  unfold setAddHashed setAddHashedIn
  refine wpAny_holding (wpAny_bind (wpAny_setState_of ho hd l.ft ?_))
  dsimp only
  rw [byScan_of hv l.fw l.el, if_pos rfl]
  unfold setAddByScan
  refine wpAny_bind (wpAny_bind (wpAny_rule (wpAny_bind (wpAny_setScan_of hz ho hd l.ft l.el ?_))))
  cases c : List.findIdx? (fun e => knd.is z e.2) es.toList with
  | some j =>
    obtain ⟨hj, pj, _⟩ := List.findIdx?_eq_some_iff_getElem.mp c
    have hm : z ∈ ks := (l.mem T).mpr ⟨_, List.getElem_mem hj, pj⟩
    exact wpAny_pure (wpAny_pure (q s.heap false (.refl ..) (by rw [if_pos hm]; exact ⟨o, es, ep, t, ho, hx, hd, l⟩)))
  | none =>
    have hn : z ∉ ks := fun y => by
      obtain ⟨e, he, e2⟩ := (l.mem T).mp y
      have := List.findIdx?_eq_none_iff.mp c e he
      rw [e2] at this
      cases this
    have l1 := l.more T hz hv hn room
    rw [if_neg hn] at q
    dsimp only
    generalize layNew t es (knd.hash z) v = Z at l1 ⊢
    obtain ⟨es1, t1, wd, gv⟩ := Z
    dsimp only at l1 ⊢
    have fin : ∀ t2, Laid knd key (ks ++ [z]) es1 t2 → ∀ h2, Heap.SameBut a s.heap h2 → SK knd key h2 a (ks ++ [z]) → wpAny (model P w) A (pure true) Q E { s with heap := h2 } := fun _ _ h2 sb r => wpAny_pure (q h2 true sb r)
    have go : ∀ t2, Laid knd key (ks ++ [z]) es1 t2 → _ := fun t2 l2 => lay_rest (w := w) (E := E) (A := A) (wd := wd) (G := fun b => match b with
      | true => rule "set.scan.the-table-gave-way"
      | false => pure ()) (fun b s1 Q' y => by cases b; exact wpAny_pure y; exact wpAny_rule y) ho hx hd l2 (Q := fun r s' => wpAny (model P w) A (match r with
      | some added => pure added
      | none => setAddHashedIn a v (knd.hash z) 99999) Q E s') (fun h2 sb r => fin t2 l2 h2 sb r)
    cases gv
    all_goals
      first
        | refine wpAny_bind (wpAny_pure ?_)
        | refine wpAny_bind (wpAny_rule ?_)
      by_cases hp : t1.plain = true
      · rw [if_pos hp, hashByValue_scannable 8 hv]
        refine wpAny_bind (wpAny_pure ?_)
        cases plainKind v
        · exact go _ l1.off
        · exact go _ l1
      · rw [if_neg hp]
        refine wpAny_bind (wpAny_pure ?_)
        exact go _ l1
/-- the keys, each where it first stands -/
def dd (zs : List K) : List K := zs.foldl (fun acc z => if z ∈ acc then acc else acc ++ [z]) []
theorem dd_snoc (zs : List K) (z : K) : dd (zs ++ [z]) = if z ∈ dd zs then dd zs else dd zs ++ [z] := by
  unfold dd
  rw [List.foldl_append]
  rfl
theorem dd_len : ∀ zs : List K, (dd zs).length ≤ zs.length := by
  have key : ∀ (zs acc : List K), (zs.foldl (fun acc z => if z ∈ acc then acc else acc ++ [z]) acc).length ≤ acc.length + zs.length := by
    intro zs
    induction zs with
    | nil => intro acc; simp
    | cons z zs ih =>
      intro acc
      rw [List.foldl_cons, List.length_cons]
      by_cases h : z ∈ acc
      · rw [if_pos h]
        have := ih acc
        omega
      · rw [if_neg h]
        have := ih (acc ++ [z])
        rw [List.length_append, List.length_singleton] at this
        omega
  intro zs
  have h := key zs []
  rw [List.length_nil, Nat.zero_add] at h
  exact h
theorem fill {I l S : Addr} {items : Array Value} {zs : List K} (T : Told knd key) (hh : A.in1.handled = none) (hSI : S ≠ I) (hSl : S ≠ l) (hIl : l ≠ I) (hit : ∀ (i : Nat) (v : Value), items[i]? = some v → ∃ z, zs[i]? = some z ∧ knd.is z v = true ∧ v.scannable = true) (room : zs.length + 1 < scanBound) {R : Result → Shared → Prop} :
    ∀ (m i : Nat) (s : Shared), items.size = i + m → zs.length = items.size → s.heap.IsListIter I l i → s.heap.IsList l items → SK knd key s.heap S (dd (zs.take i)) →
      (∀ h2 tk, (∀ b o, b ≠ S → b ≠ I → s.heap.get? b = some o → h2.get? b = some o) → SK knd key h2 S (dd zs) → R (.ok (.ret .none)) { s with heap := h2, toks := tk }) →
      codeAny (model P w) A (.builtin "set.update.loop" ⟨[.ref S, .ref I], []⟩) R s
  | 0, i, s, hm, hz, it, ls, R0, q => by
      apply codeAny_builtin PyProof.Rows.F.entry_set_update_loop
      rw [Around.under_plainId (by exact PyProof.Rows.F.plain_set_update_loop)]
      refine wpAny_bind (m := pyNext (.ref I)) ((Walks.list hh I l hIl items).done s _ _ ⟨(by rwa [show items.size = i by omega]), ls⟩ fun h2 tk k => ?_)
      rw [List.take_of_length_le (by omega)] at R0
      exact wpAny_pure (q h2 tk (fun b o _ hb e => k b o (by simpa using hb) e) (R0.keep fun o e => k S o (by simpa using hSI) e))
  | m + 1, i, s, hm, hz, it, ls, R0, q => by
      apply codeAny_builtin PyProof.Rows.F.entry_set_update_loop
      rw [Around.under_plainId (by exact PyProof.Rows.F.plain_set_update_loop)]
      refine wpAny_bind (m := pyNext (.ref I)) ((Walks.list hh I l hIl items).item i s _ _ (by omega) ⟨it, ls⟩ fun v h2 tk hv st k => ?_)
      obtain ⟨z, hz2, kz, kv⟩ := hit i v hv
      have R1 : SK knd key h2 S (dd (zs.take i)) := R0.keep fun o e => k S o (by simpa using hSI) e
      have il : i < zs.length := (List.getElem?_eq_some_iff.mp hz2).1
      have dl := dd_len (zs.take i)
      rw [List.length_take] at dl
      have e1 : dd (zs.take (i + 1)) = if z ∈ dd (zs.take i) then dd (zs.take i) else dd (zs.take i) ++ [z] := by
        rw [List.take_add_one, hz2]
        exact dd_snoc _ _
      refine wpAny_bind (wpAny_holding (show wpAny _ _ (setAdd S v) _ _ _ from ?_))
      unfold setAdd
      refine wpAny_holding (wpAny_bind (knd.pyHash kz (sk_add (s := { s with heap := h2, toks := tk + 1 }) T R1 kz kv (by omega) fun h3 b sb R2 => ?_)))
      have kp : ∀ (b : Addr) (o : Obj), b ≠ S → h2.get? b = some o → h3.get? b = some o := fun b o hb e => by rw [sb.2 b hb]; exact e
      rw [← e1] at R2
      exact wpAny_pure ⟨plainId_quiet PyProof.Rows.F.plain_set_update_loop _, fill T hh hSI hSl hIl hit room m (i + 1) { s with heap := h3, toks := tk + 1 } (by omega) hz (st.1.at fun o e => kp I o (Ne.symm hSI) e) (st.2.at fun o e => kp l o (Ne.symm hSl) e) R2
        fun h4 tk4 k4 R4 => q h4 tk4 (fun b o b1 b2 e => k4 b o b1 b2 (kp b o b1 (k b o (by simpa using b2) e))) R4⟩
/-- the object that set.__new__ makes -/
abbrev freshSet (w : World) : Obj := { cls := .type "set", dict := none, data := .set #[] 0 (.fresh 0 0 (!w.params.followText "set-order")) }
theorem sk_fresh (knd : KeyKind P w K) (key : Value → K) {h : Heap} {a : Addr} (ho : h.get? a = some (freshSet w)) : SK knd key h a [] :=
  ⟨_, #[], 0, _, ho, ⟨rfl, rfl, rfl⟩, rfl, ⟨fun e he => by simp at he, .nil, .nil, by decide, rfl, .nil, by
    show _ ∨ (!w.params.followText "set-order") = true
    cases w.params.followText "set-order" <;> simp⟩⟩
/-- set(list) -/
theorem set_of_list {l : Addr} {items : Array Value} {zs : List K} (T : Told knd key) (hh : A.handled = none) (hl : s.heap.IsList l items) (hit : ∀ (i : Nat) (v : Value), items[i]? = some v → ∃ z, zs[i]? = some z ∧ knd.is z v = true ∧ v.scannable = true) (hz : zs.length = items.size) (room : zs.length + 1 < scanBound) {Q : Value → Shared → Prop}
    (q : ∀ h2 tk, SK knd key h2 s.heap.objs.size (dd zs) → (∀ b o, s.heap.get? b = some o → h2.get? b = some o) → Q (.ref s.heap.objs.size) { s with heap := h2, toks := tk }) : wpAny (model P w) A (call (.type "set") [.ref l]) Q E s := by
  obtain ⟨c0, tl0, hmro0⟩ := PySem.F.called_set.mro
  have hmade0 := PySem.F.called_set.made; have hsub0 := PySem.F.called_set.sub
  apply wpAny_call; apply codeAny_of_tree
  show wpAny _ _ (callAny (.type "set") _) _ _ _; refine wpAny_pure ⟨Code.quiet_builtin _ (by decide +kernel), ?_⟩
  apply codeAny_builtin PySem.F.entry_type_call; rw [Around.under_plain (weight_type_call_type "set" [.ref l] []) rfl]
  have a1 := PySem.F.called_set.notType; have a2 := PySem.F.called_set.canCreate; have a3 := PySem.F.typeCall_set_1 (.ref l)
  repeat any_goals first | assumption | wp_step
  refine codeAny_mono (code_set_led1 (E := E) (Value.ref l) (Q₁ := fun v s1 => v = .ref s.heap.objs.size ∧ s1 = { s with heap := s.heap.push (freshSet w) }) ⟨rfl, rfl⟩) ?_
  rintro (er | fl) s1 y
  · exact y
  cases fl <;> first | exact y.elim | skip
  obtain ⟨y1, y2⟩ := y
  subst y1 y2
  have got : (s.heap.push (freshSet w)).get? s.heap.objs.size = some (freshSet w) := Heap.get?_push_size _ rfl
  have a4 : Shared.TypeIs { s with heap := s.heap.push (freshSet w) } (.ref s.heap.objs.size) "set" := ⟨_, got, rfl⟩
  have a5 := PySem.F.called_set.init.lookup
  have a6 := PySem.F.called_set.init.bind (Value.ref s.heap.objs.size)
  repeat any_goals first | assumption | wp_step
  refine codeAny_mono (codeAny_call_builtin (R := wants (fun r s2 => r = .none ∧ ∃ h2 tk, SK knd key h2 s.heap.objs.size (dd zs) ∧ (∀ b o, s.heap.get? b = some o → h2.get? b = some o) ∧ s2 = { s with heap := h2, toks := tk }) E) PySem.F.called_set.init.plain PySem.F.entry_set_init (check_set_init_1 a4 ?_)) ?_
  · obtain ⟨b, b1, b2, m, b3⟩ := hl
    have b4 : (s.heap.push (freshSet w)).get? l = some b := Heap.get?_push_of_some _ b1
    obtain ⟨bc, bd, bt, bs⟩ := b
    dsimp only at b2 b3
    subst b2 b3
    have c1 := PySem.F.sub_list_set
    have c2 := PySem.F.sub_list_frozenset
    have c3 : (Value.type "list" == Value.type "dict") = false := by decide
    have c4 : (s.heap.push (freshSet w)).IsList l items := ⟨_, b4, rfl, m, rfl⟩
    unfold Builtin.«set.__init__» noKeywords
    unfold Builtin.Frozenset.updateFrom
    generalize e7 : pyIter = pI
    wp_walk
    subst e7
    apply wpAny_pyIter_list c4
    apply wpAny_bind
    apply wpAny_runValue
    have c5 : l < s.heap.objs.size := Heap.lt_size b1
    have c6 : (s.heap.push (freshSet w)).objs.size = s.heap.objs.size + 1 := Heap.size_push ..
    have c7 : A.in1.in1.in1.handled = none := by simp [hh]
    refine fill T c7 (I := (s.heap.push (freshSet w)).objs.size) (l := l) (Nat.ne_of_lt (by rw [c6]; exact Nat.lt_succ_self _)) (Nat.ne_of_gt c5) (Nat.ne_of_lt (by rw [c6]; exact Nat.lt_succ_of_lt c5)) hit room items.size 0 _ (by omega) hz ⟨_, Heap.get?_push_size _ rfl, rfl, rfl⟩ (c4.push _) (sk_fresh knd key (Heap.get?_push_of_some _ got)) fun h2 tk k R => ?_
    show wpAny _ _ _ _ _ _
    refine wpAny_pure ?_
    show wpAny _ _ (ret Value.none) _ _ _
    refine wpAny_pure ⟨rfl, h2, tk, by simpa using R, fun b o e => ?_, rfl⟩
    have c8 : b < s.heap.objs.size := Heap.lt_size e
    exact k b o (Nat.ne_of_lt c8) (Nat.ne_of_lt (by rw [c6]; exact Nat.lt_succ_of_lt c8)) (Heap.get?_push_of_some _ (Heap.get?_push_of_some _ e))
  · rintro (er | fl) s1 y
    · exact y
    cases fl <;> first | exact y.elim | skip
    obtain ⟨y1, h2, tk, y2, y3, y4⟩ := y
    subst y1 y4
    repeat any_goals first | assumption | wp_step
    exact q h2 tk y2 y3
end
end RBS

set_option Elab.async false
set_option linter.all false
set_option maxRecDepth 100000
set_option maxHeartbeats 2000000
/-! sets of texts: set(list of texts), sorted of it -/
namespace RBS
open PySem PySem.Spec PyProof.Rows L2
section
variable {P : Program} {w : World}
theorem told_str : Told (PySem.strKind P w) strOf := fun k v h => by
  cases v <;> first | exact Bool.noConfusion h | exact of_decide_eq_true h
theorem str_el {ks : List Str} {es : Array (Int × Value)} {t : SetTable} (l : Laid (PySem.strKind P w) strOf ks es t) : ∀ e ∈ es.toList, ∃ x tk, e.2 = Value.str x tk := by
  intro e he
  obtain ⟨⟨k, h, _⟩, _⟩ := l.el e he
  generalize e.2 = v at h
  cases v <;> first | exact Bool.noConfusion h | exact ⟨_, _, rfl⟩
variable {A : Around} {E : Value → Shared → Prop} {s : Shared} {a : Addr} {ks : List Str}
theorem sorted_sk {Q : Value → Shared → Prop} (R : SK (PySem.strKind P w) strOf s.heap a ks) (hh : A.handled = none) (h64 : ks.length < 64)
    (q : ∀ s' p (out : Array Value) (c : Nat) (ss : List Str), (∀ b o, s.heap.get? b = some o → s'.heap.get? b = some o) → s'.gens = s.gens → s'.os = s.os → s.heap.objs.size ≤ p → s'.heap.get? p = some (seqObj "list" out c) → StrsAre out.toList ss → ss.Perm ks → sortedS ss = true → Q (.ref p) s') : wpAny (model P w) A (call (.builtin "sorted") [.ref a]) Q E s := by
  obtain ⟨o, es, ep, t, ho, hx, hd, l⟩ := R
  refine Calls.call_function_entry kind_sorted plain_sorted entry_sorted (args_sorted1 _) ?_
  unfold Builtin.«sorted»
  apply wpAny_bind (m := checkCount "sorted" 1 1 _)
  apply wpAny_pure
  refine wpAny_bind (collect_set (A := A.in1) hh ⟨o, ho, hx.1, hd⟩ l.ft l.fw l.up l.og fun s1 vs y1 y2 y3 y4 y5 => ?_)
  have sz : vs.length = ks.length := by
    have e1 := y5.length_eq
    have e2 := l.pm.length_eq
    rw [List.length_map] at e1 e2
    exact e1.trans e2
  have sv : StrsAre vs (vs.map strOf) := strsAre_map vs fun v hv => by
    obtain ⟨e, he, rfl⟩ := List.mem_map.mp (y5.mem_iff.mp hv)
    exact str_el l e he
  have pv : (vs.map strOf).Perm ks := by
    have e1 := y5.map strOf
    rw [List.map_map] at e1
    exact e1.trans l.pm
  apply wpAny_bind
  refine wpAny_newList ?_ (by rw [sz, sizeLine_eq]; omega)
  have got : (s1.heap.push (seqObj "list" vs.toArray 0)).get? s1.heap.objs.size = some (seqObj "list" vs.toArray 0) := Heap.get?_push_size _ rfl
  apply wpAny_bind
  apply wpAny_holding
  refine wpAny_call_entry slot_list_sort ⟨_, got, rfl⟩ entry_list_sort ?_ (args_list_sort _)
  refine list_sort_treeK strKind_oneLt got sv.keysOf (fun v₁ v₂ rest e => keyKind_strs (by rw [← e]; exact sv)) (by omega) fun st' z1 z2 => ⟨_, rfl, ?_⟩
  obtain ⟨ss, f1, f2, f3⟩ := sorted_out_str sv z1 z2
  obtain ⟨c, hc⟩ := sortedHeap_at (vs := vs) (out := (arrOf st').map (·.2)) got
  refine wpAny_pure ⟨_, rfl, q _ s1.heap.objs.size _ c ss (fun b u e => ?_) y3 y4 y2 hc f1 (f2.trans pv) f3⟩
  have g := y1 b u e
  have lt := Heap.lt_size g
  refine (sortedHeap_old (Nat.ne_of_lt lt) (by rw [size_push']; exact Nat.lt_succ_of_lt lt)).trans ?_
  exact Heap.get?_push_of_some _ g
end
end RBS

set_option Elab.async false
set_option linter.all false
set_option maxRecDepth 100000
set_option maxHeartbeats 2000000
namespace PD
open PySem PySem.Spec PyProof.Rows L2 RB
/-! ### a slot is set -/
theorem Rel.set {M : Me} {σ : L2.St} {H : Hp} {ρ : DEnv} {S : Fld} {Hf : Hp} (R : Rel M σ H ρ S Hf) {i : Nat} {v : V} {d : Dat} (hv : DV M.K Hf v d) : Rel M (σ.set i (some v)) H (ρ.set i (some (.v d))) S Hf := by
  have nv : ∀ (m : Nat) (xs : List Dat), (ρ.set i (some (.v d)))[m]? = some (some (.own xs)) → i ≠ m ∧ ρ[m]? = some (some (.own xs)) := fun m xs e => by
    rw [List.getElem?_set] at e
    by_cases hj : i = m
    · rw [if_pos hj] at e
      split at e <;> cases e
    · rw [if_neg hj] at e
      exact ⟨hj, e⟩
  refine ⟨by rw [List.length_set, List.length_set]; exact R.len, R.base, R.sub, R.full, R.fresh, fun j ds p e1 e2 => ?_, fun j s e => ?_, fun j k ds es p n e1 e2 e3 => ?_, R.me, R.tabs, R.tabf, R.notb, R.subs⟩
  · obtain ⟨n1, e1⟩ := nv _ _ e1
    rw [List.getElem?_set, if_neg n1] at e2
    exact R.ownF j ds p e1 e2
  · rw [List.getElem?_set] at e ⊢
    by_cases hj : i = j
    · subst hj
      rw [if_pos rfl] at e ⊢
      by_cases hi : i < ρ.length
      · rw [if_pos hi] at e
        rw [if_pos (by rw [R.len]; exact hi)]
        cases e
        exact ⟨v, rfl, hv⟩
      · rw [if_neg hi] at e
        cases e
    · rw [if_neg hj] at e ⊢
      exact R.slot j s e
  · obtain ⟨n1, e1⟩ := nv _ _ e1
    obtain ⟨n2, e2⟩ := nv _ _ e2
    rw [List.getElem?_set, if_neg n1] at e3
    rw [List.getElem?_set, if_neg n2]
    exact R.inj j k ds es p n e1 e2 e3
/-- a slot is forgotten -/
theorem Rel.forget {M : Me} {σ : L2.St} {H : Hp} {ρ : DEnv} {S : Fld} {Hf : Hp} (R : Rel M σ H ρ S Hf) {i : Nat} : Rel M (σ.set i none) H (ρ.set i none) S Hf := by
  have nv : ∀ (m : Nat) (s : Slot), (ρ.set i none)[m]? = some (some s) → i ≠ m ∧ ρ[m]? = some (some s) := fun m s e => by
    rw [List.getElem?_set] at e
    by_cases hj : i = m
    · rw [if_pos hj] at e
      split at e <;> cases e
    · rw [if_neg hj] at e
      exact ⟨hj, e⟩
  refine ⟨by rw [List.length_set, List.length_set]; exact R.len, R.base, R.sub, R.full, R.fresh, fun j ds p e1 e2 => ?_, fun j s e => ?_, fun j k ds es p n e1 e2 e3 => ?_, R.me, R.tabs, R.tabf, R.notb, R.subs⟩
  · obtain ⟨n1, e1⟩ := nv _ _ e1
    rw [List.getElem?_set, if_neg n1] at e2
    exact R.ownF j ds p e1 e2
  · obtain ⟨n1, e1⟩ := nv _ _ e
    rw [List.getElem?_set, if_neg n1]
    exact R.slot j s e1
  · obtain ⟨n1, e1⟩ := nv _ _ e1
    obtain ⟨n2, e2⟩ := nv _ _ e2
    rw [List.getElem?_set, if_neg n1] at e3
    rw [List.getElem?_set, if_neg n2]
    exact R.inj j k ds es p n e1 e2 e3
/-- a slot may be forgotten on the side of data alone -/
theorem Rel.weak {M : Me} {σ : L2.St} {H : Hp} {ρ ρ' : DEnv} {S : Fld} {Hf : Hp} (R : Rel M σ H ρ S Hf) (hl : ρ'.length = ρ.length) (h : ∀ (i : Nat) (s : Slot), ρ'[i]? = some (some s) → ρ[i]? = some (some s)) : Rel M σ H ρ' S Hf :=
  ⟨R.len.trans hl.symm, R.base, R.sub, R.full, R.fresh, fun i ds p e1 e2 => R.ownF i ds p (h _ _ e1) e2, fun i s e => R.slot i s (h i s e), fun i j ds es p n e1 e2 e3 => R.inj i j ds es p n (h _ _ e1) (h _ _ e2) e3, R.me, R.tabs, R.tabf, R.notb, R.subs⟩
/-- a new list that the def holds alone -/
theorem Rel.newOwn {M : Me} {σ : L2.St} {H : Hp} {ρ : DEnv} {S : Fld} {Hf : Hp} (R : Rel M σ H ρ S Hf) {i : Nat} {p : Addr} {vs : List V} {ds : List Dat} (hp : H p = none) (hl : vs.length ≤ 100000) (hv : DVs M.K Hf vs ds) : Rel M (σ.set i (some (.ref p))) (upd H p (.lst vs)) (ρ.set i (some (.own ds))) S Hf := by
  have hf := none_of_same R.sub hp
  have nv : ∀ (m : Nat) (s : Slot), (ρ.set i (some (.own ds)))[m]? = some (some s) → (i = m ∧ i < ρ.length ∧ s = .own ds) ∨ (i ≠ m ∧ ρ[m]? = some (some s)) := fun m s e => by
    rw [List.getElem?_set] at e
    by_cases hj : i = m
    · rw [if_pos hj] at e
      split at e
      · cases e
        exact .inl ⟨hj, by omega, rfl⟩
      · cases e
    · rw [if_neg hj] at e
      exact .inr ⟨hj, e⟩
  have np : ∀ (m : Nat) (xs : List Dat), ρ[m]? = some (some (.own xs)) → σ[m]? ≠ some (some (.ref p)) := fun m xs e z => by
    obtain ⟨w, h1, q, ws, rfl, a, _⟩ := R.slot m _ e
    rw [z] at h1
    cases h1
    rw [hp] at a
    cases a
  refine ⟨by rw [List.length_set, List.length_set]; exact R.len, R.base, fun b o e => ?_, fun b o e m => upd_new hp _ _ (R.full b o e m), R.fresh, fun j xs q e1 e2 => ?_, fun j s e => ?_, fun j k xs es q n e1 e2 e3 => ?_, fun x kd e => ?_, tabs_same R.tabs (upd_new hp), R.tabf, R.notb, R.subs⟩
  · rw [upd_ne (ne_of_none e hf)]
    exact R.sub _ _ e
  · rcases nv j _ e1 with ⟨rfl, hi, z⟩ | ⟨hj, e1⟩
    · rw [List.getElem?_set, if_pos rfl, if_pos (by rw [R.len]; exact hi)] at e2
      cases e2
      exact R.H0none hp
    · rw [List.getElem?_set, if_neg hj] at e2
      exact R.ownF j xs q e1 e2
  · rcases nv j s e with ⟨rfl, hi, rfl⟩ | ⟨hj, e⟩
    · rw [List.getElem?_set, if_pos rfl, if_pos (by rw [R.len]; exact hi)]
      exact ⟨_, rfl, p, vs, rfl, upd_same, hf, hl, hv⟩
    · rw [List.getElem?_set, if_neg hj]
      obtain ⟨v, h1, h2⟩ := R.slot j s e
      refine ⟨v, h1, ?_⟩
      cases s with
      | v d => exact h2
      | me => exact h2
      | me2 => exact h2
      | own xs =>
        obtain ⟨q, ws, rfl, a, b, c, d⟩ := h2
        exact ⟨q, ws, rfl, by rw [upd_ne (ne_of_none a hp)]; exact a, b, c, d⟩
  · rcases nv j _ e1 with ⟨rfl, hi, z⟩ | ⟨hj, e1⟩
    · rcases nv k _ e2 with ⟨rfl, _, _⟩ | ⟨hk, e2⟩
      · exact (n rfl).elim
      · rw [List.getElem?_set, if_pos rfl, if_pos (by rw [R.len]; exact hi)] at e3
        cases e3
        rw [List.getElem?_set, if_neg hk]
        exact np k _ e2
    · rw [List.getElem?_set, if_neg hj] at e3
      rcases nv k _ e2 with ⟨rfl, hi, z⟩ | ⟨hk, e2⟩
      · rw [List.getElem?_set, if_pos rfl, if_pos (by rw [R.len]; exact hi)]
        intro z
        cases z
        exact np j _ e1 e3
      · rw [List.getElem?_set, if_neg hk]
        exact R.inj j k xs es q n e1 e2 e3
  · obtain ⟨h1, h0, h2⟩ := R.me x kd e
    exact ⟨h1, h0, h2.mono (fun b o _ z => upd_new hp _ _ z) (Same.refl _)⟩
/-- an own list is changed -/
theorem Rel.chg {M : Me} {σ : L2.St} {H : Hp} {ρ : DEnv} {S : Fld} {Hf : Hp} (R : Rel M σ H ρ S Hf) {i : Nat} {p : Addr} {vs : List V} {ds es : List Dat} (hi : ρ[i]? = some (some (.own es))) (hs : σ[i]? = some (some (.ref p))) (hl : vs.length ≤ 100000) (hv : DVs M.K Hf vs ds) :
    Rel M σ (upd H p (.lst vs)) (ρ.set i (some (.own ds))) S Hf := by
  obtain ⟨w, h1, p', ws, rfl, hp, hf, _, _⟩ := R.slot i _ hi
  rw [hs] at h1
  cases h1
  have il : i < ρ.length := by
    rcases Nat.lt_or_ge i ρ.length with z | z
    · exact z
    · rw [List.getElem?_eq_none z] at hi
      cases hi
  have nv : ∀ (m : Nat) (s : Slot), (ρ.set i (some (.own ds)))[m]? = some (some s) → (i = m ∧ s = .own ds) ∨ (i ≠ m ∧ ρ[m]? = some (some s)) := fun m s e => by
    rw [List.getElem?_set] at e
    by_cases hj : i = m
    · rw [if_pos hj, if_pos il] at e
      cases e
      exact .inl ⟨hj, rfl⟩
    · rw [if_neg hj] at e
      exact .inr ⟨hj, e⟩
  have g0 : ∀ (m : Nat) (xs : List Dat), (ρ.set i (some (.own ds)))[m]? = some (some (.own xs)) → ∃ ys, ρ[m]? = some (some (.own ys)) := fun m xs e => by
    rcases nv m _ e with ⟨rfl, _⟩ | ⟨_, e⟩
    · exact ⟨_, hi⟩
    · exact ⟨_, e⟩
  have hp0 := R.ownF i es p hi hs
  refine ⟨by rw [List.length_set]; exact R.len, R.base, fun b o e => ?_, fun b o e m => ?_, R.fresh, fun j xs q e1 e2 => ?_, fun j s e => ?_, fun j k xs es' q n e1 e2 e3 => ?_, fun x kd e => ?_, tabs_upd R.tabs hp nli_lst, R.tabf, R.notb, R.subs⟩
  · rw [upd_ne (ne_of_none e hf)]
    exact R.sub _ _ e
  · rw [upd_ne (ne_of_none e hp0)]
    exact R.full b o e m
  · obtain ⟨ys, e1⟩ := g0 _ _ e1
    exact R.ownF j ys q e1 e2
  · rcases nv j s e with ⟨rfl, rfl⟩ | ⟨hj, e⟩
    · exact ⟨_, hs, p, vs, rfl, upd_same, hf, hl, hv⟩
    · obtain ⟨v, h1, h2⟩ := R.slot j s e
      refine ⟨v, h1, ?_⟩
      cases s with
      | v d => exact h2
      | me => exact h2
      | me2 => exact h2
      | own xs =>
        obtain ⟨q, ws', rfl, a, b, c, d⟩ := h2
        have : q ≠ p := fun z => by
          subst z
          exact R.inj i j es xs q hj hi e hs h1
        exact ⟨q, ws', rfl, by rw [upd_ne this]; exact a, b, c, d⟩
  · have g : ∀ (m : Nat) (xs : List Dat), (ρ.set i (some (.own ds)))[m]? = some (some (.own xs)) → ∃ ys, ρ[m]? = some (some (.own ys)) := fun m xs e => by
      rcases nv m _ e with ⟨rfl, _⟩ | ⟨_, e⟩
      · exact ⟨_, hi⟩
      · exact ⟨_, e⟩
    obtain ⟨y1, e1⟩ := g _ _ e1
    obtain ⟨y2, e2⟩ := g _ _ e2
    exact R.inj j k y1 y2 q n e1 e2 e3
  · obtain ⟨h1, h0, h2⟩ := R.me x kd e
    exact ⟨h1, h0, h2.mono (fun b o m z => by rw [upd_ne (fun y => (R.own0 e m).2 (by rw [y]; exact hp0))]; exact z) (Same.refl _)⟩
/-- an own list is let go: from now on it is a datum -/
theorem Rel.freeze {M : Me} {σ : L2.St} {H : Hp} {ρ : DEnv} {S : Fld} {Hf : Hp} (R : Rel M σ H ρ S Hf) {i : Nat} {ds : List Dat} (hi : ρ[i]? = some (some (.own ds))) : ∃ p Hf', σ[i]? = some (some (.ref p)) ∧ Rel M σ H (ρ.set i none) S Hf' ∧ Same Hf Hf' ∧ DV M.K Hf' (.ref p) (.lst ds) := by
  obtain ⟨w, h1, p, vs, rfl, hp, hf, hl, hv⟩ := R.slot i _ hi
  have nv : ∀ (m : Nat) (s : Slot), (ρ.set i none)[m]? = some (some s) → i ≠ m ∧ ρ[m]? = some (some s) := fun m s e => by
    rw [List.getElem?_set] at e
    by_cases hj : i = m
    · rw [if_pos hj] at e
      split at e <;> cases e
    · rw [if_neg hj] at e
      exact ⟨hj, e⟩
  have sm := upd_new (o := .lst vs) hf
  refine ⟨p, upd Hf p (.lst vs), h1, ⟨by rw [List.length_set]; exact R.len, R.base.trans sm, fun b o e => ?_, R.full, fun b e => ?_, fun j xs q e1 e2 => R.ownF j xs q (nv _ _ e1).2 e2, fun j s e => ?_, fun j k xs es q n e1 e2 e3 => ?_, fun x kd e => ?_, R.tabs, fun z hz => ?_, fun b ps e => ?_, fun b m => ?_⟩, sm, .lst upd_same hl (hv.same sm)⟩
  · by_cases hb : b = p
    · subst hb
      rw [upd_same] at e
      cases e
      exact hp
    · rw [upd_ne hb] at e
      exact R.sub _ _ e
  · by_cases hb : b = p
    · subst hb
      exact .inr (R.ownF i ds b hi h1)
    · rw [upd_ne hb] at e
      exact R.fresh b e
  · obtain ⟨hj, e⟩ := nv j s e
    obtain ⟨v, g1, g2⟩ := R.slot j s e
    refine ⟨v, g1, ?_⟩
    cases s with
    | v d => exact DV.same sm g2
    | me => exact g2
    | me2 => exact g2
    | own xs =>
      obtain ⟨q, ws', rfl, a, b, c, d⟩ := g2
      have : q ≠ p := fun z => by
        subst z
        exact R.inj i j ds xs q hj hi e h1 g1
      exact ⟨q, ws', rfl, a, by rw [upd_ne this]; exact b, c, d.same sm⟩
  · exact R.inj j k xs es q n (nv _ _ e1).2 (nv _ _ e2).2 e3
  · obtain ⟨g1, g0, g2⟩ := R.me x kd e
    have nx : x ≠ p := fun z => g0 (by rw [z]; exact R.ownF i ds p hi h1)
    exact ⟨by rw [upd_ne nx]; exact g1, g0, g2.mono (fun b o _ z => z) sm⟩
  · obtain ⟨ps, e, _⟩ := R.tabs z hz
    have nz : z.1 ≠ p := fun q => by
      rw [q, hp] at e
      cases e
    rw [upd_ne nz]
    exact R.tabf z hz
  · by_cases hb : b = p
    · subst hb
      rw [upd_same] at e
      cases e
    · rw [upd_ne hb] at e
      exact R.notb b ps e
  · obtain ⟨y1, y2⟩ := R.subs b m
    rw [upd_ne (fun z => y2 (by rw [z]; exact R.ownF i ds p hi h1))]
    exact ⟨y1, y2⟩
/-! ### statements -/
def fNext : FS := fun ρ S => .nx ρ S
def fSeq (f g : FS) : FS := fun ρ S => match f ρ S with
  | .nx ρ' S' => g ρ' S'
  | r => r
def fRet (a : FE) : FS := fun ρ S => (a ρ S).bindS fun d S' => .rt d S'
def fRetOwn (i : Nat) : FS := fun ρ S => match ρ[i]? with
  | some (some (.own ds)) => .rt (.lst ds) S
  | _ => .bad
def fSet (i : Nat) (a : FE) : FS := fun ρ S => (a ρ S).bindS fun d S' => .nx (ρ.set i (some (.v d))) S'
def fNewO (i : Nat) (a : FA) : FS := fun ρ S => match a ρ S with
  | .ok ds S' => if ds.length ≤ 100000 then .nx (ρ.set i (some (.own ds))) S' else .bad
  | .er n v => .er n v
  | .bad => .bad
def fAppd (i : Nat) (a : FE) : FS := fun ρ S => match ρ[i]? with
  | some (some (.own ds)) => (a ρ S).bindS fun d S' => if ds.length < 100000 then .nx (ρ.set i (some (.own (ds ++ [d])))) S' else .bad
  | _ => .bad
def fDrop (a : FE) : FS := fun ρ S => (a ρ S).bindS fun _ S' => .nx ρ S'
def fIfS (c : FE) (t u : FS) : FS := fun ρ S => (c ρ S).bindS fun d S' => match d with
  | .bl true => t ρ S'
  | .bl false => u ρ S'
  | _ => .bad
/-- what a loop makes of its body's outcome -/
def loopR (r : RS) (k : DEnv → Fld → RS) : RS := match r with
  | .nx ρ S => k ρ S
  | .ct ρ S => k ρ S
  | .bk ρ S => .nx ρ S
  | .rt d S => .rt d S
  | .er n v => .er n v
  | .bad => .bad
def fWhile : Nat → FE → FS → FS
  | 0, _, _ => fun _ _ => .bad
  | n + 1, c, b => fun ρ S => (c ρ S).bindS fun d S' => match d with
    | .bl true => loopR (b ρ S') (fWhile n c b)
    | .bl false => .nx ρ S'
    | _ => .bad
/-- where a value goes -/
abbrev FG := Dat → DEnv → Option DEnv
def gN (i : Nat) : FG := fun d ρ => some (ρ.set i (some (.v d)))
def gsN : List FG → List Dat → DEnv → Option DEnv
  | [], [], ρ => some ρ
  | g :: gs, d :: ds, ρ => (g d ρ).bind (gsN gs ds)
  | _, _, _ => none
def gT (gs : List FG) : FG := fun d ρ => match d with
  | .tup ds => gsN gs ds ρ
  | _ => none
def fForL (g : FG) (b : FS) : List Dat → FS
  | [] => fun ρ S => .nx ρ S
  | d :: ds => fun ρ S => match g d ρ with
    | some ρ' => loopR (b ρ' S) (fForL g b ds)
    | none => .bad
def listOf : Dat → Option (List Dat)
  | .lst ds => some ds
  | _ => none
def tupOf : Dat → Option (List Dat)
  | .tup ds => some ds
  | _ => none
def rangeD (lo : Int) (n : Nat) : List Dat := (List.range n).map fun (i : Nat) => Dat.int (lo + (i : Int))
def fFor (items : Dat → Option (List Dat)) (a : FE) (g : FG) (b : FS) : FS := fun ρ S => (a ρ S).bindS fun d S' => match items d with
  | some ds => fForL g b ds ρ S'
  | none => .bad
def fForR1 (a : FE) (g : FG) (b : FS) : FS := fun ρ S => (a ρ S).bindS fun d S' => match d with
  | .int n => if n < 2 ^ 62 ∧ -(2 ^ 62) ≤ n then fForL g b (rangeD 0 n.toNat) ρ S' else .bad
  | _ => .bad
def fAsg (a : FE) (g : FG) : FS := fun ρ S => (a ρ S).bindS fun d S' => match g d ρ with
  | some ρ' => .nx ρ' S'
  | none => .bad
section
variable {X : Cx} {M : Me}
theorem sv_nil : PSs X [] (rdS M fNext) := pss_weak pss_nil fun D σ H ⟨ρ, S, Hf, R, q⟩ => q σ H Hf R (Same.refl _)
theorem sv_cons {st : Stmt} {rest : List Stmt} {f g : FS} (h1 : PS X st (rdS M f)) (h2 : PSs X rest (rdS M g)) : PSs X (st :: rest) (rdS M (fSeq f g)) := pss_weak (pss_cons h1 h2) fun D σ H ⟨ρ, S, Hf, R, q⟩ => by
  refine ⟨ρ, S, Hf, R, ?_⟩
  unfold fSeq at q
  cases e : f ρ S with
  | nx ρ' S' =>
    rw [e] at q
    exact fun σ' H' Hf' R' s' => ⟨ρ', S', Hf', R', q.mono s'⟩
  | rt d S' => rw [e] at q; exact q
  | bk ρ' S' => rw [e] at q; exact q
  | ct ρ' S' => rw [e] at q; exact q
  | er n v => rw [e] at q; exact q
  | bad => rw [e] at q; exact q
theorem sv_one {st : Stmt} {f : FS} (h1 : PS X st (rdS M f)) : PSs X [st] (rdS M f) := pss_one h1
theorem sv_ret {e : Expr} {pos : Pos} {f : FE} (h : PE X e (rdE M f)) : PS X (.Return (some e) pos) (rdS M (fRet f)) := ps_weak (ps_ret h) fun D σ H ⟨ρ, S, Hf, R, q⟩ => by
  refine ⟨ρ, S, Hf, R, ?_⟩
  unfold fRet at q
  cases e : f ρ S with
  | ok d S' =>
    rw [e] at q
    exact fun v H' Hf' T hv => q v σ H' ρ Hf' T.rel hv
  | er n v => rw [e] at q; exact q
  | bad => rw [e] at q; exact q
theorem sv_retOwn {e : Expr} {pos : Pos} {i : Nat} (h : PE X e (tVar i)) : PS X (.Return (some e) pos) (rdS M (fRetOwn i)) := ps_weak (ps_ret h) fun D σ H ⟨ρ, S, Hf, R, q⟩ => by
  unfold fRetOwn at q
  split at q
  · rename_i ds e
    obtain ⟨p, Hf', h1, R', _, hv⟩ := R.freeze e
    exact ⟨_, h1, q _ σ H _ Hf' R' hv⟩
  · exact q.elim
theorem sv_retN {pos : Pos} : PS X (.Return none pos) (rdS M (fRet (fC .non))) := ps_weak ps_retN fun D σ H ⟨ρ, S, Hf, R, q⟩ => q .non σ H ρ Hf R .non
theorem sv_set {i : Nat} {x : Str} {e : Expr} {pos pos' : Pos} {f : FE} (h : PS X (.Assign [.Name x pos'] e pos) (tAsg (rdE M f) (gName i))) : PS X (.Assign [.Name x pos'] e pos) (rdS M (fSet i f)) := ps_weak h fun D σ H ⟨ρ, S, Hf, R, q⟩ => by
  refine ⟨ρ, S, Hf, R, ?_⟩
  unfold fSet at q
  cases e : f ρ S with
  | ok d S' =>
    rw [e] at q
    exact fun v H' Hf' T hv => q _ H' Hf' (T.rel.set hv) T.same
  | er n v => rw [e] at q; exact q
  | bad => rw [e] at q; exact q
theorem sv_newO {i : Nat} {x : Str} {es : List Expr} {p1 pos pos' : Pos} {f : FA} (h : PS X (.Assign [.Name x pos'] (.List es p1) pos) (tAsg (tLst (rdA M f)) (gName i))) : PS X (.Assign [.Name x pos'] (.List es p1) pos) (rdS M (fNewO i f)) := ps_weak h fun D σ H ⟨ρ, S, Hf, R, q⟩ => by
  refine ⟨ρ, S, Hf, R, ?_⟩
  unfold fNewO at q
  cases e : f ρ S with
  | ok ds S' =>
    rw [e] at q
    intro vs H' Hf' T hv
    simp only at q
    split at q
    · rename_i hl
      have hl' : vs.length ≤ 100000 := by rw [hv.length]; exact hl
      refine ⟨Nat.le_trans hl' (by rw [sizeLine_eq]; decide), fun p hp => q _ _ Hf' (T.rel.newOwn hp hl' hv) T.same⟩
    · exact q.elim
  | er n v => rw [e] at q; exact q
  | bad => rw [e] at q; exact q
theorem sv_appd {i : Nat} {e o : Expr} {apos cpos pos : Pos} {f : FE} (h : PS X (.Expr (.Call (.Attribute o "append" apos) [e] [] cpos) pos) (tDrop (tBM X.K "list" rAppend (tVar i) (tCons (rdE M f) tNil)))) :
    PS X (.Expr (.Call (.Attribute o "append" apos) [e] [] cpos) pos) (rdS M (fAppd i f)) := ps_weak h fun D σ H ⟨ρ, S, Hf, R, q⟩ => by
  unfold fAppd at q
  split at q
  · rename_i ds e2
    obtain ⟨w, h1, p, vs, rfl, hp, hf, hl, hv⟩ := R.slot i _ e2
    refine ⟨_, h1, .inl ⟨rfl, vs, .inl (.inl hp)⟩, ρ, S, Hf, R, ?_⟩
    cases e : f ρ S with
    | ok d S' =>
      rw [e] at q
      intro v H' Hf' T hd
      have R' := T.rel
      have q : Post M Hf D (if ds.length < 100000 then .nx (ρ.set i (some (.own (ds ++ [d])))) S' else .bad) := q
      obtain ⟨w, h1', p', vs', rfl, hp', hf', hl', hv'⟩ := R'.slot i _ e2
      rw [h1] at h1'
      cases h1'
      split at q
      · rename_i hn
        have ln : vs'.length < 100000 := by rw [hv'.length]; exact hn
        refine ⟨p, vs', v, rfl, rfl, hp', Nat.lt_of_lt_of_le ln (by rw [sizeLine_eq]; decide), q _ _ Hf' (R'.chg e2 h1 ?_ (hv'.app (.cons hd .nil))) T.same⟩
        rw [List.length_append]
        exact ln
      · exact q.elim
    | er n v => rw [e] at q; exact q
    | bad => rw [e] at q; exact q
  · exact q.elim
theorem sv_drop {e : Expr} {pos : Pos} {f : FE} (h : PS X (.Expr e pos) (tDrop (rdE M f))) : PS X (.Expr e pos) (rdS M (fDrop f)) := ps_weak h fun D σ H ⟨ρ, S, Hf, R, q⟩ => by
  refine ⟨ρ, S, Hf, R, ?_⟩
  unfold fDrop at q
  cases e : f ρ S with
  | ok d S' => rw [e] at q; exact fun v H' Hf' T hv => q _ H' Hf' T.rel T.same
  | er n v => rw [e] at q; exact q
  | bad => rw [e] at q; exact q
/-! tests -/
theorem rdT_of {f : FE} {σ : L2.St} {H : Hp} {Q : Bool → Hp → Prop} (h : rdT M f σ H Q) : rdE M f σ H fun x H1 => ∃ c, x = .bl c ∧ Q c H1 := by
  obtain ⟨ρ, S, Hf, R, q⟩ := h
  refine ⟨ρ, S, Hf, R, ?_⟩
  cases e : f ρ S with
  | ok d S' =>
    rw [e] at q
    intro v H' Hf' T hv
    cases hv with
    | dct _ _ _ _ _ => exact q.elim
    | ins _ _ _ _ => exact q.elim
    | bl b => exact ⟨b, rfl, q H' Hf' T⟩
    | non => exact q.elim
    | int _ => exact q.elim
    | str _ => exact q.elim
    | lst _ _ _ => exact q.elim
    | tup _ _ _ => exact q.elim
  | er n v => rw [e] at q; exact q
  | bad => rw [e] at q; exact q
theorem tv_val {e : Expr} {f : FE} (h : PE X e (rdE M f)) (he : ∀ whole, isTrue e X.env whole = (do let v ← whole; standAt e.pos; holding [v] (truthy v)) := by intro _; rfl) : PT X e (rdT M f) := pt_weak (pt_val h he) fun σ H Q q => rdT_of q
theorem tv_cmp {a b : Expr} {op : CmpOp} {pos : Pos} {r : R2} {o : Dat → Dat → Option Dat} {fa fb : FE} (ho : OpR X (compareOp op) r) (hm : behindInMarks op b = false) (hK : M.K = X.K) (hs : Sim2 X.K r o) (ha : PE X a (rdO M fa)) (hb : PE X b (rdO M fb)) : PT X (.Compare a [op] [b] pos) (rdT M (fOp o fa fb)) :=
  pt_weak (pt_cmpR ho ha hb hm) fun σ H Q h => rd_op hK hs (rdT_of h)
theorem tv_not {a : Expr} {pos : Pos} {f : FE} (h : PT X a (rdT M f)) : PT X (.UnaryOp .Not a pos) (rdT M (fNot f)) := pt_weak (pt_not h) fun σ H Q ⟨ρ, S, Hf, R, q⟩ => by
  refine ⟨ρ, S, Hf, R, ?_⟩
  unfold fNot RE.bind at q
  cases e : f ρ S with
  | ok d S' =>
    simp only [e] at q
    cases d with
    | bl b => exact fun H' Hf' T => q H' Hf' T
    | _ => exact q.elim
  | er n v => simp only [e] at q; exact q
  | bad => simp only [e] at q
theorem rd_and {fa fb : FE} {σ : L2.St} {H : Hp} {Q : Bool → Hp → Prop} (h : rdT M (fAnd fa fb) σ H Q) : tAnd (rdT M fa) (rdT M fb) σ H Q := by
  obtain ⟨ρ, S, Hf, R, q⟩ := h
  refine ⟨ρ, S, Hf, R, ?_⟩
  unfold fAnd RE.bind at q
  cases e : fa ρ S with
  | ok d S' =>
    simp only [e] at q
    cases d with
    | bl b =>
      intro H' Hf' T
      cases b with
      | true =>
        rw [if_pos rfl]
        refine ⟨ρ, S', Hf', T.rel, ?_⟩
        simp only at q
        cases e2 : fb ρ S' with
        | ok d S2 =>
          simp only [e2] at q
          cases d with
          | bl b => simp only at q ⊢; exact fun H2 Hf2 T2 => q H2 Hf2 (T.trans T2)
          | _ => exact q.elim
        | er n v => simp only [e2] at q; exact q
        | bad => simp only [e2] at q
      | false =>
        rw [if_neg Bool.false_ne_true]
        exact q H' Hf' T
    | _ => exact q.elim
  | er n v => simp only [e] at q; exact q
  | bad => simp only [e] at q
theorem rd_or {fa fb : FE} {σ : L2.St} {H : Hp} {Q : Bool → Hp → Prop} (h : rdT M (fOr fa fb) σ H Q) : tOr (rdT M fa) (rdT M fb) σ H Q := by
  obtain ⟨ρ, S, Hf, R, q⟩ := h
  refine ⟨ρ, S, Hf, R, ?_⟩
  unfold fOr RE.bind at q
  cases e : fa ρ S with
  | ok d S' =>
    simp only [e] at q
    cases d with
    | bl b =>
      intro H' Hf' T
      cases b with
      | false =>
        rw [if_neg Bool.false_ne_true]
        refine ⟨ρ, S', Hf', T.rel, ?_⟩
        simp only at q
        cases e2 : fb ρ S' with
        | ok d S2 =>
          simp only [e2] at q
          cases d with
          | bl b => simp only at q ⊢; exact fun H2 Hf2 T2 => q H2 Hf2 (T.trans T2)
          | _ => exact q.elim
        | er n v => simp only [e2] at q; exact q
        | bad => simp only [e2] at q
      | true =>
        rw [if_pos rfl]
        exact q H' Hf' T
    | _ => exact q.elim
  | er n v => simp only [e] at q; exact q
  | bad => simp only [e] at q
theorem wv_one {op : BoolOp} {a : Expr} {pos : Pos} {f : FE} (hop : op = .And ∨ op = .Or) (h : PT X a (rdT M f)) : PW X (.BoolOp op [a] pos) (rdT M f) := by
  rcases hop with rfl | rfl
  · exact pw_and1 h
  · exact pw_or1 h
theorem pw_weak {e : Expr} {t t' : L2.TT} (h : PW X e t) (i : ∀ σ H Q, t' σ H Q → t σ H Q) : PW X e t' := ⟨fun wh pins s σ H Q I q => h.run wh pins s σ H Q I (i _ _ _ q)⟩
theorem wv_and {a b : Expr} {rest : List Expr} {pos : Pos} {fa fb : FE} (ha : PT X a (rdT M fa)) (hb : PW X (.BoolOp .And (b :: rest) pos) (rdT M fb)) : PW X (.BoolOp .And (a :: b :: rest) pos) (rdT M (fAnd fa fb)) := pw_weak (pw_and ha hb) fun _ _ _ h => rd_and h
theorem wv_or {a b : Expr} {rest : List Expr} {pos : Pos} {fa fb : FE} (ha : PT X a (rdT M fa)) (hb : PW X (.BoolOp .Or (b :: rest) pos) (rdT M fb)) : PW X (.BoolOp .Or (a :: b :: rest) pos) (rdT M (fOr fa fb)) := pw_weak (pw_or ha hb) fun _ _ _ h => rd_or h
/-! the same as values -/
theorem ev_and {a b : Expr} {rest : List Expr} {pos : Pos} {fa fb : FE} (ha : PE X a (rdE M fa)) (hb : PE X (.BoolOp .And (b :: rest) pos) (rdE M fb)) : PE X (.BoolOp .And (a :: b :: rest) pos) (rdE M (fAnd fa fb)) := pe_weak (pe_and ha hb) fun σ H Q ⟨ρ, S, Hf, R, q⟩ => by
  refine ⟨ρ, S, Hf, R, ?_⟩
  unfold fAnd RE.bind at q
  cases e : fa ρ S with
  | ok d S' =>
    simp only [e] at q
    intro v H' Hf' T hv
    cases hv with
    | dct _ _ _ _ _ => exact q.elim
    | ins _ _ _ _ => exact q.elim
    | bl b =>
      refine ⟨b, rfl, ?_⟩
      cases b with
      | true =>
        rw [if_pos rfl]
        refine ⟨ρ, S', Hf', T.rel, ?_⟩
        simp only at q
        cases e2 : fb ρ S' with
        | ok d S2 => simp only [e2] at q ⊢; exact fun v H2 Hf2 T2 hv => q v H2 Hf2 (T.trans T2) hv
        | er n v => simp only [e2] at q; exact q
        | bad => simp only [e2] at q
      | false =>
        rw [if_neg Bool.false_ne_true]
        exact q _ H' Hf' T (.bl _)
    | non => exact q.elim
    | int _ => exact q.elim
    | str _ => exact q.elim
    | lst _ _ _ => exact q.elim
    | tup _ _ _ => exact q.elim
  | er n v => simp only [e] at q; exact q
  | bad => simp only [e] at q
theorem ev_or {a b : Expr} {rest : List Expr} {pos : Pos} {fa fb : FE} (ha : PE X a (rdE M fa)) (hb : PE X (.BoolOp .Or (b :: rest) pos) (rdE M fb)) : PE X (.BoolOp .Or (a :: b :: rest) pos) (rdE M (fOr fa fb)) := pe_weak (pe_or ha hb) fun σ H Q ⟨ρ, S, Hf, R, q⟩ => by
  refine ⟨ρ, S, Hf, R, ?_⟩
  unfold fOr RE.bind at q
  cases e : fa ρ S with
  | ok d S' =>
    simp only [e] at q
    intro v H' Hf' T hv
    cases hv with
    | dct _ _ _ _ _ => exact q.elim
    | ins _ _ _ _ => exact q.elim
    | bl b =>
      refine ⟨b, rfl, ?_⟩
      cases b with
      | false =>
        rw [if_neg Bool.false_ne_true]
        refine ⟨ρ, S', Hf', T.rel, ?_⟩
        simp only at q
        cases e2 : fb ρ S' with
        | ok d S2 => simp only [e2] at q ⊢; exact fun v H2 Hf2 T2 hv => q v H2 Hf2 (T.trans T2) hv
        | er n v => simp only [e2] at q; exact q
        | bad => simp only [e2] at q
      | true =>
        rw [if_pos rfl]
        exact q _ H' Hf' T (.bl _)
    | non => exact q.elim
    | int _ => exact q.elim
    | str _ => exact q.elim
    | lst _ _ _ => exact q.elim
    | tup _ _ _ => exact q.elim
  | er n v => simp only [e] at q; exact q
  | bad => simp only [e] at q
theorem ev_if {c a b : Expr} {pos : Pos} {fc fa fb : FE} (hc : PT X c (rdT M fc)) (ha : PE X a (rdE M fa)) (hb : PE X b (rdE M fb)) : PE X (.IfExp c a b pos) (rdE M (fIf fc fa fb)) := pe_weak (pe_ifExp hc ha hb) fun σ H Q ⟨ρ, S, Hf, R, q⟩ => by
  refine ⟨ρ, S, Hf, R, ?_⟩
  unfold fIf RE.bind at q
  cases e : fc ρ S with
  | ok d S' =>
    simp only [e] at q
    cases d with
    | bl b =>
      intro H' Hf' T
      cases b with
      | true =>
        rw [if_pos rfl]
        refine ⟨ρ, S', Hf', T.rel, ?_⟩
        simp only at q
        cases e2 : fa ρ S' with
        | ok d S2 => simp only [e2] at q ⊢; exact fun v H2 Hf2 T2 hv => q v H2 Hf2 (T.trans T2) hv
        | er n v => simp only [e2] at q; exact q
        | bad => simp only [e2] at q
      | false =>
        rw [if_neg Bool.false_ne_true]
        refine ⟨ρ, S', Hf', T.rel, ?_⟩
        simp only at q
        cases e2 : fb ρ S' with
        | ok d S2 => simp only [e2] at q ⊢; exact fun v H2 Hf2 T2 hv => q v H2 Hf2 (T.trans T2) hv
        | er n v => simp only [e2] at q; exact q
        | bad => simp only [e2] at q
    | _ => exact q.elim
  | er n v => simp only [e] at q; exact q
  | bad => simp only [e] at q
theorem sv_if {c : Expr} {a b : List Stmt} {pos : Pos} {fc : FE} {ft fu : FS} (hc : PT X c (rdT M fc)) (ha : PSs X a (rdS M ft)) (hb : PSs X b (rdS M fu)) : PS X (.If c a b pos) (rdS M (fIfS fc ft fu)) := ps_weak (ps_if hc ha hb) fun D σ H ⟨ρ, S, Hf, R, q⟩ => by
  refine ⟨ρ, S, Hf, R, ?_⟩
  unfold fIfS RE.bindS at q
  cases e : fc ρ S with
  | ok d S' =>
    simp only [e] at q
    cases d with
    | bl b =>
      intro H' Hf' T
      cases b with
      | true =>
        rw [if_pos rfl]
        exact ⟨ρ, S', Hf', T.rel, q.mono T.same⟩
      | false =>
        rw [if_neg Bool.false_ne_true]
        exact ⟨ρ, S', Hf', T.rel, q.mono T.same⟩
    | _ => exact q.elim
  | er n v => simp only [e] at q; exact q
  | bad => simp only [e] at q; exact q.elim
/-! loops -/
theorem post_loop {r : RS} {k : DEnv → Fld → RS} {D : Ends} {Hf : Hp} {N : L2.St → Hp → Prop} (q : Post M Hf D (loopR r k)) (hN : ∀ ρ S σ H Hf', Rel M σ H ρ S Hf' → Same Hf Hf' → Post M Hf D (k ρ S) → N σ H) : Post M Hf { D with nx := N, ct := N, bk := D.nx } r := by
  cases r with
  | nx ρ S => exact fun σ H Hf' R s => hN ρ S σ H Hf' R s q
  | ct ρ S => exact fun σ H Hf' R s => hN ρ S σ H Hf' R s q
  | bk ρ S => exact q
  | rt d S => exact q
  | er n v => exact q
  | bad => exact q
theorem sv_while {c : Expr} {body : List Stmt} {pos : Pos} {fc : FE} {fb : FS} (n : Nat) (hp : PassesOwn (model X.prog X.w) X.A X.env X.xe) (hc : PT X c (rdT M fc)) (hb : PSs X body (rdS M fb)) : PS X (.While c body [] pos) (rdS M (fWhile n fc fb)) := ps_weak (ps_while hp hc hb) fun D σ H ⟨ρ, S, Hf0, R, q⟩ => by
  refine ⟨fun m σ H => ∃ ρ S Hf, Rel M σ H ρ S Hf ∧ Post M Hf D (fWhile m fc fb ρ S), ⟨n, ρ, S, Hf0, R, q⟩, ?_⟩
  rintro m σ H ⟨ρ, S, Hf, R, q⟩
  cases m with
  | zero => exact q.elim
  | succ m =>
    refine ⟨ρ, S, Hf, R, ?_⟩
    unfold fWhile RE.bindS at q
    cases e : fc ρ S with
    | ok d S' =>
      simp only [e] at q
      cases d with
      | bl b =>
        intro H' Hf' T
        cases b with
        | true =>
          rw [if_pos rfl]
          exact ⟨fun σ H => ∃ ρ S Hf, Rel M σ H ρ S Hf ∧ Post M Hf D (fWhile m fc fb ρ S), fun σ' H' h => ⟨m, Nat.lt_succ_self _, h⟩, ρ, S', Hf', T.rel, post_loop (q.mono T.same) fun ρ S σ H Hf2 R s p => ⟨ρ, S, Hf2, R, p.mono s⟩⟩
        | false =>
          rw [if_neg Bool.false_ne_true]
          exact q σ H' Hf' T.rel T.same
      | _ => exact q.elim
    | er n v => simp only [e] at q; exact q
    | bad => simp only [e] at q; exact q.elim
/-- a target and its reading -/
def SimG (M : Me) (g : TG) (fg : FG) : Prop := ∀ v σ H ρ S Hf d ρ' Q, Rel M σ H ρ S Hf → DV M.K Hf v d → fg d ρ = some ρ' → (∀ σ', Rel M σ' H ρ' S Hf → Q σ' H) → g v σ H Q
theorem simG_name {i : Nat} : SimG M (gName i) (gN i) := fun v σ H ρ S Hf d ρ' Q R hv e q => by
  cases e
  exact q _ (R.set hv)
inductive SimGs (M : Me) : TGs → List FG → Prop
  | nil : SimGs M gNil []
  | cons {t : TG} {u : TGs} {g : FG} {gs : List FG} : SimG M t g → SimGs M u gs → SimGs M (gCons t u) (g :: gs)
theorem SimGs.run {M : Me} : ∀ {u : TGs} {gs : List FG}, SimGs M u gs → ∀ {vs : List V} {σ : L2.St} {H : Hp} {ρ : DEnv} {S : Fld} {Hf : Hp} {ds : List Dat} {ρ' : DEnv} {Q : L2.St → Hp → Prop}, Rel M σ H ρ S Hf → DVs M.K Hf vs ds → gsN gs ds ρ = some ρ' → (∀ σ', Rel M σ' H ρ' S Hf → Q σ' H) → u vs σ H Q
  | _, _, .nil, _, _, _, _, _, _, _, _, _, R, .nil, e, q => by
    cases e
    exact ⟨rfl, q _ R⟩
  | _, _, .nil, _, _, _, _, _, _, _, _, _, R, .cons _ _, e, q => by cases e
  | _, _, .cons _ _, _, _, _, _, _, _, _, _, _, R, .nil, e, q => by cases e
  | _, _, .cons (g := g) a t, _, σ, H, ρ, _, _, _, _, _, R, .cons (d := d) hv hr, e, q => by
    have e : (g d ρ).bind (gsN _ _) = _ := e
    cases eg : g d ρ with
    | none => rw [eg] at e; cases e
    | some ρ1 =>
      rw [eg] at e
      exact ⟨_, _, rfl, a _ _ _ _ _ _ _ _ _ R hv eg fun σ1 R1 => SimGs.run t R1 hr e q⟩
theorem simG_tup {u : TGs} {gs : List FG} {n : Nat} (hs : SimGs M u gs) (hn : gs.length = n) (hK : M.K = X.K) : SimG M (gTup X.K n u) (gT gs) := fun v σ H ρ S Hf d ρ' Q R hv e q => by
  cases hv with
  | dct _ _ _ _ _ => cases e
  | ins _ _ _ _ => cases e
  | tup a l b =>
    have e : gsN gs _ ρ = some ρ' := e
    refine ⟨_, _, rfl, by rw [← hK]; exact Kp.sqT (.of R.sub) a, ?_, SimGs.run hs R b e q⟩
    have : ∀ (gs : List FG) (ds : List Dat) (ρ : DEnv) (ρ' : DEnv), gsN gs ds ρ = some ρ' → ds.length = gs.length := by
      intro gs
      induction gs with
      | nil => intro ds ρ ρ' e; cases ds with
        | nil => rfl
        | cons _ _ => cases e
      | cons g gs ih =>
        intro ds ρ ρ' e
        cases ds with
        | nil => cases e
        | cons d ds =>
          have e : (g d ρ).bind (gsN gs ds) = some ρ' := e
          cases eg : g d ρ with
          | none => rw [eg] at e; cases e
          | some ρ1 =>
            rw [eg] at e
            exact congrArg Nat.succ (ih ds ρ1 ρ' e)
    rw [b.length, this _ _ _ _ e, hn]
  | non => cases e
  | bl _ => cases e
  | int _ => cases e
  | str _ => cases e
  | lst _ _ _ => cases e
theorem sv_asg {tg e : Expr} {pos : Pos} {f : FE} {g : TG} {fg : FG} (hs : SimG M g fg) (h : PS X (.Assign [tg] e pos) (tAsg (rdE M f) g)) : PS X (.Assign [tg] e pos) (rdS M (fAsg f fg)) := ps_weak h fun D σ H ⟨ρ, S, Hf, R, q⟩ => by
  refine ⟨ρ, S, Hf, R, ?_⟩
  unfold fAsg RE.bindS at q
  cases e : f ρ S with
  | ok d S' =>
    simp only [e] at q
    intro v H' Hf' T hv
    cases eg : fg d ρ with
    | none => rw [eg] at q; exact q.elim
    | some ρ' =>
      rw [eg] at q
      exact hs v σ H' ρ S' Hf' d ρ' _ T.rel hv eg fun σ' R2 => q σ' H' Hf' R2 T.same
  | er n v => simp only [e] at q; exact q
  | bad => simp only [e] at q; exact q.elim
/-- what is walked gives the data ds, while what is frozen stays -/
structure Walks (K : PySem.W.Frag) (J : It) (Hf0 : Hp) (ds : List Dat) : Prop where
  stop : ∀ H, Same Hf0 H → J.stop ds.length H
  go : ∀ i H, i < ds.length → Same Hf0 H → J.go i H
  yld : ∀ i d x H H', ds[i]? = some d → Same Hf0 H → J.yld i H x H' → (H' = H ∧ DV K Hf0 x d) ∨ ∃ p o, H p = none ∧ (∀ ps, o ≠ .tbl ps) ∧ H' = upd H p o ∧ ∀ Hf, Same Hf0 Hf → Hf p = none → DV K (upd Hf p o) x d
theorem Walks.list {K : PySem.W.Frag} {Hf : Hp} {a : Addr} {xs : List V} {ds : List Dat} (h : SqL K Hf a xs) (hv : DVs K Hf xs ds) : Walks K (Itl K a) Hf ds where
  stop := fun H s => ⟨xs, Kp.sqL (.of s) h, by rw [hv.length]; exact Nat.le_refl _⟩
  go := fun i H hi s => ⟨xs, xs[i]'(by rw [hv.length]; exact hi), Kp.sqL (.of s) h, List.getElem?_eq_getElem _⟩
  yld := fun i d x H H' hd s y => by
    obtain ⟨e, y⟩ := y
    have hx := y xs (Kp.sqL (.of s) h)
    obtain ⟨d', e', hv'⟩ := hv.get' hx
    rw [hd] at e'
    cases e'
    exact .inl ⟨e, hv'⟩
theorem Walks.tuple {K : PySem.W.Frag} {Hf : Hp} {a : Addr} {xs : List V} {ds : List Dat} (h : SqT K Hf a xs) (hv : DVs K Hf xs ds) : Walks K (Itt K a) Hf ds where
  stop := fun H s => ⟨xs, Kp.sqT (.of s) h, by rw [hv.length]; exact Nat.le_refl _⟩
  go := fun i H hi s => ⟨xs, xs[i]'(by rw [hv.length]; exact hi), Kp.sqT (.of s) h, List.getElem?_eq_getElem _⟩
  yld := fun i d x H H' hd s y => by
    obtain ⟨e, y⟩ := y
    have hx := y xs (Kp.sqT (.of s) h)
    obtain ⟨d', e', hv'⟩ := hv.get' hx
    rw [hd] at e'
    cases e'
    exact .inl ⟨e, hv'⟩
theorem Walks.range {K : PySem.W.Frag} {Hf : Hp} {lo : Int} {n : Nat} : Walks K (Itr lo n) Hf (rangeD lo n) where
  stop := fun H s => by
    show n ≤ (rangeD lo n).length
    simp [rangeD]
  go := fun i H hi s => by
    show i < n
    simpa [rangeD] using hi
  yld := fun i d x H H' hd s y => by
    obtain ⟨e, y⟩ := y
    have hd2 : ((List.range n).map fun (i : Nat) => Dat.int (lo + (i : Int)))[i]? = some d := hd
    rw [List.getElem?_map] at hd2
    have hi : i < n := by
      rcases Nat.lt_or_ge i n with z | z
      · exact z
      · rw [List.getElem?_eq_none (by simpa using z)] at hd2
        cases hd2
    rw [List.getElem?_range hi] at hd2
    have hd3 : Dat.int (lo + (i : Int)) = d := Option.some.inj hd2
    rw [← hd3, y]
    exact .inl ⟨e, .int _⟩
theorem post_for {g : TG} {fg : FG} {fb : FS} {D : Ends} {J : It} {ds : List Dat} {σ : L2.St} {H Hf0 : Hp} {ρ : DEnv} {S : Fld} (wk : Walks M.K J Hf0 ds) (hg : SimG M g fg) (R : Rel M σ H ρ S Hf0) (q : Post M Hf0 D (fForL fg fb ds ρ S)) :
    ∃ W : Nat → Nat → L2.St → Hp → Prop, (∃ m, W 0 m σ H) ∧ ∀ i m σ H, W i m σ H →
      (J.stop i H ∧ D.nx σ H) ∨ (J.go i H ∧ ∃ N : L2.St → Hp → Prop, (∀ σ' H', N σ' H' → ∃ m', m' < m ∧ W (i + 1) m' σ' H') ∧ ∀ x H', J.yld i H x H' → g x σ H' fun σ2 H2 => rdS M fb { D with nx := N, ct := N, bk := D.nx } σ2 H2) := by
  refine ⟨fun i m σ H => m = ds.length - i ∧ i ≤ ds.length ∧ ∃ ρ S Hf, Rel M σ H ρ S Hf ∧ Same Hf0 Hf ∧ Post M Hf D (fForL fg fb (ds.drop i) ρ S), ⟨ds.length, rfl, Nat.zero_le _, ρ, S, Hf0, R, Same.refl _, q⟩, ?_⟩
  rintro i m σ H ⟨rfl, hi, ρ, S, Hf, R, s, q⟩
  by_cases hlt : i < ds.length
  · have ed : ds.drop i = ds[i] :: ds.drop (i + 1) := List.drop_eq_getElem_cons hlt
    rw [ed] at q
    unfold fForL at q
    cases eg : fg ds[i] ρ with
    | none => rw [eg] at q; exact q.elim
    | some ρ1 =>
      rw [eg] at q
      refine .inr ⟨wk.go i H hlt (s.trans R.sub), fun σ H => ∃ ρ S Hf, Rel M σ H ρ S Hf ∧ Same Hf0 Hf ∧ Post M Hf D (fForL fg fb (ds.drop (i + 1)) ρ S), fun σ' H' h => ⟨ds.length - (i + 1), by omega, rfl, hlt, h⟩, fun x H' y => ?_⟩
      have fin : ∀ {H1 Hf1 : Hp}, Rel M σ H1 ρ S Hf1 → Same Hf Hf1 → DV M.K Hf1 x ds[i] → g x σ H1 fun σ2 H2 => rdS M fb { D with nx := fun σ H => ∃ ρ S Hf, Rel M σ H ρ S Hf ∧ Same Hf0 Hf ∧ Post M Hf D (fForL fg fb (ds.drop (i + 1)) ρ S), ct := fun σ H => ∃ ρ S Hf, Rel M σ H ρ S Hf ∧ Same Hf0 Hf ∧ Post M Hf D (fForL fg fb (ds.drop (i + 1)) ρ S), bk := D.nx } σ2 H2 := fun {H1 Hf1} R1 s1 hv =>
        hg x σ H1 ρ S Hf1 ds[i] ρ1 _ R1 hv eg fun σ2 R2 => ⟨ρ1, S, Hf1, R2, post_loop (q.mono s1) fun ρ S σ H Hf2 R3 s3 p => ⟨ρ, S, Hf2, R3, (s.trans s1).trans s3, p.mono s3⟩⟩
      rcases wk.yld i ds[i] x H H' (List.getElem?_eq_getElem hlt) (s.trans R.sub) y with ⟨rfl, hv⟩ | ⟨p, o, hp, no, rfl, hv⟩
      · exact fin R (Same.refl _) (hv.same s)
      · have hf := none_of_same R.sub hp
        exact fin (R.new hp no) (upd_new hf) (hv Hf s hf)
  · have e : i = ds.length := by omega
    subst e
    rw [List.drop_length] at q
    exact .inl ⟨wk.stop H (s.trans R.sub), q σ H Hf R (Same.refl _)⟩
theorem sv_forL {tg iter : Expr} {body : List Stmt} {pos : Pos} {f : FE} {fb : FS} {g : TG} {fg : FG} (hK : M.K = X.K) (hg : SimG M g fg) (h : PS X (.For tg iter body [] pos) (tFor (iList X.K (rdE M f)) g (rdS M fb))) : PS X (.For tg iter body [] pos) (rdS M (fFor listOf f fg fb)) := ps_weak h fun D σ H ⟨ρ, S, Hf, R, q⟩ => by
  refine ⟨ρ, S, Hf, R, ?_⟩
  unfold fFor RE.bindS at q
  cases e : f ρ S with
  | ok d S' =>
    simp only [e] at q
    intro v H' Hf' T hv
    cases hv with
    | dct _ _ _ _ _ => exact q.elim
    | ins _ _ _ _ => exact q.elim
    | lst a l b =>
      exact ⟨_, rfl, ⟨_, .inl (.inl (T.rel.sub _ _ a))⟩, by rw [← hK]; exact post_for (Walks.list (.inl (.inl a)) b) hg T.rel (q.mono T.same)⟩
    | non => exact q.elim
    | bl _ => exact q.elim
    | int _ => exact q.elim
    | str _ => exact q.elim
    | tup _ _ _ => exact q.elim
  | er n v => simp only [e] at q; exact q
  | bad => simp only [e] at q; exact q.elim
theorem sv_forT {tg iter : Expr} {body : List Stmt} {pos : Pos} {f : FE} {fb : FS} {g : TG} {fg : FG} (hK : M.K = X.K) (hg : SimG M g fg) (h : PS X (.For tg iter body [] pos) (tFor (iTup X.K (rdE M f)) g (rdS M fb))) : PS X (.For tg iter body [] pos) (rdS M (fFor tupOf f fg fb)) := ps_weak h fun D σ H ⟨ρ, S, Hf, R, q⟩ => by
  refine ⟨ρ, S, Hf, R, ?_⟩
  unfold fFor RE.bindS at q
  cases e : f ρ S with
  | ok d S' =>
    simp only [e] at q
    intro v H' Hf' T hv
    cases hv with
    | dct _ _ _ _ _ => exact q.elim
    | ins _ _ _ _ => exact q.elim
    | tup a l b =>
      exact ⟨_, rfl, ⟨_, by rw [← hK]; exact Kp.sqT (.of T.rel.sub) a⟩, by rw [← hK]; exact post_for (Walks.tuple a b) hg T.rel (q.mono T.same)⟩
    | non => exact q.elim
    | bl _ => exact q.elim
    | int _ => exact q.elim
    | str _ => exact q.elim
    | lst _ _ _ => exact q.elim
  | er n v => simp only [e] at q; exact q
  | bad => simp only [e] at q; exact q.elim
theorem sv_forR1 {tg iter : Expr} {body : List Stmt} {pos : Pos} {f : FE} {fb : FS} {g : TG} {fg : FG} (hg : SimG M g fg) (h : PS X (.For tg iter body [] pos) (tFor (iRng1 (tCons (rdE M f) tNil)) g (rdS M fb))) : PS X (.For tg iter body [] pos) (rdS M (fForR1 f fg fb)) := ps_weak h fun D σ H ⟨ρ, S, Hf, R, q⟩ => by
  refine ⟨ρ, S, Hf, R, ?_⟩
  unfold fForR1 RE.bindS at q
  cases e : f ρ S with
  | ok d S' =>
    simp only [e] at q
    intro v H' Hf' T hv
    cases hv with
    | dct _ _ _ _ _ => exact q.elim
    | ins _ _ _ _ => exact q.elim
    | int n =>
      simp only at q
      split at q
      · rename_i hn
        exact ⟨n, rfl, hn.2, hn.1, post_for Walks.range hg T.rel (q.mono T.same)⟩
      · exact q.elim
    | non => exact q.elim
    | bl _ => exact q.elim
    | lst _ _ _ => exact q.elim
    | str _ => exact q.elim
    | tup _ _ _ => exact q.elim
  | er n v => simp only [e] at q; exact q
  | bad => simp only [e] at q; exact q.elim
end
end PD

set_option Elab.async false
set_option linter.all false
set_option maxRecDepth 100000
set_option maxHeartbeats 2000000
namespace PD
open PySem PySem.Spec PyProof.Rows L2 RB
/-! ### arguments -/
inductive OVs (K : PySem.W.Frag) (Hf : Hp) (σ : L2.St) (ρ : DEnv) : List V → List Dat → Prop
  | nil : OVs K Hf σ ρ [] []
  | cons {v : V} {vs : List V} {d : Dat} {ds : List Dat} : OV K Hf σ ρ v d → OVs K Hf σ ρ vs ds → OVs K Hf σ ρ (v :: vs) (d :: ds)
inductive GVs (K : PySem.W.Frag) (Hf H : Hp) : List V → List Dat → Prop
  | nil : GVs K Hf H [] []
  | cons {v : V} {vs : List V} {d : Dat} {ds : List Dat} : GV K Hf H v d → GVs K Hf H vs ds → GVs K Hf H (v :: vs) (d :: ds)
theorem OVs.gvs {M : Me} {σ : L2.St} {H : Hp} {ρ : DEnv} {S : Fld} {Hf : Hp} (R : Rel M σ H ρ S Hf) : ∀ {vs : List V} {ds : List Dat}, OVs M.K Hf σ ρ vs ds → GVs M.K Hf H vs ds
  | _, _, .nil => .nil
  | _, _, .cons a t => .cons (a.gv R) (OVs.gvs R t)
theorem OVs.same {K : PySem.W.Frag} {Hf Hf' : Hp} {σ : L2.St} {ρ : DEnv} (s : Same Hf Hf') : ∀ {vs : List V} {ds : List Dat}, OVs K Hf σ ρ vs ds → OVs K Hf' σ ρ vs ds
  | _, _, .nil => .nil
  | _, _, .cons a t => .cons (a.same s) (OVs.same s t)
def rdAO (M : Me) (f : FA) : TA := fun σ H Q => ∃ ρ S Hf, Rel M σ H ρ S Hf ∧ match f ρ S with
  | .ok d S' => ∀ v H' Hf', Stp M σ ρ Hf H S' Hf' H' → OVs M.K Hf' σ ρ v d → Q v H'
  | .er n v => M.Er n v
  | .bad => False
section
variable {X : Cx} {M : Me}
theorem av_nil : PA X [] (rdA M fNil) := pa_weak pa_nil fun σ H Q ⟨ρ, S, Hf, R, q⟩ => q [] H Hf (.refl R) .nil
theorem aw_nil : PA X [] (rdAO M fNil) := pa_weak pa_nil fun σ H Q ⟨ρ, S, Hf, R, q⟩ => q [] H Hf (.refl R) .nil
theorem av_cons {e : Expr} {es : List Expr} {f : FE} {g : FA} (he : PE X e (rdE M f)) (hr : PA X es (rdA M g)) (hs : starEach (e :: es) X.env = (false, eval e X.env) :: starEach es X.env := by rfl) : PA X (e :: es) (rdA M (fCons f g)) := pa_weak (pa_cons he hr hs) fun σ H Q ⟨ρ, S, Hf, R, q⟩ => by
  refine ⟨ρ, S, Hf, R, ?_⟩
  unfold fCons RE.bindA RA.bindA at q
  cases e1 : f ρ S with
  | ok d S1 =>
    simp only [e1] at q
    intro v H1 Hf1 T1 hv
    refine ⟨ρ, S1, Hf1, T1.rel, ?_⟩
    cases e2 : g ρ S1 with
    | ok ds S2 => simp only [e2] at q ⊢; exact fun vs H2 Hf2 T2 hvs => q _ H2 Hf2 (T1.trans T2) (.cons (hv.same T2.same) hvs)
    | er n v => simp only [e2] at q; exact q
    | bad => simp only [e2] at q
  | er n v => simp only [e1] at q; exact q
  | bad => simp only [e1] at q
theorem aw_cons {e : Expr} {es : List Expr} {f : FE} {g : FA} (he : PE X e (rdO M f)) (hr : PA X es (rdAO M g)) (hs : starEach (e :: es) X.env = (false, eval e X.env) :: starEach es X.env := by rfl) : PA X (e :: es) (rdAO M (fCons f g)) := pa_weak (pa_cons he hr hs) fun σ H Q ⟨ρ, S, Hf, R, q⟩ => by
  refine ⟨ρ, S, Hf, R, ?_⟩
  unfold fCons RE.bindA RA.bindA at q
  cases e1 : f ρ S with
  | ok d S1 =>
    simp only [e1] at q
    intro v H1 Hf1 T1 hv
    refine ⟨ρ, S1, Hf1, T1.rel, ?_⟩
    cases e2 : g ρ S1 with
    | ok ds S2 => simp only [e2] at q ⊢; exact fun vs H2 Hf2 T2 hvs => q _ H2 Hf2 (T1.trans T2) (.cons (hv.same T2.same) hvs)
    | er n v => simp only [e2] at q; exact q
    | bad => simp only [e2] at q
  | er n v => simp only [e1] at q; exact q
  | bad => simp only [e1] at q
/-! ### displays -/
def mkT : List Dat → Option Dat := fun ds => if ds.length ≤ 100000 then some (.tup ds) else none
def mkL : List Dat → Option Dat := fun ds => if ds.length ≤ 100000 then some (.lst ds) else none
theorem line5 {n : Nat} (h : n ≤ 100000) : n ≤ sizeLine := Nat.le_trans h (by rw [sizeLine_eq]; decide)
theorem ev_tup {es : List Expr} {x1} {pos : Pos} {f : FA} (h : PA X es (rdA M f)) : PE X (.Tuple es x1 pos) (rdE M (fApp mkT f)) := pe_weak (pe_tup h) fun σ H Q ⟨ρ, S, Hf, R, q⟩ => by
  refine ⟨ρ, S, Hf, R, ?_⟩
  unfold fApp RA.bind mkT at q
  cases e1 : f ρ S with
  | ok ds S1 =>
    simp only [e1] at q
    intro vs H1 Hf1 T1 hv
    split at q
    · rename_i d S2 e
      split at e
      · rename_i hl
        cases e
        have hl' : vs.length ≤ 100000 := by rw [hv.length]; exact hl
        refine ⟨line5 hl', fun p hp => q _ _ _ (T1.new hp (fun _ z => nomatch z)) (.tup (.inl (.inl upd_same)) hl' (hv.same (upd_new (none_of_same T1.rel.sub hp))))⟩
      · cases e
    · rename_i n v e
      split at e <;> cases e
    · exact q.elim
  | er n v => simp only [e1] at q; exact q
  | bad => simp only [e1] at q
theorem ev_lst {es : List Expr} {pos : Pos} {f : FA} (h : PA X es (rdA M f)) : PE X (.List es pos) (rdE M (fApp mkL f)) := pe_weak (pe_lst h) fun σ H Q ⟨ρ, S, Hf, R, q⟩ => by
  refine ⟨ρ, S, Hf, R, ?_⟩
  unfold fApp RA.bind mkL at q
  cases e1 : f ρ S with
  | ok ds S1 =>
    simp only [e1] at q
    intro vs H1 Hf1 T1 hv
    split at q
    · rename_i d S2 e
      split at e
      · rename_i hl
        cases e
        have hl' : vs.length ≤ 100000 := by rw [hv.length]; exact hl
        refine ⟨line5 hl', fun p hp => q _ _ _ (T1.new hp (fun _ z => nomatch z)) (.lst upd_same hl' (hv.same (upd_new (none_of_same T1.rel.sub hp))))⟩
      · cases e
    · rename_i n v e
      split at e <;> cases e
    · exact q.elim
  | er n v => simp only [e1] at q; exact q
  | bad => simp only [e1] at q
/-! ### calls of the language's own things -/
def SimN (K : PySem.W.Frag) (r : List V → Hp → VK → Prop) (o : List Dat → Option Dat) : Prop := ∀ (xs : List V) (H Hf : Hp) (ds : List Dat) (z : Dat) (Q : VK), Same Hf H → GVs K Hf H xs ds → o ds = some z → (∀ v, DV K Hf v z → Q v H) → (∀ p ob v, H p = none → (∀ ps, ob ≠ .tbl ps) → DV K (upd Hf p ob) v z → Q v (upd H p ob)) → r xs H Q
theorem rd_app {K : PySem.W.Frag} (hK : M.K = K) {r : List V → Hp → VK → Prop} {o : List Dat → Option Dat} (hs : SimN K r o) {fa : FA} {σ : L2.St} {H : Hp} {Q : VK} (h : rdE M (fApp o fa) σ H Q) : rdAO M fa σ H fun x H1 => r x H1 Q := by
  obtain ⟨ρ, S, Hf, R, q⟩ := h
  refine ⟨ρ, S, Hf, R, ?_⟩
  unfold fApp RA.bind at q
  cases ea : fa ρ S with
  | er n v => rw [ea] at q; exact q
  | bad => rw [ea] at q; exact q
  | ok dx S1 =>
    rw [ea] at q
    intro x H1 Hf1 T1 hx
    unfold ofO at q
    cases eo : o dx with
    | none => simp only [eo] at q
    | some z =>
      simp only [eo] at q
      subst hK
      exact hs x H1 Hf1 dx z Q T1.rel.sub (hx.gvs T1.rel) eo (fun v hv => q v H1 Hf1 T1 hv) fun p ob v hp no hv => q v _ _ (T1.new hp no) hv
theorem ev_call_ {e : Expr} {r : List V → Hp → VK → Prop} {o : List Dat → Option Dat} {fa : FA} (hK : M.K = X.K) (hs : SimN X.K r o) (h : PE X e (tCB r (rdAO M fa))) : PE X e (rdE M (fApp o fa)) := pe_weak h fun σ H Q q => rd_app hK hs q
/-- a method of a built-in type -/
def fMt (ty : Dat → Bool) (o : Dat → List Dat → Option Dat) (a : FE) (as : FA) : FE := fun ρ S => (a ρ S).bind fun x S1 => if ty x = true then (as ρ S1).bind fun xs S2 => ofO (o x xs) S2 else .bad
structure SimM (K : PySem.W.Frag) (T : String) (r : V → List V → Hp → VK → Prop) (ty : Dat → Bool) (o : Dat → List Dat → Option Dat) : Prop where
  ty : ∀ x H Hf d, Same Hf H → GV K Hf H x d → ty d = true → tyV K T x H
  run : ∀ (x : V) (xs : List V) (H Hf : Hp) (dx : Dat) (ds : List Dat) (z : Dat) (Q : VK), Same Hf H → GV K Hf H x dx → GVs K Hf H xs ds → o dx ds = some z → (∀ v, DV K Hf v z → Q v H) → (∀ p ob v, H p = none → (∀ ps, ob ≠ .tbl ps) → DV K (upd Hf p ob) v z → Q v (upd H p ob)) → r x xs H Q
theorem ev_mt {e : Expr} {T : String} {r : V → List V → Hp → VK → Prop} {ty : Dat → Bool} {o : Dat → List Dat → Option Dat} {fa : FE} {fs : FA} (hK : M.K = X.K) (hs : SimM X.K T r ty o) (h : PE X e (tBM X.K T r (rdO M fa) (rdAO M fs))) : PE X e (rdE M (fMt ty o fa fs)) := pe_weak h fun σ H Q ⟨ρ, S, Hf, R, q⟩ => by
  refine ⟨ρ, S, Hf, R, ?_⟩
  unfold fMt RE.bind RA.bind at q
  cases e1 : fa ρ S with
  | ok d S1 =>
    simp only [e1] at q
    intro x H1 Hf1 T1 hx
    by_cases ht : ty d = true
    · rw [if_pos ht] at q
      refine ⟨hs.ty x H1 Hf1 d T1.rel.sub (by rw [← hK]; exact hx.gv T1.rel) ht, ρ, S1, Hf1, T1.rel, ?_⟩
      cases e2 : fs ρ S1 with
      | ok ds S2 =>
        simp only [e2] at q ⊢
        intro xs H2 Hf2 T2 hxs
        unfold ofO at q
        cases eo : o d ds with
        | none => simp only [eo] at q
        | some z =>
          simp only [eo] at q
          exact hs.run x xs H2 Hf2 d ds z Q T2.rel.sub (by rw [← hK]; exact (hx.same T2.same).gv T2.rel) (by rw [← hK]; exact hxs.gvs T2.rel) eo (fun v hv => q v H2 Hf2 (T1.trans T2) (by rw [hK]; exact hv)) fun p ob v hp no hv => q v _ _ ((T1.trans T2).new hp no) (by rw [hK]; exact hv)
      | er n v => simp only [e2] at q; exact q
      | bad => simp only [e2] at q
    · rw [if_neg ht] at q
      exact q.elim
  | er n v => simp only [e1] at q; exact q
  | bad => simp only [e1] at q
theorem ev_mt0 {e : Expr} {T : String} {r : V → List V → Hp → VK → Prop} {ty : Dat → Bool} {o : Dat → List Dat → Option Dat} {fa : FE} (hK : M.K = X.K) (hs : SimM X.K T r ty o) (h : PE X e (tBM0 X.K T r (rdO M fa))) : PE X e (rdE M (fMt ty o fa fNil)) := pe_weak h fun σ H Q ⟨ρ, S, Hf, R, q⟩ => by
  refine ⟨ρ, S, Hf, R, ?_⟩
  unfold fMt RE.bind RA.bind fNil at q
  cases e1 : fa ρ S with
  | ok d S1 =>
    simp only [e1] at q
    intro x H1 Hf1 T1 hx
    by_cases ht : ty d = true
    · rw [if_pos ht] at q
      refine ⟨hs.ty x H1 Hf1 d T1.rel.sub (by rw [← hK]; exact hx.gv T1.rel) ht, ?_⟩
      unfold ofO at q
      cases eo : o d [] with
      | none => simp only [eo] at q
      | some z =>
        simp only [eo] at q
        exact hs.run x [] H1 Hf1 d [] z Q T1.rel.sub (by rw [← hK]; exact hx.gv T1.rel) .nil eo (fun v hv => q v H1 Hf1 T1 (by rw [hK]; exact hv)) fun p ob v hp no hv => q v _ _ (T1.new hp no) (by rw [hK]; exact hv)
    · rw [if_neg ht] at q
      exact q.elim
  | er n v => simp only [e1] at q; exact q
  | bad => simp only [e1] at q
/-! ### a subscript, a slice -/
theorem ev_ix {a b : Expr} {pos : Pos} {r : R2} {o : Dat → Dat → Option Dat} {fa fb : FE} (hr : IxR X r) (hs : PlainIx b) (hK : M.K = X.K) (hm : Sim2 X.K r o) (ha : PE X a (rdO M fa)) (hb : PE X b (rdO M fb)) : PE X (.Subscript a b pos) (rdE M (fOp o fa fb)) := pe_weak (pe_ix hr ha hb hs) fun σ H Q h => rd_op hK hm h
/-- an optional part of a slice -/
abbrev FO := DEnv → Fld → Option (Option (Option Int × Fld))
def fSl (o : Dat → Option Int → Option Int → Option Dat) (a : FE) (lo hi : Option FE) : FE := fun ρ S => (a ρ S).bind fun x S1 => match lo, hi with
  | none, none => ofO (o x none none) S1
  | some f, none => (f ρ S1).bind fun l S2 => match l with
    | .int i => ofO (o x (some i) none) S2
    | _ => .bad
  | none, some f => (f ρ S1).bind fun l S2 => match l with
    | .int i => ofO (o x none (some i)) S2
    | _ => .bad
  | some f, some g => (f ρ S1).bind fun l S2 => match l with
    | .int i => (g ρ S2).bind fun u S3 => match u with
      | .int j => ofO (o x (some i) (some j)) S3
      | _ => .bad
    | _ => .bad
def SimS (K : PySem.W.Frag) (r : V → Option Int → Option Int → Hp → VK → Prop) (o : Dat → Option Int → Option Int → Option Dat) : Prop := ∀ (x : V) (l u : Option Int) (H Hf : Hp) (dx z : Dat) (Q : VK), Same Hf H → GV K Hf H x dx → o dx l u = some z → (∀ v, DV K Hf v z → Q v H) → (∀ p ob v, H p = none → (∀ ps, ob ≠ .tbl ps) → DV K (upd Hf p ob) v z → Q v (upd H p ob)) → r x l u H Q
inductive PartOf (M : Me) (X : Cx) : Option Expr → Option FE → TO → Prop
  | no : PartOf M X none none tNoPart
  | yes {e : Expr} {f : FE} : PE X e (rdE M f) → PartOf M X (some e) (some f) (tPart (rdE M f))
theorem PartOf.po {lo : Option Expr} {fl : Option FE} {t : TO} (h : PartOf M X lo fl t) : PO X lo t := by
  cases h with
  | no => exact po_none
  | yes h => exact po_some h
theorem ev_sl {e : Expr} {lo hi : Option Expr} {p2 pos : Pos} {r : V → Option Int → Option Int → Hp → VK → Prop} {o : Dat → Option Int → Option Int → Option Dat} {fa : FE} {fl fh : Option FE} {tl th : TO} (hr : SlR X r) (hK : M.K = X.K) (hm : SimS X.K r o) (ha : PE X e (rdO M fa)) (hl : PartOf M X lo fl tl) (hh : PartOf M X hi fh th) :
    PE X (.Subscript e (.Slice lo hi none p2) pos) (rdE M (fSl o fa fl fh)) := pe_weak (pe_slice hr ha hl.po hh.po) fun σ H Q ⟨ρ, S, Hf, R, q⟩ => by
  refine ⟨ρ, S, Hf, R, ?_⟩
  unfold fSl RE.bind at q
  cases e1 : fa ρ S with
  | er n v => simp only [e1] at q; exact q
  | bad => simp only [e1] at q
  | ok d S1 =>
    simp only [e1] at q
    intro x H1 Hf1 T1 hx
    have fin : ∀ {l u : Option Int} {H2 Hf2 : Hp} {S2 : Fld}, Stp M σ ρ Hf1 H1 S2 Hf2 H2 → (match ofO (o d l u) S2 with
        | .ok d S' => ∀ v H' Hf', Stp M σ ρ Hf H S' Hf' H' → DV M.K Hf' v d → Q v H'
        | .er n v => M.Er n v
        | .bad => False) → r x l u H2 Q := fun {l u H2 Hf2 S2} T2 q => by
      unfold ofO at q
      cases eo : o d l u with
      | none => simp only [eo] at q
      | some z =>
        simp only [eo] at q
        exact hm x l u H2 Hf2 d z Q T2.rel.sub (by rw [← hK]; exact (hx.same T2.same).gv T2.rel) eo (fun v hv => q v H2 Hf2 (T1.trans T2) (by rw [hK]; exact hv)) fun p ob v hp no hv => q v _ _ ((T1.trans T2).new hp no) (by rw [hK]; exact hv)
    cases hl with
    | no =>
      cases hh with
      | no => exact fin (.refl T1.rel) q
      | @yes _ f h =>
        refine ⟨ρ, S1, Hf1, T1.rel, ?_⟩
        simp only at q
        cases e2 : f ρ S1 with
        | er n v => simp only [e2] at q; exact q
        | bad => simp only [e2] at q
        | ok y S2 =>
          simp only [e2] at q
          intro v H2 Hf2 T2 hv
          cases hv with
          | dct _ _ _ _ _ => exact q.elim
          | ins _ _ _ _ => exact q.elim
          | int i => exact ⟨i, rfl, fin T2 q⟩
          | non => exact q.elim
          | bl _ => exact q.elim
          | str _ => exact q.elim
          | lst _ _ _ => exact q.elim
          | tup _ _ _ => exact q.elim
    | @yes _ f h =>
      refine ⟨ρ, S1, Hf1, T1.rel, ?_⟩
      cases hh with
      | no =>
        simp only at q
        cases e2 : f ρ S1 with
        | er n v => simp only [e2] at q; exact q
        | bad => simp only [e2] at q
        | ok y S2 =>
          simp only [e2] at q
          intro v H2 Hf2 T2 hv
          cases hv with
          | dct _ _ _ _ _ => exact q.elim
          | ins _ _ _ _ => exact q.elim
          | int i => exact ⟨i, rfl, fin T2 q⟩
          | non => exact q.elim
          | bl _ => exact q.elim
          | str _ => exact q.elim
          | lst _ _ _ => exact q.elim
          | tup _ _ _ => exact q.elim
      | @yes _ g h' =>
        simp only at q
        cases e2 : f ρ S1 with
        | er n v => simp only [e2] at q; exact q
        | bad => simp only [e2] at q
        | ok y S2 =>
          simp only [e2] at q
          intro v H2 Hf2 T2 hv
          cases hv with
          | dct _ _ _ _ _ => exact q.elim
          | ins _ _ _ _ => exact q.elim
          | int i =>
            refine ⟨i, rfl, ρ, S2, Hf2, T2.rel, ?_⟩
            simp only at q
            cases e3 : g ρ S2 with
            | er n v => simp only [e3] at q; exact q
            | bad => simp only [e3] at q
            | ok y2 S3 =>
              simp only [e3] at q
              intro v3 H3 Hf3 T3 hv3
              cases hv3 with
              | dct _ _ _ _ _ => exact q.elim
              | ins _ _ _ _ => exact q.elim
              | int j => exact ⟨j, rfl, fin (T2.trans T3) q⟩
              | non => exact q.elim
              | bl _ => exact q.elim
              | str _ => exact q.elim
              | lst _ _ _ => exact q.elim
              | tup _ _ _ => exact q.elim
          | non => exact q.elim
          | bl _ => exact q.elim
          | str _ => exact q.elim
          | lst _ _ _ => exact q.elim
          | tup _ _ _ => exact q.elim
end
/-! ### defs -/
inductive RF where
  | ok (d : Dat) | er (n : Str) (v : Dat) | bad
/-- a def of n arguments that computes F: all that stood stays -/
def spF (K : PySem.W.Frag) (ec : Str → Addr) (n : Nat) (F : List Dat → RF) : Sp := fun vs H Q E => ∃ (ds : List Dat) (Hs : Hp), ds.length = n ∧ Same Hs H ∧ DVs K Hs vs ds ∧ match F ds with
  | .ok d => ∀ v H' Hs', Same H H' → Same Hs Hs' → Same Hs' H' → (∀ b, Hs' b ≠ none → Hs b ≠ none ∨ H b = none) → (∀ b ps, Hs' b = some (.tbl ps) → Hs b = some (.tbl ps)) → DV K Hs' v d → Q v H'
  | .er m v => ∀ dd H', Same H H' → H dd = none → H' dd = some (.xd (errF m v)) → E (.ref (ec m)) (some dd) H'
  | .bad => False
def RF.re (r : RF) (S : Fld) : RE := match r with
  | .ok d => .ok d S
  | .er n v => .er n v
  | .bad => .bad
def fCall (F : List Dat → RF) (a : FA) : FE := fun ρ S => (a ρ S).bind fun ds S1 => (F ds).re S1
/-- behind a call: what the def holds stands as before -/
theorem Rel.called {M : Me} {σ : L2.St} {H H' : Hp} {ρ : DEnv} {S : Fld} {Hf Hs' : Hp} (R : Rel M σ H ρ S Hf) (s1 : Same H H') (s2 : Same Hf Hs') (s3 : Same Hs' H') (fr : ∀ b, Hs' b ≠ none → Hf b ≠ none ∨ H b = none) (nt : ∀ b ps, Hs' b = some (.tbl ps) → Hf b = some (.tbl ps)) : Rel M σ H' ρ S Hs' := by
  have nn : ∀ {p : Addr} {o : HO}, H p = some o → Hf p = none → Hs' p = none := fun {p o} e n => by
    cases z : Hs' p with
    | none => rfl
    | some u =>
      rcases fr p (by rw [z]; simp) with q | q
      · exact (q n).elim
      · rw [e] at q
        cases q
  refine ⟨R.len, R.base.trans s2, s3, fun b o e m => s1 _ _ (R.full b o e m), fun b e => ?_, R.ownF, fun i s e => ?_, R.inj, fun x kd e => ?_, tabs_same R.tabs s1, fun z hz => (R.tabs z hz).elim fun _ h => nn h.1 (R.tabf z hz), fun b ps e => R.notb b ps (nt b ps e), fun b m => (R.subAt m).elim fun _ h => ⟨nn h.1 (R.subs b m).1, (R.subs b m).2⟩⟩
  · rcases fr b e with q | q
    · exact R.fresh b q
    · exact .inr (R.H0none q)
  · obtain ⟨v, h1, h2⟩ := R.slot i s e
    refine ⟨v, h1, ?_⟩
    cases s with
    | v d => exact DV.same s2 h2
    | me => exact h2
    | me2 => exact h2
    | own ds =>
      obtain ⟨q, vs, rfl, a, b, c, d⟩ := h2
      exact ⟨q, vs, rfl, s1 _ _ a, nn a b, c, d.same s2⟩
  · obtain ⟨h1, h0, h2⟩ := R.me x kd e
    obtain ⟨_, hx⟩ := h2.there
    exact ⟨nn hx h1, h0, h2.mono (fun b o _ z => s1 _ _ z) s2⟩
section
variable {X : Cx} {M : Me}
theorem passZ {E : XK} : Passes CX0 X E := fun _ _ _ _ _ _ _ h => h.elim
theorem ev_callF {e : Expr} {n : Nat} {F : List Dat → RF} {fa : FA} {ec : Str → Addr} {K' : PySem.W.Frag} (hK : M.K = K') (hec : M.ec = ec) (hn : ∀ ρ S ds S', fa ρ S = .ok ds S' → ds.length = n) (h : PE X e (tCall (spF K' ec n F) [] M.E (rdA M fa))) : PE X e (rdE M (fCall F fa)) := pe_weak h fun σ H Q ⟨ρ, S, Hf, R, q⟩ => by
  refine ⟨ρ, S, Hf, R, ?_⟩
  unfold fCall RA.bind at q
  cases e1 : fa ρ S with
  | er n v => simp only [e1] at q; exact q
  | bad => simp only [e1] at q
  | ok ds S1 =>
    simp only [e1] at q
    intro vs H1 Hf1 T1 hv
    refine ⟨ds, Hf1, hn _ _ _ _ e1, T1.rel.sub, ?_, ?_⟩
    · rw [List.append_nil, ← hK]
      exact hv
    · unfold RF.re at q
      cases eF : F ds with
      | ok d =>
        simp only [eF] at q
        intro v H' Hs' s1 s2 s3 fr nt hd
        refine q v H' Hs' (T1.trans ⟨T1.rel.called s1 s2 s3 fr nt, s2, fun b o e _ _ => s1 _ _ e, fshN fr⟩) ?_
        rw [hK]
        exact hd
      | er m v =>
        simp only [eF] at q
        intro dd H' s1 h1 h2
        rw [← hec]
        exact q dd H' (fun b o e m => s1 _ _ (T1.rel.full b o e m)) (T1.rel.H0none h1) h2
      | bad => simp only [eF] at q
/-- how many arguments -/
theorem len_nil : ∀ ρ S ds S', fNil ρ S = .ok ds S' → ds.length = 0 := fun ρ S ds S' e => by cases e; rfl
theorem len_cons {f : FE} {g : FA} {n : Nat} (h : ∀ ρ S ds S', g ρ S = .ok ds S' → ds.length = n) : ∀ ρ S ds S', fCons f g ρ S = .ok ds S' → ds.length = n + 1 := fun ρ S ds S' e => by
  unfold fCons RE.bindA RA.bindA at e
  cases e1 : f ρ S with
  | ok d S1 =>
    simp only [e1] at e
    cases e2 : g ρ S1 with
    | ok xs S2 =>
      simp only [e2] at e
      cases e
      exact congrArg Nat.succ (h _ _ _ _ e2)
    | er n v => simp only [e2] at e; cases e
    | bad => simp only [e2] at e; cases e
  | er n v => simp only [e1] at e; cases e
  | bad => simp only [e1] at e; cases e
end
/-- a def's body as a function of its arguments: N names, what is left out is none -/
def startD (N : Nat) (ds : List Dat) : DEnv := (ds.map fun d => some (Slot.v d)) ++ List.replicate (N - ds.length) none
def runF (N : Nat) (f : FS) (ds : List Dat) : RF := match f (startD N ds) [] with
  | .rt d _ => .ok d
  | .nx _ _ => .ok .non
  | .er n v => .er n v
  | _ => .bad
end PD

set_option Elab.async false
set_option linter.all false
set_option maxRecDepth 100000
set_option maxHeartbeats 2000000
namespace PD
open PySem PySem.Spec PyProof.Rows L2 RB
/-! ### defs keep their functions -/
theorem rel_start {K : PySem.W.Frag} {H Hs : Hp} {E : XK} {ec : Str → Addr} {N : List Str} {vs : List V} {ds : List Dat} (s : Same Hs H) (hv : DVs K Hs vs ds) : Rel ⟨K, H, Hs, E, ec, none, []⟩ (L2.start N vs) H (startD N.length ds) [] Hs := by
  have hl := hv.length
  have no : ∀ (i : Nat) (s : Slot), (startD N.length ds)[i]? = some (some s) → ∃ d, ds[i]? = some d ∧ s = .v d := fun i s e => by
    unfold startD at e
    rw [List.getElem?_append] at e
    split at e
    · rw [List.getElem?_map] at e
      cases q : ds[i]? with
      | none => rw [q] at e; cases e
      | some d =>
        rw [q] at e
        cases e
        exact ⟨d, rfl, rfl⟩
    · rw [List.getElem?_replicate] at e
      split at e <;> cases e
  refine ⟨?_, Same.refl _, s, fun b o e _ => e, fun b e => .inl e, fun i xs p e1 e2 => ?_, fun i s e => ?_, fun i j xs ys p n e1 e2 e3 => ?_, fun x k e => (nomatch e), fun z hz => (nomatch hz), fun z hz => (nomatch hz), (fun _ _ e => e), fun _ ⟨_, _, e, _⟩ => nomatch e⟩
  · unfold L2.start startD
    simp [hl]
  · obtain ⟨d, _, z⟩ := no _ _ e1
    cases z
  · obtain ⟨d, hd, rfl⟩ := no _ _ e
    obtain ⟨x, hx, hxd⟩ := hv.get hd
    refine ⟨x, ?_, hxd⟩
    unfold L2.start
    have : i < vs.length := by
      rcases Nat.lt_or_ge i vs.length with z | z
      · exact z
      · rw [List.getElem?_eq_none z] at hx
        cases hx
    rw [List.getElem?_append_left (by simpa using this), List.getElem?_map, hx]
    rfl
  · obtain ⟨d, _, z⟩ := no _ _ e1
    cases z
section
variable {P : Program} {w : World} {K : PySem.W.Frag} {mg : Str → Option Value} {base : Heap}
theorem post_end {H Hs : Hp} {E : XK} {ec : Str → Addr} {N n : Nat} {f : FS} {ds : List Dat} {Q : VK} (q : match runF N f ds with
  | .ok d => ∀ v H' Hs', Same H H' → Same Hs Hs' → Same Hs' H' → (∀ b, Hs' b ≠ none → Hs b ≠ none ∨ H b = none) → (∀ b ps, Hs' b = some (.tbl ps) → Hs b = some (.tbl ps)) → DV K Hs' v d → Q v H'
  | .er m v => ∀ dd H', Same H H' → H dd = none → H' dd = some (.xd (errF m v)) → E (.ref (ec m)) (some dd) H'
  | .bad => False) : Post ⟨K, H, Hs, E, ec, none, []⟩ Hs { nx := fun _ H' => Q .non H', rt := Q } (f (startD N ds) []) := by
  have nm : ∀ b, ¬ Me.mine ⟨K, H, Hs, E, ec, none, []⟩ b := fun b m => m.elim (fun ⟨k, z⟩ => nomatch z) fun m => m.elim (fun ⟨q, z⟩ => nomatch z) fun ⟨_, _, z, _⟩ => nomatch z
  unfold runF at q
  cases e : f (startD N ds) [] with
  | rt d S => rw [e] at q; exact fun v σ H' ρ Hf' R hd => q v H' Hf' (fun b o z => R.full b o z (nm b)) R.base R.sub R.fresh R.notb hd
  | nx ρ S => rw [e] at q; exact fun σ H' Hf' R s => q .non H' Hf' (fun b o z => R.full b o z (nm b)) R.base R.sub R.fresh R.notb .non
  | er m v => rw [e] at q; exact fun dd H' full h1 h2 => q dd H' (fun b o z => full b o z (nm b)) h1 h2
  | bk ρ S => rw [e] at q; exact q.elim
  | ct ρ S => rw [e] at q; exact q.elim
  | bad => rw [e] at q; exact q.elim
theorem fnF {x qual : Str} {st : Stmt} {f : Addr} {fd : FuncData} {N ps : List Str} {k n : Nat} {F : FS} {ec : Str → Addr} (Fu : L2.Fun K x qual st f fd) (S : FnScope N ps (defScope st)) (hn : ps.length = n)
    (body : ∀ (cdv : Value) (A : Around) (outer : List PySem.Env) (s : Shared) (H Hs : Hp) (E : XK), Room k (A.deeper (envOfC qual (defScope st) s.heap.objs.size f cdv)) → PSs (cxOf CX0 P w K mg base N qual (defScope st) f cdv A outer s H E).nox (defBody st) (rdS ⟨K, H, Hs, E, ec, none, []⟩ F)) :
    FnOk P w K mg base CX0 (k + 1) f fd ps (spF K ec n (runF N.length F)) := by
  refine Fu.ok S (fun vs H Q E h => ?_) (fun cdv A outer s H vs Q E hr h => ?_)
  · obtain ⟨ds, Hs, h1, _, h2, _⟩ := h
    rw [h2.length, h1, hn]
  · obtain ⟨ds, Hs, h1, h2, h3, q⟩ := h
    exact ⟨_, body cdv A outer s H Hs E hr, startD N.length ds, [], Hs, rel_start h2 h3, post_end (n := n) q⟩
theorem fnFX {x qual : Str} {st : Stmt} {f : Addr} {fd : FuncData} {N ps : List Str} {k n : Nat} {F : FS} {ec : Str → Addr} (Fu : L2.Fun K x qual st f fd) (S : FnScope N ps (defScope st)) (hn : ps.length = n)
    (body : ∀ (cdv : Value) (A : Around) (outer : List PySem.Env) (s : Shared) (H Hs : Hp) (E : XK), Room k (A.deeper (envOfC qual (defScope st) s.heap.objs.size f cdv)) → PSs (cxOf (L2.CX P w) P w K mg base N qual (defScope st) f cdv A outer s H E) (defBody st) (rdS ⟨K, H, Hs, E, ec, none, []⟩ F)) :
    FnOk P w K mg base (L2.CX P w) (k + 1) f fd ps (spF K ec n (runF N.length F)) := by
  refine Fu.okX S (fun vs H Q E h => ?_) (fun cdv A outer s H vs Q E hr h => ?_)
  · obtain ⟨ds, Hs, h1, _, h2, _⟩ := h
    rw [h2.length, h1, hn]
  · obtain ⟨ds, Hs, h1, h2, h3, q⟩ := h
    exact ⟨_, body cdv A outer s H Hs E hr, startD N.length ds, [], Hs, rel_start h2 h3, post_end (n := n) q⟩
end
/-! ### comprehensions -/
def wipeD (ρ : DEnv) : List Nat → DEnv
  | [] => ρ
  | v :: vs => (wipeD ρ vs).set v none
theorem Rel.wipe {M : Me} {σ : L2.St} {H : Hp} {ρ : DEnv} {S : Fld} {Hf : Hp} (R : Rel M σ H ρ S Hf) : ∀ vs : List Nat, Rel M (L2.wipe σ vs) H (wipeD ρ vs) S Hf
  | [] => R
  | _ :: vs => (R.wipe vs).forget
theorem wipe_get (σ : L2.St) (j : Nat) : ∀ vs : List Nat, (L2.wipe σ vs)[j]? = if j ∈ vs then (σ[j]?).map (fun _ => none) else σ[j]?
  | [] => by simp [L2.wipe]
  | v :: vs => by
    show ((L2.wipe σ vs).set v none)[j]? = _
    rw [List.getElem?_set]
    by_cases h : v = j
    · subst h
      rw [if_pos rfl, if_pos List.mem_cons_self, wipe_length]
      by_cases hl : v < σ.length
      · rw [if_pos hl, List.getElem?_eq_getElem hl]
        rfl
      · rw [if_neg hl, List.getElem?_eq_none (by omega)]
        rfl
    · rw [if_neg h, wipe_get σ j vs]
      by_cases hm : j ∈ vs
      · rw [if_pos hm, if_pos (List.mem_cons_of_mem _ hm)]
      · rw [if_neg hm, if_neg (fun z => (List.mem_cons.mp z).elim (fun q => h q.symm) hm)]
theorem wipe_set {τ : L2.St} {i : Nat} {o : Option V} {vs : List Nat} (h : i ∈ vs) : L2.wipe (τ.set i o) vs = L2.wipe τ vs := by
  apply List.ext_getElem?
  intro j
  rw [wipe_get, wipe_get]
  by_cases hm : j ∈ vs
  · rw [if_pos hm, if_pos hm, List.getElem?_set]
    by_cases hj : i = j
    · subst hj
      rw [if_pos rfl]
      by_cases hl : i < τ.length
      · rw [if_pos hl, List.getElem?_eq_getElem hl]
        rfl
      · rw [if_neg hl, List.getElem?_eq_none (by omega)]
    · rw [if_neg hj]
  · rw [if_neg hm, if_neg hm, List.getElem?_set, if_neg (fun z : i = j => hm (z ▸ h))]
theorem wipe_wipe (σ : L2.St) (vs : List Nat) : L2.wipe (L2.wipe σ vs) vs = L2.wipe σ vs := by
  apply List.ext_getElem?
  intro j
  rw [wipe_get]
  by_cases hm : j ∈ vs
  · rw [if_pos hm, wipe_get, if_pos hm]
    cases σ[j]? <;> rfl
  · rw [if_neg hm]
def ownAny (ρ : DEnv) (vs : List Nat) : Bool := vs.any fun i => match ρ[i]? with
  | some (some (.own _)) => true
  | _ => false
theorem wipeD_get (ρ : DEnv) (j : Nat) : ∀ vs : List Nat, j ∉ vs → (wipeD ρ vs)[j]? = ρ[j]?
  | [], _ => rfl
  | v :: vs, h => by
    show ((wipeD ρ vs).set v none)[j]? = _
    rw [List.getElem?_set, if_neg (fun z : v = j => h (z ▸ List.mem_cons_self)), wipeD_get ρ j vs fun z => h (List.mem_cons_of_mem _ z)]
theorem wipeD_no (ρ : DEnv) (j : Nat) (s : Slot) : ∀ vs : List Nat, j ∈ vs → (wipeD ρ vs)[j]? ≠ some (some s)
  | [], h => by cases h
  | v :: vs, h => by
    show ((wipeD ρ vs).set v none)[j]? ≠ _
    rw [List.getElem?_set]
    by_cases hv : v = j
    · rw [if_pos hv]
      split <;> (intro z; cases z)
    · rw [if_neg hv]
      exact wipeD_no ρ j s vs ((List.mem_cons.mp h).resolve_left fun z => hv z.symm)
/-- behind a comprehension the names stand as before -/
theorem Rel.unwipe {M : Me} {σ : L2.St} {H H' : Hp} {ρ : DEnv} {S S' : Fld} {Hf Hf' : Hp} {vs : List Nat} (R : Rel M σ H ρ S Hf) (R' : Rel M (L2.wipe σ vs) H' (wipeD ρ vs) S' Hf') (s : Same Hf Hf') (ho : ownAny ρ vs = false) : Rel M σ H' ρ S' Hf' := by
  refine ⟨R.len, R'.base, R'.sub, R'.full, R'.fresh, R.ownF, fun i s' e => ?_, R.inj, R'.me, R'.tabs, R'.tabf, R'.notb, R'.subs⟩
  by_cases hi : i ∈ vs
  · obtain ⟨v, h1, h2⟩ := R.slot i s' e
    refine ⟨v, h1, ?_⟩
    cases s' with
    | v d => exact DV.same s h2
    | me => exact h2
    | me2 => exact h2
    | own ds =>
      have : ownAny ρ vs = true := by
        unfold ownAny
        rw [List.any_eq_true]
        exact ⟨i, hi, by rw [e]⟩
      rw [ho] at this
      cases this
  · obtain ⟨v, h1, h2⟩ := R'.slot i s' (by rw [wipeD_get ρ i vs hi]; exact e)
    rw [wipe_get, if_neg hi] at h1
    exact ⟨v, h1, h2⟩
/-- the comprehension's own target -/
def SimW (M : Me) (vs : List Nat) (g : TG) (fg : FG) : Prop := ∀ v σ H ρ S Hf d ρ' Q, Rel M σ H ρ S Hf → DV M.K Hf v d → fg d ρ = some ρ' → (∀ σ', L2.wipe σ' vs = L2.wipe σ vs → (∀ j, j ∉ vs → ρ'[j]? = ρ[j]?) → Rel M σ' H ρ' S Hf → Q σ' H) → g v σ H Q
theorem simW_name {M : Me} {i : Nat} {vs : List Nat} (h : i ∈ vs) : SimW M vs (gName i) (gN i) := fun v σ H ρ S Hf d ρ' Q R hv e q => by
  cases e
  exact q _ (wipe_set h) (fun j hj => by rw [List.getElem?_set, if_neg (fun z : i = j => hj (z ▸ h))]) (R.set hv)
theorem simW_two {X : Cx} {M : Me} {i j : Nat} {vs : List Nat} (hi : i ∈ vs) (hj : j ∈ vs) (hK : M.K = X.K) : SimW M vs (gTup X.K 2 (gCons (gName i) (gCons (gName j) gNil))) (gT [gN i, gN j]) := fun v σ H ρ S Hf d ρ' Q R hv e q => by
  cases hv with
  | dct _ _ _ _ _ => cases e
  | ins _ _ _ _ => cases e
  | tup a l b =>
    cases b with
    | nil => cases e
    | cons b1 b =>
      cases b with
      | nil => cases e
      | cons b2 b =>
        cases b with
        | cons _ _ => cases e
        | nil =>
          cases e
          exact ⟨_, _, rfl, by rw [← hK]; exact Kp.sqT (.of R.sub) a, rfl, _, _, rfl, _, _, rfl, rfl, q _ ((wipe_set hj).trans (wipe_set hi)) (fun k hk => by rw [List.getElem?_set, if_neg (fun z : j = k => hk (z ▸ hj)), List.getElem?_set, if_neg (fun z : i = k => hk (z ▸ hi))]) ((R.set b1).set b2)⟩
  | non => cases e
  | bl _ => cases e
  | int _ => cases e
  | str _ => cases e
  | lst _ _ _ => cases e
def fYes : FE := fun _ S => .ok (.bl true) S
def fLcL (g : FG) (ft fe : FE) (vs : List Nat) (ρ : DEnv) : List Dat → Fld → RA
  | [], S => .ok [] S
  | d :: ds, S => match g d (wipeD ρ vs) with
    | none => .bad
    | some ρ1 => (ft ρ1 S).bindA fun b S1 => match b with
      | .bl true => (fe ρ1 S1).bindA fun y S2 => (fLcL g ft fe vs ρ ds S2).bindA fun ys S3 => .ok (y :: ys) S3
      | .bl false => fLcL g ft fe vs ρ ds S1
      | _ => .bad
def fLc0 (g : FG) (ft fe : FE) (vs : List Nat) (ds : List Dat) (ρ : DEnv) (S : Fld) : RE := if ds.length ≤ 100000 ∧ ownAny ρ vs = false then (fLcL g ft fe vs ρ ds S).bind fun ys S' => .ok (.lst ys) S' else .bad
def fLc (items : Dat → Option (List Dat)) (a : FE) (g : FG) (ft fe : FE) (vs : List Nat) : FE := fun ρ S => (a ρ S).bind fun d S1 => match items d with
  | some ds => fLc0 g ft fe vs ds ρ S1
  | none => .bad
def fLcR1 (a : FE) (g : FG) (ft fe : FE) (vs : List Nat) : FE := fun ρ S => (a ρ S).bind fun d S1 => match d with
  | .int n => if n < 2 ^ 62 ∧ -(2 ^ 62) ≤ n then fLc0 g ft fe vs (rangeD 0 n.toNat) ρ S1 else .bad
  | _ => .bad
theorem lcL_len {g : FG} {ft fe : FE} {vs : List Nat} {ρ : DEnv} : ∀ (ds : List Dat) (S S' : Fld) (ys : List Dat), fLcL g ft fe vs ρ ds S = .ok ys S' → ys.length ≤ ds.length
  | [], S, S', ys, e => by
    cases e
    exact Nat.le_refl _
  | d :: ds, S, S', ys, e => by
    unfold fLcL at e
    cases eg : g d (wipeD ρ vs) with
    | none => rw [eg] at e; cases e
    | some ρ1 =>
      rw [eg] at e
      simp only [RE.bindA] at e
      cases et : ft ρ1 S with
      | er n v => rw [et] at e; cases e
      | bad => rw [et] at e; cases e
      | ok b S1 =>
        rw [et] at e
        simp only at e
        cases b with
        | bl b =>
          cases b with
          | true =>
            simp only at e
            cases ee : fe ρ1 S1 with
            | er n v => rw [ee] at e; cases e
            | bad => rw [ee] at e; cases e
            | ok y S2 =>
              rw [ee] at e
              simp only [RA.bindA] at e
              cases er : fLcL g ft fe vs ρ ds S2 with
              | er n v => rw [er] at e; cases e
              | bad => rw [er] at e; cases e
              | ok zs S3 =>
                rw [er] at e
                cases e
                exact Nat.succ_le_succ (lcL_len ds _ _ _ er)
          | false =>
            exact Nat.le_succ_of_le (lcL_len ds _ _ _ e)
        | _ => cases e
/-- a list that is being made changes -/
theorem Rel.other {M : Me} {σ : L2.St} {H : Hp} {ρ : DEnv} {S : Fld} {Hf : Hp} (R : Rel M σ H ρ S Hf) {D : Addr} {acc ys : List V} (h1 : H D = some (.lst acc)) (h2 : Hf D = none) (h0 : M.H0 D = none) (ho : ∀ (j : Nat) (xs : List Dat) (p : Addr), ρ[j]? = some (some (.own xs)) → σ[j]? = some (some (.ref p)) → p ≠ D) : Rel M σ (upd H D (.lst ys)) ρ S Hf := by
  refine ⟨R.len, R.base, fun b o e => ?_, fun b o e m => ?_, R.fresh, R.ownF, fun i s e => ?_, R.inj, fun x kd e => ?_, tabs_upd R.tabs h1 nli_lst, R.tabf, R.notb, R.subs⟩
  · rw [upd_ne (ne_of_none e h2)]
    exact R.sub _ _ e
  · rw [upd_ne (ne_of_none e h0)]
    exact R.full b o e m
  · obtain ⟨v, g1, g2⟩ := R.slot i s e
    refine ⟨v, g1, ?_⟩
    cases s with
    | v d => exact g2
    | me => exact g2
    | me2 => exact g2
    | own xs =>
      obtain ⟨p, ws, rfl, a, b, c, d⟩ := g2
      exact ⟨p, ws, rfl, by rw [upd_ne (ho i xs p e g1)]; exact a, b, c, d⟩
  · obtain ⟨g1, g0, g2⟩ := R.me x kd e
    exact ⟨g1, g0, g2.mono (fun b o m z => by rw [upd_ne (fun y => (R.own0 e m).2 (by rw [y]; exact h0))]; exact z) (Same.refl _)⟩
/-- .. and is a datum from then on -/
theorem Rel.let_go {M : Me} {σ : L2.St} {H : Hp} {ρ : DEnv} {S : Fld} {Hf : Hp} (R : Rel M σ H ρ S Hf) {D : Addr} {acc : List V} (h1 : H D = some (.lst acc)) (h2 : Hf D = none) (h0 : M.H0 D = none) (ho : ∀ (j : Nat) (xs : List Dat) (p : Addr), ρ[j]? = some (some (.own xs)) → σ[j]? = some (some (.ref p)) → p ≠ D) : Rel M σ H ρ S (upd Hf D (.lst acc)) := by
  have sm := upd_new (o := .lst acc) h2
  refine ⟨R.len, R.base.trans sm, fun b o e => ?_, R.full, fun b e => ?_, R.ownF, fun i s e => ?_, R.inj, fun x kd e => ?_, R.tabs, fun z hz => ?_, fun b ps e => ?_, fun b m => ?_⟩
  · by_cases hb : b = D
    · subst hb
      rw [upd_same] at e
      cases e
      exact h1
    · rw [upd_ne hb] at e
      exact R.sub _ _ e
  · by_cases hb : b = D
    · subst hb
      exact .inr h0
    · rw [upd_ne hb] at e
      exact R.fresh b e
  · obtain ⟨v, g1, g2⟩ := R.slot i s e
    refine ⟨v, g1, ?_⟩
    cases s with
    | v d => exact DV.same sm g2
    | me => exact g2
    | me2 => exact g2
    | own xs =>
      obtain ⟨p, ws, rfl, a, b, c, d⟩ := g2
      exact ⟨p, ws, rfl, a, by rw [upd_ne (ho i xs p e g1)]; exact b, c, d.same sm⟩
  · obtain ⟨g1, g0, g2⟩ := R.me x kd e
    have nx : x ≠ D := fun z => g0 (by rw [z]; exact h0)
    exact ⟨by rw [upd_ne nx]; exact g1, g0, g2.mono (fun b o _ z => z) sm⟩
  · obtain ⟨ps, e, _⟩ := R.tabs z hz
    have nz : z.1 ≠ D := fun q => by
      rw [q, h1] at e
      cases e
    rw [upd_ne nz]
    exact R.tabf z hz
  · by_cases hb : b = D
    · subst hb
      rw [upd_same] at e
      cases e
    · rw [upd_ne hb] at e
      exact R.notb b ps e
  · obtain ⟨y1, y2⟩ := R.subs b m
    rw [upd_ne (fun z => y2 (by rw [z]; exact h0))]
    exact ⟨y1, y2⟩
theorem post_lc {M : Me} {g : TG} {fg : FG} {ft fe : FE} {J : It} {ds : List Dat} {vs : List Nat} {σ : L2.St} {H1 Hf0 : Hp} {ρ : DEnv} {S : Fld} {Q : VK} (wk : Walks M.K J Hf0 ds) (hg : SimW M vs g fg) (R : Rel M σ H1 ρ S Hf0)
    (q : match fLc0 fg ft fe vs ds ρ S with
      | .ok d S' => ∀ v H' Hf', Stp M σ ρ Hf0 H1 S' Hf' H' → DV M.K Hf' v d → Q v H'
      | .er n v => M.Er n v
      | .bad => False) :
    ∀ D, H1 D = none → ∃ W : Nat → Nat → Hp → Prop, (∃ m, W 0 m (upd H1 D (.lst []))) ∧ ∀ i m H, W i m H →
      (J.stop i H ∧ Q (.ref D) H) ∨ (J.go i H ∧ ∃ Nx : Hp → Prop, (∀ H', Nx H' → ∃ m', m' < m ∧ W (i + 1) m' H') ∧ ∀ x H', J.yld i H x H' → g x (L2.wipe σ vs) H' fun σ2 H2 => L2.wipe σ2 vs = L2.wipe σ vs ∧ rdT M ft σ2 H2 fun b H3 =>
        if b = true then rdE M fe σ2 H3 fun y H4 => ∃ acc, H4 D = some (.lst acc) ∧ acc.length < sizeLine ∧ Nx (upd H4 D (.lst (acc ++ [y]))) else Nx H3) := by
  intro D hD
  have hDf := none_of_same R.sub hD
  have hD0 := R.H0none hD
  unfold fLc0 at q
  by_cases hc : ds.length ≤ 100000 ∧ ownAny ρ vs = false
  · rw [if_pos hc] at q
    obtain ⟨hl, ho⟩ := hc
    have nD : ¬ M.mine D := R.notMine hD
    have ownD : ∀ (j : Nat) (xs : List Dat) (p : Addr), (wipeD ρ vs)[j]? = some (some (.own xs)) → (L2.wipe σ vs)[j]? = some (some (.ref p)) → p ≠ D := fun j xs p e1 e2 => by
      obtain ⟨v, h1, q, ws, rfl, a, _⟩ := (R.wipe vs).slot j _ e1
      rw [e2] at h1
      cases h1
      exact ne_of_none a hD
    -- the state of the walk
    let Wd : Nat → Hp → Prop := fun i H => ∃ (S' : Fld) (Hf : Hp) (acc : List V) (ac : List Dat), Rel M (L2.wipe σ vs) H (wipeD ρ vs) S' Hf ∧ Same Hf0 Hf ∧ (∀ b, Hf b ≠ none → Hf0 b ≠ none ∨ NoT M H1 b) ∧ (∀ b o, H1 b = some o → ¬ M.mine b → (M.T ≠ [] → ∀ ps, o ≠ .tbl ps) → H b = some o) ∧ H D = some (.lst acc) ∧ Hf D = none ∧ ac.length ≤ i ∧ DVs M.K Hf acc ac ∧
      (match fLcL fg ft fe vs ρ (ds.drop i) S' with
        | .ok ys S2 => ∀ v H' Hf', Stp M σ ρ Hf0 H1 S2 Hf' H' → DV M.K Hf' v (.lst (ac ++ ys)) → Q v H'
        | .er n v => M.Er n v
        | .bad => False)
    have w0 : Wd 0 (upd H1 D (.lst [])) := by
      refine ⟨S, Hf0, [], [], ?_, Same.refl _, fun b e => .inl e, fun b o e _ _ => upd_new hD _ _ e, upd_same, hDf, Nat.le_refl _, .nil, ?_⟩
      · have R1 := R.wipe vs
        refine ⟨R1.len, R1.base, fun b o e => upd_new hD _ _ (R1.sub b o e), fun b o e m => upd_new hD _ _ (R1.full b o e m), R1.fresh, R1.ownF, fun i s e => ?_, R1.inj, fun x kd e => ?_, tabs_same R1.tabs (upd_new hD), R1.tabf, R1.notb, R1.subs⟩
        · obtain ⟨v, h1, h2⟩ := R1.slot i s e
          refine ⟨v, h1, ?_⟩
          cases s with
          | v d => exact h2
          | me => exact h2
          | me2 => exact h2
          | own xs =>
            obtain ⟨p, ws, rfl, a, b, c, d⟩ := h2
            exact ⟨p, ws, rfl, upd_new hD _ _ a, b, c, d⟩
        · obtain ⟨h1, h0, h2⟩ := R1.me x kd e
          exact ⟨h1, h0, h2.mono (fun b o _ z => upd_new hD _ _ z) (Same.refl _)⟩
      · cases ed : fLcL fg ft fe vs ρ ds S with
        | ok ys S2 => simp only [List.drop_zero, ed, RA.bind, List.nil_append] at q ⊢; exact q
        | er n v => simp only [List.drop_zero, ed, RA.bind] at q ⊢; exact q
        | bad => simp only [List.drop_zero, ed, RA.bind] at q
    refine ⟨fun i m H => m = ds.length - i ∧ i ≤ ds.length ∧ Wd i H, ⟨ds.length, rfl, Nat.zero_le _, w0⟩, ?_⟩
    rintro i m H ⟨rfl, hi, S', Hf, acc, ac, R', s, hfr, fr, hacc, hDn, hal, hav, q'⟩
    by_cases hlt : i < ds.length
    · have ed : ds.drop i = ds[i] :: ds.drop (i + 1) := List.drop_eq_getElem_cons hlt
      rw [ed] at q'
      unfold fLcL at q'
      cases eg : fg ds[i] (wipeD ρ vs) with
      | none => rw [eg] at q'; exact q'.elim
      | some ρ1 =>
        rw [eg] at q'
        refine .inr ⟨wk.go i H hlt (s.trans R'.sub), fun H => Wd (i + 1) H, fun H' h => ⟨ds.length - (i + 1), by omega, rfl, hlt, h⟩, fun x H' y => ?_⟩
        -- from a heap on which the item stands
        have fin : ∀ {Hx Hfx : Hp}, Rel M (L2.wipe σ vs) Hx (wipeD ρ vs) S' Hfx → Same Hf Hfx → (∀ b o, H b = some o → Hx b = some o) → (∀ b, Hfx b ≠ none → Hf b ≠ none ∨ H b = none) → Hfx D = none → DV M.K Hfx x ds[i] → g x (L2.wipe σ vs) Hx fun σ2 H2 => L2.wipe σ2 vs = L2.wipe σ vs ∧ rdT M ft σ2 H2 fun b H3 =>
            if b = true then rdE M fe σ2 H3 fun y H4 => ∃ acc, H4 D = some (.lst acc) ∧ acc.length < sizeLine ∧ Wd (i + 1) (upd H4 D (.lst (acc ++ [y]))) else Wd (i + 1) H3 := fun {Hx Hfx} Rx sx hx fx hDx hv => by
          refine hg x (L2.wipe σ vs) Hx (wipeD ρ vs) S' Hfx ds[i] ρ1 _ Rx hv eg fun σ2 e2 f2 R2 => ⟨by rw [e2, wipe_wipe], ρ1, S', Hfx, R2, ?_⟩
          simp only [RE.bindA] at q'
          have eσ : L2.wipe σ2 vs = L2.wipe σ vs := by rw [e2, wipe_wipe]
          -- the block's own names are forgotten again
          have back : ∀ {H3 Hf3 : Hp} {S3 : Fld}, Rel M σ2 H3 ρ1 S3 Hf3 → Rel M (L2.wipe σ vs) H3 (wipeD ρ vs) S3 Hf3 := fun {H3 Hf3 S3} R3 => by
            refine ⟨Rx.len, R3.base, R3.sub, R3.full, R3.fresh, Rx.ownF, fun j t ej => ?_, Rx.inj, R3.me, R3.tabs, R3.tabf, R3.notb, R3.subs⟩
            by_cases hj : j ∈ vs
            · exact (wipeD_no ρ j t vs hj ej).elim
            · obtain ⟨v, h1, h2⟩ := R3.slot j t (by rw [f2 j hj]; exact ej)
              refine ⟨v, ?_, h2⟩
              rw [← eσ, wipe_get, if_neg hj]
              exact h1
          have keepD : ∀ {H3 Hf3 : Hp} {S3 : Fld}, Stp M σ2 ρ1 Hfx Hx S3 Hf3 H3 → H3 D = some (.lst acc) ∧ Hf3 D = none := fun {H3 Hf3 S3} T => by
            have h1 := hx _ _ hacc
            refine ⟨T.fr D _ h1 nD (fun _ _ z => nomatch z), ?_⟩
            cases e : Hf3 D with
            | none => rfl
            | some o =>
              rcases T.fsh D (by rw [e]; simp) with z | z
              · exact (z hDx).elim
              · rcases z _ h1 with ⟨_, _, z⟩ | z
                · cases z
                · exact (nD z).elim
          have up1 : ∀ {b : Addr}, NoT M H b → NoT M H1 b := fun {b} z o e => by
            by_cases m : M.mine b
            · exact .inr m
            · by_cases t : M.T ≠ [] ∧ ∃ ps, o = .tbl ps
              · exact .inl t
              · exact z o (fr b o e m fun h ps z => t ⟨h, ps, z⟩)
          have hfr3 : ∀ {H3 Hf3 : Hp} {S3 : Fld}, Stp M σ2 ρ1 Hfx Hx S3 Hf3 H3 → ∀ b, Hf3 b ≠ none → Hf0 b ≠ none ∨ NoT M H1 b := fun T b e => by
            have hx' : ∀ {b : Addr}, NoT M Hx b → NoT M H b := fun {b} z o e => z o (hx _ _ e)
            rcases T.fsh b e with z | z
            · rcases fx b z with z | z
              · exact hfr b z
              · exact .inr (up1 (.new z))
            · exact .inr (up1 (hx' z))
          have frT : ∀ {H3 Hf3 : Hp} {S3 : Fld}, Stp M σ2 ρ1 Hfx Hx S3 Hf3 H3 → ∀ b o, H1 b = some o → ¬ M.mine b → (M.T ≠ [] → ∀ ps, o ≠ .tbl ps) → H3 b = some o := fun T b o e m t => T.fr b o (hx _ _ (fr b o e m t)) m t
          cases et : ft ρ1 S' with
          | er n v => rw [et] at q'; exact q'
          | bad => rw [et] at q'; exact q'
          | ok b S1 =>
            rw [et] at q'
            simp only at q' ⊢
            cases b with
            | bl b =>
              intro H3 Hf3 T3
              cases b with
              | true =>
                rw [if_pos rfl]
                refine ⟨ρ1, S1, Hf3, T3.rel, ?_⟩
                simp only at q'
                cases ee : fe ρ1 S1 with
                | er n v => rw [ee] at q'; exact q'
                | bad => rw [ee] at q'; exact q'
                | ok y S2 =>
                  rw [ee] at q'
                  intro yv H4 Hf4 T4 hy
                  have T := T3.trans T4
                  obtain ⟨k1, k2⟩ := keepD T
                  have la : acc.length = ac.length := hav.length
                  refine ⟨acc, k1, Nat.lt_of_lt_of_le (by omega : acc.length < 100000) (line5 (Nat.le_refl _)), S2, Hf4, acc ++ [yv], ac ++ [y], ?_, (s.trans sx).trans T.same, hfr3 T, fun b o e m t => ?_, upd_same, k2, by rw [List.length_append]; exact Nat.succ_le_succ hal, ((hav.same sx).same T.same).app (.cons hy .nil), ?_⟩
                  · exact (back T.rel).other k1 k2 hD0 ownD
                  · rw [upd_ne (ne_of_none e hD)]
                    exact frT T b o e m t
                  · simp only [RA.bindA] at q'
                    cases er : fLcL fg ft fe vs ρ (ds.drop (i + 1)) S2 with
                    | ok ys S3 =>
                      rw [er] at q'
                      simp only at q' ⊢
                      rw [List.append_assoc]
                      exact q'
                    | er n v => rw [er] at q'; exact q'
                    | bad => rw [er] at q'; exact q'
              | false =>
                rw [if_neg Bool.false_ne_true]
                obtain ⟨k1, k2⟩ := keepD T3
                exact ⟨S1, Hf3, acc, ac, back T3.rel, (s.trans sx).trans T3.same, hfr3 T3, frT T3, k1, k2, Nat.le_succ_of_le hal, (hav.same sx).same T3.same, q'⟩
            | _ => exact q'.elim
        rcases wk.yld i ds[i] x H H' (List.getElem?_eq_getElem hlt) (s.trans R'.sub) y with ⟨rfl, hv⟩ | ⟨p, o, hp, no, rfl, hv⟩
        · exact fin R' (Same.refl _) (fun _ _ e => e) (fun _ e => .inl e) hDn (hv.same s)
        · have hf := none_of_same R'.sub hp
          have pD : D ≠ p := ne_of_none hacc hp
          exact fin (R'.new hp no) (upd_new hf) (fun _ _ e => upd_new hp _ _ e) (fun b e => by
            by_cases hb : b = p
            · subst hb
              exact .inr hp
            · rw [upd_ne hb] at e
              exact .inl e) (by rw [upd_ne pD]; exact hDn) (hv Hf s hf)
    · have e : i = ds.length := by omega
      subst e
      rw [List.drop_length] at q'
      refine .inl ⟨wk.stop H (s.trans R'.sub), ?_⟩
      have sD := upd_new (o := .lst acc) hDn
      have RD : Rel M (L2.wipe σ vs) H (wipeD ρ vs) S' (upd Hf D (.lst acc)) := R'.let_go hacc hDn hD0 ownD
      have la : acc.length = ac.length := hav.length
      refine q' (.ref D) H (upd Hf D (.lst acc)) ⟨R.unwipe RD (s.trans sD) ho, s.trans sD, fr, fun b e => ?_⟩ ?_
      · by_cases hb : b = D
        · subst hb
          exact .inr (.new hD)
        · rw [upd_ne hb] at e
          rcases hfr b e with z | z
          · exact .inl z
          · exact .inr z
      · rw [List.append_nil]
        exact .lst upd_same (by omega) (hav.same sD)
  · rw [if_neg hc] at q
    exact q.elim
end PD
namespace PD
open PySem PySem.Spec PyProof.Rows L2 RB
section
variable {X : Cx} {M : Me}
theorem rdT_yes {σ : L2.St} {H : Hp} {Q : Bool → Hp → Prop} (h : rdT M fYes σ H Q) : tYes σ H Q := by
  obtain ⟨ρ, S, Hf, R, q⟩ := h
  exact q H Hf (.refl R)
/-- a comprehension's reading: over a list, a tuple, a range -/
theorem rd_lcL {K : PySem.W.Frag} (hK : M.K = K) {f ft fe : FE} {g : TG} {fg : FG} {vs : List Nat} {σ : L2.St} {H : Hp} {Q : VK} (hg : SimW M vs g fg) (h : rdE M (fLc listOf f fg ft fe vs) σ H Q) : tLc (iList K (rdE M f)) g (rdT M ft) (rdE M fe) vs σ H Q := by
  obtain ⟨ρ, S, Hf, R, q⟩ := h
  refine ⟨ρ, S, Hf, R, ?_⟩
  unfold fLc RE.bind at q
  cases e1 : f ρ S with
  | er n v => simp only [e1] at q; exact q
  | bad => simp only [e1] at q
  | ok d S1 =>
    simp only [e1] at q
    intro x H1 Hf1 T1 hx
    cases hx with
    | dct _ _ _ _ _ => simp only [listOf] at q
    | ins _ _ _ _ => simp only [listOf] at q
    | lst a l b =>
      subst hK
      refine ⟨_, rfl, ⟨_, .inl (.inl (T1.rel.sub _ _ a))⟩, post_lc (Walks.list (.inl (.inl a)) b) hg T1.rel ?_⟩
      simp only [listOf] at q
      rename_i xs ds
      cases e2 : fLc0 fg ft fe vs ds ρ S1 with
      | ok d S2 => simp only [e2] at q ⊢; exact fun v H' Hf' T hv => q v H' Hf' (T1.trans T) hv
      | er n v => simp only [e2] at q; exact q
      | bad => simp only [e2] at q
    | non => simp only [listOf] at q
    | bl _ => simp only [listOf] at q
    | int _ => simp only [listOf] at q
    | str _ => simp only [listOf] at q
    | tup _ _ _ => simp only [listOf] at q
theorem rd_lcT {K : PySem.W.Frag} (hK : M.K = K) {f ft fe : FE} {g : TG} {fg : FG} {vs : List Nat} {σ : L2.St} {H : Hp} {Q : VK} (hg : SimW M vs g fg) (h : rdE M (fLc tupOf f fg ft fe vs) σ H Q) : tLc (iTup K (rdE M f)) g (rdT M ft) (rdE M fe) vs σ H Q := by
  obtain ⟨ρ, S, Hf, R, q⟩ := h
  refine ⟨ρ, S, Hf, R, ?_⟩
  unfold fLc RE.bind at q
  cases e1 : f ρ S with
  | er n v => simp only [e1] at q; exact q
  | bad => simp only [e1] at q
  | ok d S1 =>
    simp only [e1] at q
    intro x H1 Hf1 T1 hx
    cases hx with
    | dct _ _ _ _ _ => simp only [tupOf] at q
    | ins _ _ _ _ => simp only [tupOf] at q
    | tup a l b =>
      subst hK
      refine ⟨_, rfl, ⟨_, Kp.sqT (.of T1.rel.sub) a⟩, post_lc (Walks.tuple a b) hg T1.rel ?_⟩
      simp only [tupOf] at q
      rename_i xs ds
      cases e2 : fLc0 fg ft fe vs ds ρ S1 with
      | ok d S2 => simp only [e2] at q ⊢; exact fun v H' Hf' T hv => q v H' Hf' (T1.trans T) hv
      | er n v => simp only [e2] at q; exact q
      | bad => simp only [e2] at q
    | non => simp only [tupOf] at q
    | bl _ => simp only [tupOf] at q
    | int _ => simp only [tupOf] at q
    | str _ => simp only [tupOf] at q
    | lst _ _ _ => simp only [tupOf] at q
theorem rd_lcR {f ft fe : FE} {g : TG} {fg : FG} {vs : List Nat} {σ : L2.St} {H : Hp} {Q : VK} (hg : SimW M vs g fg) (h : rdE M (fLcR1 f fg ft fe vs) σ H Q) : tLc (iRng1 (tCons (rdE M f) tNil)) g (rdT M ft) (rdE M fe) vs σ H Q := by
  obtain ⟨ρ, S, Hf, R, q⟩ := h
  refine ⟨ρ, S, Hf, R, ?_⟩
  unfold fLcR1 RE.bind at q
  cases e1 : f ρ S with
  | er n v => simp only [e1] at q; exact q
  | bad => simp only [e1] at q
  | ok d S1 =>
    simp only [e1] at q
    intro x H1 Hf1 T1 hx
    cases hx with
    | dct _ _ _ _ _ => exact q.elim
    | ins _ _ _ _ => exact q.elim
    | int n =>
      simp only at q
      by_cases hn : n < 2 ^ 62 ∧ -(2 ^ 62) ≤ n
      · rw [if_pos hn] at q
        refine ⟨n, rfl, hn.2, hn.1, post_lc Walks.range hg T1.rel ?_⟩
        cases e2 : fLc0 fg ft fe vs (rangeD 0 n.toNat) ρ S1 with
        | ok d S2 => simp only [e2] at q ⊢; exact fun v H' Hf' T hv => q v H' Hf' (T1.trans T) hv
        | er n v => simp only [e2] at q; exact q
        | bad => simp only [e2] at q
      · rw [if_neg hn] at q
        exact q.elim
    | non => exact q.elim
    | bl _ => exact q.elim
    | lst _ _ _ => exact q.elim
    | str _ => exact q.elim
    | tup _ _ _ => exact q.elim
theorem ev_lc_ {e : Expr} {t : TE} {F : FE} (h : PE X e t) (i : ∀ σ H Q, rdE M F σ H Q → t σ H Q) : PE X e (rdE M F) := pe_weak h i
theorem sv_setLc {i : Nat} {x : Str} {e : Expr} {pos pos' : Pos} {t : TE} {F : FE} (h : PS X (.Assign [.Name x pos'] e pos) (tAsg t (gName i))) (k : ∀ σ H Q, rdE M F σ H Q → t σ H Q) : PS X (.Assign [.Name x pos'] e pos) (rdS M (fSet i F)) := by
  refine ps_weak h fun D σ H ⟨ρ, S, Hf, R, q⟩ => k _ _ _ ⟨ρ, S, Hf, R, ?_⟩
  unfold fSet at q
  cases e : F ρ S with
  | ok d S' => rw [e] at q; exact fun v H' Hf' T hv => q _ H' Hf' (T.rel.set hv) T.same
  | er n v => rw [e] at q; exact q
  | bad => rw [e] at q; exact q
/-! ### self -/
def fFld (f : Str) : FE := fun _ S => match S.lookup f with
  | some d => .ok d S
  | none => .bad
def isMe (ρ : DEnv) (i : Nat) : Bool := match ρ[i]? with
  | some (some .me) => true
  | _ => false
def fSelf (i : Nat) (f : Str) : FE := fun ρ S => match isMe ρ i with
  | true => fFld f ρ S
  | false => .bad
theorem isMe_ok {ρ : DEnv} {i : Nat} (h : isMe ρ i = true) : ρ[i]? = some (some .me) := by
  unfold isMe at h
  split at h
  · assumption
  · cases h
theorem ev_fld {e : Expr} {i : Nat} {f : Str} {C : Addr} (hK : M.K = X.K) (hC : ∀ x kd, M.self = some (x, kd) → ∃ dx, kd = .ins C dx) (c : Cls X.K C) (n : NoAttr X.K C f) (h : PE X e (tFld X.K (tVar i) f)) : PE X e (rdE M (fSelf i f)) := pe_weak h fun σ H Q ⟨ρ, S, Hf, R, q⟩ => by
  unfold fSelf at q
  cases em : isMe ρ i with
  | false => rw [em] at q; exact q.elim
  | true =>
    rw [em] at q
    obtain ⟨v, h1, x, kd, hs, rfl⟩ := R.slot i _ (isMe_ok em)
    obtain ⟨dx, rfl⟩ := hC x kd hs
    obtain ⟨_, _, fs, h2, h3⟩ := R.me x _ hs
    simp only [fFld] at q
    cases el : S.lookup f with
    | none => rw [el] at q; exact q.elim
    | some d =>
      rw [el] at q
      obtain ⟨v, h4, h5⟩ := h3.lookup el
      exact ⟨_, h1, x, C, dx, fs, v, rfl, h2, c, n, h4, q v H Hf (.refl R) h5⟩
/-- a field is set -/
def putD (f : Str) (v : Dat) : Fld → Fld
  | [] => [(f, v)]
  | (g, x) :: r => if g = f then (g, v) :: r else (g, x) :: putD f v r
theorem FV.put {K : PySem.W.Frag} {H : Hp} {f : Str} {v : V} {d : Dat} (hv : DV K H v d) : ∀ {vs : List (Str × V)} {ds : Fld}, FV K H vs ds → FV K H (putF f v vs) (putD f d ds)
  | _, _, .nil => .cons hv .nil
  | _, _, .cons (f := g) a t => by
    unfold putF putD
    split
    · exact .cons hv t
    · exact .cons a (FV.put hv t)
theorem FV.length {K : PySem.W.Frag} {H : Hp} : ∀ {vs : List (Str × V)} {ds : Fld}, FV K H vs ds → vs.length = ds.length
  | _, _, .nil => rfl
  | _, _, .cons _ t => congrArg Nat.succ t.length
def fPut (i : Nat) (f : Str) (a : FE) : FS := fun ρ S => match isMe ρ i with
  | true => (a ρ S).bindS fun d S1 => if S1.length < 1000 then .nx ρ (putD f d S1) else .bad
  | false => .bad
theorem sv_put {st : Stmt} {i : Nat} {f : Str} {C : Addr} {fa : FE} (hK : M.K = X.K) (hC : ∀ x kd, M.self = some (x, kd) → ∃ dx, kd = .ins C dx) (c : Cls X.K C) (n : NoAttr X.K C f) (h : PS X st (sFld X.K (tVar i) (rdE M fa) f)) : PS X st (rdS M (fPut i f fa)) := ps_weak h fun D σ H ⟨ρ, S, Hf, R, q⟩ => by
  unfold fPut at q
  cases em : isMe ρ i with
  | false => rw [em] at q; exact q.elim
  | true =>
    rw [em] at q
    refine ⟨ρ, S, Hf, R, ?_⟩
    simp only [RE.bindS] at q
    cases e1 : fa ρ S with
    | er n v => simp only [e1] at q; exact q
    | bad => simp only [e1] at q; exact q.elim
    | ok d S1 =>
      simp only [e1] at q
      intro v H1 Hf1 T1 hv
      obtain ⟨v', h1, x, kd, hs, rfl⟩ := T1.rel.slot i _ (isMe_ok em)
      obtain ⟨dx, rfl⟩ := hC x kd hs
      obtain ⟨h0, h00, fs, h2, h3⟩ := T1.rel.me x _ hs
      by_cases hl : S1.length < 1000
      · rw [if_pos hl] at q
        refine ⟨_, h1, x, C, dx, fs, rfl, h2, c, n, by rw [h3.length]; exact hl, q _ _ Hf1 ?_ T1.same⟩
        have R1 := T1.rel
        refine ⟨R1.len, R1.base, fun b o e => ?_, fun b o e m => ?_, R1.fresh, R1.ownF, fun j s e => ?_, R1.inj, fun x2 kd2 e => ?_, tabs_upd R1.tabs h2 nli_ins, R1.tabf, R1.notb, R1.subs⟩
        · rw [upd_ne (ne_of_none e h0)]
          exact R1.sub _ _ e
        · rw [upd_ne (fun z => m (.inl ⟨_, by rw [z]; exact hs⟩))]
          exact R1.full b o e m
        · obtain ⟨w, g1, g2⟩ := R1.slot j s e
          refine ⟨w, g1, ?_⟩
          cases s with
          | v d => exact g2
          | me => exact g2
          | me2 => exact g2
          | own xs =>
            obtain ⟨p, ws, rfl, a, b, c, d⟩ := g2
            exact ⟨p, ws, rfl, by rw [upd_ne (ne_of a h2 fun z => nomatch z)]; exact a, b, c, d⟩
        · rw [hs] at e
          cases e
          exact ⟨h0, h00, _, upd_same, h3.put hv⟩
      · rw [if_neg hl] at q
        exact q.elim
/-! ### raise -/
def fRaise1 (n : Str) (a : FE) : FS := fun ρ S => (a ρ S).bindS fun d _ => match d with
  | .int i => .er n (.int i)
  | .str x => .er n (.str x)
  | _ => .bad
end
end PD

set_option Elab.async false
set_option linter.all false
set_option maxRecDepth 100000
set_option maxHeartbeats 2000000
namespace RB
open PySem PySem.Spec PyProof.Rows L2 SX
/-! ## texts of whole numbers -/
/-- the signs of a whole number -/
def numT (i : Int) : List Nat := if i < 0 then 45 :: TL.numL i.natAbs else TL.numL i.natAbs
/-- the signs of a rational -/
def ratT (n d : Int) : List Nat := if d = 1 then numT n else numT n ++ 47 :: numT d
/-- the last k digits of l -/
def dig : Nat → Nat → List Nat
  | 0, _ => []
  | k + 1, l => dig k (l / 10) ++ [48 + l % 10]
theorem dig_len : ∀ k l : Nat, (dig k l).length = k
  | 0, _ => rfl
  | k + 1, l => by
    show (dig k (l / 10) ++ [48 + l % 10]).length = k + 1
    rw [List.length_append, dig_len k]
    rfl
theorem numL_dig : ∀ (k : Nat) (h l : Nat), 1 ≤ h → l < 10 ^ k → TL.numL (h * 10 ^ k + l) = TL.numL h ++ dig k l
  | 0, h, l, _, hl => by
    have : l = 0 := by simpa using hl
    subst this
    show TL.numL (h * 1 + 0) = TL.numL h ++ []
    rw [List.append_nil]
    congr 1
    omega
  | k + 1, h, l, h1, hl => by
    have p : 10 ^ (k + 1) = 10 ^ k * 10 := Nat.pow_succ ..
    have p0 : 1 ≤ 10 ^ k := Nat.one_le_pow _ _ (by decide)
    have hp : h * 10 ^ (k + 1) = h * 10 ^ k * 10 := by rw [p, Nat.mul_assoc]
    have ge : 1 ≤ h * 10 ^ k := Nat.mul_le_mul h1 p0
    rw [TL.numL_step (n := h * 10 ^ (k + 1) + l) (by omega)]
    have e1 : (h * 10 ^ (k + 1) + l) / 10 = h * 10 ^ k + l / 10 := by omega
    have e2 : (h * 10 ^ (k + 1) + l) % 10 = l % 10 := by omega
    rw [e1, e2, numL_dig k h (l / 10) h1 (by omega), List.append_assoc]
    rfl
theorem dig_pad : ∀ (k : Nat) (l : Nat), 0 < k → l < 10 ^ k → dig k l = List.replicate (k - (TL.numL l).length) 48 ++ TL.numL l
  | 0, _, h, _ => absurd h (by decide)
  | 1, l, _, hl => by
    have h10 : l < 10 := by simpa using hl
    rw [TL.numL_lt h10]
    show [] ++ [48 + l % 10] = List.replicate (1 - 1) 48 ++ [48 + l]
    rw [Nat.mod_eq_of_lt h10]
    rfl
  | k + 2, l, _, hl => by
    have p : 10 ^ (k + 2) = 10 ^ (k + 1) * 10 := Nat.pow_succ ..
    have ih := dig_pad (k + 1) (l / 10) (by omega) (by omega)
    show dig (k + 1) (l / 10) ++ [48 + l % 10] = _
    rw [ih]
    by_cases h10 : l < 10
    · have e0 : l / 10 = 0 := by omega
      rw [e0, TL.numL_lt h10, TL.numL_lt (by decide : 0 < 10), Nat.mod_eq_of_lt h10]
      show List.replicate (k + 1 - 1) 48 ++ [48 + 0] ++ [48 + l] = List.replicate (k + 2 - 1) 48 ++ [48 + l]
      rw [show k + 1 - 1 = k by omega, show k + 2 - 1 = k + 1 by omega, List.replicate_succ']
    · rw [TL.numL_step (n := l) (by omega), List.append_assoc, List.length_append]
      congr 2
      show k + 1 - (TL.numL (l / 10)).length = k + 2 - ((TL.numL (l / 10)).length + 1)
      omega
theorem zfill_dig {k l : Nat} (hk : 0 < k) (hl : l < 10 ^ k) (h64 : k ≤ 1000) : Txt.zfill (S (TL.numL l)) (k : Int) = S (dig k l) := by
  have hlen := TL.numL_len hk hl
  rw [dig_pad k l hk hl]
  unfold Txt.zfill
  rw [S_len]
  by_cases c : (k : Int) ≤ ((TL.numL l).length : Int)
  · rw [if_pos c]
    have : k - (TL.numL l).length = 0 := by omega
    rw [this]
    rfl
  · rw [if_neg c]
    have hd : ∀ c0, (S (TL.numL l)).cps[0]? = some c0 → 48 ≤ c0 ∧ c0 ≤ 57 := fun c0 e => by
      have : c0 ∈ TL.numL l := by
        have e' : (TL.numL l)[0]? = some c0 := by simpa [S] using e
        exact List.mem_of_getElem? e'
      exact TL.numL_digits l c0 this
    have pad : zfilled (S (TL.numL l)) ((k : Int).toNat - (TL.numL l).length) = Builtin.Str.padded (S (TL.numL l)) ((k : Int).toNat - (TL.numL l).length) 0 48 := by
      unfold zfilled
      split
      · rename_i e
        have := hd _ e
        omega
      · rename_i e
        have := hd _ e
        omega
      · rfl
    rw [pad]
    refine TL.ext_tl ?_
    show (Array.replicate ((k : Int).toNat - (TL.numL l).length) 48 ++ (S (TL.numL l)).cps ++ Array.replicate 0 48).toList = List.replicate (k - (TL.numL l).length) 48 ++ TL.numL l
    rw [Int.toNat_natCast]
    simp [S]
theorem toString_neg (n : Nat) (h : 0 < n) : Str.ofString (toString (-(n : Int))) = S (45 :: TL.numL n) := by
  refine TL.ext_tl ?_
  show (Str.ofString (toString (-(n : Int)))).cps.toList = 45 :: TL.numL n
  rw [PyProof.Rows.signs_ofString, Int.toString_eq_repr, Int.repr_eq_if, if_neg (by omega), String.toList_append, List.map_append]
  have e : (-(-(n : Int))).toNat = n := by omega
  rw [e, Nat.toList_repr]
  rfl
theorem num_T (i : Int) : Str.ofString (toString i) = S (numT i) := by
  unfold numT
  by_cases h : i < 0
  · rw [if_pos h]
    have e : i = -((i.natAbs : Nat) : Int) := by omega
    conv => lhs; rw [e]
    exact toString_neg _ (by omega)
  · rw [if_neg h]
    have e : i = ((i.natAbs : Nat) : Int) := by omega
    conv => lhs; rw [e]
    exact num_S _
section
variable {X : Cx}
theorem op_mul_str : OpR X (binaryOp .Mult) (fun x y H Q => ∃ (a : Str) (n : Int), x = .str a ∧ y = .int n ∧ MulOk a n ∧ Q (.str (Txt.mul a n)) H) := by
  intro pins s σ H x y v u Q I rx ry h
  obtain ⟨a, n, rfl, rfl, ok, q⟩ := h
  obtain ⟨t, rfl⟩ := rx
  obtain ⟨t', rfl⟩ := ry
  exact SB.mul ok fun t' k => ⟨.str (Txt.mul a n), H, I.tok _, ⟨_, rfl⟩, q⟩
end
/-! ## reading numbers -/
def isDig (c : Nat) : Bool := decide (48 ≤ c) && decide (c ≤ 57)
def numeralB (l : List Nat) : Bool := decide (1 ≤ l.length ∧ l.length ≤ 100) && l.all isDig
theorem numeral_int {l : List Nat} (h : numeralB l = true) : intText? (S l) = some ((NumText.digitsVal l : Nat) : Int) ∧ l.length ≤ 100 := by
  obtain ⟨h1, h2⟩ := Bool.and_eq_true_iff.mp h
  obtain ⟨h3, h4⟩ := of_decide_eq_true h1
  refine ⟨int_S h2 (fun z => ?_) (by omega), h4⟩
  rw [z] at h3
  simp at h3
theorem digits_lt : ∀ (l : List Nat) (a k : Nat), l.all isDig = true → a < 10 ^ k → l.foldl (fun acc c => acc * 10 + (c - 48)) a < 10 ^ (k + l.length)
  | [], a, k, _, h => h
  | c :: r, a, k, hd, h => by
    obtain ⟨h1, h2⟩ := Bool.and_eq_true_iff.mp (show (isDig c && r.all isDig) = true from hd)
    obtain ⟨c1, c2⟩ := Bool.and_eq_true_iff.mp h1
    have c1 := of_decide_eq_true c1
    have c2 := of_decide_eq_true c2
    have p : 10 ^ (k + 1) = 10 ^ k * 10 := Nat.pow_succ ..
    have := digits_lt r (a * 10 + (c - 48)) (k + 1) h2 (by omega)
    rw [show k + (c :: r).length = k + 1 + r.length by rw [List.length_cons]; omega]
    exact this
theorem digitsVal_lt (l : List Nat) (h : l.all isDig = true) : NumText.digitsVal l < 10 ^ l.length := by
  have := digits_lt l 0 0 h (by decide)
  rw [Nat.zero_add] at this
  exact this
end RB

set_option Elab.async false
set_option linter.all false
set_option maxRecDepth 100000
set_option maxHeartbeats 2000000
namespace RB
open PySem PySem.Spec PyProof.Rows L2 SX
/-! ## rationals as they are passed, their texts, the reader -/
def RatV (H : Hp) (v : V) (n d : Int) : Prop := (v = .int n ∧ d = 1) ∨ ∃ a, v = .ref a ∧ H a = some (.tup [.int n, .int d])
theorem RatV.same {H H' : Hp} {v : V} {n d : Int} (h : RatV H v n d) (s : Same H H') : RatV H' v n d := by
  rcases h with h | ⟨a, e, h⟩
  · exact .inl h
  · exact .inr ⟨a, e, s _ _ h⟩
def Bad (C : Addr) (H : Hp) (E : XK) : Prop := ∀ x, H x = none → E (.ref C) (some x) (upd H x (.xd [("code", .str "InvalidNumber")]))
def spPair (C : Addr) : Sp := fun vs H Q E => ∃ (v : V) (n d : Int), vs = [v] ∧ RatV H v n d ∧ (d = 0 → Bad C H E) ∧ (d ≠ 0 → ∀ p, H p = none → Q (.ref p) (upd H p (.tup [.int n, .int d])))
def big : Nat := 10 ^ 1280
def spWhole : Sp := fun vs H Q _ => ∃ n : Int, vs = [.int n] ∧ n.natAbs < big ∧ ∀ H', Same H H' → Q (.str (S (numT n))) H'
def lowN (n d : Int) : Int := n.fdiv (lowS n d)
def lowD (n d : Int) : Int := d.fdiv (lowS n d)
def spNText (C : Addr) : Sp := fun vs H Q E => ∃ (v : V) (n d : Int), vs = [v] ∧ RatV H v n d ∧ n.natAbs < big ∧ d.natAbs < big ∧ (d = 0 → ∀ H', Same H H' → Bad C H' E) ∧ (d ≠ 0 → ∀ H', Same H H' → Q (.str (S (ratT (lowN n d) (lowD n d)))) H')
def spNumeral : Sp := fun vs H Q _ => ∃ l : List Nat, vs = [.str (S l)] ∧ l.length ≤ 100000 ∧ ∀ H', Same H H' → Q (.bl (numeralB l)) H'
/-- the reader -/
def minusB (t : List Nat) : Bool := decide (t.head? = some 45)
def bare (t : List Nat) : List Nat := if minusB t then t.tail else t
def above (t : List Nat) : List Nat := match TL.par [47] [] (bare t) with | some (p, _) => p | none => bare t
def below (t : List Nat) : List Nat := match TL.par [47] [] (bare t) with | some (_, q) => q | none => [49]
def rdN (t : List Nat) : Int := NumText.digitsVal (above t)
def rdD (t : List Nat) : Int := NumText.digitsVal (below t)
def rdS (t : List Nat) : Int := if minusB t then -(lowN (rdN t) (rdD t)) else lowN (rdN t) (rdD t)
def readsB (t : List Nat) : Bool := numeralB (above t) && numeralB (below t) && !decide (rdD t = 0) && decide (ratT (rdS t) (lowD (rdN t) (rdD t)) = t)
def spParse (C : Addr) : Sp := fun vs H Q E => ∃ t : List Nat, vs = [.str (S t)] ∧ t.length ≤ 99999 ∧ (readsB t = true → ∀ H' p, Same H H' → H' p = some (.tup [.int (rdS t), .int (lowD (rdN t) (rdD t))]) → Q (.ref p) H') ∧ (readsB t = false → ∀ H', Same H H' → Bad C H' E)
theorem big_log {a : Nat} (h : a < big) : a.log2 < 9000 := by
  have h2 : big < 2 ^ 4300 := by decide +kernel
  have := log2_lt (Nat.lt_trans h h2) (by decide)
  omega
theorem joinL_nil : ∀ ys : List (List Nat), TL.joinL [] ys = ys.flatten
  | [] => rfl
  | [y] => by
    show y = [y].flatten
    simp
  | y :: z :: r => by
    show y ++ ([] ++ TL.joinL [] (z :: r)) = (y :: z :: r).flatten
    rw [joinL_nil (z :: r)]
    simp
theorem flat_len {ys : List (List Nat)} (h : ∀ y ∈ ys, y.length = 64) : ys.flatten.length = 64 * ys.length := by
  induction ys with
  | nil => rfl
  | cons y r ih =>
    rw [List.flatten_cons, List.length_append, h y (List.mem_cons_self ..), ih fun z hz => h z (List.mem_cons_of_mem _ hz), List.length_cons]
    omega
theorem pre_one (s c : Nat) (r : List Nat) : TL.pre [s] (c :: r) = decide (c = s) := by
  show ([c] == [s]) = decide (c = s)
  by_cases h : c = s
  · subst h
    simp
  · rw [decide_eq_false h]
    exact beq_eq_false_iff_ne.mpr fun z => h (List.cons.inj z).1
theorem par_inv {s : Nat} : ∀ {u acc p q : List Nat}, TL.par [s] acc u = some (p, q) → ∃ p', p = acc ++ p' ∧ u = p' ++ s :: q ∧ s ∉ p'
  | [], _, _, _, h => by cases h
  | c :: r, acc, p, q, h => by
    by_cases hc : c = s
    · rw [TL.par_hit (by rw [pre_one]; exact decide_eq_true hc)] at h
      have e := Option.some.inj h
      have e1 : acc = p := congrArg Prod.fst e
      have e2 : r = q := congrArg Prod.snd e
      exact ⟨[], by rw [e1, List.append_nil], by rw [hc, e2]; rfl, by simp⟩
    · rw [TL.par_miss (by rw [pre_one]; exact decide_eq_false hc)] at h
      obtain ⟨p', e1, e2, e3⟩ := par_inv h
      refine ⟨c :: p', by rw [e1, List.append_assoc]; rfl, by rw [e2]; rfl, ?_⟩
      intro z
      rcases List.mem_cons.mp z with z | z
      · exact hc z.symm
      · exact e3 z
theorem par_none_inv {s : Nat} : ∀ {u acc : List Nat}, TL.par [s] acc u = none → s ∉ u
  | [], _, _ => by simp
  | c :: r, acc, h => by
    by_cases hc : c = s
    · rw [TL.par_hit (by rw [pre_one]; exact decide_eq_true hc)] at h
      cases h
    · rw [TL.par_miss (by rw [pre_one]; exact decide_eq_false hc)] at h
      intro z
      rcases List.mem_cons.mp z with z | z
      · exact hc z.symm
      · exact par_none_inv h z
theorem subAt_minus (t : List Nat) : Builtin.Str.subAt (S t) (S [45]) 0 = minusB t := by
  rw [StrLaws.subAt_eq]
  show ((t.drop 0).take 1 == [45]) = decide (t.head? = some 45)
  cases t with
  | nil => rfl
  | cons c r =>
    show ([c] == [45]) = decide (some c = some 45)
    by_cases h : c = 45
    · subst h
      rfl
    · rw [decide_eq_false (fun z => h (Option.some.inj z))]
      exact beq_eq_false_iff_ne.mpr fun z => h (List.cons.inj z).1
theorem minus_len {t : List Nat} (h : minusB t = true) : 1 ≤ t.length := by
  cases t with
  | nil => exact absurd (of_decide_eq_true h) (by simp)
  | cons c r => simp
theorem removeprefix_minus (t : List Nat) : Txt.removeprefix (S t) (S [45]) = S (bare t) := by
  rw [StrLaws.removeprefix_eq, subAt_minus, S_len, S_len]
  unfold bare
  cases h : minusB t with
  | false =>
    rw [Bool.and_false]
    rfl
  | true =>
    have := minus_len h
    rw [decide_eq_true (by simpa using this)]
    show (⟨((t.drop 1).take (t.length - 1)).toArray⟩ : Str) = S t.tail
    rw [List.drop_one, List.take_of_length_le (by simp)]
theorem startswith_minus (t : List Nat) : Txt.startswith (S t) (S [45]) = minusB t := by
  unfold Txt.startswith
  rw [subAt_minus, S_len, S_len]
  cases h : minusB t with
  | false => rw [Bool.and_false]
  | true =>
    have := minus_len h
    rw [decide_eq_true (by simpa using this)]
    rfl
end RB

set_option Elab.async false
set_option linter.all false
set_option maxRecDepth 100000
set_option maxHeartbeats 2000000
namespace RB
open PySem PySem.Spec PyProof.Rows L2 SX
/-! ## values that a law draws -/
/-- what was tracked stays, but for r -/
structure Keeps (r : Addr) (H H' : Hp) : Prop where
  fn : ∀ b o, H b = some o → b ≠ r → H' b = some o
  fst : Fst r H H'
instance {r : Addr} {H H' : Hp} : CoeFun (Keeps r H H') fun _ => ∀ b o, H b = some o → b ≠ r → H' b = some o := ⟨Keeps.fn⟩
theorem Keeps.refl (r : Addr) (H : Hp) : Keeps r H H := ⟨fun _ _ e _ => e, fun c rest e => ⟨rest, e⟩⟩
theorem Keeps.trans {r : Addr} {H H1 H2 : Hp} (a : Keeps r H H1) (b : Keeps r H1 H2) : Keeps r H H2 := ⟨fun c o e n => b.fn c o (a.fn c o e n) n, a.fst.trans b.fst⟩
theorem Keeps.same {r : Addr} {H H' : Hp} (s : Same H H') : Keeps r H H' := ⟨fun b o e _ => s b o e, fun c rest e => ⟨rest, s _ _ e⟩⟩
theorem Keeps.but {r : Addr} {H H' : Hp} (s : But r H H') : Keeps r H H' := ⟨fun b o e n => (s.fn b n).trans e, s.fst⟩
/-- the generator's cells stay where they are -/
theorem rng_cells {r D : Addr} {H H1 : Hp} {l : List V} (R : RngOk H r) (k : Keeps r H H1) (R1 : RngOk H1 r) (nD : H D = none) : RngOk (upd H1 D (.lst l)) r := by
  obtain ⟨c, i, b, s, hr, ⟨cells, hc, _⟩, _⟩ := R
  obtain ⟨rest, e⟩ := k.fst _ _ hr
  obtain ⟨c1, i1, b1, s1, hr1, ⟨cells1, hc1, l1⟩, h4⟩ := R1
  rw [hr1] at e
  have e1 : c1 = c := by
    have := HO.lst.inj (Option.some.inj e)
    have := (List.cons.inj this).1
    exact V.ref.inj this
  subst e1
  refine ⟨c1, i1, b1, s1, ?_, ⟨cells1, ?_, l1⟩, h4⟩
  · rw [upd_ne (ne_of_none hr nD)]
    exact hr1
  · rw [upd_ne (ne_of_none hc nD)]
    exact hc1
theorem rng_ne_tup {H : Hp} {r p : Addr} {xs : List V} (R : RngOk H r) (h : H p = some (.tup xs)) : p ≠ r := by
  obtain ⟨c, i, b, s, hr, _⟩ := R
  exact ne_of h hr fun z => nomatch z
theorem rng_ne_new {H : Hp} {r p : Addr} (R : RngOk H r) (h : H p = none) : p ≠ r := by
  obtain ⟨c, i, b, s, hr, _⟩ := R
  exact (ne_of_none hr h).symm
theorem tabs_keep {T : List (Addr × Str)} {H H' : Hp} {r : Addr} (t : LamX.Tabs T H) (R : RngOk H r) (b : Keeps r H H') : LamX.Tabs T H' := fun p hp => by
  obtain ⟨ps, h1, h2, h3⟩ := t p hp
  obtain ⟨c, i, bb, s, hr, _⟩ := R
  refine ⟨ps, b _ _ h1 (ne_of h1 hr fun z => nomatch z), h2, fun pos cv hc => ?_⟩
  obtain ⟨c', e1, e2⟩ := h3 pos cv hc
  refine ⟨c', e1, b _ _ e2 (ne_of e2 hr fun z => ?_)⟩
  unfold LamX.CodeO at z
  cases z
/-- a rational in lowest terms -/
def Low (n d : Int) : Prop := 1 ≤ d ∧ Int.gcd n d = 1
theorem low_Low {n d : Int} (h : d ≠ 0) : Low (n.fdiv (lowS n d)) (d.fdiv (lowS n d)) := by
  obtain ⟨k, m, _, _, e1, e2, m1, g, _⟩ := low_all (n := n) h
  rw [e1, e2]
  exact ⟨m1, g⟩
theorem low_scale {n d f : Int} (h : Low n d) (hf : f ≠ 0) : lowN (n * f) (d * f) = n ∧ lowD (n * f) (d * f) = d := by
  obtain ⟨h1, h2⟩ := h
  have g : Int.gcd (n * f) (d * f) = f.natAbs := by
    rw [Int.gcd_mul_right, h2, Nat.one_mul]
  have hs : lowS (n * f) (d * f) = f := by
    unfold lowS
    rw [g]
    by_cases c : 0 < f
    · have : 0 < d * f := Int.mul_pos (by omega) c
      rw [if_neg (by omega)]
      omega
    · have : d * f < 0 := Int.mul_neg_of_pos_of_neg (by omega) (by omega)
      rw [if_pos this]
      omega
  unfold lowN lowD
  rw [hs]
  exact ⟨fdiv_is hf (Int.mul_comm _ _), fdiv_is hf (Int.mul_comm _ _)⟩
def spValue : Sp := fun vs H Q _ => ∃ r : Addr, vs = [.ref r] ∧ RngOk H r ∧ ∀ n d p H', Low n d → n.natAbs ≤ 1000 → d.natAbs ≤ 12 → Keeps r H H' → RngOk H' r → H p = none → H' p = some (.tup [.int n, .int d]) → Q (.ref p) H'
def spGiven : Sp := fun vs H Q _ => ∃ (r p : Addr) (n d : Int), vs = [.ref r, .ref p] ∧ RngOk H r ∧ H p = some (.tup [.int n, .int d]) ∧ ∀ v f H', RatV H' v (n * f) (d * f) → f ≠ 0 → f.natAbs ≤ 7 → Keeps r H H' → RngOk H' r → Q v H'
def spRatText : Sp := fun vs H Q _ => ∃ (p : Addr) (n d : Int), vs = [.ref p] ∧ H p = some (.tup [.int n, .int d]) ∧ n.natAbs.log2 < 1920 ∧ d.natAbs.log2 < 1920 ∧ Q (.str (S (ratT n d))) H
theorem fac_of {v : V} {i : Nat} (h : ([.int 1, .int (-1), .int 2, .int (-3), .int 7] : List V)[i]? = some v) : ∃ f : Int, v = .int f ∧ f ≠ 0 ∧ f.natAbs ≤ 7 := by
  match i, h with
  | 0, h => exact ⟨1, (Option.some.inj h).symm, by decide, by decide⟩
  | 1, h => exact ⟨-1, (Option.some.inj h).symm, by decide, by decide⟩
  | 2, h => exact ⟨2, (Option.some.inj h).symm, by decide, by decide⟩
  | 3, h => exact ⟨-3, (Option.some.inj h).symm, by decide, by decide⟩
  | 4, h => exact ⟨7, (Option.some.inj h).symm, by decide, by decide⟩
  | n + 5, h => simp at h
/-! ## the reader reads what the writer writes -/
theorem numL_numeral {n : Nat} (h : n < 10 ^ 100) : numeralB (TL.numL n) = true := by
  have l1 := TL.numL_len (k := 100) (by decide) h
  have l2 : 1 ≤ (TL.numL n).length := by
    have := TL.numL_ne n
    cases e : TL.numL n with
    | nil => exact absurd e this
    | cons a b => simp
  unfold numeralB
  rw [decide_eq_true ⟨l2, l1⟩, Bool.true_and]
  refine List.all_eq_true.mpr fun c hc => ?_
  obtain ⟨c1, c2⟩ := TL.numL_digits n c hc
  unfold isDig
  rw [decide_eq_true c1, decide_eq_true c2]
  rfl
theorem numL_no {n s : Nat} (h : s < 48 ∨ 57 < s) : s ∉ TL.numL n := TL.numL_free h
theorem minus_num (n : Int) (r : List Nat) : minusB (numT n ++ r) = decide (n < 0) := by
  unfold numT
  by_cases h : n < 0
  · rw [if_pos h, decide_eq_true h]
    rfl
  · rw [if_neg h, decide_eq_false h]
    unfold minusB
    refine decide_eq_false fun z => ?_
    have hne := TL.numL_ne n.natAbs
    cases e : TL.numL n.natAbs with
    | nil => exact absurd e hne
    | cons a b =>
      rw [e] at z
      have z2 : a = 45 := Option.some.inj z
      have : (45 : Nat) ∈ TL.numL n.natAbs := by rw [e, z2]; exact List.mem_cons_self
      exact numL_no (by decide) this
theorem bare_num (n : Int) (r : List Nat) : bare (numT n ++ r) = TL.numL n.natAbs ++ r := by
  unfold bare
  rw [minus_num]
  unfold numT
  by_cases h : n < 0
  · rw [if_pos h, decide_eq_true h]
    rfl
  · rw [if_neg h, decide_eq_false h]
    rfl
theorem parse_rat {n d : Int} (h : Low n d) (h1 : n.natAbs < 10 ^ 100) (h2 : d.natAbs < 10 ^ 100) : readsB (ratT n d) = true ∧ rdS (ratT n d) = n ∧ lowD (rdN (ratT n d)) (rdD (ratT n d)) = d := by
  have hd1 := h.1
  have ed : numT d = TL.numL d.natAbs := if_neg (by omega)
  have key : ∃ r, ratT n d = numT n ++ r ∧ above (ratT n d) = TL.numL n.natAbs ∧ rdD (ratT n d) = d ∧ numeralB (below (ratT n d)) = true := by
    unfold ratT
    by_cases c : d = 1
    · rw [if_pos c]
      have eb := bare_num n []
      rw [List.append_nil] at eb
      have ep : TL.par [47] [] (bare (numT n)) = none := by
        rw [eb]
        rw [List.append_nil]
        exact TL.par_none1 (numL_no (s := 47) (by decide))
      refine ⟨[], by rw [List.append_nil], ?_, ?_, ?_⟩
      · unfold above
        rw [ep, eb, List.append_nil]
      · unfold rdD below
        rw [ep, c]
        rfl
      · unfold below
        rw [ep]
        decide
    · rw [if_neg c]
      have eb := bare_num n (47 :: numT d)
      have ep : TL.par [47] [] (bare (numT n ++ 47 :: numT d)) = some (TL.numL n.natAbs, TL.numL d.natAbs) := by
        rw [eb, ed]
        have := TL.par_part1 (s := 47) (S := []) (p := TL.numL n.natAbs) (rest := TL.numL d.natAbs) (acc := []) (numL_no (by decide))
        exact this
      refine ⟨47 :: numT d, rfl, ?_, ?_, ?_⟩
      · unfold above
        rw [ep]
      · unfold rdD below
        rw [ep]
        show ((NumText.digitsVal (TL.numL d.natAbs) : Nat) : Int) = d
        rw [TL.numL_val]
        omega
      · unfold below
        rw [ep]
        exact numL_numeral h2
  obtain ⟨r, er, ea, eD, eB⟩ := key
  have eN : rdN (ratT n d) = (n.natAbs : Int) := by
    unfold rdN
    rw [ea, TL.numL_val]
  have g : Int.gcd (n.natAbs : Int) d = 1 := by
    have := h.2
    simpa [Int.gcd] using this
  have hid : lowN (n.natAbs : Int) d = n.natAbs ∧ lowD (n.natAbs : Int) d = d := by
    have := low_scale (n := (n.natAbs : Int)) (d := d) (f := 1) ⟨hd1, g⟩ (by decide)
    rw [Int.mul_one, Int.mul_one] at this
    exact this
  have eS : rdS (ratT n d) = n := by
    unfold rdS
    rw [eN, eD, hid.1, er, minus_num]
    by_cases c : n < 0
    · rw [decide_eq_true c, if_pos rfl]
      omega
    · rw [decide_eq_false c, if_neg (by decide)]
      omega
  have eL : lowD (rdN (ratT n d)) (rdD (ratT n d)) = d := by
    rw [eN, eD]
    exact hid.2
  refine ⟨?_, eS, eL⟩
  unfold readsB
  rw [eL, eS, ea, numL_numeral h1, eB, eD, decide_eq_false (by omega : ¬ d = 0), decide_eq_true rfl]
  rfl
end RB

set_option Elab.async false
set_option linter.all false
set_option maxRecDepth 100000
set_option maxHeartbeats 2000000
namespace RB
open PySem PySem.Spec PyProof.Rows L2 SX
/-! ## pairs in lowest terms are the rationals -/
/-- the datum of a rational -/
def dq (q : Rat) : Dat := .tup [.int q.num, .int (q.den : Int)]
theorem rat_low {k m : Int} (h : Low k m) : ((k : Rat) / (m : Rat)).num = k ∧ ((((k : Rat) / (m : Rat)).den : Nat) : Int) = m := by
  obtain ⟨h1, h2⟩ := h
  have e : (k : Rat) / (m : Rat) = ⟨k, m.natAbs, by omega, by
    have : Int.gcd k m = Nat.gcd k.natAbs m.natAbs := rfl
    rw [this] at h2
    exact h2⟩ := by
    rw [Rat.mk_eq_divInt, ← Rat.divInt_eq_div]
    congr 1
    omega
  rw [e]
  exact ⟨rfl, by show ((m.natAbs : Nat) : Int) = m; omega⟩
theorem rat_scale {n d k m s : Int} (h1 : n = s * k) (h2 : d = s * m) (hs : s ≠ 0) : (n : Rat) / (d : Rat) = (k : Rat) / (m : Rat) := by
  rw [← Rat.divInt_eq_div, ← Rat.divInt_eq_div, h1, h2, Rat.divInt_mul_left hs]
/-- what lowest gives -/
theorem low_rat {n d : Int} (h : d ≠ 0) : lowN n d = ((n : Rat) / (d : Rat)).num ∧ lowD n d = ((((n : Rat) / (d : Rat)).den : Nat) : Int) := by
  obtain ⟨k, m, hk, hm, ek, em, m1, g, s0⟩ := low_all (n := n) h
  have e1 : lowN n d = k := ek
  have e2 : lowD n d = m := em
  rw [e1, e2, rat_scale hk hm s0]
  obtain ⟨a, b⟩ := rat_low ⟨m1, g⟩
  exact ⟨a.symm, b.symm⟩
theorem num_den (q : Rat) : (q.num : Rat) / ((q.den : Int) : Rat) = q := by
  have := Rat.num_divInt_den q
  rw [Rat.divInt_eq_div] at this
  exact this
theorem den_pos (q : Rat) : (1 : Int) ≤ (q.den : Int) := by
  have := q.den_nz
  omega
theorem rat_Low (q : Rat) : Low q.num (q.den : Int) := ⟨den_pos q, q.reduced⟩
/-! ## lists as polynomials -/
/-- zeros at the end dropped -/
def trimL {α : Type} [DecidableEq α] (z : α) : List α → List α
  | [] => []
  | c :: r => match trimL z r with | [] => if c = z then [] else [c] | t => c :: t
theorem trim_cons {α : Type} [DecidableEq α] {z c : α} {r : List α} : trimL z (c :: r) = if trimL z r = [] then (if c = z then [] else [c]) else c :: trimL z r := by
  show (match trimL z r with | [] => if c = z then [] else [c] | t => c :: t) = _
  cases h : trimL z r with
  | nil => rfl
  | cons a b => rfl
theorem trim_snoc {α : Type} [DecidableEq α] {z : α} : ∀ (l : List α), trimL z (l ++ [z]) = trimL z l
  | [] => by
    show trimL z [z] = []
    rw [trim_cons, if_pos (show trimL z [] = [] from rfl), if_pos rfl]
  | c :: r => by
    rw [List.cons_append, trim_cons, trim_cons, trim_snoc r]
theorem trim_keep {α : Type} [DecidableEq α] {z y : α} (h : y ≠ z) : ∀ (l : List α), trimL z (l ++ [y]) = l ++ [y]
  | [] => by
    show trimL z [y] = [y]
    rw [trim_cons, if_pos (show trimL z [] = [] from rfl), if_neg h]
  | c :: r => by
    rw [List.cons_append, trim_cons, trim_keep h r, if_neg (by simp)]
theorem trim_len {α : Type} [DecidableEq α] {z : α} : ∀ (l : List α), (trimL z l).length ≤ l.length
  | [] => Nat.le_refl _
  | c :: r => by
    have := trim_len (z := z) r
    rw [trim_cons]
    split
    · split
      · simp
      · simp
    · rw [List.length_cons, List.length_cons]
      omega
theorem trim_zeros {α : Type} [DecidableEq α] {z : α} (l : List α) : ∀ n : Nat, trimL z (l ++ List.replicate n z) = trimL z l
  | 0 => by
    show trimL z (l ++ []) = _
    rw [List.append_nil]
  | n + 1 => by
    rw [List.replicate_succ', ← List.append_assoc, trim_snoc, trim_zeros l n]
theorem trim_map {α β : Type} [DecidableEq α] [DecidableEq β] {z : α} {y : β} (f : α → β) (h : ∀ a, f a = y ↔ a = z) : ∀ l : List α, (trimL z l).map f = trimL y (l.map f)
  | [] => rfl
  | c :: r => by
    have ih := trim_map f h r
    rw [List.map_cons, trim_cons, trim_cons, ← ih]
    by_cases e : trimL z r = []
    · rw [if_pos e, e, List.map_nil, if_pos rfl]
      by_cases e2 : c = z
      · rw [if_pos e2, if_pos ((h c).mpr e2)]
        rfl
      · rw [if_neg e2, if_neg (fun q => e2 ((h c).mp q))]
        rfl
    · rw [if_neg e, if_neg (by simpa using e), List.map_cons]
theorem trim_idem {α : Type} [DecidableEq α] {z : α} : ∀ l : List α, trimL z (trimL z l) = trimL z l
  | [] => rfl
  | c :: r => by
    have ih := trim_idem (z := z) r
    rw [trim_cons]
    split
    · split
      · rfl
      · rename_i h
        rw [trim_cons]
        show (if trimL z [] = [] then _ else _) = _
        rw [if_pos (by rfl), if_neg h]
    · rename_i h
      rw [trim_cons, ih, if_neg h]
/-! ## least common multiples -/
def lcmI (s d : Int) : Int := ((s.fdiv (Int.gcd s d : Int) * d).natAbs : Int)
theorem lcm_ok {s d : Int} (hs : 0 < s) (hd : d ≠ 0) : 0 < lcmI s d ∧ (∃ k, lcmI s d = s * k) ∧ (∃ k, lcmI s d = d * k) ∧ lcmI s d ≤ s * d.natAbs := by
  obtain ⟨k, hk⟩ : ∃ k, s = (Int.gcd s d : Int) * k := Int.gcd_dvd_left s d
  obtain ⟨m, hm⟩ : ∃ m, d = (Int.gcd s d : Int) * m := Int.gcd_dvd_right s d
  have g0 : (Int.gcd s d : Int) ≠ 0 := by
    intro z
    rw [z, Int.zero_mul] at hk
    omega
  have ef : s.fdiv (Int.gcd s d : Int) = k := fdiv_is g0 hk
  have gp : (1 : Int) ≤ (Int.gcd s d : Int) := by omega
  unfold lcmI
  rw [ef]
  generalize (Int.gcd s d : Int) = g at *
  have kp : 0 < k := by
    rcases (by omega : 0 < k ∨ k ≤ 0) with h | h
    · exact h
    · have := Int.mul_nonneg (show (0 : Int) ≤ g by omega) (show (0 : Int) ≤ -k by omega)
      rw [Int.mul_neg] at this
      omega
  have ea : ((k * d).natAbs : Int) = k * (d.natAbs : Int) := by
    rw [Int.natAbs_mul, Int.natCast_mul]
    congr 1
    omega
  have dp : (1 : Int) ≤ (d.natAbs : Int) := by omega
  refine ⟨?_, ⟨(m.natAbs : Int), ?_⟩, ?_, ?_⟩
  · rw [ea]
    exact Int.mul_pos kp (by omega)
  · have : k * d = s * m := by
      rw [hk, hm]
      grind
    rw [this, Int.natAbs_mul, Int.natCast_mul]
    congr 1
    omega
  · rcases (by omega : 0 < d ∨ d ≤ 0) with h | h
    · exact ⟨k, by rw [ea, show ((d.natAbs : Nat) : Int) = d by omega, Int.mul_comm]⟩
    · exact ⟨-k, by rw [ea, show ((d.natAbs : Nat) : Int) = -d by omega]; grind⟩
  · rw [ea]
    refine Int.mul_le_mul_of_nonneg_right ?_ (by omega)
    have := Int.mul_le_mul_of_nonneg_right gp (show (0 : Int) ≤ k by omega)
    omega
end RB

set_option Elab.async false
set_option linter.all false
set_option maxRecDepth 100000
set_option maxHeartbeats 2000000
namespace RB
open PySem PySem.Spec PyProof.Rows L2 SX
/-! ## data of numbers, as the model's == sees them -/
mutual
def Dat.pd : Dat → PyData
  | .non => .none
  | .bl b => .bool b
  | .int i => .int i
  | .str x => .str x
  | .lst ds => .list (pds ds)
  | .tup ds => .tuple (pds ds)
  | .dct _ _ => .dict []
  | .ins _ _ _ => .dict []
def pds : List Dat → List PyData
  | [] => []
  | d :: r => d.pd :: pds r
end
mutual
/-- numbers, None, lists and tuples of them -/
def numD : Dat → Bool
  | .non | .int _ => true
  | .bl _ | .str _ => false
  | .lst ds => numDs ds
  | .tup ds => numDs ds
  | .dct _ _ | .ins _ _ _ => false
def numDs : List Dat → Bool
  | [] => true
  | d :: r => numD d && numDs r
end
mutual
theorem At.dp {K : PySem.W.Frag} {H : Hp} : ∀ {v : V} {d : Dat}, At K H v d → Dp K H v d.pd
  | _, _, .non => .non
  | _, _, .bl b => .bl b
  | _, _, .int i => .int i
  | _, _, .str x => .str x
  | _, _, .lst e l a => .lst (.inl (.inl e)) (AtAll.dp a)
  | _, _, .tup e l a => .tup (.inl (.inl e)) (AtAll.dp a)
theorem AtAll.dp {K : PySem.W.Frag} {H : Hp} : ∀ {xs : List V} {ds : List Dat}, AtAll K H xs ds → DpAll K H xs (pds ds)
  | _, _, .nil => .nil
  | _, _, .cons a t => .cons (At.dp a) (AtAll.dp t)
end
mutual
theorem pd_lay : ∀ d : Dat, numD d = true → d.pd.canLay0 = true ∧ d.pd.depth ≤ d.deep + 1
  | .non, _ => by simp [Dat.pd, PyData.canLay0, PyData.depth, Dat.deep]
  | .int i, _ => by simp [Dat.pd, PyData.canLay0, PyData.depth, Dat.deep]
  | .bl b, h => by cases h
  | .str x, h => by cases h
  | .dct _ _, h => by cases h
  | .ins _ _ _, h => by cases h
  | .lst ds, h => by
    have h' : numDs ds = true := h
    obtain ⟨h1, h2⟩ := pds_lay ds h'
    simp only [Dat.pd, PyData.canLay0, PyData.depth, Dat.deep]
    exact ⟨h1, by omega⟩
  | .tup ds, h => by
    have h' : numDs ds = true := h
    obtain ⟨h1, h2⟩ := pds_lay ds h'
    simp only [Dat.pd, PyData.canLay0, PyData.depth, Dat.deep]
    exact ⟨h1, by omega⟩
theorem pds_lay : ∀ ds : List Dat, numDs ds = true → PyData.canLayAll0 (pds ds) = true ∧ PyData.depthAll (pds ds) ≤ Dat.deep.deeps ds + 1
  | [], _ => by simp [pds, PyData.canLayAll0, PyData.depthAll]
  | d :: r, h => by
    obtain ⟨h1, h2⟩ := Bool.and_eq_true_iff.mp (show (numD d && numDs r) = true from h)
    obtain ⟨a1, a2⟩ := pd_lay d h1
    obtain ⟨b1, b2⟩ := pds_lay r h2
    simp only [pds, PyData.canLayAll0, PyData.depthAll, Dat.deep.deeps, a1, b1, Bool.and_self, true_and]
    omega
end
theorem pd_shaped {d : Dat} (h : numD d = true) (hd : d.deep ≤ 60) : SeqAt.shaped d.pd = true := by
  obtain ⟨a, b⟩ := pd_lay d h
  unfold SeqAt.shaped
  rw [a, decide_eq_true (by omega : d.pd.depth ≤ 64)]
  rfl
mutual
theorem eqv_pd : ∀ d e : Dat, numD d = true → numD e = true → (PyData.eqv d.pd e.pd = true ↔ d = e)
  | .non, .non, _, _ => by simp [Dat.pd, PyData.eqv]
  | .int i, .int j, _, _ => by simp [Dat.pd, PyData.eqv]
  | .lst a, .lst b, h1, h2 => by
    have := eqv_pds a b h1 h2
    simp only [Dat.pd, PyData.eqv, Dat.lst.injEq]
    exact this
  | .tup a, .tup b, h1, h2 => by
    have := eqv_pds a b h1 h2
    simp only [Dat.pd, PyData.eqv, Dat.tup.injEq]
    exact this
  | .non, .int _, _, _ => by simp [Dat.pd, PyData.eqv]
  | .non, .lst _, _, _ => by simp [Dat.pd, PyData.eqv]
  | .non, .tup _, _, _ => by simp [Dat.pd, PyData.eqv]
  | .int _, .non, _, _ => by simp [Dat.pd, PyData.eqv]
  | .int _, .lst _, _, _ => by simp [Dat.pd, PyData.eqv]
  | .int _, .tup _, _, _ => by simp [Dat.pd, PyData.eqv]
  | .lst _, .non, _, _ => by simp [Dat.pd, PyData.eqv]
  | .lst _, .int _, _, _ => by simp [Dat.pd, PyData.eqv]
  | .lst _, .tup _, _, _ => by simp [Dat.pd, PyData.eqv]
  | .tup _, .non, _, _ => by simp [Dat.pd, PyData.eqv]
  | .tup _, .int _, _, _ => by simp [Dat.pd, PyData.eqv]
  | .tup _, .lst _, _, _ => by simp [Dat.pd, PyData.eqv]
  | .dct _ _, _, h, _ => by cases h
  | .ins _ _ _, _, h, _ => by cases h
  | .non, .dct _ _, _, h => by cases h
  | .non, .ins _ _ _, _, h => by cases h
  | .int _, .dct _ _, _, h => by cases h
  | .int _, .ins _ _ _, _, h => by cases h
  | .lst _, .dct _ _, _, h => by cases h
  | .lst _, .ins _ _ _, _, h => by cases h
  | .tup _, .dct _ _, _, h => by cases h
  | .tup _, .ins _ _ _, _, h => by cases h
  | .bl _, _, h, _ => by cases h
  | .str _, _, h, _ => by cases h
  | .non, .bl _, _, h => by cases h
  | .non, .str _, _, h => by cases h
  | .int _, .bl _, _, h => by cases h
  | .int _, .str _, _, h => by cases h
  | .lst _, .bl _, _, h => by cases h
  | .lst _, .str _, _, h => by cases h
  | .tup _, .bl _, _, h => by cases h
  | .tup _, .str _, _, h => by cases h
theorem eqv_pds : ∀ a b : List Dat, numDs a = true → numDs b = true → (PyData.eqvAll (pds a) (pds b) = true ↔ a = b)
  | [], [], _, _ => by simp [pds, PyData.eqvAll]
  | [], _ :: _, _, _ => by simp [pds, PyData.eqvAll]
  | _ :: _, [], _, _ => by simp [pds, PyData.eqvAll]
  | x :: a, y :: b, h1, h2 => by
    obtain ⟨p1, p2⟩ := Bool.and_eq_true_iff.mp (show (numD x && numDs a) = true from h1)
    obtain ⟨q1, q2⟩ := Bool.and_eq_true_iff.mp (show (numD y && numDs b) = true from h2)
    simp only [pds, PyData.eqvAll, Bool.and_eq_true, eqv_pd x y p1 q1, eqv_pds a b p2 q2, List.cons.injEq]
end
/-- == and != of two data of numbers -/
theorem eq_read {K : PySem.W.Frag} {H : Hp} {x y : V} {d e : Dat} {Q : VK} (a : At K H x d) (b : At K H y e) (hd : numD d = true) (he : numD e = true) (sd : d.deep ≤ 60) (se : e.deep ≤ 60) (q : ∀ t : Bool, (t = true ↔ d = e) → Q (.bl t) H) : rEqD K x y H Q :=
  ⟨d.pd, e.pd, a.dp, b.dp, pd_shaped hd sd, pd_shaped he se, q _ (eqv_pd d e hd he)⟩
theorem ne_read {K : PySem.W.Frag} {H : Hp} {x y : V} {d e : Dat} {Q : VK} (a : At K H x d) (b : At K H y e) (hd : numD d = true) (he : numD e = true) (sd : d.deep ≤ 60) (se : e.deep ≤ 60) (q : ∀ t : Bool, (t = true ↔ d = e) → Q (.bl (!t)) H) : rNeD K x y H Q :=
  ⟨d.pd, e.pd, a.dp, b.dp, pd_shaped hd sd, pd_shaped he se, q _ (eqv_pd d e hd he)⟩
/-- a list of whole numbers, of rationals -/
def dz (zs : List Int) : Dat := .lst (zs.map .int)
def dqs (qs : List Rat) : Dat := .tup (qs.map dq)
def dql (qs : List Rat) : Dat := .lst (qs.map dq)
theorem numDs_map {α : Type} {f : α → Dat} (h : ∀ a, numD (f a) = true) : ∀ l : List α, numDs (l.map f) = true
  | [] => rfl
  | a :: r => by
    show (numD (f a) && numDs (r.map f)) = true
    rw [h a, numDs_map h r]
    rfl
theorem deeps_map {α : Type} {f : α → Dat} {n : Nat} (h : ∀ a, (f a).deep ≤ n) : ∀ l : List α, Dat.deep.deeps (l.map f) ≤ n
  | [] => Nat.zero_le _
  | a :: r => by
    have h1 := h a
    have h2 := deeps_map h r
    show max (f a).deep (Dat.deep.deeps (r.map f)) ≤ n
    omega
theorem num_dq (q : Rat) : numD (dq q) = true := rfl
theorem deep_dq (q : Rat) : (dq q).deep ≤ 1 := by simp [dq, Dat.deep, Dat.deep.deeps]
theorem num_dz (l : List Int) : numD (dz l) = true := numDs_map (fun _ => rfl) l
theorem num_dql (l : List Rat) : numD (dql l) = true := numDs_map num_dq l
theorem num_dqs (l : List Rat) : numD (dqs l) = true := numDs_map num_dq l
theorem deep_dz (l : List Int) : (dz l).deep ≤ 1 := by
  have := deeps_map (f := Dat.int) (n := 0) (fun _ => Nat.le_refl 0) l
  show 1 + _ ≤ 1
  omega
theorem deep_dql (l : List Rat) : (dql l).deep ≤ 2 := by
  have := deeps_map deep_dq l
  show 1 + _ ≤ 2
  omega
theorem deep_dqs (l : List Rat) : (dqs l).deep ≤ 2 := by
  have := deeps_map deep_dq l
  show 1 + _ ≤ 2
  omega
theorem dq_inj {a b : Rat} (h : dq a = dq b) : a = b := by
  unfold dq at h
  simp only [Dat.tup.injEq, List.cons.injEq, Dat.int.injEq, and_true] at h
  exact Rat.ext h.1 (by omega)
theorem dz_inj {a b : List Int} (h : dz a = dz b) : a = b := by
  unfold dz at h
  simp only [Dat.lst.injEq] at h
  exact List.map_inj_right (fun _ _ e => Dat.int.inj e) |>.mp h
theorem dql_inj {a b : List Rat} (h : dql a = dql b) : a = b := by
  unfold dql at h
  simp only [Dat.lst.injEq] at h
  exact List.map_inj_right (fun _ _ e => dq_inj e) |>.mp h
theorem dqs_inj {a b : List Rat} (h : dqs a = dqs b) : a = b := by
  unfold dqs at h
  simp only [Dat.tup.injEq] at h
  exact List.map_inj_right (fun _ _ e => dq_inj e) |>.mp h
/-- what stands at a list of whole numbers -/
theorem atAll_ints {K : PySem.W.Frag} {H : Hp} : ∀ {xs : List V} {zs : List Int}, AtAll K H xs (zs.map .int) → xs = zs.map .int
  | _, [], .nil => rfl
  | _, z :: r, .cons (.int _) t => by rw [atAll_ints t]; rfl
theorem ints_atAll {K : PySem.W.Frag} {H : Hp} : ∀ (zs : List Int), AtAll K H (zs.map .int) (zs.map .int)
  | [] => .nil
  | z :: r => .cons (.int z) (ints_atAll r)
theorem at_dz {K : PySem.W.Frag} {H : Hp} {v : V} {zs : List Int} (h : At K H v (dz zs)) : ∃ a, v = .ref a ∧ H a = some (.lst (zs.map .int)) ∧ zs.length ≤ 100000 := by
  unfold dz at h
  cases h with
  | lst e l t =>
    have := atAll_ints t
    subst this
    exact ⟨_, rfl, e, by simpa using l⟩
theorem dz_at {K : PySem.W.Frag} {H : Hp} {a : Addr} {zs : List Int} (h : H a = some (.lst (zs.map .int))) (l : zs.length ≤ 100000) : At K H (.ref a) (dz zs) := .lst h (by simpa using l) (ints_atAll zs)
theorem at_dq {K : PySem.W.Frag} {H : Hp} {v : V} {q : Rat} (h : At K H v (dq q)) : ∃ a, v = .ref a ∧ H a = some (.tup [.int q.num, .int (q.den : Int)]) := by
  unfold dq at h
  cases h with
  | tup e l t =>
    cases t with
    | cons t1 t =>
      cases t1
      cases t with
      | cons t2 t =>
        cases t2
        cases t
        exact ⟨_, rfl, e⟩
theorem dq_at {K : PySem.W.Frag} {H : Hp} {a : Addr} {q : Rat} (h : H a = some (.tup [.int q.num, .int (q.den : Int)])) : At K H (.ref a) (dq q) := .tup h (by decide : 2 ≤ 100000) (.cons (.int _) (.cons (.int _) .nil))
theorem at_lst {K : PySem.W.Frag} {H : Hp} {v : V} {ds : List Dat} (h : At K H v (.lst ds)) : ∃ a xs, v = .ref a ∧ H a = some (.lst xs) ∧ xs.length ≤ 100000 ∧ AtAll K H xs ds := by
  cases h with
  | lst e l t => exact ⟨_, _, rfl, e, l, t⟩
theorem at_tup {K : PySem.W.Frag} {H : Hp} {v : V} {ds : List Dat} (h : At K H v (.tup ds)) : ∃ a xs, v = .ref a ∧ H a = some (.tup xs) ∧ xs.length ≤ 100000 ∧ AtAll K H xs ds := by
  cases h with
  | tup e l t => exact ⟨_, _, rfl, e, l, t⟩
theorem AtAll.app {K : PySem.W.Frag} {H : Hp} : ∀ {xs ys : List V} {ds es : List Dat}, AtAll K H xs ds → AtAll K H ys es → AtAll K H (xs ++ ys) (ds ++ es)
  | _, _, _, _, .nil, h => h
  | _, _, _, _, .cons a t, h => .cons a (AtAll.app t h)
mutual
/-- no list within -/
def tupD : Dat → Bool
  | .non | .int _ | .bl _ | .str _ => true
  | .lst _ | .dct _ _ | .ins _ _ _ => false
  | .tup ds => tupDs ds
def tupDs : List Dat → Bool
  | [] => true
  | d :: r => tupD d && tupDs r
end
def Tups (H H' : Hp) : Prop := ∀ b xs, H b = some (.tup xs) → H' b = some (.tup xs)
mutual
theorem At.tups {K : PySem.W.Frag} {H H' : Hp} (s : Tups H H') : ∀ {v : V} {d : Dat}, tupD d = true → At K H v d → At K H' v d
  | _, _, _, .non => .non
  | _, _, _, .bl b => .bl b
  | _, _, _, .int i => .int i
  | _, _, _, .str x => .str x
  | _, _, h, .lst e l a => by cases h
  | _, _, h, .tup e l a => .tup (s _ _ e) l (AtAll.tups s h a)
theorem AtAll.tups {K : PySem.W.Frag} {H H' : Hp} (s : Tups H H') : ∀ {xs : List V} {ds : List Dat}, tupDs ds = true → AtAll K H xs ds → AtAll K H' xs ds
  | _, _, _, .nil => .nil
  | _, _, h, .cons a t => by
    obtain ⟨h1, h2⟩ := Bool.and_eq_true_iff.mp h
    exact .cons (At.tups s h1 a) (AtAll.tups s h2 t)
end
theorem tups_upd {H : Hp} {D : Addr} {xs ys : List V} (h : H D = some (.lst xs)) : Tups H (upd H D (.lst ys)) := fun b zs e => by
  rw [upd_ne (ne_of e h fun z => nomatch z)]
  exact e
theorem tups_same {H H' : Hp} (s : Same H H') : Tups H H' := fun b xs e => s _ _ e
theorem tupDs_all {ds : List Dat} : tupDs ds = true ↔ ∀ d ∈ ds, tupD d = true := by
  induction ds with
  | nil => exact ⟨fun _ d h => absurd h (by simp), fun _ => rfl⟩
  | cons d r ih =>
    show (tupD d && tupDs r) = true ↔ _
    rw [Bool.and_eq_true, ih]
    simp
theorem tupDs_take {ds : List Dat} {n : Nat} (h : tupDs ds = true) : tupDs (ds.take n) = true := tupDs_all.mpr fun d hd => tupDs_all.mp h d (List.mem_of_mem_take hd)
/-- a comprehension over a list whose items come out as data -/
theorem lc_dats {K : PySem.W.Frag} {a : Addr} {xs : List V} {g : TG} {tt : L2.TT} {te : TE} {vs : List Nat} {σ : L2.St} {H1 : Hp} {D : Addr} {Qd : Hp → Prop} (ds : List Dat) (hl : ds.length = xs.length) (hn : ds.length ≤ 100000) (ht : tupDs ds = true) (nD : H1 D = none) (hx : ∀ H', Same H1 H' → SqL K H' a xs)
    (hs : ∀ (i : Nat) (x : V) (d : Dat) (H' : Hp) (k : VK) (e : Hp → Prop), xs[i]? = some x → ds[i]? = some d → Same H1 H' → (∀ y H4, Same H' H4 → At K H4 y d → k y H4) → g x (wipe σ vs) H' fun σ2 H2 => wipe σ2 vs = wipe σ vs ∧ tt σ2 H2 fun b H3 => if b = true then te σ2 H3 k else e H3)
    (hd : ∀ H', Same H1 H' → At K H' (.ref D) (.lst ds) → Qd H') :
    ∃ W : Nat → Nat → Hp → Prop, (∃ m, W 0 m (upd H1 D (.lst []))) ∧ ∀ i m H, W i m H →
      ((Itl K a).stop i H ∧ Qd H) ∨ ((Itl K a).go i H ∧ ∃ Nx : Hp → Prop, (∀ H', Nx H' → ∃ m', m' < m ∧ W (i + 1) m' H') ∧ ∀ x H', (Itl K a).yld i H x H' → g x (wipe σ vs) H' fun σ2 H2 => wipe σ2 vs = wipe σ vs ∧ tt σ2 H2 fun b H3 =>
        if b = true then te σ2 H3 fun y H4 => ∃ acc, H4 D = some (.lst acc) ∧ acc.length < sizeLine ∧ Nx (upd H4 D (.lst (acc ++ [y]))) else Nx H3) := by
  refine lc_list (xs := xs) (fun i H' => Same H1 H' ∧ ∃ ys, H' D = some (.lst ys) ∧ AtAll K H' ys (ds.take i)) ⟨upd_new nD, [], upd_same, .nil⟩ (fun i H' _ p => hx H' p.1) (fun i x H' e p => ?_) (fun H' p => ?_)
  · obtain ⟨s1, ys, hD, hA⟩ := p
    have hi : i < xs.length := (List.getElem?_eq_some_iff.mp e).1
    have ed : ds[i]? = some ds[i] := List.getElem?_eq_getElem (by omega)
    refine hs i x ds[i] H' _ _ e ed s1 fun y H4 s4 hy => ?_
    have lys : ys.length = i := by
      rw [hA.length, List.length_take]
      omega
    refine ⟨ys, s4 _ _ hD, by rw [sizeLine_eq]; omega, fun b o eb => ?_, ys ++ [y], upd_same, ?_⟩
    · rw [upd_ne (ne_of_none eb nD)]
      exact s4 _ _ (s1 _ _ eb)
    · rw [List.take_add_one, ed]
      refine (AtAll.tups (tups_upd (s4 _ _ hD)) (tupDs_take ht) (hA.same s4)).app (.cons ?_ .nil)
      exact At.tups (tups_upd (s4 _ _ hD)) (tupDs_all.mp ht _ (List.mem_of_getElem? ed)) hy
  · obtain ⟨s1, ys, hD, hA⟩ := p
    rw [← hl, List.take_length] at hA
    exact hd H' s1 (.lst hD (by rw [hA.length]; exact hn) hA)
/-- a comprehension over a tuple whose items come out as data -/
theorem lc_datsT {K : PySem.W.Frag} {a : Addr} {xs : List V} {g : TG} {tt : L2.TT} {te : TE} {vs : List Nat} {σ : L2.St} {H1 : Hp} {D : Addr} {Qd : Hp → Prop} (ds : List Dat) (hl : ds.length = xs.length) (hn : ds.length ≤ 100000) (ht : tupDs ds = true) (nD : H1 D = none) (hx : ∀ H', Same H1 H' → SqT K H' a xs)
    (hs : ∀ (i : Nat) (x : V) (d : Dat) (H' : Hp) (k : VK) (e : Hp → Prop), xs[i]? = some x → ds[i]? = some d → Same H1 H' → (∀ y H4, Same H' H4 → At K H4 y d → k y H4) → g x (wipe σ vs) H' fun σ2 H2 => wipe σ2 vs = wipe σ vs ∧ tt σ2 H2 fun b H3 => if b = true then te σ2 H3 k else e H3)
    (hd : ∀ H', Same H1 H' → At K H' (.ref D) (.lst ds) → Qd H') :
    ∃ W : Nat → Nat → Hp → Prop, (∃ m, W 0 m (upd H1 D (.lst []))) ∧ ∀ i m H, W i m H →
      ((Itt K a).stop i H ∧ Qd H) ∨ ((Itt K a).go i H ∧ ∃ Nx : Hp → Prop, (∀ H', Nx H' → ∃ m', m' < m ∧ W (i + 1) m' H') ∧ ∀ x H', (Itt K a).yld i H x H' → g x (wipe σ vs) H' fun σ2 H2 => wipe σ2 vs = wipe σ vs ∧ tt σ2 H2 fun b H3 =>
        if b = true then te σ2 H3 fun y H4 => ∃ acc, H4 D = some (.lst acc) ∧ acc.length < sizeLine ∧ Nx (upd H4 D (.lst (acc ++ [y]))) else Nx H3) := by
  refine lc_tup (xs := xs) (fun i H' => Same H1 H' ∧ ∃ ys, H' D = some (.lst ys) ∧ AtAll K H' ys (ds.take i)) ⟨upd_new nD, [], upd_same, .nil⟩ (fun i H' _ p => hx H' p.1) (fun i x H' e p => ?_) (fun H' p => ?_)
  · obtain ⟨s1, ys, hD, hA⟩ := p
    have hi : i < xs.length := (List.getElem?_eq_some_iff.mp e).1
    have ed : ds[i]? = some ds[i] := List.getElem?_eq_getElem (by omega)
    refine hs i x ds[i] H' _ _ e ed s1 fun y H4 s4 hy => ?_
    have lys : ys.length = i := by
      rw [hA.length, List.length_take]
      omega
    refine ⟨ys, s4 _ _ hD, by rw [sizeLine_eq]; omega, fun b o eb => ?_, ys ++ [y], upd_same, ?_⟩
    · rw [upd_ne (ne_of_none eb nD)]
      exact s4 _ _ (s1 _ _ eb)
    · rw [List.take_add_one, ed]
      refine (AtAll.tups (tups_upd (s4 _ _ hD)) (tupDs_take ht) (hA.same s4)).app (.cons ?_ .nil)
      exact At.tups (tups_upd (s4 _ _ hD)) (tupDs_all.mp ht _ (List.mem_of_getElem? ed)) hy
  · obtain ⟨s1, ys, hD, hA⟩ := p
    rw [← hl, List.take_length] at hA
    exact hd H' s1 (.lst hD (by rw [hA.length]; exact hn) hA)
/-- rationals as they are given: whole numbers and pairs -/
def GivenV (H : Hp) (xs : List V) (ps : List (Int × Int)) : Prop := xs.length = ps.length ∧ ∀ (i : Nat) (x : V) (p : Int × Int), xs[i]? = some x → ps[i]? = some p → RatV H x p.1 p.2
theorem GivenV.same {H H' : Hp} {xs : List V} {ps : List (Int × Int)} (h : GivenV H xs ps) (s : Same H H') : GivenV H' xs ps := ⟨h.1, fun i x p a b => (h.2 i x p a b).same s⟩
def scaleOf (ps : List (Int × Int)) : Int := ps.foldl (fun s p => lcmI s p.2) 1
def wholeZ (ps : List (Int × Int)) : List Int := ps.map fun p => p.1 * (scaleOf ps).fdiv p.2
def qOf (p : Int × Int) : Rat := (p.1 : Rat) / (p.2 : Rat)
theorem scale_fold : ∀ (ps : List (Int × Int)) (s : Int), 0 < s → (∀ p ∈ ps, p.2 ≠ 0) → 0 < ps.foldl (fun s p => lcmI s p.2) s ∧ (∃ k, ps.foldl (fun s p => lcmI s p.2) s = s * k) ∧ ∀ p ∈ ps, ∃ k, ps.foldl (fun s p => lcmI s p.2) s = p.2 * k
  | [], s, hs, _ => ⟨hs, ⟨1, by simp⟩, fun p hp => absurd hp (by simp)⟩
  | p :: r, s, hs, h => by
    obtain ⟨l1, ⟨k1, l2⟩, ⟨k2, l3⟩, _⟩ := lcm_ok hs (h p List.mem_cons_self)
    obtain ⟨a, ⟨k, b⟩, c⟩ := scale_fold r (lcmI s p.2) l1 (fun q hq => h q (List.mem_cons_of_mem _ hq))
    refine ⟨a, ⟨k1 * k, ?_⟩, fun q hq => ?_⟩
    · rw [List.foldl_cons, b, l2, Int.mul_assoc]
    · rcases List.mem_cons.mp hq with z | z
      · subst z
        exact ⟨k2 * k, by rw [List.foldl_cons, b, l3, Int.mul_assoc]⟩
      · exact c q z
theorem scale_ok {ps : List (Int × Int)} (h : ∀ p ∈ ps, p.2 ≠ 0) : 0 < scaleOf ps ∧ ∀ p ∈ ps, ∃ k, scaleOf ps = p.2 * k := by
  obtain ⟨a, _, c⟩ := scale_fold ps 1 (by decide) h
  exact ⟨a, c⟩
theorem scale_snoc (ps : List (Int × Int)) (p : Int × Int) : scaleOf (ps ++ [p]) = lcmI (scaleOf ps) p.2 := by
  unfold scaleOf
  rw [List.foldl_append]
  rfl
theorem scale_le {M : Nat} : ∀ (ps : List (Int × Int)) (s : Int), 0 < s → (∀ p ∈ ps, p.2 ≠ 0 ∧ p.2.natAbs < 2 ^ M) → ps.foldl (fun s p => lcmI s p.2) s ≤ s * 2 ^ (M * ps.length)
  | [], s, _, _ => by simp
  | p :: r, s, hs, h => by
    obtain ⟨h1, h2⟩ := h p List.mem_cons_self
    obtain ⟨l1, _, _, l4⟩ := lcm_ok hs h1
    have ih := scale_le r (lcmI s p.2) l1 (fun q hq => h q (List.mem_cons_of_mem _ hq))
    rw [List.foldl_cons]
    refine Int.le_trans ih ?_
    have e : M * (p :: r).length = M + M * r.length := by
      rw [List.length_cons, Nat.mul_add]
      omega
    rw [e, Int.pow_add, ← Int.mul_assoc]
    refine Int.mul_le_mul_of_nonneg_right ?_ (Int.pow_nonneg (by decide))
    refine Int.le_trans l4 (Int.mul_le_mul_of_nonneg_left ?_ (by omega))
    have : ((p.2.natAbs : Nat) : Int) ≤ ((2 ^ M : Nat) : Int) := by omega
    simpa using this
theorem whole_q {ps : List (Int × Int)} (h : ∀ p ∈ ps, p.2 ≠ 0) : (wholeZ ps).map (fun z : Int => (z : Rat) / (scaleOf ps : Rat)) = ps.map qOf := by
  obtain ⟨h1, h2⟩ := scale_ok h
  unfold wholeZ
  rw [List.map_map]
  refine List.map_congr_left fun p hp => ?_
  obtain ⟨k, hk⟩ := h2 p hp
  have d0 := h p hp
  show (((p.1 * (scaleOf ps).fdiv p.2 : Int)) : Rat) / (scaleOf ps : Rat) = (p.1 : Rat) / (p.2 : Rat)
  rw [fdiv_is d0 hk]
  have k0 : k ≠ 0 := fun z => by
    rw [z, Int.mul_zero] at hk
    omega
  exact rat_scale (s := k) (Int.mul_comm _ _) (by rw [hk, Int.mul_comm]) k0
end RB

set_option Elab.async false
set_option linter.all false
set_option maxRecDepth 100000
set_option maxHeartbeats 2000000
namespace PD
open PySem PySem.Spec PyProof.Rows L2 RB
section
variable {K : PySem.W.Frag}
/-! ### ints -/
def oI (C : Int → Int → Bool) (g : Int → Int → Dat) : Dat → Dat → Option Dat
  | .int i, .int j => if C i j = true then some (g i j) else none
  | _, _ => none
theorem sim_I {C : Int → Int → Prop} {Cb : Int → Int → Bool} {g : Int → Int → V} {g' : Int → Int → Dat} (hC : ∀ i j, Cb i j = true → C i j) (h : ∀ H i j, DV K H (g i j) (g' i j)) : Sim2 K (rI C g) (oI Cb g') := by
  intro x y H Hf dx dy z Q s hx hy e q _
  unfold oI at e
  split at e
  · rename_i i j
    split at e
    · rename_i hc
      cases e
      rw [hx.int, hy.int]
      exact ⟨i, j, rfl, rfl, hC _ _ hc, q _ (h _ _ _)⟩
    · cases e
  · cases e
theorem sim_I0 {g : Int → Int → V} {g' : Int → Int → Dat} (h : ∀ H i j, DV K H (g i j) (g' i j)) : Sim2 K (rI0 g) (oI (fun _ _ => true) g') := by
  intro x y H Hf dx dy z Q s hx hy e q _
  unfold oI at e
  split at e
  · rename_i i j
    rw [if_pos rfl] at e
    cases e
    rw [hx.int, hy.int]
    exact ⟨i, j, rfl, rfl, q _ (h _ _ _)⟩
  · cases e
def oSub := oI (fun _ _ => true) fun i j => .int (i - j)
def oFdiv := oI (fun _ j => decide (j ≠ 0 ∧ j.natAbs.log2 < 9000)) fun i j => .int (i.fdiv j)
def oMod := oI (fun _ j => decide (j ≠ 0)) fun i j => .int (i.fmod j)
def oLt := oI (fun _ _ => true) fun i j => .bl (decide (i < j))
def oLe := oI (fun _ _ => true) fun i j => .bl (decide (i ≤ j))
def oGt := oI (fun _ _ => true) fun i j => .bl (decide (j < i))
def oGe := oI (fun _ _ => true) fun i j => .bl (decide (j ≤ i))
theorem sim_sub : Sim2 K (rI0 fun i j => .int (i - j)) oSub := sim_I0 fun _ _ _ => .int _
theorem sim_fdiv : Sim2 K (rI CDivX fun i j => .int (i.fdiv j)) oFdiv := sim_I (fun _ j h => (of_decide_eq_true h : j ≠ 0 ∧ j.natAbs.log2 < 9000)) fun _ _ _ => .int _
theorem sim_mod : Sim2 K (rI (fun _ j => j ≠ 0) fun i j => .int (i.fmod j)) oMod := sim_I (fun _ _ h => of_decide_eq_true h) fun _ _ _ => .int _
theorem sim_lt : Sim2 K (rI0 fun i j => .bl (decide (i < j))) oLt := sim_I0 fun _ _ _ => .bl _
theorem sim_le : Sim2 K (rI0 fun i j => .bl (decide (i ≤ j))) oLe := sim_I0 fun _ _ _ => .bl _
theorem sim_gt : Sim2 K (rI0 fun i j => .bl (decide (j < i))) oGt := sim_I0 fun _ _ _ => .bl _
theorem sim_ge : Sim2 K (rI0 fun i j => .bl (decide (j ≤ i))) oGe := sim_I0 fun _ _ _ => .bl _
def oNeg : Dat → Option Dat
  | .int i => some (.int (-i))
  | _ => none
theorem sim_neg : Sim1 K (rU fun i => .int (-i)) oNeg := by
  intro x H Hf dx z Q s hx e q _
  unfold oNeg at e
  split at e
  · cases e
    rw [hx.int]
    exact ⟨_, rfl, q _ (.int _)⟩
  · cases e
/-! ### + -/
def oAdd : Dat → Dat → Option Dat
  | .int i, .int j => some (.int (i + j))
  | .str a, .str b => if a.length + b.length ≤ 100000 then some (.str (a ++ b)) else none
  | .lst a, .lst b => if a.length + b.length ≤ 100000 then some (.lst (a ++ b)) else none
  | .tup a, .tup b => if a.length + b.length ≤ 100000 then some (.tup (a ++ b)) else none
  | _, _ => none
def rAdd (K : PySem.W.Frag) : R2 := fun x y H Q => rI0 (fun i j => .int (i + j)) x y H Q ∨ ((∃ i j, x = .str i ∧ y = .str j ∧ i.length + j.length ≤ sizeLine ∧ Q (.str (i ++ j)) H) ∨ (rCat x y H Q ∨ rCatA K x y H Q))
theorem op_addA {X : Cx} : OpR X (binaryOp .Add) (rAdd X.K) := op_add.or (op_add_str.or (op_cat.or op_catA))
theorem sim_add : Sim2 K (rAdd K) oAdd := by
  intro x y H Hf dx dy z Q s hx hy e q qn
  unfold oAdd at e
  split at e
  · cases e
    rw [hx.int, hy.int]
    exact .inl ⟨_, _, rfl, rfl, q _ (.int _)⟩
  · split at e
    · rename_i hl
      cases e
      rw [hx.str, hy.str]
      exact .inr (.inl ⟨_, _, rfl, rfl, line5 hl, q _ (.str _)⟩)
    · cases e
  · split at e
    · rename_i hl
      cases e
      obtain ⟨a, xs, rfl, ha, la, va⟩ := hx.lst s
      obtain ⟨b, ys, rfl, hb, lb, vb⟩ := hy.lst s
      have hl' : xs.length + ys.length ≤ 100000 := by rw [va.length, vb.length]; exact hl
      refine .inr (.inr (.inl ⟨a, b, xs, ys, rfl, rfl, ha, hb, line5 hl', fun p hp => qn p _ _ hp (fun _ z => nomatch z) (.lst upd_same (by rw [List.length_append]; exact hl') ((va.app vb).same (upd_new (none_of_same s hp))))⟩))
    · cases e
  · split at e
    · rename_i hl
      cases e
      obtain ⟨a, xs, rfl, ha, la, va⟩ := hx.tup s
      obtain ⟨b, ys, rfl, hb, lb, vb⟩ := hy.tup s
      have hl' : xs.length + ys.length ≤ 100000 := by rw [va.length, vb.length]; exact hl
      refine .inr (.inr (.inr ⟨a, b, xs, ys, rfl, rfl, ha, hb, line5 hl', fun n1 => ?_, fun _ n2 => ?_, fun _ _ p hp => qn p _ _ hp (fun _ z => nomatch z) (.tup (.inl (.inl upd_same)) (by rw [List.length_append]; exact hl') ((va.app vb).same (upd_new (none_of_same s hp))))⟩))
      · subst n1
        cases va
        rcases hy with h | ⟨_, _, _, _, e, _⟩
        · exact q _ h
        · cases e
      · subst n2
        cases vb
        rw [List.append_nil] at q
        rcases hx with h | ⟨_, _, _, _, e, _⟩
        · exact q _ h
        · cases e
    · cases e
  · cases e
/-! ### * -/
def oMul : Dat → Dat → Option Dat
  | .int i, .int j => if i.natAbs.log2 + j.natAbs.log2 < 1000000 then some (.int (i * j)) else none
  | _, _ => none
theorem sim_mul : Sim2 K (rI CMulW fun i j => .int (i * j)) oMul := by
  intro x y H Hf dx dy z Q s hx hy e q qn
  unfold oMul at e
  split at e
  · split at e
    · rename_i hl
      cases e
      rw [hx.int, hy.int]
      exact ⟨_, _, rfl, rfl, hl, q _ (.int _)⟩
    · cases e
  · cases e
/-! ### == -/
mutual
theorem DV.dp {H : Hp} : ∀ {v : V} {d : Dat}, DV K H v d → d.pd.canLay0 = true → Dp K H v d.pd
  | _, _, .non, _ => .non
  | _, _, .bl b, _ => .bl b
  | _, _, .int i, _ => .int i
  | _, _, .str x, _ => .str x
  | _, _, .lst (ds := ds) e l a, h => .lst (.inl (.inl e)) (DVs.dp a (by simpa only [Dat.pd, PyData.canLay0] using h))
  | _, _, .tup (ds := ds) e l a, h => .tup e (DVs.dp a (by simpa only [Dat.pd, PyData.canLay0] using h))
  | _, _, .dct _ _ _ _ _, h => by simp [Dat.pd, PyData.canLay0] at h
  | _, _, .ins _ _ _ _, h => by simp [Dat.pd, PyData.canLay0] at h
theorem DVs.dp {H : Hp} : ∀ {xs : List V} {ds : List Dat}, DVs K H xs ds → PyData.canLayAll0 (pds ds) = true → DpAll K H xs (pds ds)
  | _, _, .nil, _ => .nil
  | _, _, .cons (d := d) (ds := ds) a t, h => by
    have h' : d.pd.canLay0 = true ∧ PyData.canLayAll0 (pds ds) = true := by simpa [pds, PyData.canLayAll0] using h
    exact .cons (DV.dp a h'.1) (DVs.dp t h'.2)
end
theorem GV.dp {Hf H : Hp} {v : V} {d : Dat} (s : Same Hf H) (h : GV K Hf H v d) (hc : SeqAt.shaped d.pd = true) : Dp K H v d.pd := by
  have hc := SeqAt.canLay_of_shaped hc
  rcases h with h | ⟨p, vs, ds, rfl, rfl, a, b, c⟩
  · exact (h.same s).dp hc
  · exact .lst (.inl (.inl a)) ((c.same s).dp (by simpa only [Dat.pd, PyData.canLay0] using hc))
def oEq (x y : Dat) : Option Dat := if SeqAt.shaped x.pd = true ∧ SeqAt.shaped y.pd = true then some (.bl (PyData.eqv x.pd y.pd)) else none
def oNe (x y : Dat) : Option Dat := if SeqAt.shaped x.pd = true ∧ SeqAt.shaped y.pd = true then some (.bl (!PyData.eqv x.pd y.pd)) else none
theorem sim_eq : Sim2 K (rEqD K) oEq := by
  intro x y H Hf dx dy z Q s hx hy e q _
  unfold oEq at e
  split at e
  · rename_i h
    cases e
    exact ⟨_, _, hx.dp s h.1, hy.dp s h.2, h.1, h.2, q _ (.bl _)⟩
  · cases e
theorem sim_ne : Sim2 K (rNeD K) oNe := by
  intro x y H Hf dx dy z Q s hx hy e q _
  unfold oNe at e
  split at e
  · rename_i h
    cases e
    exact ⟨_, _, hx.dp s h.1, hy.dp s h.2, h.1, h.2, q _ (.bl _)⟩
  · cases e
def oIsN : Dat → Dat → Option Dat
  | .non, .non => some (.bl true)
  | _, .non => some (.bl false)
  | _, _ => none
theorem sim_isN : Sim2 K (fun x y H Q => y = .non ∧ Q (.bl (decide (x = .non))) H) oIsN := by
  intro x y H Hf dx dy z Q s hx hy e q _
  unfold oIsN at e
  split at e
  · cases e
    rw [hx.non, hy.non]
    exact ⟨rfl, q _ (.bl _)⟩
  · rename_i d n
    cases e
    refine ⟨hy.non, ?_⟩
    have : decide (x = .non) = false := decide_eq_false fun z => by
      subst z
      rcases hx with h | ⟨_, _, _, e, _⟩
      · cases h
        exact n rfl
      · cases e
    rw [this]
    exact q _ (.bl _)
  · cases e
/-! ### in -/
def flatD : Dat → Bool
  | .lst _ | .tup _ | .dct _ _ | .ins _ _ _ => false
  | _ => true
def eqD : Dat → Dat → Bool
  | .non, .non => true
  | .bl a, .bl b => a == b
  | .bl a, .int b => (if a then 1 else 0) == b
  | .int a, .bl b => a == (if b then 1 else 0)
  | .int a, .int b => a == b
  | .str a, .str b => a == b
  | _, _ => false
theorem flat_of {H : Hp} {v : V} {d : Dat} (h : DV K H v d) (hf : flatD d = true) : flatV v = true := by
  cases h <;> first | rfl | cases hf
theorem eqV_of {H H' : Hp} {v u : V} {d e : Dat} (h : DV K H v d) (h' : DV K H' u e) (hf : flatD d = true) (hf' : flatD e = true) : eqV v u = eqD d e := by
  cases h with
  | dct _ _ _ _ _ => cases hf
  | ins _ _ _ _ => cases hf
  | lst _ _ _ => cases hf
  | tup _ _ _ => cases hf
  | non => cases h' <;> first | rfl | cases hf'
  | bl _ => cases h' <;> first | rfl | cases hf'
  | int _ => cases h' <;> first | rfl | cases hf'
  | str _ => cases h' <;> first | rfl | cases hf'
def inD (x : Dat) (ds : List Dat) : Option Bool := if flatD x = true ∧ ds.all flatD = true then some (ds.any fun y => eqD y x) else none
theorem inV_of {H H' : Hp} {v : V} {d : Dat} (h : DV K H v d) (hf : flatD d = true) : ∀ {xs : List V} {ds : List Dat}, DVs K H' xs ds → ds.all flatD = true → xs.all flatV = true ∧ inV v xs = ds.any fun y => eqD y d
  | _, _, .nil, _ => ⟨rfl, rfl⟩
  | _, _, .cons (v := x) (d := e) a t, hall => by
    rw [List.all_cons, Bool.and_eq_true] at hall
    obtain ⟨h1, h2⟩ := inV_of h hf t hall.2
    refine ⟨by rw [List.all_cons, flat_of a hall.1, h1]; rfl, ?_⟩
    show (eqV x v || inV v _) = (eqD e d || _)
    rw [eqV_of a h hall.1 hf, h2]
def oIn (neg : Bool) : Dat → Dat → Option Dat
  | .str c, .str z => match c.cps.toList with
    | [k] => some (.bl (if neg then !decide (k ∈ z.cps.toList) else decide (k ∈ z.cps.toList)))
    | _ => none
  | x, .lst ds => (inD x ds).map fun b => .bl (if neg then !b else b)
  | x, .tup ds => (inD x ds).map fun b => .bl (if neg then !b else b)
  | _, _ => none
def rInA (K : PySem.W.Frag) : R2 := fun x y H Q => (∃ (c : Nat) (z : Str), x = .str ⟨#[c]⟩ ∧ y = .str z ∧ Q (.bl (decide (c ∈ z.cps.toList))) H) ∨ rIn K false x y H Q
def rNotInA (K : PySem.W.Frag) : R2 := fun x y H Q => (∃ (c : Nat) (z : Str), x = .str ⟨#[c]⟩ ∧ y = .str z ∧ Q (.bl (!decide (c ∈ z.cps.toList))) H) ∨ rIn K true x y H Q
theorem op_inA {X : Cx} : OpR X (compareOp .In) (rInA X.K) := op_in_sign.or op_in_seq
theorem op_notInA {X : Cx} : OpR X (compareOp .NotIn) (rNotInA X.K) := op_notIn_sign.or op_notIn_seq
theorem str_one {c : Str} {k : Nat} (h : c.cps.toList = [k]) : c = ⟨#[k]⟩ := by
  obtain ⟨⟨l⟩⟩ := c
  cases h
  rfl
theorem sim_in_seq {Hf H : Hp} {x y : V} {dx : Dat} {ds : List Dat} {b neg : Bool} {Q : VK} (s : Same Hf H) (hx : GV K Hf H x dx) (hy : (∃ a xs, y = .ref a ∧ (SqL K H a xs ∨ SqT K H a xs) ∧ DVs K Hf xs ds)) (e : inD dx ds = some b) (q : Q (.bl (if neg then !b else b)) H) : rIn K neg x y H Q := by
  unfold inD at e
  split at e
  · rename_i hc
    cases e
    obtain ⟨a, xs, rfl, hs, hv⟩ := hy
    have hd : DV K Hf x dx := by
      rcases hx with h | ⟨_, _, _, _, rfl, _⟩
      · exact h
      · cases hc.1
    obtain ⟨h1, h2⟩ := inV_of hd hc.1 hv hc.2
    refine ⟨a, xs, rfl, hs, flat_of hd hc.1, h1, ?_⟩
    rw [h2]
    exact q
  · cases e
theorem sim_in : Sim2 K (rInA K) (oIn false) := by
  intro x y H Hf dx dy z Q s hx hy e q _
  unfold oIn at e
  split at e
  · split at e
    · rename_i k hk
      cases e
      rw [hx.str, hy.str, str_one hk]
      exact .inl ⟨k, _, rfl, rfl, q _ (.bl _)⟩
    · cases e
  · rename_i x0 ds
    cases eb : inD dx ds with
    | none => rw [eb] at e; cases e
    | some b =>
      rw [eb] at e
      cases e
      obtain ⟨a, xs, rfl, ha, la, va⟩ := hy.lst s
      exact .inr (sim_in_seq s hx ⟨a, xs, rfl, .inl (.inl (.inl ha)), va⟩ eb (q _ (.bl _)))
  · rename_i x0 ds
    cases eb : inD dx ds with
    | none => rw [eb] at e; cases e
    | some b =>
      rw [eb] at e
      cases e
      obtain ⟨a, xs, rfl, ha, la, va⟩ := hy.tup s
      exact .inr (sim_in_seq s hx ⟨a, xs, rfl, .inr ha, va⟩ eb (q _ (.bl _)))
  · cases e
theorem sim_notIn : Sim2 K (rNotInA K) (oIn true) := by
  intro x y H Hf dx dy z Q s hx hy e q _
  unfold oIn at e
  split at e
  · split at e
    · rename_i k hk
      cases e
      rw [hx.str, hy.str, str_one hk]
      exact .inl ⟨k, _, rfl, rfl, q _ (.bl _)⟩
    · cases e
  · rename_i x0 ds
    cases eb : inD dx ds with
    | none => rw [eb] at e; cases e
    | some b =>
      rw [eb] at e
      cases e
      obtain ⟨a, xs, rfl, ha, la, va⟩ := hy.lst s
      exact .inr (sim_in_seq s hx ⟨a, xs, rfl, .inl (.inl (.inl ha)), va⟩ eb (q _ (.bl _)))
  · rename_i x0 ds
    cases eb : inD dx ds with
    | none => rw [eb] at e; cases e
    | some b =>
      rw [eb] at e
      cases e
      obtain ⟨a, xs, rfl, ha, la, va⟩ := hy.tup s
      exact .inr (sim_in_seq s hx ⟨a, xs, rfl, .inr ha, va⟩ eb (q _ (.bl _)))
  · cases e
/-! ### subscripts -/
def oIx : Dat → Dat → Option Dat
  | .lst ds, .int i => atI ds i
  | .tup ds, .int i => atI ds i
  | .str z, .int i => if z.length ≤ 100000 then (atI z.cps.toList i).map fun c => .str ⟨#[c]⟩ else none
  | _, _ => none
theorem atI_of {H : Hp} {xs : List V} {ds : List Dat} {i : Int} {d : Dat} (h : DVs K H xs ds) (e : atI ds i = some d) : ∃ x, atI xs i = some x ∧ DV K H x d := by
  unfold atI at e ⊢
  rw [h.length]
  cases ei : ixN ds.length i with
  | none => rw [ei] at e; cases e
  | some j =>
    rw [ei] at e
    exact h.get e
theorem sim_ix : Sim2 K (rIx K) oIx := by
  intro x y H Hf dx dy z Q s hx hy e q _
  unfold oIx at e
  split at e
  · obtain ⟨a, xs, rfl, ha, la, va⟩ := hx.lst s
    obtain ⟨v, e1, hv⟩ := atI_of va e
    rw [hy.int]
    exact .inl ⟨a, xs, _, v, rfl, rfl, .inl (.inl ha), e1, q v hv⟩
  · obtain ⟨a, xs, rfl, ha, la, va⟩ := hx.tup s
    obtain ⟨v, e1, hv⟩ := atI_of va e
    rw [hy.int]
    exact .inr (.inl ⟨a, xs, _, v, rfl, rfl, ha, e1, q v hv⟩)
  · split at e
    · rename_i w i hl
      cases ec : atI w.cps.toList i with
      | none => rw [ec] at e; cases e
      | some c =>
        rw [ec] at e
        cases e
        rw [hx.str, hy.int]
        exact .inr (.inr ⟨w, i, c, rfl, rfl, line5 hl, ec, q _ (.str _)⟩)
    · cases e
  · cases e
def cutD (ds : List Dat) (lo hi : Option Int) : List Dat := (ds.drop (HT.sIx ds.length 0 lo)).take (HT.sIx ds.length ds.length hi - HT.sIx ds.length 0 lo)
theorem cut_of {H : Hp} {xs : List V} {ds : List Dat} {lo hi : Option Int} (h : DVs K H xs ds) : DVs K H (cutV xs lo hi) (cutD ds lo hi) := by
  unfold cutV cutD
  rw [h.length]
  exact (h.drop _).take _
def oSl : Dat → Option Int → Option Int → Option Dat
  | .lst ds, lo, hi => some (.lst (cutD ds lo hi))
  | .tup ds, lo, hi => some (.tup (cutD ds lo hi))
  | .str z, lo, hi => if z.length ≤ 100000 then some (.str (cutS z lo hi)) else none
  | _, _, _ => none
def rSlAll (K : PySem.W.Frag) : V → Option Int → Option Int → Hp → VK → Prop := fun x lo hi H Q => rSlL K x lo hi H Q ∨ (rSlA K x lo hi H Q ∨ rSlS x lo hi H Q)
theorem sl_all {X : Cx} : SlR X (rSlAll X.K) := sl_list.or (sl_tupA.or sl_str)
theorem sim_sl : SimS K (rSlAll K) oSl := by
  intro x l u H Hf dx z Q s hx e q qn
  unfold oSl at e
  split at e
  · cases e
    obtain ⟨a, xs, rfl, ha, la, va⟩ := hx.lst s
    exact .inl ⟨a, xs, rfl, .inl (.inl ha), fun p hp => qn p _ _ hp (fun _ z => nomatch z) (.lst upd_same (Nat.le_trans (cutV_length _ _ _) la) ((cut_of va).same (upd_new (none_of_same s hp))))⟩
  · cases e
    rename_i ds
    obtain ⟨a, xs, rfl, ha, la, va⟩ := hx.tup s
    refine .inr (.inl ⟨a, xs, rfl, ha, fun hc => ?_, fun _ p hp => qn p _ _ hp (fun _ z => nomatch z) (.tup (.inl (.inl upd_same)) (Nat.le_trans (cutV_length _ _ _) la) ((cut_of va).same (upd_new (none_of_same s hp))))⟩)
    have : cutD ds l u = ds := by
      unfold cutD
      rw [← va.length, hc.1, hc.2, va.length]
      simp
    rw [this] at q
    rcases hx with h | ⟨_, _, _, _, e, _⟩
    · exact q _ h
    · cases e
  · split at e
    · rename_i hl
      cases e
      rw [hx.str]
      exact .inr (.inr ⟨_, rfl, line5 hl, q _ (.str _)⟩)
    · cases e
  · cases e
/-! ### built-ins -/
def oLen : List Dat → Option Dat
  | [.lst ds] => some (.int ds.length)
  | [.tup ds] => some (.int ds.length)
  | [.str z] => if z.length ≤ 100000 then some (.int z.length) else none
  | _ => none
theorem sim_len : SimN K (fun xs H Q => ∃ x n, xs = [x] ∧ LenV K x H n ∧ Q (.int n) H) oLen := by
  intro xs H Hf ds z Q s hx e q _
  unfold oLen at e
  split at e
  · cases e
    cases hx with
    | cons h t =>
      cases t
      obtain ⟨a, ys, rfl, ha, la, va⟩ := h.lst s
      refine ⟨_, _, rfl, .inl ⟨ys, .inl (.inl ha), rfl⟩, ?_⟩
      rw [va.length]
      exact q _ (.int _)
  · cases e
    cases hx with
    | cons h t =>
      cases t
      obtain ⟨a, ys, rfl, ha, la, va⟩ := h.tup s
      refine ⟨_, _, rfl, .inr ⟨ys, ha, rfl⟩, ?_⟩
      rw [va.length]
      exact q _ (.int _)
  · split at e
    · rename_i hl
      cases e
      cases hx with
      | cons h t =>
        cases t
        rw [h.str]
        exact ⟨_, _, rfl, ⟨line5 hl, rfl⟩, q _ (.int _)⟩
    · cases e
  · cases e
def oStr : List Dat → Option Dat
  | [.int i] => if i.natAbs.log2 < 1920 then some (.str (toString i)) else none
  | _ => none
theorem sim_str : SimN K (fun xs H Q => ∃ i, xs = [.int i] ∧ i.natAbs.log2 < 1920 ∧ Q (.str (toString i)) H) oStr := by
  intro xs H Hf ds z Q s hx e q _
  unfold oStr at e
  split at e
  · split at e
    · rename_i hl
      cases e
      cases hx with
      | cons h t =>
        cases t
        rw [h.int]
        exact ⟨_, rfl, hl, q _ (.str _)⟩
    · cases e
  · cases e
def oInt : List Dat → Option Dat
  | [.str a] => if a.length ≤ 640 then (PySem.intText? a).map .int else none
  | _ => none
theorem sim_int : SimN K (fun xs H Q => ∃ a n, xs = [.str a] ∧ PySem.intText? a = some n ∧ a.length ≤ 640 ∧ Q (.int n) H) oInt := by
  intro xs H Hf ds z Q s hx e q _
  unfold oInt at e
  split at e
  · split at e
    · rename_i a hl
      cases en : PySem.intText? a with
      | none => rw [en] at e; cases e
      | some n =>
        rw [en] at e
        cases e
        cases hx with
        | cons h t =>
          cases t
          rw [h.str]
          exact ⟨a, n, rfl, en, hl, q _ (.int _)⟩
    · cases e
  · cases e
def oTuple : List Dat → Option Dat
  | [.lst ds] => some (.tup ds)
  | [.tup ds] => some (.tup ds)
  | _ => none
theorem sim_tuple : SimN K (fun xs H Q => ∃ p ys, xs = [.ref p] ∧ ((SqL K H p ys ∧ ∀ l, H l = none → Q (.ref l) (upd H l (.tup ys))) ∨ (SqT K H p ys ∧ Q (.ref p) H))) oTuple := by
  intro xs H Hf ds z Q s hx e q qn
  unfold oTuple at e
  split at e
  · cases e
    cases hx with
    | cons h t =>
      cases t
      obtain ⟨a, ys, rfl, ha, la, va⟩ := h.lst s
      exact ⟨a, ys, rfl, .inl ⟨.inl (.inl ha), fun p hp => qn p _ _ hp (fun _ z => nomatch z) (.tup (.inl (.inl upd_same)) la (va.same (upd_new (none_of_same s hp))))⟩⟩
  · cases e
    cases hx with
    | cons h t =>
      cases t
      obtain ⟨a, ys, rfl, ha, la, va⟩ := h.tup s
      refine ⟨a, ys, rfl, .inr ⟨ha, ?_⟩⟩
      rcases h with h | ⟨_, _, _, _, e, _⟩
      · exact q _ h
      · cases e
  · cases e
def oList : List Dat → Option Dat
  | [.lst ds] => some (.lst ds)
  | [.tup ds] => some (.lst ds)
  | _ => none
theorem sim_list : SimN K (fun xs H Q => ∃ p ys, xs = [.ref p] ∧ (SqL K H p ys ∨ SqT K H p ys) ∧ ∀ l, H l = none → Q (.ref l) (upd H l (.lst ys))) oList := by
  intro xs H Hf ds z Q s hx e q qn
  unfold oList at e
  split at e
  · cases e
    cases hx with
    | cons h t =>
      cases t
      obtain ⟨a, ys, rfl, ha, la, va⟩ := h.lst s
      exact ⟨a, ys, rfl, .inl (.inl (.inl ha)), fun p hp => qn p _ _ hp (fun _ z => nomatch z) (.lst upd_same la (va.same (upd_new (none_of_same s hp))))⟩
  · cases e
    cases hx with
    | cons h t =>
      cases t
      obtain ⟨a, ys, rfl, ha, la, va⟩ := h.tup s
      exact ⟨a, ys, rfl, .inr ha, fun p hp => qn p _ _ hp (fun _ z => nomatch z) (.lst upd_same la (va.same (upd_new (none_of_same s hp))))⟩
  · cases e
def intsOf : List Dat → Option (List Int)
  | [] => some []
  | .int i :: r => (intsOf r).map (i :: ·)
  | _ => none
theorem ints_of {H : Hp} : ∀ {xs : List V} {ds : List Dat} {ns : List Int}, DVs K H xs ds → intsOf ds = some ns → xs = ns.map V.int
  | _, _, _, .nil, e => by cases e; rfl
  | _, _, _, .cons (d := d) a t, e => by
    cases a with
    | int i =>
      rename_i ns vs ds
      have e : (intsOf ds).map (i :: ·) = some ns := e
      cases er : intsOf ds with
      | none => rw [er] at e; cases e
      | some ms =>
        rw [er] at e
        cases e
        rw [ints_of t er]
        rfl
    | _ => cases e
def oSum : List Dat → Option Dat
  | [.lst ds] => (intsOf ds).map fun ns => .int ns.sum
  | _ => none
theorem sim_sum : SimN K (rSum K) oSum := by
  intro xs H Hf ds z Q s hx e q qn
  unfold oSum at e
  split at e
  · rename_i es
    cases en : intsOf es with
    | none => rw [en] at e; cases e
    | some ns =>
      rw [en] at e
      cases e
      cases hx with
      | cons h t =>
        cases t
        obtain ⟨a, ys, rfl, ha, la, va⟩ := h.lst s
        rw [ints_of va en] at ha
        exact ⟨a, ns, rfl, .inl (.inl ha), q _ (.int _)⟩
  · cases e
/-! ### methods of texts -/
def isStr : Dat → Bool
  | .str _ => true
  | _ => false
theorem ty_str {x : V} {H Hf : Hp} {d : Dat} (s : Same Hf H) (h : GV K Hf H x d) (e : isStr d = true) : tyV K "str" x H := by
  cases d with
  | str a => rw [h.str]; rfl
  | _ => cases e
def strsOf : List Dat → Option (List Str)
  | [] => some []
  | .str i :: r => (strsOf r).map (i :: ·)
  | _ => none
theorem strs_of {H : Hp} : ∀ {xs : List V} {ds : List Dat} {ns : List Str}, DVs K H xs ds → strsOf ds = some ns → xs = ns.map V.str
  | _, _, _, .nil, e => by cases e; rfl
  | _, _, _, .cons (d := d) a t, e => by
    cases a with
    | str i =>
      rename_i ns vs ds
      have e : (strsOf ds).map (i :: ·) = some ns := e
      cases er : strsOf ds with
      | none => rw [er] at e; cases e
      | some ms =>
        rw [er] at e
        cases e
        rw [strs_of t er]
        rfl
    | _ => cases e
def oJoin : Dat → List Dat → Option Dat
  | .str a, [.lst ds] => (strsOf ds).bind fun ys => if (ys.map (·.length)).sum + ys.length * a.length ≤ 16777216 then some (.str (Txt.join a ys)) else none
  | _, _ => none
theorem sim_join : SimM K "str" (fun x xs H Q => ∃ a p, ∃ ys : List Str, x = .str a ∧ xs = [.ref p] ∧ (SqL K H p (ys.map V.str) ∨ SqT K H p (ys.map V.str)) ∧ (ys.map (·.length)).sum + ys.length * a.length ≤ 16777216 ∧ Q (.str (Txt.join a ys)) H) isStr oJoin := by
  refine ⟨fun x H Hf d s h e => ty_str s h e, fun x xs H Hf dx ds z Q s hx hxs e q _ => ?_⟩
  unfold oJoin at e
  split at e
  · rename_i a es
    cases en : strsOf es with
    | none => rw [en] at e; cases e
    | some ys =>
      rw [en] at e
      have e : (if (ys.map (·.length)).sum + ys.length * a.length ≤ 16777216 then some (Dat.str (Txt.join a ys)) else none) = some z := e
      split at e
      · rename_i hl
        cases e
        cases hxs with
        | cons h t =>
          cases t
          obtain ⟨p, vs, rfl, ha, la, va⟩ := h.lst s
          rw [strs_of va en] at ha
          rw [hx.str]
          exact ⟨a, p, ys, rfl, rfl, .inl (.inl (.inl ha)), hl, q _ (.str _)⟩
      · cases e
  · cases e
def oStarts : Dat → List Dat → Option Dat
  | .str a, [.str b] => some (.bl (Txt.startswith a b))
  | _, _ => none
theorem sim_starts : SimM K "str" (fun x xs H Q => ∃ a b, x = .str a ∧ xs = [.str b] ∧ Q (.bl (Txt.startswith a b)) H) isStr oStarts := by
  refine ⟨fun x H Hf d s h e => ty_str s h e, fun x xs H Hf dx ds z Q s hx hxs e q _ => ?_⟩
  unfold oStarts at e
  split at e
  · cases e
    cases hxs with
    | cons h t =>
      cases t
      rw [hx.str, h.str]
      exact ⟨_, _, rfl, rfl, q _ (.bl _)⟩
  · cases e
def oLstrip : Dat → List Dat → Option Dat
  | .str a, [.str b] => if a.length ≤ 100000 then some (.str (Txt.lstripChars a b)) else none
  | _, _ => none
theorem sim_lstrip : SimM K "str" (fun x xs H Q => ∃ a b, x = .str a ∧ xs = [.str b] ∧ a.length ≤ sizeLine ∧ Q (.str (Txt.lstripChars a b)) H) isStr oLstrip := by
  refine ⟨fun x H Hf d s h e => ty_str s h e, fun x xs H Hf dx ds z Q s hx hxs e q _ => ?_⟩
  unfold oLstrip at e
  split at e
  · split at e
    · rename_i hl
      cases e
      cases hxs with
      | cons h t =>
        cases t
        rw [hx.str, h.str]
        exact ⟨_, _, rfl, rfl, line5 hl, q _ (.str _)⟩
    · cases e
  · cases e
end
/-! ### a chain -/
section
variable {X : Cx} {M : Me}
theorem rd_chain {K : PySem.W.Frag} (hK : M.K = K) {r r' : R2} {o o' : Dat → Dat → Option Dat} {fa fb fc : FE} {σ : L2.St} {H : Hp} {Q : VK} (hs : Sim2 K r o) (hs' : Sim2 K r' o') (h : rdE M (fChain o o' fa fb fc) σ H Q) : tChain r r' (rdO M fa) (rdO M fb) (rdO M fc) σ H Q := by
  obtain ⟨ρ, S, Hf, R, q⟩ := h
  refine ⟨ρ, S, Hf, R, ?_⟩
  unfold fChain RE.bind at q
  cases ea : fa ρ S with
  | er n v => rw [ea] at q; exact q
  | bad => rw [ea] at q; exact q
  | ok dx S1 =>
    rw [ea] at q
    intro x H1 Hf1 T1 hx
    refine ⟨ρ, S1, Hf1, T1.rel, ?_⟩
    simp only at q
    cases eb : fb ρ S1 with
    | er n v => simp only [eb] at q; exact q
    | bad => simp only [eb] at q
    | ok dy S2 =>
      simp only [eb] at q
      intro y H2 Hf2 T2 hy
      subst hK
      cases eo : o dx dy with
      | none => simp only [eo] at q
      | some z =>
        simp only [eo] at q
        have gx := (hx.same T2.same).gv T2.rel
        have gy := hy.gv T2.rel
        have both : ∀ {v : V} {H3 Hf3 : Hp}, Stp M σ ρ Hf2 H2 S2 Hf3 H3 → DV M.K Hf3 v z → ∃ k, v = .bl k ∧ (if k = true then rdO M fc σ H3 fun w' H4 => r' y w' H4 Q else Q (.bl false) H3) := fun {v H3 Hf3} T3 hv => by
          cases hv with
          | dct _ _ _ _ _ => exact q.elim
          | ins _ _ _ _ => exact q.elim
          | bl k =>
            refine ⟨k, rfl, ?_⟩
            cases k with
            | true =>
              rw [if_pos rfl]
              refine ⟨ρ, S2, Hf3, T3.rel, ?_⟩
              simp only at q
              cases ec : fc ρ S2 with
              | er n v => simp only [ec] at q; exact q
              | bad => simp only [ec] at q
              | ok dz S3 =>
                simp only [ec] at q
                intro w H4 Hf4 T4 hw
                unfold ofO at q
                cases eo' : o' dy dz with
                | none => simp only [eo'] at q
                | some z' =>
                  simp only [eo'] at q
                  have T := (T1.trans T2).trans (T3.trans T4)
                  exact hs' y w H4 Hf4 dy dz z' Q T4.rel.sub (((hy.same T3.same).same T4.same).gv T4.rel) (hw.gv T4.rel) eo' (fun v hv => q v H4 Hf4 T hv) fun p ob v hp no hv => q v _ _ (T.new hp no) hv
            | false =>
              rw [if_neg Bool.false_ne_true]
              exact q _ H3 Hf3 ((T1.trans T2).trans T3) (.bl _)
          | non => exact q.elim
          | int _ => exact q.elim
          | str _ => exact q.elim
          | lst _ _ _ => exact q.elim
          | tup _ _ _ => exact q.elim
        exact hs x y H2 Hf2 dx dy z _ T2.rel.sub gx gy eo (fun v hv => both (.refl T2.rel) hv) fun p ob v hp no hv => both ((Stp.refl T2.rel).new hp no) hv
theorem tv_chain {a b c : Expr} {op op' : CmpOp} {pos : Pos} {r r' : R2} {o o' : Dat → Dat → Option Dat} {fa fb fc : FE} (ho : OpR X (compareOp op) r) (ho' : OpR X (compareOp op') r') (hK : M.K = X.K) (hs : Sim2 X.K r o) (hs' : Sim2 X.K r' o') (ha : PE X a (rdO M fa)) (hb : PE X b (rdO M fb)) (hc : PE X c (rdO M fc)) (hm : lastMarks [op, op'] [b, c] = false := by with_unfolding_all rfl) : PT X (.Compare a [op, op'] [b, c] pos) (rdT M (fChain o o' fa fb fc)) :=
  pt_weak (pt_chain ho ho' ha hb hc hm) fun σ H Q h => rd_chain hK hs hs' (rdT_of h)
theorem ev_chain {a b c : Expr} {op op' : CmpOp} {pos : Pos} {r r' : R2} {o o' : Dat → Dat → Option Dat} {fa fb fc : FE} (ho : OpR X (compareOp op) r) (ho' : OpR X (compareOp op') r') (hK : M.K = X.K) (hs : Sim2 X.K r o) (hs' : Sim2 X.K r' o') (ha : PE X a (rdO M fa)) (hb : PE X b (rdO M fb)) (hc : PE X c (rdO M fc)) (hm : lastMarks [op, op'] [b, c] = false := by with_unfolding_all rfl) : PE X (.Compare a [op, op'] [b, c] pos) (rdE M (fChain o o' fa fb fc)) :=
  pe_weak (pe_chain ho ho' ha hb hc hm) fun σ H Q h => rd_chain hK hs hs' h
end
end PD
namespace PD
open PySem PySem.Spec PyProof.Rows L2 RB
section
variable {X : Cx} {M : Me}
theorem pts_weak {ifs : List Expr} {t t' : L2.TT} (h : PTs X ifs t) (i : ∀ σ H Q, t' σ H Q → t σ H Q) : PTs X ifs t' := ⟨fun pins s σ H Q I q => h.run pins s σ H Q I (i _ _ _ q)⟩
theorem ptv_nil : PTs X [] (rdT M fYes) := pts_weak pts_nil fun _ _ _ h => rdT_yes h
theorem ptv_one {c : Expr} {f : FE} (h : PT X c (rdT M f)) : PTs X [c] (rdT M f) := pts_one h
/-- a call of a def that may raise, where it does not -/
def fCall0 (F : List Dat → RF) (a : FA) : FE := fun ρ S => (a ρ S).bind fun ds S1 => match F ds with
  | .ok d => .ok d S1
  | _ => .bad
theorem ev_callF0 {e : Expr} {n : Nat} {F : List Dat → RF} {fa : FA} {ec : Str → Addr} {K' : PySem.W.Frag} (hK : M.K = K') (hn : ∀ ρ S ds S', fa ρ S = .ok ds S' → ds.length = n) (h : PE X e (tCall (spF K' ec n F) [] E0 (rdA M fa))) : PE X e (rdE M (fCall0 F fa)) := pe_weak h fun σ H Q ⟨ρ, S, Hf, R, q⟩ => by
  refine ⟨ρ, S, Hf, R, ?_⟩
  unfold fCall0 RA.bind at q
  cases e1 : fa ρ S with
  | er n v => simp only [e1] at q; exact q
  | bad => simp only [e1] at q
  | ok ds S1 =>
    simp only [e1] at q
    intro vs H1 Hf1 T1 hv
    refine ⟨ds, Hf1, hn _ _ _ _ e1, T1.rel.sub, ?_, ?_⟩
    · rw [List.append_nil, ← hK]
      exact hv
    · cases eF : F ds with
      | ok d =>
        simp only [eF] at q
        intro v H' Hs' s1 s2 s3 fr nt hd
        refine q v H' Hs' (T1.trans ⟨T1.rel.called s1 s2 s3 fr nt, s2, fun b o e _ _ => s1 _ _ e, fshN fr⟩) ?_
        rw [hK]
        exact hd
      | er m v => simp only [eF] at q
      | bad => simp only [eF] at q
theorem sv_raise1 {st : Stmt} {C : Addr} {code fld : Str} {fa : FE} (hE : M.ec code = C) (hf : fieldOf code = some fld) (h : PS X st (fun _ σ H => tMkO C (spErr1 C code fld) [] (tCons (rdE M fa) tNil) σ H fun cls d H' => M.E cls d H')) : PS X st (rdS M (fRaise1 code fa)) := ps_weak h fun D σ H ⟨ρ, S, Hf, R, q⟩ => by
  refine ⟨ρ, S, Hf, R, ?_⟩
  unfold fRaise1 RE.bindS at q
  cases e1 : fa ρ S with
  | er n v => simp only [e1] at q; exact q
  | bad => simp only [e1] at q; exact q.elim
  | ok d S1 =>
    simp only [e1] at q
    intro v H1 Hf1 T1 hv
    have fin : ∀ dd, H1 dd = none → datV d = v → M.Er code d → M.E (.ref C) (some dd) (upd H1 dd (.xd [(fld, v), ("code", .str code)])) := fun dd hd ev er => by
      have := er dd (upd H1 dd (.xd [(fld, v), ("code", .str code)])) (fun b o e m => upd_new hd _ _ (T1.rel.full b o e m)) (T1.rel.H0none hd) (by
        rw [upd_same]
        unfold errF
        rw [hf, ev])
      rw [hE] at this
      exact this
    cases hv with
    | dct _ _ _ _ _ => exact q.elim
    | ins _ _ _ _ => exact q.elim
    | int i => exact ⟨by simp, mk1_of fun dd hd => fin dd hd rfl q⟩
    | str x => exact ⟨by simp, mk1_of fun dd hd => fin dd hd rfl q⟩
    | non => exact q.elim
    | bl _ => exact q.elim
    | lst _ _ _ => exact q.elim
    | tup _ _ _ => exact q.elim
def fRaise0 (n : Str) : FS := fun _ _ => .er n .non
theorem sv_raise0 {st : Stmt} {C : Addr} {code : Str} (hE : M.ec code = C) (hf : fieldOf code = none) (h : PS X st (fun _ σ H => tErr0 C code σ H fun cls d H' => M.E cls d H')) : PS X st (rdS M (fRaise0 code)) := ps_weak h fun D σ H ⟨ρ, S, Hf, R, q⟩ => by
  intro dd hd
  have := q dd (upd H dd (.xd [("code", .str code)])) (fun b o e m => upd_new hd _ _ (R.full b o e m)) (R.H0none hd) (by
    rw [upd_same]
    unfold errF
    rw [hf])
  rw [hE] at this
  exact this
/-! ### a table of the module -/
/-- the dict at a: texts to data -/
structure TabD (K : PySem.W.Frag) (w : World) (a : Addr) (kvs : List (Str × Dat)) : Prop where
  get : ∀ x d, kvs.lookup x = some d → ∃ v, KDct K w a x v ∧ ∀ H, DV K H v d
def oTab (kvs : List (Str × Dat)) : Dat → Option Dat
  | .str x => kvs.lookup x
  | _ => none
theorem ev_tab {b : Expr} {x : Str} {p pos : Pos} {a : Addr} {kvs : List (Str × Dat)} {fb : FE} (hK : M.K = X.K) (ht : TabD X.K X.w a kvs) (h : PE X (.Subscript (.Name x p) b pos) (tOp (rIxD X.K X.w) (tC (.ref a)) (rdO M fb))) : PE X (.Subscript (.Name x p) b pos) (rdE M (fUn (oTab kvs) fb)) := pe_weak h fun σ H Q ⟨ρ, S, Hf, R, q⟩ => by
  refine ⟨ρ, S, Hf, R, ?_⟩
  unfold fUn RE.bind at q
  cases e1 : fb ρ S with
  | er n v => simp only [e1] at q; exact q
  | bad => simp only [e1] at q
  | ok d S1 =>
    simp only [e1] at q
    intro y H1 Hf1 T1 hy
    unfold ofO oTab at q
    cases d with
    | str z =>
      simp only at q
      cases el : kvs.lookup z with
      | none => simp only [el] at q
      | some r =>
        simp only [el] at q
        obtain ⟨v, hk, hv⟩ := ht.get z r el
        rw [(hy.gv T1.rel).str]
        exact ⟨a, z, v, rfl, rfl, hk, q v H1 Hf1 T1 (by rw [hK]; exact hv _)⟩
    | _ => exact q.elim
end
/-- a def that is never called in earnest -/
theorem fn_bad {P : Program} {w : World} {K : PySem.W.Frag} {mg : Str → Option Value} {base : Heap} {CX : CXT} {k n : Nat} {f : Addr} {fd : FuncData} {ps : List Str} {ec : Str → Addr} (hn : ps.length = n) : FnOk P w K mg base CX k f fd ps (spF K ec n fun _ => .bad) :=
  ⟨fun vs H Q E ⟨ds, Hs, h1, _, h2, _⟩ => by rw [h2.length, h1, hn], fun _ _ _ _ _ _ _ _ _ _ _ _ _ ⟨_, _, _, _, _, z⟩ => z.elim⟩
end PD

set_option Elab.async false
set_option linter.all false
set_option maxRecDepth 100000
set_option maxHeartbeats 2000000
namespace PD
open PySem PySem.Spec PyProof.Rows L2 RB
/-! ### defs that change one object, their first argument -/
def spM (K : PySem.W.Frag) (ec : Str → Addr) (kd : MK → Prop) (n : Nat) (F : Fld → List Dat → RE) : Sp := fun vs H Q E => ∃ (x : Addr) (k : MK) (S : Fld) (ws : List V) (ds : List Dat) (Hs : Hp), vs = .ref x :: ws ∧ kd k ∧ ds.length = n ∧ Same Hs H ∧ Hs x = none ∧ MeIs K x H Hs S k ∧ DVs K Hs ws ds ∧ match F S ds with
  | .ok d S' => ∀ v H' Hs', (∀ b o, H b = some o → b ≠ x → H' b = some o) → Same Hs Hs' → Same Hs' H' → (∀ b, Hs' b ≠ none → Hs b ≠ none ∨ H b = none) → (∀ b ps, Hs' b = some (.tbl ps) → Hs b = some (.tbl ps)) → MeIs K x H' Hs' S' k → DV K Hs' v d → Q v H'
  | .er m v => ∀ dd H', (∀ b o, H b = some o → b ≠ x → H' b = some o) → H dd = none → H' dd = some (.xd (errF m v)) → E (.ref (ec m)) (some dd) H'
  | .bad => False
def startM (N : Nat) (ds : List Dat) : DEnv := some .me :: (ds.map fun d => some (Slot.v d)) ++ List.replicate (N - (ds.length + 1)) none
def runM (N : Nat) (f : FS) (S : Fld) (ds : List Dat) : RE := match f (startM N ds) S with
  | .rt d S' => .ok d S'
  | .nx _ S' => .ok .non S'
  | .er n v => .er n v
  | _ => .bad
theorem rel_startM {K : PySem.W.Frag} {H Hs : Hp} {E : XK} {ec : Str → Addr} {N : List Str} {x : Addr} {k : MK} {S : Fld} {ws : List V} {ds : List Dat} (ks : k.sub = none) (s : Same Hs H) (hx : Hs x = none) (hm : MeIs K x H Hs S k) (hv : DVs K Hs ws ds) : Rel ⟨K, H, Hs, E, ec, some (x, k), []⟩ (L2.start N (.ref x :: ws)) H (startM N.length ds) S Hs := by
  have hl := hv.length
  have no : ∀ (i : Nat) (s : Slot), (startM N.length ds)[i]? = some (some s) → (i = 0 ∧ s = .me) ∨ ∃ j d, i = j + 1 ∧ ds[j]? = some d ∧ s = .v d := fun i s e => by
    unfold startM at e
    cases i with
    | zero =>
      cases e
      exact .inl ⟨rfl, rfl⟩
    | succ j =>
      have e : ((ds.map fun d => some (Slot.v d)) ++ List.replicate (N.length - (ds.length + 1)) none)[j]? = some (some s) := e
      rw [List.getElem?_append] at e
      split at e
      · rw [List.getElem?_map] at e
        cases q : ds[j]? with
        | none => rw [q] at e; cases e
        | some d =>
          rw [q] at e
          cases e
          exact .inr ⟨j, d, rfl, q, rfl⟩
      · rw [List.getElem?_replicate] at e
        split at e <;> cases e
  refine ⟨?_, Same.refl _, s, fun b o e _ => e, fun b e => .inl e, fun i xs p e1 e2 => ?_, fun i s e => ?_, fun i j xs ys p n e1 e2 e3 => ?_, fun y k' e => ?_, fun z hz => (nomatch hz), fun z hz => (nomatch hz), fun _ _ e => e, fun b ⟨_, _, e, m⟩ => by cases e; rw [ks] at m; cases m⟩
  · unfold L2.start startM
    simp [hl]
  · rcases no _ _ e1 with ⟨_, z⟩ | ⟨_, _, _, _, z⟩ <;> cases z
  · rcases no _ _ e with ⟨rfl, rfl⟩ | ⟨j, d, rfl, hd, rfl⟩
    · exact ⟨.ref x, rfl, x, k, rfl, rfl⟩
    · obtain ⟨y, hy, hyd⟩ := hv.get hd
      refine ⟨y, ?_, hyd⟩
      have : j < ws.length := by
        rcases Nat.lt_or_ge j ws.length with z | z
        · exact z
        · rw [List.getElem?_eq_none z] at hy
          cases hy
      show (ws.map some ++ List.replicate (N.length - (ws.length + 1)) none)[j]? = _
      rw [List.getElem?_append_left (by simpa using this), List.getElem?_map, hy]
      rfl
  · rcases no _ _ e1 with ⟨_, z⟩ | ⟨_, _, _, _, z⟩ <;> cases z
  · cases e
    obtain ⟨o, ho⟩ := hm.there
    exact ⟨hx, by show H x ≠ none; rw [ho]; simp, hm⟩
section
variable {P : Program} {w : World} {K : PySem.W.Frag} {mg : Str → Option Value} {base : Heap}
theorem post_endM {H Hs : Hp} {E : XK} {ec : Str → Addr} {N : Nat} {f : FS} {S : Fld} {ds : List Dat} {Q : VK} {x : Addr} {k : MK} (ks : k.sub = none) (q : match runM N f S ds with
  | .ok d S' => ∀ v H' Hs', (∀ b o, H b = some o → b ≠ x → H' b = some o) → Same Hs Hs' → Same Hs' H' → (∀ b, Hs' b ≠ none → Hs b ≠ none ∨ H b = none) → (∀ b ps, Hs' b = some (.tbl ps) → Hs b = some (.tbl ps)) → MeIs K x H' Hs' S' k → DV K Hs' v d → Q v H'
  | .er m v => ∀ dd H', (∀ b o, H b = some o → b ≠ x → H' b = some o) → H dd = none → H' dd = some (.xd (errF m v)) → E (.ref (ec m)) (some dd) H'
  | .bad => False) : Post ⟨K, H, Hs, E, ec, some (x, k), []⟩ Hs { nx := fun _ H' => Q .non H', rt := Q } (f (startM N ds) S) := by
  have nm : ∀ b, b ≠ x → ¬ Me.mine ⟨K, H, Hs, E, ec, some (x, k), []⟩ b := fun b hb m => by
    rcases m with ⟨k', z⟩ | ⟨q, z⟩ | ⟨_, _, z, m⟩
    · cases z
      exact hb rfl
    · cases z
    · cases z
      rw [ks] at m
      cases m
  unfold runM at q
  cases e : f (startM N ds) S with
  | rt d S' => rw [e] at q; exact fun v σ H' ρ Hf' R hd => q v H' Hf' (fun b o z hb => R.full b o z (nm b hb)) R.base R.sub R.fresh R.notb (R.me x k rfl).2.2 hd
  | nx ρ S' => rw [e] at q; exact fun σ H' Hf' R s => q .non H' Hf' (fun b o z hb => R.full b o z (nm b hb)) R.base R.sub R.fresh R.notb (R.me x k rfl).2.2 .non
  | er m v => rw [e] at q; exact fun dd H' full h1 h2 => q dd H' (fun b o z hb => full b o z (nm b hb)) h1 h2
  | bk ρ S => rw [e] at q; exact q.elim
  | ct ρ S => rw [e] at q; exact q.elim
  | bad => rw [e] at q; exact q.elim
theorem fnM {x qual : Str} {st : Stmt} {f : Addr} {fd : FuncData} {N ps : List Str} {k n : Nat} {F : FS} {ec : Str → Addr} {kd : MK → Prop} (Fu : L2.Fun K x qual st f fd) (S : FnScope N ps (defScope st)) (hn : ps.length = n + 1)
    (body : ∀ (cdv : Value) (A : Around) (outer : List PySem.Env) (s : Shared) (H Hs : Hp) (E : XK) (y : Addr) (kk : MK), kd kk → Room k (A.deeper (envOfC qual (defScope st) s.heap.objs.size f cdv)) → PSs (cxOf CX0 P w K mg base N qual (defScope st) f cdv A outer s H E).nox (defBody st) (rdS ⟨K, H, Hs, E, ec, some (y, kk), []⟩ F))
    (hks : ∀ k, kd k → k.sub = none := by intro k h; first | (cases h; rfl) | (obtain ⟨_, h⟩ := h; cases h; rfl)) :
    FnOk P w K mg base CX0 (k + 1) f fd ps (spM K ec kd n (runM N.length F)) := by
  refine Fu.ok S (fun vs H Q E h => ?_) (fun cdv A outer s H vs Q E hr h => ?_)
  · obtain ⟨y, kk, S0, ws, ds, Hs, rfl, _, h1, _, _, _, h2, _⟩ := h
    rw [hn]
    show ws.length + 1 = n + 1
    rw [h2.length, h1]
  · obtain ⟨y, kk, S0, ws, ds, Hs, rfl, hk, h1, h2, h3, h4, h5, q⟩ := h
    exact ⟨_, body cdv A outer s H Hs E y kk hk hr, startM N.length ds, S0, Hs, rel_startM (hks kk hk) h2 h3 h4 h5, post_endM (hks kk hk) q⟩
theorem fnMX {x qual : Str} {st : Stmt} {f : Addr} {fd : FuncData} {N ps : List Str} {k n : Nat} {F : FS} {ec : Str → Addr} {kd : MK → Prop} (Fu : L2.Fun K x qual st f fd) (S : FnScope N ps (defScope st)) (hn : ps.length = n + 1)
    (body : ∀ (cdv : Value) (A : Around) (outer : List PySem.Env) (s : Shared) (H Hs : Hp) (E : XK) (y : Addr) (kk : MK), kd kk → Room k (A.deeper (envOfC qual (defScope st) s.heap.objs.size f cdv)) → PSs (cxOf (L2.CX P w) P w K mg base N qual (defScope st) f cdv A outer s H E) (defBody st) (rdS ⟨K, H, Hs, E, ec, some (y, kk), []⟩ F))
    (hks : ∀ k, kd k → k.sub = none := by intro k h; first | (cases h; rfl) | (obtain ⟨_, h⟩ := h; cases h; rfl)) :
    FnOk P w K mg base (L2.CX P w) (k + 1) f fd ps (spM K ec kd n (runM N.length F)) := by
  refine Fu.okX S (fun vs H Q E h => ?_) (fun cdv A outer s H vs Q E hr h => ?_)
  · obtain ⟨y, kk, S0, ws, ds, Hs, rfl, _, h1, _, _, _, h2, _⟩ := h
    rw [hn]
    show ws.length + 1 = n + 1
    rw [h2.length, h1]
  · obtain ⟨y, kk, S0, ws, ds, Hs, rfl, hk, h1, h2, h3, h4, h5, q⟩ := h
    exact ⟨_, body cdv A outer s H Hs E y kk hk hr, startM N.length ds, S0, Hs, rel_startM (hks kk hk) h2 h3 h4 h5, post_endM (hks kk hk) q⟩
theorem fn_badM {CX : CXT} {k n : Nat} {f : Addr} {fd : FuncData} {ps : List Str} {ec : Str → Addr} {kd : MK → Prop} (hn : ps.length = n + 1) : FnOk P w K mg base CX k f fd ps (spM K ec kd n fun _ _ => .bad) :=
  ⟨fun vs H Q E ⟨y, kk, S0, ws, ds, Hs, e, _, h1, _, _, _, h2, _⟩ => by
    rw [hn, e]
    show ws.length + 1 = n + 1
    rw [h2.length, h1], fun _ _ _ _ _ _ _ _ _ _ _ _ _ ⟨_, _, _, _, _, _, _, _, _, _, _, _, _, z⟩ => z.elim⟩
end
/-- behind a call that changes the object -/
theorem Rel.calledM {M : Me} {σ : L2.St} {H H' : Hp} {ρ : DEnv} {S S' : Fld} {Hf Hs' : Hp} {x : Addr} {k : MK} (R : Rel M σ H ρ S Hf) (hs : M.self = some (x, k)) (s1 : ∀ b o, H b = some o → b ≠ x → H' b = some o) (s2 : Same Hf Hs') (s3 : Same Hs' H') (fr : ∀ b, Hs' b ≠ none → Hf b ≠ none ∨ H b = none) (nt : ∀ b ps, Hs' b = some (.tbl ps) → Hf b = some (.tbl ps)) (hm : MeIs M.K x H' Hs' S' k) : Rel M σ H' ρ S' Hs' := by
  obtain ⟨x1, x2, x3⟩ := R.me x k hs
  have nn : ∀ {p : Addr} {o : HO}, H p = some o → Hf p = none → Hs' p = none := fun {p o} e n => by
    cases z : Hs' p with
    | none => rfl
    | some u =>
      rcases fr p (by rw [z]; simp) with q | q
      · exact (q n).elim
      · rw [e] at q
        cases q
  refine ⟨R.len, R.base.trans s2, s3, fun b o e m => s1 _ _ (R.full b o e m) (fun z => m (.inl ⟨k, by rw [z]; exact hs⟩)), fun b e => ?_, R.ownF, fun i s e => ?_, R.inj, fun y kd e => ?_, tabs_keep R.tabs fun b o e n => s1 b o e fun z => (x3.nli).elim fun u hu => hu.2 (by rw [z, hu.1] at e; cases e; exact n), fun z hz => (R.tabs z hz).elim fun _ h => nn h.1 (R.tabf z hz), fun b ps e => R.notb b ps (nt b ps e), fun b m => (R.subAt m).elim fun _ h => ⟨nn h.1 (R.subs b m).1, (R.subs b m).2⟩⟩
  · rcases fr b e with q | q
    · exact R.fresh b q
    · exact .inr (R.H0none q)
  · obtain ⟨v, h1, h2⟩ := R.slot i s e
    refine ⟨v, h1, ?_⟩
    cases s with
    | v d => exact DV.same s2 h2
    | me => exact h2
    | me2 => exact h2
    | own ds =>
      obtain ⟨q, vs, rfl, a, b, c, d⟩ := h2
      have nq : q ≠ x := fun z => x2 (by rw [← z]; exact R.ownF i ds q e h1)
      exact ⟨q, vs, rfl, s1 _ _ a nq, nn a b, c, d.same s2⟩
  · rw [hs] at e
    cases e
    obtain ⟨_, hx⟩ := x3.there
    exact ⟨nn hx x1, x2, hm⟩
def fCallM (i : Nat) (F : Fld → List Dat → RE) (a : FA) : FE := fun ρ S => match isMe ρ i with
  | true => (a ρ S).bind fun ds S1 => F S1 ds
  | false => .bad
/-- where it does not raise -/
def noEr (r : RE) : RE := match r with
  | .ok d S => .ok d S
  | _ => .bad
def fCallM0 (i : Nat) (F : Fld → List Dat → RE) (a : FA) : FE := fCallM i (fun S ds => noEr (F S ds)) a
section
variable {X : Cx} {M : Me}
theorem rd_callM {n : Nat} {kd : MK → Prop} {F : Fld → List Dat → RE} {fa : FA} {ec : Str → Addr} {i : Nat} {E : XK} {σ : L2.St} {H : Hp} {Q : VK} {ρ : DEnv} {S : Fld} {Hf : Hp} (hkd : ∀ x k, M.self = some (x, k) → kd k) (hn : ∀ ρ S ds S', fa ρ S = .ok ds S' → ds.length = n) (hm : isMe ρ i = true) (R : Rel M σ H ρ S Hf)
    (q : match (fa ρ S).bind fun ds S1 => F S1 ds with
      | .ok d S' => ∀ v H' Hf', Stp M σ ρ Hf H S' Hf' H' → DV M.K Hf' v d → Q v H'
      | .er n v => M.Er n v
      | .bad => False)
    (he : ∀ m v, M.Er m v → (∀ S ds, F S ds ≠ .er m v) ∨ (E = M.E ∧ ec = M.ec)) :
    ∃ v, σ[i]? = some (some v) ∧ rdA M fa σ H fun vs H1 => spM M.K ec kd n F ((v :: vs) ++ []) H1 Q E := by
  obtain ⟨v, h1, x, k, hs, rfl⟩ := R.slot i _ (isMe_ok hm)
  refine ⟨_, h1, ρ, S, Hf, R, ?_⟩
  unfold RA.bind at q
  cases e1 : fa ρ S with
  | er n v => simp only [e1] at q; exact q
  | bad => simp only [e1] at q
  | ok ds S1 =>
    simp only [e1] at q
    intro vs H1 Hf1 T1 hv
    obtain ⟨m1, m2, m3⟩ := T1.rel.me x k hs
    refine ⟨x, k, S1, vs, ds, Hf1, by rw [List.append_nil], hkd x k hs, hn _ _ _ _ e1, T1.rel.sub, m1, m3, hv, ?_⟩
    cases eF : F S1 ds with
    | ok d S2 =>
      simp only [eF] at q
      intro v H' Hs' s1 s2 s3 fr nt hme hd
      exact q v H' Hs' (T1.trans ⟨T1.rel.calledM hs s1 s2 s3 fr nt hme, s2, fun b o e m _ => s1 _ _ e (fun z => m (.inl ⟨k, by rw [z]; exact hs⟩)), fshN fr⟩) hd
    | er m v =>
      simp only [eF] at q
      rcases he m v q with z | ⟨z1, z2⟩
      · exact (z _ _ eF).elim
      · intro dd H' s1 h1 h2
        rw [z1, z2]
        refine q dd H' (fun b o e m => ?_) (T1.rel.H0none h1) h2
        exact s1 _ _ (T1.rel.full b o e m) (fun z => m (.inl ⟨k, by rw [z]; exact hs⟩))
    | bad => simp only [eF] at q
theorem ev_callM {e : Expr} {n : Nat} {kd : MK → Prop} {F : Fld → List Dat → RE} {fa : FA} {ec : Str → Addr} {i : Nat} {K' : PySem.W.Frag} (hK : M.K = K') (hec : M.ec = ec) (hkd : ∀ x k, M.self = some (x, k) → kd k) (hn : ∀ ρ S ds S', fa ρ S = .ok ds S' → ds.length = n) (h : PE X e (tCall (spM K' ec kd n F) [] M.E (tCons (tVar i) (rdA M fa)))) : PE X e (rdE M (fCallM i F fa)) := pe_weak h fun σ H Q ⟨ρ, S, Hf, R, q⟩ => by
  unfold fCallM at q
  cases em : isMe ρ i with
  | false => rw [em] at q; exact q.elim
  | true =>
    rw [em] at q
    rw [← hK]
    exact rd_callM hkd hn em R q fun _ _ _ => .inr ⟨rfl, hec.symm⟩
theorem ev_callM0 {e : Expr} {n : Nat} {kd : MK → Prop} {F : Fld → List Dat → RE} {fa : FA} {ec : Str → Addr} {i : Nat} {K' : PySem.W.Frag} (hK : M.K = K') (hkd : ∀ x k, M.self = some (x, k) → kd k) (hn : ∀ ρ S ds S', fa ρ S = .ok ds S' → ds.length = n) (h : PE X e (tCall (spM K' ec kd n F) [] E0 (tCons (tVar i) (rdA M fa)))) : PE X e (rdE M (fCallM0 i F fa)) := pe_weak h fun σ H Q ⟨ρ, S, Hf, R, q⟩ => by
  unfold fCallM0 fCallM at q
  cases em : isMe ρ i with
  | false => rw [em] at q; exact q.elim
  | true =>
    rw [em] at q
    obtain ⟨v, h1, h2⟩ := rd_callM (F := fun S ds => noEr (F S ds)) (ec := ec) (E := E0) hkd hn em R q fun m v _ => .inl fun S ds z => by
      unfold noEr at z
      split at z <;> cases z
    refine ⟨v, h1, ?_⟩
    obtain ⟨ρ2, S2, Hf2, R2, q2⟩ := h2
    refine ⟨ρ2, S2, Hf2, R2, ?_⟩
    cases e2 : fa ρ2 S2 with
    | er n v => rw [e2] at q2; exact q2
    | bad => rw [e2] at q2; exact q2
    | ok ds S3 =>
      rw [e2] at q2
      intro vs H1 Hf1 T1 hv
      obtain ⟨x, k, S4, ws, ds4, Hs, a1, a2, a3, a4, a5, a6, a7, a8⟩ := q2 vs H1 Hf1 T1 hv
      rw [← hK]
      refine ⟨x, k, S4, ws, ds4, Hs, a1, a2, a3, a4, a5, a6, a7, ?_⟩
      cases eF : F S4 ds4 with
      | ok d S5 => simp only [eF, noEr] at a8 ⊢; exact a8
      | er m v => simp only [eF, noEr] at a8
      | bad => simp only [eF, noEr] at a8
/-- o.m(..) where o is the object -/
def fMethM (i : Nat) (m : Str) (F : Fld → List Dat → RE) (a : FA) : FE := fun ρ S => match (S.lookup m).isNone with
  | true => fCallM i F a ρ S
  | false => .bad
theorem ev_methM {e : Expr} {n : Nat} {m : Str} {F : Fld → List Dat → RE} {fa : FA} {ec : Str → Addr} {i : Nat} {C : Addr} {t : TA} {K' : PySem.W.Frag} (hK : M.K = K') (hec : M.ec = ec) (hC : ∀ x kd, M.self = some (x, kd) → ∃ dx, kd = .ins C dx) (hn : ∀ ρ S ds S', fa ρ S = .ok ds S' → ds.length = n)
    (ht : ∀ σ H Q, rdA M fa σ H Q → t σ H Q) (h : PE X e (tMeth C m (spM K' ec (fun k => ∃ dx, k = .ins C dx) n F) [] M.E (tVar i) t)) : PE X e (rdE M (fMethM i m F fa)) := pe_weak h fun σ H Q ⟨ρ, S, Hf, R, q⟩ => by
  unfold fMethM fCallM at q
  cases el : (S.lookup m).isNone with
  | false => rw [el] at q; exact q.elim
  | true =>
    rw [el] at q
    simp only at q
    cases em : isMe ρ i with
    | false => rw [em] at q; exact q.elim
    | true =>
      rw [em] at q
      obtain ⟨v, h1, x, k, hs, rfl⟩ := R.slot i _ (isMe_ok em)
      obtain ⟨dx, rfl⟩ := hC x k hs
      obtain ⟨_, _, fs, m3, m4⟩ := R.me x _ hs
      refine ⟨_, h1, x, dx, fs, rfl, m3, m4.none (Option.isNone_iff_eq_none.mp el), ht _ _ _ ?_⟩
      rw [← hK]
      obtain ⟨v2, e2, h2⟩ := rd_callM (ec := ec) (E := M.E) hC hn em R q fun _ _ _ => .inr ⟨rfl, hec.symm⟩
      rw [h1] at e2
      cases e2
      exact h2
theorem ta_nil {σ : L2.St} {H : Hp} {Q : List V → Hp → Prop} (h : rdA M fNil σ H Q) : tNil σ H Q := by
  obtain ⟨ρ, S, Hf, R, q⟩ := h
  exact q [] H Hf (.refl R) .nil
/-! ### the object is a list: items by written places -/
def fMeIx (i k : Nat) : FE := fun ρ S => match isMe ρ i with
  | true => (match S[k]? with
    | some p => .ok p.2 S
    | none => .bad)
  | false => .bad
theorem ev_meIx {e : Expr} {i k : Nat} (hK : M.K = X.K) (hC : ∀ x kd, M.self = some (x, kd) → kd = .lst) (h : PE X e (tOp (rIxL X.K) (tVar i) (tC (.int (k : Int))))) : PE X e (rdE M (fMeIx i k)) := pe_weak h fun σ H Q ⟨ρ, S, Hf, R, q⟩ => by
  unfold fMeIx at q
  cases em : isMe ρ i with
  | false => rw [em] at q; exact q.elim
  | true =>
    rw [em] at q
    obtain ⟨v, h1, x, kd, hs, rfl⟩ := R.slot i _ (isMe_ok em)
    obtain rfl := hC x kd hs
    obtain ⟨_, _, vs, m3, m4, m5⟩ := R.me x _ hs
    cases es : S[k]? with
    | none => simp only [es] at q
    | some p =>
      simp only [es] at q
      obtain ⟨y, hy, hyd⟩ := m5.get (i := k) (d := p.2) (by rw [List.getElem?_map, es]; rfl)
      exact ⟨_, h1, x, vs, k, y, rfl, rfl, .inl (.inl m3), atI_nat hy, q y H Hf (.refl R) hyd⟩
end
end PD
namespace PD
open PySem PySem.Spec PyProof.Rows L2 RB
section
variable {X : Cx} {M : Me}
def fMePut (i k : Nat) (a : FE) : FS := fun ρ S => match isMe ρ i with
  | true => (a ρ S).bindS fun d S1 => if k < S1.length then .nx ρ (S1.set k ("", d)) else .bad
  | false => .bad
theorem DVs.set {K : PySem.W.Frag} {H : Hp} {v : V} {d : Dat} (hv : DV K H v d) : ∀ {xs : List V} {ds : List Dat} (k : Nat), DVs K H xs ds → DVs K H (xs.set k v) (ds.set k d)
  | _, _, _, .nil => .nil
  | _, _, 0, .cons _ t => .cons hv t
  | _, _, k + 1, .cons a t => .cons a (DVs.set hv k t)
theorem sv_mePut {st : Stmt} {i k : Nat} {fa : FE} (hK : M.K = X.K) (hC : ∀ x kd, M.self = some (x, kd) → kd = .lst) (h : PS X st (tAsg (rdE M fa) (gSub (tVar i) (tC (.int (k : Int))) rSetL))) : PS X st (rdS M (fMePut i k fa)) := ps_weak h fun D σ H ⟨ρ, S, Hf, R, q⟩ => by
  unfold fMePut at q
  cases em : isMe ρ i with
  | false => rw [em] at q; exact q.elim
  | true =>
    rw [em] at q
    refine ⟨ρ, S, Hf, R, ?_⟩
    simp only [RE.bindS] at q
    cases e1 : fa ρ S with
    | er n v => simp only [e1] at q; exact q
    | bad => simp only [e1] at q; exact q.elim
    | ok d S1 =>
      simp only [e1] at q
      intro v H1 Hf1 T1 hv
      obtain ⟨v', h1, x, kd, hs, rfl⟩ := T1.rel.slot i _ (isMe_ok em)
      obtain rfl := hC x kd hs
      obtain ⟨h0, h00, vs, m3, m4, m5⟩ := T1.rel.me x _ hs
      by_cases hl : k < S1.length
      · rw [if_pos hl] at q
        have lv : vs.length = S1.length := by rw [m5.length, List.length_map]
        refine ⟨_, h1, x, vs, k, k, rfl, rfl, m3, ?_, q _ _ Hf1 ?_ T1.same⟩
        · unfold ixN
          rw [if_pos (by omega), if_pos (by omega)]
          rfl
        · have R1 := T1.rel
          refine ⟨R1.len, R1.base, fun b o e => ?_, fun b o e m => ?_, R1.fresh, R1.ownF, fun j s e => ?_, R1.inj, fun x2 kd2 e => ?_, tabs_upd R1.tabs m3 nli_lst, R1.tabf, R1.notb, R1.subs⟩
          · rw [upd_ne (ne_of_none e h0)]
            exact R1.sub _ _ e
          · rw [upd_ne (fun z => m (.inl ⟨_, by rw [z]; exact hs⟩))]
            exact R1.full b o e m
          · obtain ⟨w, g1, g2⟩ := R1.slot j s e
            refine ⟨w, g1, ?_⟩
            cases s with
            | v d => exact g2
            | me => exact g2
            | me2 => exact g2
            | own xs =>
              obtain ⟨p, ws, rfl, a, b, c, d⟩ := g2
              have nq : p ≠ x := fun z => h00 (by rw [← z]; exact R1.ownF j xs p e g1)
              exact ⟨p, ws, rfl, by rw [upd_ne nq]; exact a, b, c, d⟩
          · rw [hs] at e
            cases e
            refine ⟨h0, h00, vs.set k v, upd_same, by rw [List.length_set]; exact m4, ?_⟩
            have : (S1.set k ("", d)).map (·.2) = (S1.map (·.2)).set k d := by rw [List.map_set]
            rw [this]
            exact m5.set hv k
      · rw [if_neg hl] at q
        exact q.elim
end
end PD

set_option Elab.async false
set_option linter.all false
set_option maxRecDepth 100000
set_option maxHeartbeats 2000000
namespace PD
open PySem PySem.Spec PyProof.Rows L2 RB
/-! ### text * number -/
def oMulS : Dat → Dat → Option Dat
  | .str a, .int n => if 0 ≤ n ∧ n ≤ 1000 ∧ a.length ≤ 100 then some (.str (Txt.mul a n)) else none
  | _, _ => none
theorem sim_mulS {K : PySem.W.Frag} : Sim2 K (fun x y H Q => ∃ (a : Str) (n : Int), x = .str a ∧ y = .int n ∧ MulOk a n ∧ Q (.str (Txt.mul a n)) H) oMulS := by
  intro x y H Hf dx dy z Q s hx hy e q _
  unfold oMulS at e
  split at e
  · split at e
    · rename_i a n hc
      cases e
      rw [hx.str, hy.int]
      refine ⟨a, n, rfl, rfl, ?_, q _ (.str _)⟩
      obtain ⟨n0, n1, la⟩ := hc
      have hm : a.length * n.toNat ≤ 100 * 1000 := Nat.mul_le_mul la (by omega)
      refine ⟨?_, fun h1 _ => ?_, fun _ _ => ?_⟩
      · simp only [Bool.or_eq_false_iff, decide_eq_false_iff_not]
        exact ⟨by omega, by omega⟩
      · have hn : 0 < n := by omega
        have h5 : (100 : Int) ≤ (2 ^ 63 - 1) / n := by
          rw [Int.le_ediv_iff_mul_le hn]
          omega
        omega
      · exact decide_eq_false (Nat.not_lt.mpr (Nat.le_trans hm (line5 (Nat.le_refl _))))
    · cases e
  · cases e
section
variable {X : Cx} {M : Me}
/-! ### a, b = x, y -/
def fPar (i j : Nat) (a : FA) : FS := fun ρ S => match a ρ S with
  | .ok [x, y] S' => .nx ((ρ.set i (some (.v x))).set j (some (.v y))) S'
  | .er n v => .er n v
  | _ => .bad
theorem sv_par {st : Stmt} {i j : Nat} {fa : FA} (h : PS X st (tPar i j (rdA M fa))) : PS X st (rdS M (fPar i j fa)) := ps_weak h fun D σ H ⟨ρ, S, Hf, R, q⟩ => by
  refine ⟨ρ, S, Hf, R, ?_⟩
  unfold fPar at q
  cases e : fa ρ S with
  | er n v => rw [e] at q; exact q
  | bad => rw [e] at q; exact q
  | ok ds S' =>
    rw [e] at q
    intro vs H' Hf' T hv
    cases hv with
    | nil => exact q.elim
    | cons a t =>
      cases t with
      | nil => exact q.elim
      | cons b t =>
        cases t with
        | cons _ _ => exact q.elim
        | nil => exact ⟨_, _, rfl, q _ H' Hf' ((T.rel.set a).set b) T.same⟩
/-! ### {..}[e], all of it written -/
def kvD (kvs : List (Str × Dat)) : List (Key × V) := kvs.map fun p => (Sum.inr p.1, datV p.2)
def scal1 : Dat → Bool
  | .int _ => true
  | .str _ => true
  | .bl _ => true
  | _ => false
theorem scal1_dv {K : PySem.W.Frag} {H : Hp} {d : Dat} (h : scal1 d = true) : DV K H (datV d) d := by
  cases d with
  | int i => exact .int i
  | str x => exact .str x
  | bl b => exact .bl b
  | non => cases h
  | lst _ => cases h
  | tup _ => cases h
  | dct _ _ => cases h
  | ins _ _ _ => cases h
theorem valV_kvD {z : Str} : ∀ {kvs : List (Str × Dat)} {d : Dat}, kvs.lookup z = some d → valV (kvD kvs) (Sum.inr z) = some (datV d)
  | [], _, e => by cases e
  | (k, x) :: r, d, e => by
    rw [List.lookup_cons] at e
    by_cases h : z = k
    · subst h
      rw [beq_self_eq_true] at e
      cases e
      simp [kvD, valV]
    · have hb : (z == k) = false := beq_eq_false_iff_ne.mpr h
      rw [hb] at e
      have ih := valV_kvD (kvs := r) (d := d) e
      have hk : ¬ (Sum.inr k : Key) = Sum.inr z := fun q => h (Sum.inr.inj q).symm
      have hk2 : ¬ (Sum.inr z : Key) = Sum.inr k := fun q => h (Sum.inr.inj q)
      simp only [kvD, List.map_cons, valV] at ih ⊢
      first
        | (rw [if_neg hk]; exact ih)
        | (rw [if_neg hk2]; exact ih)
        | simp_all
theorem lookup_mem {z : Str} {r : Dat} : ∀ {kvs : List (Str × Dat)}, kvs.lookup z = some r → ∃ k, (k, r) ∈ kvs
  | [], e => by cases e
  | (k, x) :: rest, e => by
    rw [List.lookup_cons] at e
    cases hh : (z == k) with
    | true =>
      rw [hh] at e
      cases e
      exact ⟨k, List.mem_cons_self⟩
    | false =>
      rw [hh] at e
      obtain ⟨k', h⟩ := lookup_mem e
      exact ⟨k', List.mem_cons_of_mem _ h⟩
theorem ev_dlit {o b : Expr} {pos : Pos} {kvs : List (Str × Dat)} {trs : List (TE × TE)} {fb : FE} (hK : M.K = X.K) (hu : X.A.units + 1 < cLine) (hs : NoSl b) (hp : PE X o (tDisp trs)) (hq : ∀ σ H Q, Q ((kvD kvs).map fun kv => (kV kv.1, kv.2)) H → tPairs trs σ H Q) (hm : mergeK [] (kvD kvs) = kvD kvs) (hl : (kvD kvs).length ≤ 15) (hc : kvs.all (fun p => scal1 p.2) = true) (hb : PE X b (rdO M fb)) :
    PE X (.Subscript o b pos) (rdE M (fUn (oTab kvs) fb)) := pe_weak (pe_dget hu hp hb hs) fun σ H Q ⟨ρ, S, Hf, R, q⟩ => by
  intro p hp0
  refine hq _ _ _ ⟨upd_same, kvD kvs, rfl, hl, ?_⟩
  rw [hm, upd_upd]
  have hf := none_of_same R.sub hp0
  refine ⟨ρ, S, _, R.new (o := .dK (kvD kvs)) hp0 (fun _ z => nomatch z), ?_⟩
  have T0 : Stp M σ ρ Hf H S (upd Hf p (.dK (kvD kvs))) (upd H p (.dK (kvD kvs))) := (Stp.refl R).new hp0 (fun _ z => nomatch z)
  unfold fUn RE.bind at q
  cases e1 : fb ρ S with
  | er n v => simp only [e1] at q; exact q
  | bad => simp only [e1] at q
  | ok d S1 =>
    simp only [e1] at q
    intro y H1 Hf1 T1 hy
    unfold ofO oTab at q
    cases d with
    | str z =>
      simp only at q
      cases el : kvs.lookup z with
      | none => simp only [el] at q
      | some r =>
        simp only [el] at q
        have np : ¬ M.mine p := R.notMine hp0
        have h1 : H1 p = some (.dK (kvD kvs)) := T1.fr p _ upd_same np (fun _ _ z => nomatch z)
        have hsc : scal1 r = true := by
          have hmem := lookup_mem el
          obtain ⟨k, hk⟩ := hmem
          exact List.all_eq_true.mp hc _ hk
        rw [(hy.gv T1.rel).str]
        exact ⟨p, datV r, rfl, by rw [← valV_kvD el]; exact DGet.k (k := Sum.inr z) h1, q (datV r) H1 Hf1 (T0.trans T1) (scal1_dv hsc)⟩
    | _ => exact q.elim
end
end PD
namespace PD
open PySem PySem.Spec PyProof.Rows L2 RB
/-! ### powers, absolute values -/
def oPow := oI (fun i j => decide (0 ≤ i ∧ i ≤ 10 ∧ 0 ≤ j ∧ j ≤ 60)) fun i j => .int (i ^ j.toNat)
def oAbs : List Dat → Option Dat
  | [.int i] => some (.int (if i < 0 then -i else i))
  | _ => none
theorem sim_abs {K : PySem.W.Frag} : SimN K (fun xs H Q => ∃ i, xs = [.int i] ∧ Q (.int (if i < 0 then -i else i)) H) oAbs := by
  intro xs H Hf ds z Q s hx e q _
  unfold oAbs at e
  split at e
  · cases e
    cases hx with
    | cons h t =>
      cases t
      rw [h.int]
      exact ⟨_, rfl, q _ (.int _)⟩
  · cases e
section
variable {X : Cx} {M : Me}
/-! ### name = list(x), held alone; pop -/
def fNewL (i : Nat) (a : FE) : FS := fun ρ S => (a ρ S).bindS fun d S' => match d with
  | .lst ds => .nx (ρ.set i (some (.own ds))) S'
  | .tup ds => .nx (ρ.set i (some (.own ds))) S'
  | _ => .bad
theorem sv_newL {st : Stmt} {i : Nat} {fa : FE} (hK : M.K = X.K) (h : PS X st (tAsg (tCB (fun xs H Q => ∃ p ys, xs = [.ref p] ∧ (SqL X.K H p ys ∨ SqT X.K H p ys) ∧ ∀ l, H l = none → Q (.ref l) (upd H l (.lst ys))) (tCons (rdO M fa) tNil)) (gName i))) : PS X st (rdS M (fNewL i fa)) := ps_weak h fun D σ H ⟨ρ, S, Hf, R, q⟩ => by
  refine ⟨ρ, S, Hf, R, ?_⟩
  unfold fNewL RE.bindS at q
  cases e : fa ρ S with
  | er n v => simp only [e] at q; exact q
  | bad => simp only [e] at q; exact q.elim
  | ok d S' =>
    simp only [e] at q
    intro v H' Hf' T hv
    have g := hv.gv T.rel
    cases d with
    | lst ds =>
      obtain ⟨a, xs, rfl, ha, la, va⟩ := g.lst T.rel.sub
      exact ⟨a, xs, rfl, .inl (.inl (.inl ha)), fun p hp => q _ _ Hf' (T.rel.newOwn hp la va) T.same⟩
    | tup ds =>
      obtain ⟨a, xs, rfl, ha, la, va⟩ := g.tup T.rel.sub
      exact ⟨a, xs, rfl, .inr (by rw [← hK]; exact ha), fun p hp => q _ _ Hf' (T.rel.newOwn hp la va) T.same⟩
    | _ => exact q.elim
def fPop (i : Nat) : FS := fun ρ S => match ρ[i]? with
  | some (some (.own ds)) => if ds = [] then .bad else .nx (ρ.set i (some (.own ds.dropLast))) S
  | _ => .bad
end
end PD
namespace PD
open PySem PySem.Spec PyProof.Rows L2 RB
theorem sim_pow {K : PySem.W.Frag} : Sim2 K (rI CPow fun i j => .int (i ^ j.toNat)) oPow := sim_I (fun i j h => by
  have h := of_decide_eq_true h
  exact ⟨h.2.2.1, by omega, by omega⟩) fun _ _ _ => .int _
theorem DVs.dropLast {K : PySem.W.Frag} {H : Hp} {xs : List V} {ds : List Dat} (h : DVs K H xs ds) : DVs K H xs.dropLast ds.dropLast := by
  rw [List.dropLast_eq_take, List.dropLast_eq_take, h.length]
  exact h.take _
section
variable {X : Cx} {M : Me}
theorem sv_pop {st : Stmt} {i : Nat} (h : PS X st (tDrop (tBM0 X.K "list" rPop (tVar i)))) : PS X st (rdS M (fPop i)) := ps_weak h fun D σ H ⟨ρ, S, Hf, R, q⟩ => by
  unfold fPop at q
  split at q
  · rename_i ds e
    obtain ⟨w, h1, p, vs, rfl, hp, hf, hl, hv⟩ := R.slot i _ e
    split at q
    · exact q.elim
    · rename_i hne
      have h0 : vs ≠ [] := fun z => by
        subst z
        cases hv
        exact hne rfl
      have : 0 < vs.length := List.length_pos_iff.mpr h0
      refine ⟨_, h1, .inl ⟨rfl, vs, .inl (.inl hp)⟩, p, vs, vs[vs.length - 1]'(by omega), rfl, rfl, hp, List.getElem?_eq_getElem _, q _ _ Hf (R.chg e h1 ?_ hv.dropLast) (Same.refl _)⟩
      rw [List.length_dropLast]
      omega
  · exact q.elim
end
end PD

set_option Elab.async false
set_option linter.all false
set_option maxRecDepth 100000
set_option maxHeartbeats 2000000
/-! sorted(set(texts)), sorted(texts) -/
namespace RBS
open PySem PySem.Spec PyProof.Rows L2
/-- texts in ascending order -/
def leT (a b : Str) : Bool := !decide (b.cps.toList < a.cps.toList)
def sortT (l : List Str) : List Str := l.mergeSort leT
theorem leT_iff {a b : Str} : leT a b = true ↔ a.cps.toList ≤ b.cps.toList := by
  simp [leT, List.not_lt]
theorem leT_trans (a b c : Str) (h : leT a b = true) (g : leT b c = true) : leT a c = true := leT_iff.mpr (List.le_trans (leT_iff.mp h) (leT_iff.mp g))
theorem leT_total (a b : Str) : (leT a b || leT b a) = true := by
  rw [Bool.or_eq_true, leT_iff, leT_iff]
  exact List.le_total _ _
theorem leT_anti {a b : Str} (h : leT a b = true) (g : leT b a = true) : a = b := by
  have e := List.le_antisymm (leT_iff.mp h) (leT_iff.mp g)
  cases a
  cases b
  simpa using e
theorem rising_pw : ∀ (l : List Str) (p : Str), risingS p l = true → (p :: l).Pairwise fun a b => leT a b = true
  | [], p, _ => by simp
  | x :: r, p, h => by
    have h' : (!ltCps x.cps.toList p.cps.toList && risingS x r) = true := h
    rw [Bool.and_eq_true, ltCps_eq] at h'
    have ih := rising_pw r x h'.2
    refine List.pairwise_cons.mpr ⟨fun y hy => ?_, ih⟩
    rcases List.mem_cons.mp hy with z | z
    · rw [z]
      exact h'.1
    · exact leT_trans _ _ _ h'.1 ((List.pairwise_cons.mp ih).1 y z)
theorem sorted_pw : ∀ {l : List Str}, sortedS l = true → l.Pairwise fun a b => leT a b = true
  | [], _ => .nil
  | x :: r, h => rising_pw r x h
theorem sortT_pw (l : List Str) : (sortT l).Pairwise fun a b => leT a b = true := List.pairwise_mergeSort leT_trans leT_total l
theorem sortT_perm (l : List Str) : (sortT l).Perm l := List.mergeSort_perm l leT
theorem sortT_uniq {a b : List Str} (h : a.Pairwise fun a b => leT a b = true) (p : a.Perm b) : a = sortT b :=
  List.Perm.eq_of_pairwise (fun _ _ _ _ => leT_anti) h (sortT_pw b) (p.trans (sortT_perm b).symm)
theorem sortT_of {a b : List Str} (h : sortedS a = true) (p : a.Perm b) : a = sortT b := sortT_uniq (sorted_pw h) p
theorem sortT_congr {a b : List Str} (p : a.Perm b) : sortT a = sortT b := sortT_uniq (sortT_pw a) ((sortT_perm a).trans p)
theorem sortT_len (l : List Str) : (sortT l).length = l.length := (sortT_perm l).length_eq
/-! ### the set of texts at a -/
def SetT (P : Program) (w : World) (a : Addr) (ks : List Str) : HO := .ext fun h => SK (PySem.strKind P w) strOf h a ks
section
variable {X : Cx}
theorem setT_new {w : World} {P : Program} {H : Hp} {h : Heap} {a : Addr} {ks : List Str} (R : SK (PySem.strKind P w) strOf h a ks) : ObjOk P w H h a (SetT P w a ks) := by
  have ⟨o, _, _, _, ho, _⟩ := R
  exact ⟨R, ⟨o, ho⟩, fun h1 h2 p k => SK.keep p k⟩
theorem setT_get {pins : List (Addr × Obj)} {σ : L2.St} {H : Hp} {s : Shared} {a : Addr} {ks : List Str} (I : Inv X pins σ H s) (ha : H a = some (SetT X.prog X.w a ks)) : SK (PySem.strKind X.prog X.w) strOf s.heap a ks := (I.hok a _ ha).1
/-- set(x) of a list of texts -/
def rSetT (X : Cx) : List V → Hp → VK → Prop := fun vs H Q => ∃ (a : Addr) (xs : List Str), vs = [V.ref a] ∧ SqL X.K H a (xs.map V.str) ∧ xs.length < 64 ∧ ∀ p, H p = none → Q (.ref p) (upd H p (SetT X.prog X.w p (dd xs)))
theorem str_at : ∀ {vs : List Value} {ss : List Str}, StrsAre vs ss → ∀ (i : Nat) (v : Value), vs[i]? = some v → ∃ z t, ss[i]? = some z ∧ v = .str z t
  | _, _, .nil, i, v, e => by simp at e
  | _, _, .cons y t r, 0, v, e => ⟨y, t, rfl, by simpa using e.symm⟩
  | _, _, .cons y t r, i + 1, v, e => str_at r i v (by simpa using e)
theorem StrsAre_len : ∀ {vs : List Value} {ss : List Str}, StrsAre vs ss → vs.length = ss.length
  | _, _, .nil => rfl
  | _, _, .cons _ _ r => congrArg Nat.succ (StrsAre_len r)
theorem cr_setT (hc : X.calm = true) : CallR X (.type "set") (rSetT X) := by
  intro pins s σ H vs us Q I r h
  obtain ⟨a, xs, rfl, hs, hx, q⟩ := h
  obtain ⟨its, rv, hl, _⟩ := I.list hs
  rw [Vals.ref1 r]
  have sv := rv.strs
  have ln := StrsAre_len sv
  refine set_of_list (knd := PySem.strKind X.prog X.w) told_str (I.ok.hd hc) hl.isList (zs := xs) (fun i v e => ?_) (by rw [List.size_toArray]; exact ln.symm) (by unfold scanBound; omega) fun h2 tk R k => ?_
  · obtain ⟨z, t, e1, e2⟩ := str_at sv i v (by simpa using e)
    subst e2
    exact ⟨z, e1, (decide_eq_true rfl : _), rfl⟩
  · exact ⟨.ref _, upd H s.heap.objs.size (SetT X.prog X.w s.heap.objs.size (dd xs)), I.laid (t' := tk) k (Nat.le_refl _) (setT_new R), rfl, q _ (I.hok.fresh (Nat.le_refl _))⟩
/-- sorted of it -/
def rSortT (X : Cx) : List V → Hp → VK → Prop := fun vs H Q => ∃ (a : Addr) (ks : List Str), vs = [V.ref a] ∧ H a = some (SetT X.prog X.w a ks) ∧ ks.length < 64 ∧ ∀ p, H p = none → Q (.ref p) (upd H p (.lst ((sortT ks).map V.str)))
theorem cr_sortT (hc : X.calm = true) : CallR X (.builtin "sorted") (rSortT X) := by
  intro pins s σ H vs us Q I r h
  obtain ⟨a, ks, rfl, ha, h64, q⟩ := h
  rw [Vals.ref1 r]
  refine sorted_sk (setT_get I ha) (I.ok.hd hc) h64 fun s' p out c ss k g o hp hg hi hm hs => ?_
  have es := sortT_of hs hm
  subst es
  have hn : H p = none := I.hok.fresh hp
  have z : ((sortT ks).map V.str).length ≤ sizeLine := by rw [List.length_map, sortT_len]; exact small64 h64
  have J : Inv X pins σ (upd H p (.lst ((sortT ks).map V.str))) { s with heap := s'.heap, gens := s'.gens, drawn := s'.drawn, toks := s'.toks } :=
    I.call (ch := []) (Un.laid k hp hn) (I.hok.laid k hp ⟨z, out.toList, c, vals_of_strs hi, hg⟩) (by rw [g]; exact I.bare) (fun _ y => nomatch y)
  have e : s' = { s with heap := s'.heap, gens := s'.gens, drawn := s'.drawn, toks := s'.toks } := by
    cases s'
    cases s
    cases o
    rfl
  rw [e]
  exact ⟨.ref p, _, J, rfl, q p hn⟩
end
end RBS

set_option Elab.async false
set_option linter.all false
set_option maxRecDepth 100000
set_option maxHeartbeats 2000000
namespace PD
open PySem PySem.Spec PyProof.Rows L2 RB
/-! ### isinstance -/
def Dat.built : Dat → Bool
  | .dct _ _ | .ins _ _ _ => false
  | _ => true
theorem DV.ty {K : PySem.W.Frag} {H : Hp} {v : V} {d : Dat} (h : DV K H v d) (hb : Dat.built d = true) : TyX K H v (.type d.ty) := by
  cases h with
  | dct _ _ _ _ _ => cases hb
  | ins _ _ _ _ => cases hb
  | non => exact .base .non
  | bl b => exact .base (.bl b)
  | int i => exact .base (.int i)
  | str x => exact .base (.str x)
  | lst e _ _ => exact .base (.lst e)
  | tup e _ _ =>
    rcases e with (e | ⟨o, e⟩) | ⟨o, its, n, e, c, _⟩
    · exact .base (.tup e)
    · exact .fTuple e
    · exact .kTuple e c
theorem GV.ty {K : PySem.W.Frag} {Hf H : Hp} {v : V} {d : Dat} (s : Same Hf H) (h : GV K Hf H v d) (hb : Dat.built d = true) : TyX K H v (.type d.ty) := by
  rcases h with h | ⟨p, vs, ds, rfl, rfl, a, _⟩
  · exact (h.same s).ty hb
  · exact .base (.lst a)
def oIsi (f : Dat → Bool) : Dat → Option Dat := fun d => match d with
  | .dct _ _ => none
  | .ins _ _ _ => none
  | d => some (.bl (f d))
theorem oIsi_ok {f : Dat → Bool} {d r : Dat} (h : oIsi f d = some r) : Dat.built d = true ∧ r = .bl (f d) := by
  unfold oIsi at h
  cases d <;> first | (cases h; exact ⟨rfl, rfl⟩) | cases h
section
variable {X : Cx} {M : Me}
theorem ev_isi {e : Expr} {T : String} {f : Dat → Bool} {fa : FE} (hK : M.K = X.K) (hk : ∀ d : Dat, PySem.W.kitOne X.K (.type d.ty) (.type T) = some (f d)) (h : PE X e (tCB (rIsi X.K) (tCons (rdO M fa) (tCons (tC (.ty T)) tNil)))) : PE X e (rdE M (fUn (oIsi f) fa)) := pe_weak h fun σ H Q ⟨ρ, S, Hf, R, q⟩ => by
  refine ⟨ρ, S, Hf, R, ?_⟩
  unfold fUn RE.bind at q
  cases e1 : fa ρ S with
  | er n v => simp only [e1] at q; exact q
  | bad => simp only [e1] at q
  | ok d S1 =>
    simp only [e1, ofO] at q
    intro x H1 Hf1 T1 hx
    cases eo : oIsi f d with
    | none => simp only [eo] at q
    | some r =>
      simp only [eo] at q
      obtain ⟨hb, rfl⟩ := oIsi_ok eo
      exact ⟨x, .ty T, .type d.ty, .type T, f d, rfl, .ty T, by rw [← hK]; exact (hx.gv T1.rel).ty T1.rel.sub hb, hk d, q _ H1 Hf1 T1 (.bl _)⟩
end
/-! ### all, any -/
def blsOf : List Dat → Option (List Bool)
  | [] => some []
  | .bl i :: r => (blsOf r).map (i :: ·)
  | _ => none
theorem bls_of {K : PySem.W.Frag} {H : Hp} : ∀ {xs : List V} {ds : List Dat} {ns : List Bool}, DVs K H xs ds → blsOf ds = some ns → xs = ns.map V.bl
  | _, _, _, .nil, e => by cases e; rfl
  | _, _, _, .cons (d := d) a t, e => by
    cases a with
    | bl i =>
      rename_i ns vs ds
      have e : (blsOf ds).map (i :: ·) = some ns := e
      cases er : blsOf ds with
      | none => rw [er] at e; cases e
      | some ms =>
        rw [er] at e
        cases e
        rw [bls_of t er]
        rfl
    | _ => cases e
def oAll : List Dat → Option Dat
  | [.lst ds] => (blsOf ds).map fun ns => .bl (ns.all id)
  | _ => none
def oAny : List Dat → Option Dat
  | [.lst ds] => (blsOf ds).map fun ns => .bl (ns.any id)
  | _ => none
theorem sim_all {K : PySem.W.Frag} : SimN K (rAll K) oAll := by
  intro xs H Hf ds z Q s hx e q qn
  unfold oAll at e
  split at e
  · rename_i es
    cases en : blsOf es with
    | none => rw [en] at e; cases e
    | some ns =>
      rw [en] at e
      cases e
      cases hx with
      | cons h t =>
        cases t
        obtain ⟨a, ys, rfl, ha, la, va⟩ := h.lst s
        rw [bls_of va en] at ha
        exact ⟨a, ns, rfl, .inl (.inl ha), q _ (.bl _)⟩
  · cases e
theorem sim_any {K : PySem.W.Frag} : SimN K (rAny K) oAny := by
  intro xs H Hf ds z Q s hx e q qn
  unfold oAny at e
  split at e
  · rename_i es
    cases en : blsOf es with
    | none => rw [en] at e; cases e
    | some ns =>
      rw [en] at e
      cases e
      cases hx with
      | cons h t =>
        cases t
        obtain ⟨a, ys, rfl, ha, la, va⟩ := h.lst s
        rw [bls_of va en] at ha
        exact ⟨a, ns, rfl, .inl (.inl ha), q _ (.bl _)⟩
  · cases e
/-! ### zip -/
def zipD (as bs : List Dat) : List Dat := (as.zip bs).map fun p => .tup [p.1, p.2]
def zipOf : List Dat → Option (List Dat)
  | [.lst a, .lst b] => some (zipD a b)
  | [.tup a, .tup b] => some (zipD a b)
  | _ => none
theorem zipD_get {as bs : List Dat} {i : Nat} {d : Dat} (h : (zipD as bs)[i]? = some d) : ∃ a b, as[i]? = some a ∧ bs[i]? = some b ∧ d = .tup [a, b] := by
  unfold zipD at h
  rw [List.getElem?_map] at h
  cases e : (as.zip bs)[i]? with
  | none => rw [e] at h; cases h
  | some p =>
    rw [e] at h
    cases h
    obtain ⟨h1, h2⟩ := List.getElem?_zip_eq_some.mp e
    exact ⟨p.1, p.2, h1, h2, rfl⟩
theorem Walks.zipL {K : PySem.W.Frag} {Hf : Hp} {a b : Addr} {xs ys : List V} {as bs : List Dat} (ha : SqL K Hf a xs) (hb : SqL K Hf b ys) (va : DVs K Hf xs as) (vb : DVs K Hf ys bs) : Walks K (Itz K a b) Hf (zipD as bs) where
  stop := fun H s => ⟨xs, ys, Kp.sqL (.of s) ha, Kp.sqL (.of s) hb, by
    rw [va.length, vb.length]
    simp only [zipD, List.length_map, List.length_zip]
    omega⟩
  go := fun i H hi s => by
    simp only [zipD, List.length_map, List.length_zip] at hi
    have h1 : i < xs.length := by rw [va.length]; omega
    have h2 : i < ys.length := by rw [vb.length]; omega
    exact ⟨xs, ys, xs[i], ys[i], Kp.sqL (.of s) ha, Kp.sqL (.of s) hb, List.getElem?_eq_getElem h1, List.getElem?_eq_getElem h2⟩
  yld := fun i d x H H' hd s y => by
    obtain ⟨T, u, v, rfl, hT, rfl, f1, f2⟩ := y
    have e1 := f1 xs (Kp.sqL (.of s) ha)
    have e2 := f2 ys (Kp.sqL (.of s) hb)
    obtain ⟨p, q, h1, h2, rfl⟩ := zipD_get hd
    obtain ⟨p', h1', hp⟩ := va.get' e1
    obtain ⟨q', h2', hq⟩ := vb.get' e2
    rw [h1] at h1'
    rw [h2] at h2'
    cases h1'
    cases h2'
    refine .inr ⟨T, _, hT, (by intro _ z; cases z), rfl, fun Hg sg hg => .tup (.inl (.inl upd_same)) (by simp) (.cons ?_ (.cons ?_ .nil))⟩
    · exact (hp.same sg).same (upd_new hg)
    · exact (hq.same sg).same (upd_new hg)
theorem Walks.zipT {K : PySem.W.Frag} {Hf : Hp} {a b : Addr} {xs ys : List V} {as bs : List Dat} (ha : SqT K Hf a xs) (hb : SqT K Hf b ys) (va : DVs K Hf xs as) (vb : DVs K Hf ys bs) : Walks K (RZ.ItzT K a b) Hf (zipD as bs) where
  stop := fun H s => ⟨xs, ys, Kp.sqT (.of s) ha, Kp.sqT (.of s) hb, by
    rw [va.length, vb.length]
    simp only [zipD, List.length_map, List.length_zip]
    omega⟩
  go := fun i H hi s => by
    simp only [zipD, List.length_map, List.length_zip] at hi
    have h1 : i < xs.length := by rw [va.length]; omega
    have h2 : i < ys.length := by rw [vb.length]; omega
    exact ⟨xs, ys, xs[i], ys[i], Kp.sqT (.of s) ha, Kp.sqT (.of s) hb, List.getElem?_eq_getElem h1, List.getElem?_eq_getElem h2⟩
  yld := fun i d x H H' hd s y => by
    obtain ⟨T, u, v, rfl, hT, rfl, f1, f2⟩ := y
    have e1 := f1 xs (Kp.sqT (.of s) ha)
    have e2 := f2 ys (Kp.sqT (.of s) hb)
    obtain ⟨p, q, h1, h2, rfl⟩ := zipD_get hd
    obtain ⟨p', h1', hp⟩ := va.get' e1
    obtain ⟨q', h2', hq⟩ := vb.get' e2
    rw [h1] at h1'
    rw [h2] at h2'
    cases h1'
    cases h2'
    refine .inr ⟨T, _, hT, (by intro _ z; cases z), rfl, fun Hg sg hg => .tup (.inl (.inl upd_same)) (by simp) (.cons ?_ (.cons ?_ .nil))⟩
    · exact (hp.same sg).same (upd_new hg)
    · exact (hq.same sg).same (upd_new hg)
def fLcZ (a : FA) (g : FG) (ft fe : FE) (vs : List Nat) : FE := fun ρ S => (a ρ S).bind fun ds S1 => match zipOf ds with
  | some es => fLc0 g ft fe vs es ρ S1
  | none => .bad
theorem rd_lcZ {M : Me} {K : PySem.W.Frag} (hK : M.K = K) {f : FA} {ft fe : FE} {g : TG} {fg : FG} {vs : List Nat} {σ : L2.St} {H : Hp} {Q : VK} (hg : SimW M vs g fg) (h : rdE M (fLcZ f fg ft fe vs) σ H Q) : tLc (RZ.iZipA K (rdA M f)) g (rdT M ft) (rdE M fe) vs σ H Q := by
  obtain ⟨ρ, S, Hf, R, q⟩ := h
  refine ⟨ρ, S, Hf, R, ?_⟩
  unfold fLcZ RA.bind at q
  cases e1 : f ρ S with
  | er n v => simp only [e1] at q; exact q
  | bad => simp only [e1] at q
  | ok ds S1 =>
    simp only [e1] at q
    intro x H1 Hf1 T1 hx
    subst hK
    cases ez : zipOf ds with
    | none => simp only [ez] at q
    | some es =>
      simp only [ez] at q
      have q2 : match fLc0 fg ft fe vs es ρ S1 with
          | .ok d S' => ∀ v H' Hf', Stp M σ ρ Hf1 H1 S' Hf' H' → DV M.K Hf' v d → Q v H'
          | .er n v => M.Er n v
          | .bad => False := by
        cases e2 : fLc0 fg ft fe vs es ρ S1 with
        | ok d S2 => simp only [e2] at q ⊢; exact fun v H' Hf' T hv => q v H' Hf' (T1.trans T) hv
        | er n v => simp only [e2] at q; exact q
        | bad => simp only [e2] at q
      unfold zipOf at ez
      split at ez
      · cases ez
        cases hx with
        | cons h1 t =>
          cases t with
          | cons h2 t =>
            cases t
            cases h1 with
            | lst a la va =>
              cases h2 with
              | lst b lb vb => exact ⟨_, _, _, _, rfl, .inl ⟨.inl (.inl (T1.rel.sub _ _ a)), .inl (.inl (T1.rel.sub _ _ b)), post_lc (Walks.zipL (.inl (.inl a)) (.inl (.inl b)) va vb) hg T1.rel q2⟩⟩
      · cases ez
        cases hx with
        | cons h1 t =>
          cases t with
          | cons h2 t =>
            cases t
            cases h1 with
            | tup a la va =>
              cases h2 with
              | tup b lb vb => exact ⟨_, _, _, _, rfl, .inr ⟨Kp.sqT (.of T1.rel.sub) a, Kp.sqT (.of T1.rel.sub) b, post_lc (Walks.zipT a b va vb) hg T1.rel q2⟩⟩
      · cases ez
/-! ### a written dict: d.get(k, x), k in d -/
section
variable {X : Cx} {M : Me}
def tKGet2 (K : PySem.W.Frag) (w : World) (a : Addr) (ty tx : TE) : TE := fun σ H Q => ty σ H fun y H1 => tx σ H1 fun z H2 => ∃ x, y = .str x ∧ ((∃ v, KDct K w a x v ∧ (a == sysModules) = false ∧ Q v H2) ∨ (KMiss K w a x ∧ Q z H2))
theorem pe_kget2 {x : Str} {p : Pos} {e f : Expr} {apos cpos : Pos} {a : Addr} {es0 : Array DictEntry} {n0 : Nat} {ty tx : TE} (D : KDict X.K X.w a es0 n0) (ho : PE X (.Name x p) (tC (.ref a))) (he : PE X e ty) (hf : PE X f tx) (m : M2 X (.Name x p) "get" apos e f cpos) :
    PE X (.Call (.Attribute (.Name x p) "get" apos) [e, f] [] cpos) (tKGet2 X.K X.w a ty tx) := by
  refine ⟨fun pins s σ H Q I h => ?_⟩
  refine wpAny_Call_method m.base m.few m.line PySem.F.plainAttrs_dict PySem.F.slot_dict_get PySem.F.type_dict_get (thn (ho.run pins s σ H (fun v H1 => v = .ref a ∧ H1 = H) I ⟨rfl, rfl⟩) fun u s1 ⟨y, H1, I1, rx, ey, eh⟩ => ?_)
  subst ey
  subst eh
  obtain rfl : u = Value.ref a := rx
  have hm1 := PySem.W.mapOf_K (prog := X.prog) (w := X.w) I1.kIn D.at_ D.lit
  refine ⟨hm1.typeIs, fun b eb => ?_, ?_⟩
  · cases eb
    exact ⟨_, I1.kIn _ _ D.at_, rfl⟩
  rw [m.trees]
  refine Calls.callWith_builtin rfl (Calls.evalArgs_plain (Calls.spliced_cons (thn (he.run pins s1 σ H1 _ I1 h) fun iv s2 ⟨y, H2, I2, ry, q2⟩ =>
    Calls.spliced_cons (thn (hf.run pins s2 σ H2 _ I2 q2) fun fv s3 ⟨z, H3, I3, rz, k, ek, q3⟩ => Calls.spliced_nil ?_))))
  subst ek
  obtain ⟨t, rfl⟩ := (show ∃ t, iv = Value.str k t from ry)
  have hm3 := PySem.W.mapOf_K (prog := X.prog) (w := X.w) I3.kIn D.at_ D.lit
  refine call_meetsIn PySem.F.slot_dict_get hm3.typeIs PySem.F.entry_dict_get (PySem.F.args_dict_get_3 _ _ _) (meets_dict_get_default (PySem.strKind X.prog X.w) a (PySem.strKind_is X.prog X.w k t) D.low fv) ⟨_, hm3, ?_⟩
  rcases q3 with ⟨v, ⟨es, n, u0, hl, hk, e3, ru⟩, _, q⟩ | ⟨⟨es, n, hl, hk, low, e3⟩, q⟩
  · rw [D.at_] at hl
    cases hl
    rw [PySem.W.find_K D.at_ e3]
    exact ⟨v, H3, I3.tok _, ru, q⟩
  · rw [D.at_] at hl
    cases hl
    rw [PySem.W.find_K D.at_ e3]
    exact ⟨z, H3, I3.tok _, rz, q⟩
end

/-! ### tables, there or not -/
/-- the dict at a: texts to data, and no other key -/
structure TabF (K : PySem.W.Frag) (w : World) (a : Addr) (kvs : List (Str × Dat)) : Prop where
  dict : ∃ es n, KDict K w a es n
  get : ∀ x d, kvs.lookup x = some d → ∃ v, KDct K w a x v ∧ ∀ H, DV K H v d
  miss : ∀ x, kvs.lookup x = none → PySem.W.nsIn K a x = some none
theorem TabF.d {K : PySem.W.Frag} {w : World} {a : Addr} {kvs : List (Str × Dat)} (h : TabF K w a kvs) : TabD K w a kvs := ⟨h.get⟩
def fGet (kvs : List (Str × Dat)) (a b : FE) : FE := fun ρ S => (a ρ S).bind fun x S1 => (b ρ S1).bind fun y S2 => match x with
  | .str z => (match kvs.lookup z with
    | some d => .ok d S2
    | none => .ok y S2)
  | _ => .bad
section
variable {X : Cx} {M : Me}
theorem ev_kget {e : Expr} {a : Addr} {kvs : List (Str × Dat)} {fa fb : FE} (hK : M.K = X.K) (ht : TabF X.K X.w a kvs) (h : PE X e (tKGet2 X.K X.w a (rdE M fa) (rdE M fb))) : PE X e (rdE M (fGet kvs fa fb)) := pe_weak h fun σ H Q ⟨ρ, S, Hf, R, q⟩ => by
  refine ⟨ρ, S, Hf, R, ?_⟩
  unfold fGet RE.bind at q
  cases e1 : fa ρ S with
  | er n v => simp only [e1] at q; exact q
  | bad => simp only [e1] at q
  | ok d S1 =>
    simp only [e1] at q
    intro y H1 Hf1 T1 hy
    refine ⟨ρ, S1, Hf1, T1.rel, ?_⟩
    cases e2 : fb ρ S1 with
    | er n v => simp only [e2] at q; exact q
    | bad => simp only [e2] at q
    | ok d2 S2 =>
      simp only [e2] at q
      intro z H2 Hf2 T2 hz
      cases hy with
      | dct _ _ _ _ _ => exact q.elim
      | ins _ _ _ _ => exact q.elim
      | str x =>
        refine ⟨x, rfl, ?_⟩
        simp only at q
        obtain ⟨es, n, D⟩ := ht.dict
        cases el : kvs.lookup x with
        | some r =>
          simp only [el] at q
          obtain ⟨v, hk, hv⟩ := ht.get x r el
          exact .inl ⟨v, hk, D.low, q v H2 Hf2 (T1.trans T2) (by rw [hK]; exact hv _)⟩
        | none =>
          simp only [el] at q
          exact .inr ⟨⟨es, n, D.at_, D.lit, D.low, ht.miss x el⟩, q z H2 Hf2 (T1.trans T2) hz⟩
      | non => exact q.elim
      | bl _ => exact q.elim
      | int _ => exact q.elim
      | lst _ _ _ => exact q.elim
      | tup _ _ _ => exact q.elim
def oInTab (kvs : List (Str × Dat)) : Dat → Option Dat
  | .str z => some (.bl (kvs.lookup z).isSome)
  | _ => none
/-- k in d, as a test and as a value -/
theorem rd_inTab {a : Addr} {kvs : List (Str × Dat)} {fa : FE} {σ : L2.St} {H : Hp} {Q : VK} (ht : TabF X.K X.w a kvs) (h : rdE M (fUn (oInTab kvs) fa) σ H Q) : tOp (fun x y H Q => ∃ (z : Str) (r : Option Value), x = .str z ∧ y = .ref a ∧ PySem.W.nsIn X.K a z = some r ∧ Q (.bl r.isSome) H) (rdO M fa) (tC (.ref a)) σ H Q := by
  obtain ⟨ρ, S, Hf, R, q⟩ := h
  refine ⟨ρ, S, Hf, R, ?_⟩
  unfold fUn RE.bind at q
  cases e1 : fa ρ S with
  | er n v => simp only [e1] at q; exact q
  | bad => simp only [e1] at q
  | ok d S1 =>
    simp only [e1] at q
    intro y H1 Hf1 T1 hy
    unfold ofO oInTab at q
    cases d with
    | str z =>
      simp only at q
      rw [(hy.gv T1.rel).str]
      cases el : kvs.lookup z with
      | some r =>
        obtain ⟨v, ⟨es, n, u, _, _, e, _⟩, _⟩ := ht.get z r el
        refine ⟨z, some u, rfl, rfl, e, ?_⟩
        have := q (.bl true) H1 Hf1 T1 (by rw [el]; exact .bl _)
        exact this
      | none =>
        refine ⟨z, none, rfl, rfl, ht.miss z el, ?_⟩
        have := q (.bl false) H1 Hf1 T1 (by rw [el]; exact .bl _)
        exact this
    | _ => exact q.elim
theorem tv_inTab {x : Str} {e : Expr} {p pos : Pos} {a : Addr} {kvs : List (Str × Dat)} {fa : FE} (ht : TabF X.K X.w a kvs) (ho : PE X (.Name x p) (tC (.ref a))) (ha : PE X e (rdO M fa)) (hm : behindInMarks .In (.Name x p) = false := by rfl) : PT X (.Compare e [.In] [.Name x p] pos) (rdT M (fUn (oInTab kvs) fa)) := by
  obtain ⟨es, n, D⟩ := ht.dict
  exact pt_weak (pt_cmpR (op_in_kd D) ha ho hm) fun σ H Q h => rd_inTab ht (rdT_of h)
/-! ### a method with a star -/
def spMv (K : PySem.W.Frag) (ec : Str → Addr) (kd : MK → Prop) (F : Fld → List Dat → RE) : Sp := fun vs H Q E => ∃ n, spM K ec kd n F vs H Q E
theorem ev_methS {e : Expr} {m : Str} {F : Fld → List Dat → RE} {fa : FA} {ec : Str → Addr} {i n : Nat} {C : Addr} {K' : PySem.W.Frag} (hK : M.K = K') (hec : M.ec = ec) (hC : ∀ x kd, M.self = some (x, kd) → ∃ dx, kd = .ins C dx) (hn : ∀ ρ S ds S', fa ρ S = .ok ds S' → ds.length = n)
    (h : PE X e (tMethR C m (spMv K' ec (fun k => ∃ dx, k = .ins C dx) F) M.E (tVar i) (rdA M fa))) : PE X e (rdE M (fMethM i m F fa)) := pe_weak h fun σ H Q ⟨ρ, S, Hf, R, q⟩ => by
  unfold fMethM fCallM at q
  cases el : (S.lookup m).isNone with
  | false => rw [el] at q; exact q.elim
  | true =>
    rw [el] at q
    simp only at q
    cases em : isMe ρ i with
    | false => rw [em] at q; exact q.elim
    | true =>
      rw [em] at q
      obtain ⟨v, h1, x, k, hs, rfl⟩ := R.slot i _ (isMe_ok em)
      obtain ⟨dx, rfl⟩ := hC x k hs
      obtain ⟨_, _, fs, m3, m4⟩ := R.me x _ hs
      refine ⟨_, h1, x, dx, fs, rfl, m3, m4.none (Option.isNone_iff_eq_none.mp el), ?_⟩
      rw [← hK]
      obtain ⟨v2, e2, h2⟩ := rd_callM (ec := ec) (E := M.E) hC hn em R q fun _ _ _ => .inr ⟨rfl, hec.symm⟩
      rw [h1] at e2
      cases e2
      obtain ⟨ρ2, S2, Hf2, R2, q2⟩ := h2
      refine ⟨ρ2, S2, Hf2, R2, ?_⟩
      cases e3 : fa ρ2 S2 with
      | er n v => rw [e3] at q2; exact q2
      | bad => rw [e3] at q2; exact q2
      | ok ds S3 =>
        rw [e3] at q2
        intro vs H1 Hf1 T1 hv
        have this : spM M.K ec (fun k => ∃ dx, k = MK.ins C dx) n F (V.ref x :: vs ++ []) H1 Q M.E := q2 vs H1 Hf1 T1 hv
        rw [List.append_nil] at this
        exact ⟨n, this⟩
/-- self.m(e, *own) -/
def fMethSB (i : Nat) (m : Str) (F : Fld → List Dat → RE) (a b : FE) : FE := fun ρ S => match (S.lookup m).isNone && isMe ρ i with
  | true => (a ρ S).bind fun x S1 => (b ρ S1).bind fun y S2 => match y with
    | .lst ds => F S2 (x :: ds)
    | _ => .bad
  | false => .bad
theorem ev_methSB {e : Expr} {m : Str} {F : Fld → List Dat → RE} {fa fb : FE} {ec : Str → Addr} {i : Nat} {C g : Addr} (hK : M.K = X.K) (hec : M.ec = ec) (hC : ∀ x kd, M.self = some (x, kd) → ∃ dx, kd = .ins C dx)
    (h : PE X e (tMethSB X.K C m g (spMv X.K ec (fun k => ∃ dx, k = .ins C dx) F) M.E (tVar i) (rdE M fa) (rdO M fb))) : PE X e (rdE M (fMethSB i m F fa fb)) := pe_weak h fun σ H Q ⟨ρ, S, Hf, R, q⟩ => by
  unfold fMethSB at q
  cases el : ((S.lookup m).isNone && isMe ρ i) with
  | false => rw [el] at q; exact q.elim
  | true =>
    rw [el] at q
    obtain ⟨el, em⟩ := Bool.and_eq_true_iff.mp el
    obtain ⟨v, h1, x, k, hs, rfl⟩ := R.slot i _ (isMe_ok em)
    obtain ⟨dx, rfl⟩ := hC x k hs
    obtain ⟨_, _, fs, m3, m4⟩ := R.me x _ hs
    refine ⟨_, h1, x, dx, fs, rfl, m3, m4.none (Option.isNone_iff_eq_none.mp el), fun b0 hb0 => ?_⟩
    have T0 : Stp M σ ρ Hf H S (upd Hf b0 (.met g x)) (upd H b0 (.met g x)) := (Stp.refl R).new hb0 (fun _ z => nomatch z)
    have nb : ¬ M.mine b0 := R.notMine hb0
    refine ⟨ρ, S, _, T0.rel, ?_⟩
    simp only [RE.bind] at q
    cases e1 : fa ρ S with
    | er n v => simp only [e1] at q; exact q
    | bad => simp only [e1] at q
    | ok d1 S1 =>
      simp only [e1] at q
      intro y1 H1 Hf1 T1 hy1
      refine ⟨ρ, S1, Hf1, T1.rel, ?_⟩
      cases e2 : fb ρ S1 with
      | er n v => simp only [e2] at q; exact q
      | bad => simp only [e2] at q
      | ok d2 S2 =>
        simp only [e2] at q
        intro y2 H2 Hf2 T2 hy2
        cases d2 with
        | lst ds =>
          simp only at q
          obtain ⟨a, xs, rfl, ha, la, va⟩ := (hy2.gv T2.rel).lst T2.rel.sub
          have T := (T0.trans T1).trans T2
          obtain ⟨n1, n2, n3⟩ := T2.rel.me x _ hs
          refine ⟨a, xs, rfl, .inr (.inl (.inl ha)), T2.fr _ _ (T1.fr _ _ upd_same nb (fun _ _ z => nomatch z)) nb (fun _ _ z => nomatch z), ds.length + 1, x, _, S2, y1 :: xs, d1 :: ds, Hf2, rfl, ⟨dx, rfl⟩, rfl, T2.rel.sub, n1, by rw [← hK]; exact n3, .cons (by rw [← hK]; exact hy1.same T2.same) (by rw [← hK]; exact va), ?_⟩
          cases eF : F S2 (d1 :: ds) with
          | ok d S3 =>
            simp only [eF] at q
            intro v H' Hs' s1 s2 s3 fr nt hme hd
            rw [← hK] at hme hd
            exact q v H' Hs' (T.trans ⟨T2.rel.calledM hs s1 s2 s3 fr nt hme, s2, fun b o e m _ => s1 _ _ e (fun z => m (.inl ⟨.ins C dx, by rw [z]; exact hs⟩)), fshN fr⟩) hd
          | er m v =>
            simp only [eF] at q
            intro dd H' s1 h1 h2
            rw [← hec]
            refine q dd H' (fun b o e m => ?_) (T2.rel.H0none h1) h2
            exact s1 _ _ (T2.rel.full b o e m) (fun z => m (.inl ⟨.ins C dx, by rw [z]; exact hs⟩))
          | bad => simp only [eF] at q
        | _ => exact q.elim
end
end PD

set_option Elab.async false
set_option linter.all false
set_option maxRecDepth 100000
set_option maxHeartbeats 2000000
namespace PD
open PySem PySem.Spec PyProof.Rows L2 RB
section
variable {P : Program} {w : World} {K : PySem.W.Frag} {mg : Str → Option Value} {base : Heap}
/-- a method with a star, from its body with the tuple as its argument -/
theorem fnR_star {CX : CXT} {k : Nat} {f : Addr} {ec : Str → Addr} {kd : MK → Prop} {F G : Fld → List Dat → RE} (hF : ∀ S ds, F S ds ≠ .bad → ds.length ≤ 100000 ∧ G S [.tup ds] = F S ds)
    (h : FnR P w K mg base CX k f (fun vs H Q E => ∃ ws rest, vs = ws ++ rest ∧ ws.length = (["self"] : List Str).length ∧ rest.length ≤ sizeLine ∧ ∀ p, H p = none → spM K ec kd 1 G (ws ++ [V.ref p]) (upd H p (.tup rest)) Q E)) : FnR P w K mg base CX k f (spMv K ec kd F) := by
  refine FnR.imp h fun vs H Q E hs => ?_
  obtain ⟨n, x, kk, S, ws, ds, Hs, rfl, hk, hl, s, hx, hm, hv, q⟩ := hs
  have hb : F S ds ≠ .bad := fun z => by rw [z] at q; exact q
  obtain ⟨h1, h2⟩ := hF S ds hb
  refine ⟨[.ref x], ws, rfl, rfl, by rw [hv.length]; exact line5 h1, fun p hp => ?_⟩
  have hpf := none_of_same s hp
  obtain ⟨o, ho⟩ := hm.there
  have nx : x ≠ p := ne_of_none ho hp
  have sm := upd_new (o := .tup ws) hpf
  refine ⟨x, kk, S, [.ref p], [.tup ds], upd Hs p (.tup ws), rfl, hk, rfl, fun b u e => ?_, by rw [upd_ne nx]; exact hx, hm.mono (fun b o _ z => upd_new hp _ _ z) sm, .cons (.tup (.inl (.inl upd_same)) (by rw [hv.length]; exact h1) (hv.same sm)) .nil, ?_⟩
  · by_cases hb : b = p
    · subst hb
      rw [upd_same] at e ⊢
      exact e
    · rw [upd_ne hb] at e ⊢
      exact s _ _ e
  · rw [h2]
    cases e : F S ds with
    | bad => exact hb e
    | ok d S' =>
      rw [e] at q
      intro v H' Hs' s1 s2 s3 fr nt hme hd
      refine q v H' Hs' (fun b o z hb => s1 b o (upd_new hp _ _ z) hb) (sm.trans s2) s3 (fun b z => ?_) (fun b ps z => by
        have y := nt b ps z
        by_cases hb : b = p
        · rw [hb, upd_same] at y
          cases y
        · rw [upd_ne hb] at y
          exact y) hme hd
      by_cases hb : b = p
      · subst hb
        exact .inr hp
      · rcases fr b z with y | y
        · rw [upd_ne hb] at y
          exact .inl y
        · rw [upd_ne hb] at y
          exact .inr y
    | er m v =>
      rw [e] at q
      intro dd H' s1 h1 h2
      have nd : dd ≠ p := fun z => by
        rw [z, upd_same] at h1
        cases h1
      rw [upd_ne nd] at h1
      exact q dd H' (fun b o z hb => s1 b o (upd_new hp _ _ z) hb) h1 h2
end
/-! ### an object of the def's own -/
def Me.withO (M : Me) (x : Addr) (k : MK) (o : HO) : Me := ⟨M.K, upd M.H0 x o, M.Hs, M.E, M.ec, some (x, k), M.T⟩
def dropMe (ρ : DEnv) : DEnv := ρ.map fun s => match s with
  | some .me => none
  | some .me2 => none
  | s => s
theorem dropMe_get {ρ : DEnv} {i : Nat} {s : Slot} (h : (dropMe ρ)[i]? = some (some s)) : ρ[i]? = some (some s) ∧ s ≠ .me ∧ s ≠ .me2 := by
  unfold dropMe at h
  rw [List.getElem?_map] at h
  cases e : ρ[i]? with
  | none => rw [e] at h; cases h
  | some t =>
    rw [e] at h
    cases t with
    | none => cases h
    | some t =>
      cases t with
      | v d => cases h; exact ⟨rfl, (fun z => nomatch z), fun z => nomatch z⟩
      | own ds => cases h; exact ⟨rfl, (fun z => nomatch z), fun z => nomatch z⟩
      | me => cases h
      | me2 => cases h
/-- the object is let go -/
theorem Rel.forgetMe {M : Me} {x : Addr} {k : MK} {o : HO} {σ : L2.St} {H : Hp} {ρ : DEnv} {S S' : Fld} {Hf : Hp} (ks : k.sub = none) (hs : M.self = none) (hx : M.H0 x = none) (R : Rel (M.withO x k o) σ H ρ S Hf) : Rel M σ H (dropMe ρ) S' Hf := by
  have n0 : ∀ {b : Addr} {u : HO}, M.H0 b = some u → b ≠ x := fun {b u} e z => by
    rw [z, hx] at e
    cases e
  have nm : ∀ {b : Addr}, b ≠ x → ¬ M.mine b → ¬ (M.withO x k o).mine b := fun {b} h m z => by
    rcases z with ⟨k', z⟩ | z | ⟨_, _, z, y⟩
    · cases z
      exact h rfl
    · exact m (.inr (.inl z))
    · cases z
      rw [ks] at y
      cases y
  refine ⟨R.len.trans (by unfold dropMe; rw [List.length_map]), R.base, R.sub, fun b u e m => R.full b u (by show upd M.H0 x o b = some u; rw [upd_ne (n0 e)]; exact e) (nm (n0 e) m), fun b e => ?_, fun i ds p e1 e2 => ?_, fun i s e => ?_, fun i j ds es p n e1 e2 e3 => R.inj i j ds es p n (dropMe_get e1).1 (dropMe_get e2).1 e3, fun y k' e => (by rw [hs] at e; cases e), R.tabs, R.tabf, R.notb, fun b ⟨_, _, e, _⟩ => (by rw [hs] at e; cases e)⟩
  · rcases R.fresh b e with z | z
    · exact .inl z
    · have z : upd M.H0 x o b = none := z
      by_cases hb : b = x
      · rw [hb, upd_same] at z
        cases z
      · rw [upd_ne hb] at z
        exact .inr z
  · have z : upd M.H0 x o p = none := R.ownF i ds p (dropMe_get e1).1 e2
    by_cases hb : p = x
    · rw [hb, upd_same] at z
      cases z
    · rw [upd_ne hb] at z
      exact z
  · obtain ⟨e, ne⟩ := dropMe_get e
    obtain ⟨v, h1, h2⟩ := R.slot i s e
    refine ⟨v, h1, ?_⟩
    cases s with
    | v d => exact h2
    | own ds => exact h2
    | me => exact (ne.1 rfl).elim
    | me2 => exact (ne.2 rfl).elim
/-- what the rest makes of it -/
def forgetR (S : Fld) (r : RS) : RS := match r with
  | .nx ρ _ => .nx (dropMe ρ) S
  | .bk ρ _ => .bk (dropMe ρ) S
  | .ct ρ _ => .ct (dropMe ρ) S
  | .rt d _ => .rt d S
  | .er n v => .er n v
  | .bad => .bad
theorem Post.forgetMe {M : Me} {x : Addr} {k : MK} {o : HO} {Hf : Hp} {D : Ends} {S : Fld} {r : RS} (ks : k.sub = none) (hs : M.self = none) (hx : M.H0 x = none) (q : Post M Hf D (forgetR S r)) : Post (M.withO x k o) Hf D r := by
  cases r with
  | nx ρ S' => exact fun σ H' Hf' R s => q σ H' Hf' (R.forgetMe ks hs hx) s
  | bk ρ S' => exact fun σ H' Hf' R s => q σ H' Hf' (R.forgetMe ks hs hx) s
  | ct ρ S' => exact fun σ H' Hf' R s => q σ H' Hf' (R.forgetMe ks hs hx) s
  | rt d S' => exact fun v σ H' ρ Hf' R hv => q v σ H' (dropMe ρ) Hf' (R.forgetMe ks hs hx) hv
  | er n v =>
    intro dd H' full h1 h2
    have hd : dd ≠ x := fun z => by
      have h1 : upd M.H0 x o dd = none := h1
      rw [z, upd_same] at h1
      cases h1
    have h1 : upd M.H0 x o dd = none := h1
    rw [upd_ne hd] at h1
    refine q dd H' (fun b u e nm => ?_) h1 h2
    have nb : b ≠ x := fun z => by
      rw [z, hx] at e
      cases e
    refine full b u (by show upd M.H0 x o b = some u; rw [upd_ne nb]; exact e) fun z => ?_
    rcases z with ⟨k', z⟩ | z | ⟨_, _, z, y⟩
    · cases z
      exact nb rfl
    · exact nm (.inr (.inl z))
    · cases z
      rw [ks] at y
      cases y
  | bad => exact q
/-- name = C(..); the rest -/
def fMake (i : Nat) (F : Fld → List Dat → RE) (a : FA) (f : FS) : FS := fun ρ S => match a ρ S with
  | .ok ds S1 => (match F [] ds with
    | .ok .non S2 => forgetR S1 (f (ρ.set i (some .me)) S2)
    | .er n v => .er n v
    | _ => .bad)
  | .er n v => .er n v
  | .bad => .bad
section
variable {X : Cx} {M : Me}
theorem Rel.setMe {M : Me} {σ : L2.St} {H : Hp} {ρ : DEnv} {S : Fld} {Hf : Hp} (R : Rel M σ H ρ S Hf) {i : Nat} {x : Addr} {k : MK} (hs : M.self = some (x, k)) : Rel M (σ.set i (some (.ref x))) H (ρ.set i (some .me)) S Hf := by
  have nv : ∀ (m : Nat) (xs : List Dat), (ρ.set i (some .me))[m]? = some (some (.own xs)) → i ≠ m ∧ ρ[m]? = some (some (.own xs)) := fun m xs e => by
    rw [List.getElem?_set] at e
    by_cases hj : i = m
    · rw [if_pos hj] at e
      split at e <;> cases e
    · rw [if_neg hj] at e
      exact ⟨hj, e⟩
  refine ⟨by rw [List.length_set, List.length_set]; exact R.len, R.base, R.sub, R.full, R.fresh, fun j ds p e1 e2 => ?_, fun j s e => ?_, fun j k ds es p n e1 e2 e3 => ?_, R.me, R.tabs, R.tabf, R.notb, R.subs⟩
  · obtain ⟨n1, e1⟩ := nv _ _ e1
    rw [List.getElem?_set, if_neg n1] at e2
    exact R.ownF j ds p e1 e2
  · rw [List.getElem?_set] at e ⊢
    by_cases hj : i = j
    · subst hj
      rw [if_pos rfl] at e ⊢
      by_cases hi : i < ρ.length
      · rw [if_pos hi] at e
        rw [if_pos (by rw [R.len]; exact hi)]
        cases e
        exact ⟨_, rfl, x, k, hs, rfl⟩
      · rw [if_neg hi] at e
        cases e
    · rw [if_neg hj] at e ⊢
      exact R.slot j s e
  · obtain ⟨n1, e1⟩ := nv _ _ e1
    obtain ⟨n2, e2⟩ := nv _ _ e2
    rw [List.getElem?_set, if_neg n1] at e3
    rw [List.getElem?_set, if_neg n2]
    exact R.inj j k ds es p n e1 e2 e3
/-- a new object beside all that is known -/
theorem Rel.takeMe {M : Me} {σ : L2.St} {H H' : Hp} {ρ : DEnv} {S S' : Fld} {Hf Hf' : Hp} {x : Addr} {k : MK} {o : HO} (ks : k.sub = none) (R : Rel M σ H ρ S Hf) (hs : M.self = none) (hx : H x = none) (s1 : ∀ b u, H b = some u → H' b = some u) (s2 : Same Hf Hf') (s3 : Same Hf' H') (fr : ∀ b, Hf' b ≠ none → Hf b ≠ none ∨ H b = none) (hxf : Hf' x = none) (nt : ∀ b ps, Hf' b = some (.tbl ps) → Hf b = some (.tbl ps)) (hm : MeIs M.K x H' Hf' S' k) :
    Rel (M.withO x k o) σ H' ρ S' Hf' := by
  have h0 := R.H0none hx
  have nn : ∀ {p : Addr} {u : HO}, H p = some u → Hf p = none → Hf' p = none := fun {p u} e n => by
    cases z : Hf' p with
    | none => rfl
    | some u' =>
      rcases fr p (by rw [z]; simp) with q | q
      · exact (q n).elim
      · rw [e] at q
        cases q
  refine ⟨R.len, R.base.trans s2, s3, fun b u e m => ?_, fun b e => ?_, fun i ds p e1 e2 => ?_, fun i s e => ?_, R.inj, fun y k' e => ?_, tabs_same R.tabs s1, fun z hz => (R.tabs z hz).elim fun _ h => nn h.1 (R.tabf z hz), fun b ps e => R.notb b ps (nt b ps e), fun b ⟨_, _, e, m⟩ => (by cases e; rw [ks] at m; cases m)⟩
  · have hb : b ≠ x := fun z => m (.inl ⟨k, by rw [z]; rfl⟩)
    have e : upd M.H0 x o b = some u := e
    rw [upd_ne hb] at e
    exact s1 _ _ (R.full b u e fun z => z.elim (fun ⟨k', z⟩ => by rw [hs] at z; cases z) fun z => z.elim (fun z => m (.inr (.inl z))) fun ⟨_, _, z, _⟩ => by rw [hs] at z; cases z)
  · have hb : b ≠ x := fun z => e (by rw [z]; exact hxf)
    rcases fr b e with q | q
    · rcases R.fresh b q with z | z
      · exact .inl z
      · exact .inr (by show upd M.H0 x o b = none; rw [upd_ne hb]; exact z)
    · exact .inr (by show upd M.H0 x o b = none; rw [upd_ne hb]; exact R.H0none q)
  · obtain ⟨v, h1, p', vs, rfl, a, _⟩ := R.slot i _ e1
    rw [e2] at h1
    cases h1
    show upd M.H0 x o p = none
    rw [upd_ne (ne_of_none a hx)]
    exact R.ownF i ds p e1 e2
  · obtain ⟨v, h1, h2⟩ := R.slot i s e
    refine ⟨v, h1, ?_⟩
    cases s with
    | v d => exact DV.same s2 h2
    | me =>
      obtain ⟨y, k', z, _⟩ := h2
      rw [hs] at z
      cases z
    | me2 =>
      obtain ⟨y, ⟨_, _, z, _⟩, _⟩ := h2
      rw [hs] at z
      cases z
    | own ds =>
      obtain ⟨q, vs, rfl, a, b, c, d⟩ := h2
      exact ⟨q, vs, rfl, s1 _ _ a, nn a b, c, d.same s2⟩
  · cases e
    exact ⟨hxf, by show upd M.H0 x o x ≠ none; rw [upd_same]; simp, hm⟩
theorem sv_make {st : Stmt} {rest : List Stmt} {i n : Nat} {C : Addr} {F : Fld → List Dat → RE} {fa : FA} {f : FS} {ec : Str → Addr} {K' : PySem.W.Frag} (hK : M.K = K') (hec : M.ec = ec) (hs : M.self = none) (hn : ∀ ρ S ds S', fa ρ S = .ok ds S' → ds.length = n)
    (h1 : PS X st (tAsg (tMake C (spM K' ec (fun k => ∃ dx, k = .ins C dx) n F) [] M.E (rdA M fa)) (gName i))) (h2 : ∀ x dx o, PSs X rest (rdS (M.withO x (.ins C dx) o) f)) : PSs X (st :: rest) (rdS M (fMake i F fa f)) := by
  have h2' : PSs X rest (fun D σ H => ∃ x dx o, rdS (M.withO x (.ins C dx) o) f D σ H) := ⟨fun pins s σ H D I ⟨x, dx, o, q⟩ => (h2 x dx o).run pins s σ H D I q⟩
  refine pss_weak (pss_cons h1 h2') fun D σ H ⟨ρ, S, Hf, R, q⟩ => ?_
  refine ⟨ρ, S, Hf, R, ?_⟩
  unfold fMake at q
  cases e1 : fa ρ S with
  | er n v => rw [e1] at q; exact q
  | bad => rw [e1] at q; exact q
  | ok ds S1 =>
    rw [e1] at q
    intro vs H1 Hf1 T1 hv x dx hx hdx hne
    have R1 := T1.rel
    have hxf := none_of_same R1.sub hx
    have hdf := none_of_same R1.sub hdx
    have smf := upd_new (o := .own x) hdf
    have hx' : upd Hf1 dx (.own x) x = none := by rw [upd_ne hne.symm]; exact hxf
    refine ⟨x, _, [], vs, ds, upd Hf1 dx (.own x), by rw [List.append_nil], ⟨dx, rfl⟩, hn _ _ _ _ e1, fun b u e => ?_, hx', ⟨[], upd_same, .nil⟩, by rw [← hK]; exact hv.same smf, ?_⟩
    · have hb : b ≠ x := ne_of_none e hx'
      rw [upd_ne hb]
      by_cases hb2 : b = dx
      · subst hb2
        rw [upd_same] at e ⊢
        exact e
      · rw [upd_ne hb2] at e ⊢
        exact R1.sub _ _ e
    · have up : ∀ b u, H1 b = some u → upd (upd H1 dx (.own x)) x (.ins C dx []) b = some u := fun b u e => by
        rw [upd_ne (ne_of_none e hx)]
        exact upd_new hdx _ _ e
      cases eF : F [] ds with
      | bad => simp only [eF] at q; exact q.elim
      | er m v =>
        simp only [eF] at q
        intro dd H' s1 d1 d2
        rw [← hec]
        refine q dd H' (fun b u e m => s1 _ _ (up _ _ (R1.full b u e m)) (ne_of_none (R1.full b u e m) hx)) (R1.H0none ?_) d2
        cases e : H1 dd with
        | none => rfl
        | some u => rw [up _ _ e] at d1; cases d1
      | ok d S2 =>
        simp only [eF] at q
        intro v H' Hs' s1 s2 s3 fr nt hme hd
        cases hd with
        | dct _ _ _ _ _ => exact q.elim
        | ins _ _ _ _ => exact q.elim
        | non =>
          simp only at q
          have fr2 : ∀ b, Hs' b ≠ none → Hf1 b ≠ none ∨ H1 b = none := fun b z => by
            rcases fr b z with y | y
            · by_cases hb : b = dx
              · exact .inr (by rw [hb]; exact hdx)
              · rw [upd_ne hb] at y
                exact .inl y
            · refine .inr ?_
              cases e : H1 b with
              | none => rfl
              | some u => rw [up _ _ e] at y; cases y
          have hxs : Hs' x = none := by
            cases e : Hs' x with
            | none => rfl
            | some u =>
              rcases fr x (by rw [e]; simp) with y | y
              · exact (y hx').elim
              · rw [upd_same] at y
                cases y
          have R2 := Rel.takeMe (o := .own x) (k := .ins C dx) rfl R1 hs hx (fun b u e => s1 _ _ (up _ _ e) (ne_of_none e hx)) (smf.trans s2) s3 fr2 hxs (fun b ps e => by
            have y := nt b ps e
            by_cases hb : b = dx
            · rw [hb, upd_same] at y
              cases y
            · rw [upd_ne hb] at y
              exact y) (by rw [hK]; exact hme)
          refine ⟨rfl, x, dx, .own x, ρ.set i (some .me), S2, Hs', R2.setMe rfl, ?_⟩
          exact (q.mono (T1.same.trans (smf.trans s2))).forgetMe rfl hs (R1.H0none hx)
        | bl _ => exact q.elim
        | int _ => exact q.elim
        | str _ => exact q.elim
        | lst _ _ _ => exact q.elim
        | tup _ _ _ => exact q.elim
end
end PD

set_option Elab.async false
set_option linter.all false
set_option maxRecDepth 100000
set_option maxHeartbeats 2000000
namespace PD
open PySem PySem.Spec PyProof.Rows L2 RB
/-! ### a written table of the def's own, and .get of it -/
/-- a slot of no datum -/
theorem Rel.setNone {M : Me} {σ : L2.St} {H : Hp} {ρ : DEnv} {S : Fld} {Hf : Hp} (R : Rel M σ H ρ S Hf) {i : Nat} {v : Option V} : Rel M (σ.set i v) H (ρ.set i none) S Hf := by
  have nv : ∀ (m : Nat) (s : Slot), (ρ.set i none)[m]? = some (some s) → i ≠ m ∧ ρ[m]? = some (some s) := fun m s e => by
    rw [List.getElem?_set] at e
    by_cases hj : i = m
    · rw [if_pos hj] at e
      split at e <;> cases e
    · rw [if_neg hj] at e
      exact ⟨hj, e⟩
  refine ⟨by rw [List.length_set, List.length_set]; exact R.len, R.base, R.sub, R.full, R.fresh, fun j ds p e1 e2 => ?_, fun j s e => ?_, fun j k ds es p n e1 e2 e3 => ?_, R.me, R.tabs, R.tabf, R.notb, R.subs⟩
  · obtain ⟨n1, e1⟩ := nv _ _ e1
    rw [List.getElem?_set, if_neg n1] at e2
    exact R.ownF j ds p e1 e2
  · obtain ⟨n1, e1⟩ := nv _ _ e
    rw [List.getElem?_set, if_neg n1]
    exact R.slot j s e1
  · obtain ⟨n1, e1⟩ := nv _ _ e1
    obtain ⟨n2, e2⟩ := nv _ _ e2
    rw [List.getElem?_set, if_neg n1] at e3
    rw [List.getElem?_set, if_neg n2]
    exact R.inj j k ds es p n e1 e2 e3
theorem valV_none {z : Str} : ∀ {kvs : List (Str × Dat)}, kvs.lookup z = none → valV (kvD kvs) (Sum.inr z) = none
  | [], _ => rfl
  | (k, x) :: r, e => by
    rw [List.lookup_cons] at e
    by_cases h : z = k
    · subst h
      rw [beq_self_eq_true] at e
      cases e
    · have hb : (z == k) = false := beq_eq_false_iff_ne.mpr h
      rw [hb] at e
      have ih := valV_none (kvs := r) e
      have hk : ¬ (Sum.inr k : Key) = Sum.inr z := fun q => h (Sum.inr.inj q).symm
      have hk2 : ¬ (Sum.inr z : Key) = Sum.inr k := fun q => h (Sum.inr.inj q)
      simp only [kvD, List.map_cons, valV] at ih ⊢
      first
        | (rw [if_neg hk]; exact ih)
        | (rw [if_neg hk2]; exact ih)
        | (simp_all; assumption)
        | simp_all
/-- name = {..}; return name.get(a, b) -/
def fLvl (i : Nat) (kvs : List (Str × Dat)) (a b : FE) : FS := fun ρ S => if i < ρ.length then fRet (fun ρ S => fGet kvs a b (ρ.set i none) S) ρ S else .bad
section
variable {X : Cx} {M : Me}
theorem sv_level {i : Nat} {st : Stmt} {e : Expr} {pos : Pos} {kvs : List (Str × Dat)} {trs : List (TE × TE)} {fa fb : FE} (h1 : PS X st (tAsg (tDisp trs) (gName i))) (hq : ∀ σ H Q, Q ((kvD kvs).map fun kv => (kV kv.1, kv.2)) H → tPairs trs σ H Q) (hm : mergeK [] (kvD kvs) = kvD kvs) (hl : (kvD kvs).length ≤ 15) (hc : kvs.all (fun p => scal1 p.2) = true)
    (hb : PE X e (tDGet2 (tVar i) (rdE M fa) (rdE M fb))) : PSs X [st, .Return (some e) pos] (rdS M (fLvl i kvs fa fb)) := by
  refine pss_weak (pss_cons h1 (pss_one (ps_ret hb))) fun D σ H ⟨ρ, S, Hf, R, q⟩ => ?_
  unfold fLvl at q
  by_cases hi : i < ρ.length
  case neg =>
    rw [if_neg hi] at q
    exact q.elim
  case pos =>
  rw [if_pos hi] at q
  have hi' : i < σ.length := by rw [R.len]; exact hi
  intro p hp0
  refine hq _ _ _ ⟨upd_same, kvD kvs, rfl, hl, ?_⟩
  rw [hm, upd_upd]
  have R1 : Rel M (σ.set i (some (.ref p))) (upd H p (.dK (kvD kvs))) (ρ.set i none) S (upd Hf p (.dK (kvD kvs))) := (R.new hp0 (by intro _ z; cases z)).setNone
  refine ⟨.ref p, by rw [List.getElem?_set, if_pos rfl, if_pos hi'], p, rfl, .inl ⟨_, .inl upd_same⟩, ?_⟩
  refine ⟨_, S, _, R1, ?_⟩
  have np : ¬ M.mine p := R.notMine hp0
  unfold fRet fGet RE.bind RE.bindS at q
  cases e1 : fa (ρ.set i none) S with
  | er n v => simp only [e1] at q; exact q
  | bad => simp only [e1] at q; exact q
  | ok d S1 =>
    simp only [e1] at q
    intro y H1 Hf1 T1 hy
    refine ⟨_, S1, Hf1, T1.rel, ?_⟩
    cases e2 : fb (ρ.set i none) S1 with
    | er n v => simp only [e2] at q; exact q
    | bad => simp only [e2] at q; exact q
    | ok d2 S2 =>
      simp only [e2] at q
      intro z H2 Hf2 T2 hz
      have h2 : H2 p = some (.dK (kvD kvs)) := T2.fr p _ (T1.fr p _ upd_same np (fun _ _ z => nomatch z)) np (fun _ _ z => nomatch z)
      cases hy with
      | dct _ _ _ _ _ => exact q.elim
      | ins _ _ _ _ => exact q.elim
      | str x =>
        refine ⟨_, .inl ⟨kvD kvs, Sum.inr x, .inl h2, rfl, rfl⟩, ?_⟩
        simp only at q
        cases el : kvs.lookup x with
        | some r =>
          simp only [el] at q
          have hsc : scal1 r = true := by
            obtain ⟨k, hk⟩ := lookup_mem el
            exact List.all_eq_true.mp hc _ hk
          rw [valV_kvD el]
          exact q (datV r) _ H2 _ Hf2 (T1.trans T2).rel (scal1_dv hsc)
        | none =>
          simp only [el] at q
          rw [valV_none el]
          exact q z _ H2 _ Hf2 (T1.trans T2).rel hz
      | non => exact q.elim
      | bl _ => exact q.elim
      | int _ => exact q.elim
      | lst _ _ _ => exact q.elim
      | tup _ _ _ => exact q.elim
end
/-! ### a promise by hand, as one of data -/
theorem ofSpF {P : Program} {w : World} {K : PySem.W.Frag} {mg : Str → Option Value} {base : Heap} {CX : CXT} {k n : Nat} {f : Addr} {fd : FuncData} {ps : List Str} {sp : Sp} {ec : Str → Addr} {F : List Dat → RF} (G : FnOk P w K mg base CX k f fd ps sp)
    (h : ∀ (vs : List V) (H Hs : Hp) (Q : VK) (E : XK) (ds : List Dat), ds.length = n → Same Hs H → DVs K Hs vs ds → (match F ds with
      | .ok d => ∀ v H', Same H H' → DV K Hs v d → Q v H'
      | .er m v => ∀ dd H', Same H H' → H dd = none → H' dd = some (.xd (errF m v)) → E (.ref (ec m)) (some dd) H'
      | .bad => False) → sp vs H Q E) : FnOk P w K mg base CX k f fd ps (spF K ec n F) :=
  G.imp fun vs H Q E ⟨ds, Hs, h1, h2, h3, h4⟩ => h vs H Hs Q E ds h1 h2 h3 (by
    cases e : F ds with
    | ok d => rw [e] at h4; exact fun v H' s hd => h4 v H' Hs s (Same.refl _) (h2.trans s) (fun b z => .inl z) (fun _ _ z => z) hd
    | er m v => rw [e] at h4; exact h4
    | bad => rw [e] at h4; exact h4)
end PD

set_option Elab.async false
set_option linter.all false
set_option maxRecDepth 100000
set_option maxHeartbeats 2000000
namespace PD
open PySem PySem.Spec PyProof.Rows L2 RB
/-! ### dicts as data -/
def lookD : List Str → List Dat → Str → Option Dat
  | k :: ks, d :: ds, z => if k = z then some d else lookD ks ds z
  | _, _, _ => none
abbrev zipK (ks : List Str) (xs : List V) : List (Key × V) := List.zipWith (fun k v => ((Sum.inr k : Key), v)) ks xs
theorem lookD_some {K : PySem.W.Frag} {H : Hp} : ∀ {ks : List Str} {xs : List V} {ds : List Dat} {z : Str} {d : Dat}, DVs K H xs ds → lookD ks ds z = some d → ∃ v, valV (zipK ks xs) (Sum.inr z) = some v ∧ DV K H v d
  | [], _, _, _, _, _, e => by simp [lookD] at e
  | _ :: _, _, _, _, _, .nil, e => by simp [lookD] at e
  | k :: ks, _, _, z, d, .cons (v := v) (vs := vs) (d := d') (ds := ds) a t, e => by
    unfold lookD at e
    by_cases h : k = z
    · rw [if_pos h] at e
      cases e
      exact ⟨v, by simp [zipK, valV, h], a⟩
    · rw [if_neg h] at e
      obtain ⟨w, h1, h2⟩ := lookD_some t e
      refine ⟨w, ?_, h2⟩
      have : valV (zipK (k :: ks) (v :: vs)) (Sum.inr z) = valV (zipK ks vs) (Sum.inr z) := by simp [zipK, valV, List.find?_cons, h]
      rw [this]
      exact h1
theorem lookD_none {K : PySem.W.Frag} {H : Hp} : ∀ {ks : List Str} {xs : List V} {ds : List Dat} {z : Str}, DVs K H xs ds → lookD ks ds z = none → valV (zipK ks xs) (Sum.inr z) = none
  | [], _, _, _, _, _ => by simp [zipK, valV]
  | _ :: _, _, _, _, .nil, _ => by simp [zipK, valV]
  | k :: ks, _, _, z, .cons (v := v) (vs := vs) (d := d') (ds := ds) a t, e => by
    unfold lookD at e
    by_cases h : k = z
    · rw [if_pos h] at e
      cases e
    · rw [if_neg h] at e
      have : valV (zipK (k :: ks) (v :: vs)) (Sum.inr z) = valV (zipK ks vs) (Sum.inr z) := by simp [zipK, valV, List.find?_cons, h]
      rw [this]
      exact lookD_none t e
theorem GV.dct {K : PySem.W.Frag} {Hf H : Hp} {v : V} {ks : List Str} {ds : List Dat} (s : Same Hf H) (h : GV K Hf H v (.dct ks ds)) : ∃ a xs, v = .ref a ∧ H a = some (.dK (zipK ks xs)) ∧ DVs K Hf xs ds := by
  rcases h with h | ⟨p, vs, es, rfl, e, _⟩
  · cases h with
    | dct a _ _ _ d => exact ⟨_, _, rfl, s _ _ a, d⟩
  · cases e
def oDSub : Dat → Dat → Option Dat
  | .dct ks ds, .str z => lookD ks ds z
  | _, _ => none
def oDIn (neg : Bool) : Dat → Dat → Option Dat
  | .str z, .dct ks ds => some (.bl (if neg then !(lookD ks ds z).isSome else (lookD ks ds z).isSome))
  | _, _ => none
def rDSub : R2 := fun x y H Q => ∃ a v, x = .ref a ∧ DGet H a y (some v) ∧ Q v H
def rDIn (neg : Bool) : R2 := fun y x H Q => ∃ a o, x = .ref a ∧ DGet H a y o ∧ Q (.bl (if neg then !o.isSome else o.isSome)) H
theorem sim_dsub {K : PySem.W.Frag} : Sim2 K rDSub oDSub := by
  intro x y H Hf dx dy z Q s hx hy e q _
  unfold oDSub at e
  split at e
  · obtain ⟨a, xs, rfl, ha, hd⟩ := hx.dct s
    obtain ⟨v, h1, h2⟩ := lookD_some hd e
    rw [hy.str]
    refine ⟨a, v, rfl, ?_, q v h2⟩
    rw [← h1]
    exact DGet.k (k := Sum.inr _) ha
  · cases e
theorem sim_din {K : PySem.W.Frag} (neg : Bool) : Sim2 K (rDIn neg) (oDIn neg) := by
  intro x y H Hf dx dy z Q s hx hy e q _
  unfold oDIn at e
  split at e
  · rename_i z' ks ds
    obtain ⟨a, xs, rfl, ha, hd⟩ := hy.dct s
    rw [hx.str]
    cases e
    refine ⟨a, _, rfl, DGet.k (k := Sum.inr z') ha, ?_⟩
    cases el : lookD ks ds z' with
    | none =>
      rw [lookD_none hd el]
      have := q (.bl _) (.bl _)
      rw [el] at this
      exact this
    | some d =>
      obtain ⟨v, h1, _⟩ := lookD_some hd el
      rw [h1]
      have := q (.bl _) (.bl _)
      rw [el] at this
      exact this
  · cases e
section
variable {X : Cx} {M : Me}
theorem ev_dsub {o i : Expr} {pos : Pos} {fa fb : FE} (hK : M.K = X.K) (hu : X.A.units + 1 < cLine) (hs : NoSl i) (ha : PE X o (rdO M fa)) (hb : PE X i (rdO M fb)) : PE X (.Subscript o i pos) (rdE M (fOp oDSub fa fb)) := pe_weak (pe_dget hu ha hb hs) fun σ H Q h => rd_op hK sim_dsub h
theorem ev_din {o i : Expr} {pos : Pos} {fa fb : FE} (hK : M.K = X.K) (hu : X.A.units + 1 < cLine) (ha : PE X i (rdO M fa)) (hb : PE X o (rdO M fb)) (hm : behindInMarks .In o = false) : PE X (.Compare i [.In] [o] pos) (rdE M (fOp (oDIn false) fa fb)) := pe_weak (pe_cmp (pc_din hu ha hb) hm) fun σ H Q h => rd_op hK (sim_din false) h
theorem ev_dnotin {o i : Expr} {pos : Pos} {fa fb : FE} (hK : M.K = X.K) (hu : X.A.units + 1 < cLine) (ha : PE X i (rdO M fa)) (hb : PE X o (rdO M fb)) (hm : behindInMarks .NotIn o = false) : PE X (.Compare i [.NotIn] [o] pos) (rdE M (fOp (oDIn true) fa fb)) := pe_weak (pe_cmp (pc_dnotin hu ha hb) hm) fun σ H Q h => rd_op hK (sim_din true) h
theorem tv_din {o i : Expr} {pos : Pos} {fa fb : FE} (hK : M.K = X.K) (hu : X.A.units + 1 < cLine) (ha : PE X i (rdO M fa)) (hb : PE X o (rdO M fb)) (hm : behindInMarks .In o = false) : PT X (.Compare i [.In] [o] pos) (rdT M (fOp (oDIn false) fa fb)) := pt_weak (pt_cmp (pc_din hu ha hb) hm) fun σ H Q h => rd_op hK (sim_din false) (rdT_of h)
theorem tv_dnotin {o i : Expr} {pos : Pos} {fa fb : FE} (hK : M.K = X.K) (hu : X.A.units + 1 < cLine) (ha : PE X i (rdO M fa)) (hb : PE X o (rdO M fb)) (hm : behindInMarks .NotIn o = false) : PT X (.Compare i [.NotIn] [o] pos) (rdT M (fOp (oDIn true) fa fb)) := pt_weak (pt_cmp (pc_dnotin hu ha hb) hm) fun σ H Q h => rd_op hK (sim_din true) (rdT_of h)
/-- a dict that is written -/
def dctOf (kvs : List (Str × Dat)) : Dat := .dct (kvs.map (·.1)) (kvs.map (·.2))
theorem kvD_zip : ∀ kvs : List (Str × Dat), kvD kvs = zipK (kvs.map (·.1)) (kvs.map fun p => datV p.2)
  | [] => rfl
  | (k, d) :: r => by
    have := kvD_zip r
    unfold kvD at this ⊢
    simp only [List.map_cons, zipK, List.zipWith_cons_cons, this]
theorem dvs_scal {K : PySem.W.Frag} {H : Hp} : ∀ {kvs : List (Str × Dat)}, kvs.all (fun p => scal1 p.2) = true → DVs K H (kvs.map fun p => datV p.2) (kvs.map (·.2))
  | [], _ => .nil
  | (k, d) :: r, h => by
    rw [List.all_cons, Bool.and_eq_true] at h
    exact .cons (scal1_dv h.1) (dvs_scal h.2)
theorem ev_dct {e : Expr} {kvs : List (Str × Dat)} {trs : List (TE × TE)} (h1 : PE X e (tDisp trs)) (hq : ∀ σ H Q, Q ((kvD kvs).map fun kv => (kV kv.1, kv.2)) H → tPairs trs σ H Q) (hm : mergeK [] (kvD kvs) = kvD kvs) (hl : (kvD kvs).length ≤ 15) (hc : kvs.all (fun p => scal1 p.2) = true) (hn : (kvs.map (·.1)).Nodup) : PE X e (rdE M (fC (dctOf kvs))) := pe_weak h1 fun σ H Q ⟨ρ, S, Hf, R, q⟩ => by
  intro p hp0
  refine hq _ _ _ ⟨upd_same, kvD kvs, rfl, hl, ?_⟩
  rw [hm, upd_upd]
  have hf := none_of_same R.sub hp0
  have lk : kvs.length ≤ 15 := by unfold kvD at hl; rw [List.length_map] at hl; exact hl
  refine q (.ref p) _ _ ((Stp.refl R).new hp0 (o := .dK (kvD kvs)) (by intro _ z; cases z)) (.dct (xs := kvs.map fun p => datV p.2) (by rw [upd_same, kvD_zip]) (by simp) (by rw [List.length_map]; omega) hn (dvs_scal hc))
/-! ### .. and changed once, at once -/
def fDct2 (i : Nat) (kvs : List (Str × Dat)) (f : FS) : FS := fun ρ S => if i < ρ.length then f (ρ.set i (some (.v (dctOf kvs)))) S else .bad
theorem sv_dct2 {i : Nat} {st1 st2 : Stmt} {rest : List Stmt} {k : Str} {d : Dat} {kvs kvs2 : List (Str × Dat)} {trs : List (TE × TE)} {f : FS} (h1 : PS X st1 (tAsg (tDisp trs) (gName i))) (hq : ∀ σ H Q, Q ((kvD kvs).map fun kv => (kV kv.1, kv.2)) H → tPairs trs σ H Q) (hm : mergeK [] (kvD kvs) = kvD kvs) (hl : (kvD kvs).length ≤ 15)
    (h2 : PS X st2 (sDPut (tVar i) (tC (.str k)) (tC (datV d)))) (hp : putK (kvD kvs) (Sum.inr k) (datV d) = kvD kvs2) (hc : kvs2.all (fun p => scal1 p.2) = true) (hn : (kvs2.map (·.1)).Nodup) (hl2 : kvs2.length ≤ 1000) (h3 : PSs X rest (rdS M f)) : PSs X (st1 :: st2 :: rest) (rdS M (fDct2 i kvs2 f)) := by
  refine pss_weak (pss_cons h1 (pss_cons h2 h3)) fun D σ H ⟨ρ, S, Hf, R, q⟩ => ?_
  unfold fDct2 at q
  by_cases hi : i < ρ.length
  case neg =>
    rw [if_neg hi] at q
    exact q.elim
  case pos =>
  rw [if_pos hi] at q
  have hi' : i < σ.length := by rw [R.len]; exact hi
  intro p hp0
  refine hq _ _ _ ⟨upd_same, kvD kvs, rfl, hl, ?_⟩
  rw [hm, upd_upd]
  have hf := none_of_same R.sub hp0
  refine ⟨.ref p, by rw [List.getElem?_set, if_pos rfl, if_pos hi'], p, _, rfl, DPut.k (k := Sum.inr k) upd_same (Nat.lt_of_le_of_lt hl (by decide)), ?_⟩
  rw [hp, upd_upd]
  have R1 := R.new (o := .dK (kvD kvs2)) hp0 (by intro _ z; cases z)
  refine ⟨_, S, _, R1.set (d := dctOf kvs2) (v := .ref p) (.dct (xs := kvs2.map fun p => datV p.2) (by rw [upd_same, kvD_zip]) (by simp) (by rw [List.length_map]; exact hl2) hn (dvs_scal hc)), q.mono (upd_new hf)⟩
/-! ### a list that other defs change -/
def fMkL (i : Nat) (fa : FA) (f : FS) : FS := fun ρ S => match fa ρ S with
  | .ok ds S1 => if ds.length ≤ 100000 then forgetR S1 (f (ρ.set i (some .me)) (ds.map fun d => ("", d))) else .bad
  | .er n v => .er n v
  | .bad => .bad
theorem sv_mkl {st : Stmt} {rest : List Stmt} {i : Nat} {fa : FA} {f : FS} (hs : M.self = none)
    (h1 : PS X st (tAsg (tLst (rdA M fa)) (gName i))) (h2 : ∀ x o, PSs X rest (rdS (M.withO x .lst o) f)) : PSs X (st :: rest) (rdS M (fMkL i fa f)) := by
  have h2' : PSs X rest (fun D σ H => ∃ x o, rdS (M.withO x .lst o) f D σ H) := ⟨fun pins s σ H D I ⟨x, o, q⟩ => (h2 x o).run pins s σ H D I q⟩
  refine pss_weak (pss_cons h1 h2') fun D σ H ⟨ρ, S, Hf, R, q⟩ => ?_
  refine ⟨ρ, S, Hf, R, ?_⟩
  unfold fMkL at q
  cases e1 : fa ρ S with
  | er n v => rw [e1] at q; exact q
  | bad => rw [e1] at q; exact q
  | ok ds S1 =>
    rw [e1] at q
    intro vs H1 Hf1 T1 hv
    by_cases hl : ds.length ≤ 100000
    case neg =>
      simp only [if_neg hl] at q
      exact q.elim
    case pos =>
    simp only [if_pos hl] at q
    have R1 := T1.rel
    refine ⟨by rw [hv.length]; exact line5 hl, fun x hx => ?_⟩
    have hxf := none_of_same R1.sub hx
    have R2 := Rel.takeMe (o := .lst vs) (k := .lst) (S' := ds.map fun d => ("", d)) rfl R1 hs hx (fun b u e => upd_new (o := .lst vs) hx _ _ e) (Same.refl _) (fun b u e => upd_new hx _ _ (R1.sub b u e)) (fun b e => .inl e) hxf (fun b ps e => e) ⟨vs, upd_same, by rw [hv.length]; exact hl, by
      rw [List.map_map]
      have : ((fun p : Str × Dat => p.2) ∘ fun d => (("" : Str), d)) = id := rfl
      rw [this, List.map_id]
      exact hv⟩
    exact ⟨x, .lst vs, ρ.set i (some .me), _, Hf1, R2.setMe rfl, (q.mono T1.same).forgetMe rfl hs (R1.H0none hx)⟩
end
/-! ### *, of numbers, texts, lists; int of a truth value -/
def oMulA : Dat → Dat → Option Dat
  | .int i, .int j => oMul (.int i) (.int j)
  | .str a, .int j => oMulS (.str a) (.int j)
  | .lst ds, .int j => if 0 ≤ j ∧ ds.length * j.toNat ≤ 100000 ∧ j ≤ 100000 then some (.lst (List.replicate j.toNat ds).flatten) else none
  | _, _ => none
def oIntA : List Dat → Option Dat
  | [.bl b] => some (.int (if b then 1 else 0))
  | ds => oInt ds
theorem sim_intA {K : PySem.W.Frag} : SimN K (fun xs H Q => (∃ a n, xs = [.str a] ∧ PySem.intText? a = some n ∧ a.length ≤ 640 ∧ Q (.int n) H) ∨ ((∃ i, xs = [.int i] ∧ Q (.int i) H) ∨ ∃ k, xs = [.bl k] ∧ Q (.int (if k then 1 else 0)) H)) oIntA := by
  intro xs H Hf ds z Q s hx e q qn
  unfold oIntA at e
  split at e
  · cases e
    cases hx with
    | cons h t =>
      cases t
      rw [h.bl]
      exact .inr (.inr ⟨_, rfl, q _ (.int _)⟩)
  · exact .inl (sim_int xs H Hf ds z Q s hx e q qn)
theorem dvs_rep {K : PySem.W.Frag} {H : Hp} {xs : List V} {ds : List Dat} (h : DVs K H xs ds) : ∀ n : Nat, DVs K H (List.replicate n xs).flatten (List.replicate n ds).flatten
  | 0 => .nil
  | n + 1 => by
    rw [List.replicate_succ, List.replicate_succ, List.flatten_cons, List.flatten_cons]
    exact h.app (dvs_rep h n)
theorem sim_mulA {K : PySem.W.Frag} : Sim2 K (fun x y H Q => rI CMulW (fun i j => .int (i * j)) x y H Q ∨ ((∃ (a : Str) (n : Int), x = .str a ∧ y = .int n ∧ MulOk a n ∧ Q (.str (Txt.mul a n)) H) ∨ rRep x y H Q)) oMulA := by
  intro x y H Hf dx dy z Q s hx hy e q qn
  unfold oMulA at e
  split at e
  · exact .inl (sim_mul x y H Hf _ _ z Q s hx hy e q qn)
  · exact .inr (.inl (sim_mulS x y H Hf _ _ z Q s hx hy e q qn))
  · rename_i ds j
    split at e
    · rename_i hc
      obtain ⟨j0, hl, j1⟩ := hc
      cases e
      obtain ⟨a, xs, rfl, ha, la, va⟩ := hx.lst s
      rw [hy.int]
      have lx := va.length
      have hll : xs.length * j.toNat ≤ 100000 := by rw [lx]; exact hl
      refine .inr (.inr ⟨a, j, xs, rfl, rfl, ha, by omega, by omega, line5 hll, fun p hp => ?_⟩)
      have hv := dvs_rep va j.toNat
      exact qn p _ _ hp (by intro _ z; cases z) (.lst upd_same (by rw [List.length_flatten, List.map_replicate, List.sum_replicate_nat]; rw [Nat.mul_comm]; exact hll) (hv.same (upd_new (none_of_same s hp))))
    · cases e
  · cases e
section
variable {X : Cx}
theorem op_mulA : OpR X (binaryOp .Mult) (fun x y H Q => rI CMulW (fun i j => .int (i * j)) x y H Q ∨ ((∃ (a : Str) (n : Int), x = .str a ∧ y = .int n ∧ MulOk a n ∧ Q (.str (Txt.mul a n)) H) ∨ rRep x y H Q)) := op_mulW.or (op_mul_str.or op_rep)
/-- name, other = [], constant -/
def fParO (i j : Nat) (d : Dat) : FS := fun ρ S => .nx ((ρ.set i (some (.own []))).set j (some (.v d))) S
theorem sv_parO {M : Me} {st : Stmt} {i j : Nat} {v : V} {d : Dat} (hd : ∀ H, DV M.K H v d) (h : PS X st (tPar i j (tCons (tLst tNil) (tCons (tC v) tNil)))) : PS X st (rdS M (fParO i j d)) := ps_weak h fun D σ H ⟨ρ, S, Hf, R, q⟩ =>
  ⟨Nat.zero_le _, fun p hp => ⟨_, _, rfl, q _ _ Hf ((R.newOwn (ds := []) (vs := []) hp (Nat.zero_le _) .nil).set (hd _)) (Same.refl _)⟩⟩
/-- name, other = [], [] -/
def fParOO (i j : Nat) : FS := fun ρ S => .nx ((ρ.set i (some (.own []))).set j (some (.own []))) S
theorem sv_parOO {M : Me} {st : Stmt} {i j : Nat} (h : PS X st (tPar i j (tCons (tLst tNil) (tCons (tLst tNil) tNil)))) : PS X st (rdS M (fParOO i j)) := ps_weak h fun D σ H ⟨ρ, S, Hf, R, q⟩ =>
  ⟨Nat.zero_le _, fun p hp => ⟨Nat.zero_le _, fun p2 hp2 => ⟨_, _, rfl, q _ _ Hf ((R.newOwn (i := i) (ds := []) (vs := []) hp (Nat.zero_le _) .nil).newOwn (i := j) (ds := []) (vs := []) hp2 (Nat.zero_le _) .nil) (Same.refl _)⟩⟩⟩
end
def oNotN : Dat → Dat → Option Dat
  | .non, .non => some (.bl false)
  | _, .non => some (.bl true)
  | _, _ => none
theorem sim_notN {K : PySem.W.Frag} : Sim2 K (fun x y H Q => y = .non ∧ Q (.bl (!decide (x = .non))) H) oNotN := by
  intro x y H Hf dx dy z Q s hx hy e q _
  unfold oNotN at e
  split at e
  · cases e
    rw [hx.non, hy.non]
    exact ⟨rfl, q _ (.bl _)⟩
  · rename_i d n
    cases e
    refine ⟨hy.non, ?_⟩
    have : decide (x = .non) = false := decide_eq_false fun z => by
      subst z
      rcases hx with h | ⟨_, _, _, e, _⟩
      · cases h
        exact n rfl
      · cases e
    rw [this]
    exact q _ (.bl _)
  · cases e
/-! ### an own list is a datum from now on -/
theorem Rel.freezeV {M : Me} {σ : L2.St} {H : Hp} {ρ : DEnv} {S : Fld} {Hf : Hp} (R : Rel M σ H ρ S Hf) {i : Nat} {ds : List Dat} (hi : ρ[i]? = some (some (.own ds))) : ∃ Hf', Rel M σ H (ρ.set i (some (.v (.lst ds)))) S Hf' ∧ Same Hf Hf' := by
  obtain ⟨p, Hf', h1, R1, s, hv⟩ := R.freeze hi
  have R2 := R1.set (i := i) hv
  have e : σ.set i (some (.ref p)) = σ := by
    refine List.ext_getElem? fun j => ?_
    rw [List.getElem?_set]
    by_cases h : i = j
    · subst h
      rw [if_pos rfl, h1]
      split
      · rfl
      · rename_i n
        rw [List.getElem?_eq_none (by omega)] at h1
        cases h1
    · rw [if_neg h]
  rw [e, List.set_set] at R2
  exact ⟨Hf', R2, s⟩
def fFz (i : Nat) (f : FS) : FS := fun ρ S => match ρ[i]? with
  | some (some (.own ds)) => f (ρ.set i (some (.v (.lst ds)))) S
  | _ => .bad
theorem rd_fz {M : Me} {i : Nat} {f : FS} {D : Ends} {σ : L2.St} {H : Hp} (h : rdS M (fFz i f) D σ H) : rdS M f D σ H := by
  obtain ⟨ρ, S, Hf, R, q⟩ := h
  unfold fFz at q
  split at q
  · rename_i ds e
    obtain ⟨Hf', R', s⟩ := R.freezeV e
    exact ⟨_, S, Hf', R', q.mono s⟩
  · exact q.elim
theorem sv_fz {X : Cx} {M : Me} {st : Stmt} {i : Nat} {f : FS} (h : PS X st (rdS M f)) : PS X st (rdS M (fFz i f)) := ps_weak h fun D σ H q => rd_fz q
end PD

set_option Elab.async false
set_option linter.all false
set_option maxRecDepth 100000
set_option maxHeartbeats 2000000
/-! texts sorted, as data; extend -/
namespace PD
open PySem PySem.Spec PyProof.Rows L2 RB RBS
theorem strsOf_map (zs : List Str) : strsOf (zs.map Dat.str) = some zs := by
  induction zs with
  | nil => rfl
  | cons x r ih => show (strsOf (r.map Dat.str)).map (x :: ·) = _; rw [ih]; rfl
theorem strs_dv {K : PySem.W.Frag} {H : Hp} (zs : List Str) : DVs K H (zs.map V.str) (zs.map Dat.str) := by
  induction zs with
  | nil => exact .nil
  | cons x r ih => exact .cons (.str x) ih
theorem setT_no {P : Program} {w : World} {p : Addr} {ks : List Str} {ps : Array Value} (z : SetT P w p ks = .tbl ps) : False := by
  unfold SetT at z
  cases z
/-- sorted(set(x)) -/
def oSS : Dat → Option Dat
  | .lst ds => match strsOf ds with
    | some xs => if xs.length < 64 then some (.lst ((sortT (dd xs)).map Dat.str)) else none
    | none => none
  | _ => none
/-- sorted(x), texts -/
def oSortS : List Dat → Option Dat
  | [.lst ds] => match strsOf ds with
    | some xs => if xs.length < 64 then some (.lst ((sortT xs).map Dat.str)) else none
    | none => none
  | _ => none
theorem sim_sortS {K : PySem.W.Frag} : SimN K (rSortedS K) oSortS := by
  intro xs H Hf ds z Q s hx e q qn
  unfold oSortS at e
  split at e
  · rename_i es
    split at e
    · rename_i zs e1
      split at e
      · rename_i hz
        cases e
        cases hx with
        | cons h t =>
          cases t
          obtain ⟨a, ys, rfl, ha, la, va⟩ := h.lst s
          have ey := strs_of va e1
          subst ey
          refine ⟨a, zs, rfl, .inl (.inl ha), hz, fun ys p h1 h2 hp => ?_⟩
          have e2 := sortT_of h2 h1
          subst e2
          exact qn p _ _ hp (fun _ z => nomatch z) (.lst upd_same (by rw [List.length_map, sortT_len]; omega) (strs_dv _))
      · cases e
    · cases e
  · cases e
section
variable {X : Cx} {M : Me}
theorem ev_sortSet {e : Expr} {fa : FE} (hK : M.K = X.K) (h : PE X e (tCB (rSortT X) (tCons (tCB (rSetT X) (tCons (rdO M fa) tNil)) tNil))) : PE X e (rdE M (fUn oSS fa)) := pe_weak h fun σ H Q ⟨ρ, S, Hf, R, q⟩ => by
  refine ⟨ρ, S, Hf, R, ?_⟩
  unfold fUn RE.bind at q
  cases e1 : fa ρ S with
  | er n v => simp only [e1] at q; exact q
  | bad => simp only [e1] at q
  | ok d S1 =>
    simp only [e1] at q
    intro v H1 Hf1 T1 hv
    have g := hv.gv T1.rel
    unfold ofO oSS at q
    cases d with
    | lst ds =>
      simp only at q
      obtain ⟨a, xs, rfl, ha, la, va⟩ := g.lst T1.rel.sub
      cases es : strsOf ds with
      | none => simp only [es] at q
      | some zs =>
        simp only [es] at q
        by_cases hz : zs.length < 64
        · simp only [if_pos hz] at q
          have ex := strs_of va es
          subst ex
          have dl := dd_len zs
          refine ⟨a, zs, rfl, .inl (.inl ha), hz, fun p hp => ?_⟩
          refine ⟨p, dd zs, rfl, upd_same, by omega, fun r hr => ?_⟩
          exact q _ _ _ ((T1.new hp (fun _ z => setT_no z)).new hr (fun _ z => nomatch z)) (.lst upd_same (by rw [List.length_map, sortT_len]; omega) (strs_dv _))
        · simp only [if_neg hz] at q
    | _ => exact q.elim
/-- name.extend(x), a list of its own -/
def fExt (i : Nat) (a : FE) : FS := fun ρ S => match ρ[i]? with
  | some (some (.own ds)) => (a ρ S).bindS fun d S' => match d with
    | .lst es => if ds.length + es.length ≤ 100000 then .nx (ρ.set i (some (.own (ds ++ es)))) S' else .bad
    | _ => .bad
  | _ => .bad
theorem sv_ext {st : Stmt} {i : Nat} {f : FE} (h : PS X st (tDrop (tBM X.K "list" rExtend (tVar i) (tCons (rdE M f) tNil)))) : PS X st (rdS M (fExt i f)) := ps_weak h fun D σ H ⟨ρ, S, Hf, R, q⟩ => by
  unfold fExt at q
  split at q
  · rename_i ds e2
    obtain ⟨w, h1, p, vs, rfl, hp, hf, hl, hv⟩ := R.slot i _ e2
    refine ⟨_, h1, .inl ⟨rfl, vs, .inl (.inl hp)⟩, ρ, S, Hf, R, ?_⟩
    unfold RE.bindS at q
    cases e : f ρ S with
    | ok d S' =>
      simp only [e] at q
      intro v H' Hf' T hd
      have R' := T.rel
      obtain ⟨w, h1', p', vs', rfl, hp', hf', hl', hv'⟩ := R'.slot i _ e2
      rw [h1] at h1'
      cases h1'
      cases hd with
      | lst ha la va =>
        rename_i a xs es
        simp only at q
        by_cases hn : ds.length + es.length ≤ 100000
        · rw [if_pos hn] at q
          have ln : vs'.length + xs.length ≤ 100000 := by rw [hv'.length, va.length]; exact hn
          exact ⟨p, a, vs', xs, rfl, rfl, hp', R'.sub _ _ ha, line5 ln, q _ _ Hf' (R'.chg e2 h1 (by rw [List.length_append]; exact ln) (hv'.app va)) T.same⟩
        · rw [if_neg hn] at q
          exact q.elim
      | _ => exact q.elim
    | er n v => simp only [e] at q; exact q
    | bad => simp only [e] at q; exact q.elim
  · exact q.elim
end
end PD

set_option Elab.async false
set_option linter.all false
set_option maxRecDepth 100000
set_option maxHeartbeats 2000000
/-! a def that gives a new list; a test that reads an own list -/
namespace PD
open PySem PySem.Spec PyProof.Rows L2 RB RBS
/-- a def of n arguments that computes F, a list: it is new -/
def spL (K : PySem.W.Frag) (ec : Str → Addr) (n : Nat) (F : List Dat → RF) : Sp := fun vs H Q E => ∃ (ds : List Dat) (Hs : Hp), ds.length = n ∧ Same Hs H ∧ DVs K Hs vs ds ∧ match F ds with
  | .ok (.lst es) => ∀ p xs H' Hs', Same H H' → Same Hs Hs' → Same Hs' H' → (∀ b, Hs' b ≠ none → Hs b ≠ none ∨ H b = none) → (∀ b ps, Hs' b = some (.tbl ps) → Hs b = some (.tbl ps)) → H' p = none → xs.length ≤ 100000 → DVs K Hs' xs es → Q (.ref p) (upd H' p (.lst xs))
  | .er m v => ∀ dd H', Same H H' → H dd = none → H' dd = some (.xd (errF m v)) → E (.ref (ec m)) (some dd) H'
  | _ => False
def PostL (M : Me) (D : Ends) : RS → Prop
  | .rt (.lst es) S => ∀ p xs σ H' ρ Hf', Rel M σ H' ρ S Hf' → H' p = none → xs.length ≤ 100000 → DVs M.K Hf' xs es → D.rt (.ref p) (upd H' p (.lst xs))
  | .er n v => M.Er n v
  | _ => False
def rdL (M : Me) (f : FS) : TS := fun D σ H => ∃ ρ S Hf, Rel M σ H ρ S Hf ∧ PostL M D (f ρ S)
/-- return sorted(set(e)) -/
def fRetSS (a : FE) : FS := fRet (fUn oSS a)
section
variable {X : Cx} {M : Me}
theorem sl_one {st : Stmt} {f : FS} (h : PS X st (rdL M f)) : PSs X [st] (rdL M f) := pss_one h
theorem sl_retSS {e : Expr} {pos : Pos} {fa : FE} (hK : M.K = X.K) (h : PE X e (tCB (rSortT X) (tCons (tCB (rSetT X) (tCons (rdO M fa) tNil)) tNil))) : PS X (.Return (some e) pos) (rdL M (fRetSS fa)) := ps_weak (ps_ret h) fun D σ H ⟨ρ, S, Hf, R, q⟩ => by
  refine ⟨ρ, S, Hf, R, ?_⟩
  unfold fRetSS fRet RE.bindS fUn RE.bind at q
  cases e1 : fa ρ S with
  | er n v => simp only [e1] at q; exact q
  | bad => simp only [e1] at q; exact q.elim
  | ok d S1 =>
    simp only [e1] at q
    intro v H1 Hf1 T1 hv
    have g := hv.gv T1.rel
    unfold ofO oSS at q
    cases d with
    | lst ds =>
      simp only at q
      obtain ⟨a, xs, rfl, ha, la, va⟩ := g.lst T1.rel.sub
      cases es : strsOf ds with
      | none => simp only [es] at q; exact q.elim
      | some zs =>
        simp only [es] at q
        by_cases hz : zs.length < 64
        · simp only [if_pos hz] at q
          have ex := strs_of va es
          subst ex
          have dl := dd_len zs
          refine ⟨a, zs, rfl, .inl (.inl ha), hz, fun p hp => ?_⟩
          refine ⟨p, dd zs, rfl, upd_same, by omega, fun r hr => ?_⟩
          exact q r _ σ _ ρ _ (T1.new hp (fun _ z => setT_no z)).rel hr (by rw [List.length_map, sortT_len]; omega) (strs_dv _)
        · simp only [if_neg hz] at q
          exact q.elim
    | _ => exact q.elim
end
section
variable {P : Program} {w : World} {K : PySem.W.Frag} {mg : Str → Option Value} {base : Heap}
theorem fnL {x qual : Str} {st : Stmt} {f : Addr} {fd : FuncData} {N ps : List Str} {k n : Nat} {F : FS} {ec : Str → Addr} (Fu : L2.Fun K x qual st f fd) (S : FnScope N ps (defScope st)) (hn : ps.length = n)
    (body : ∀ (cdv : Value) (A : Around) (outer : List PySem.Env) (s : Shared) (H Hs : Hp) (E : XK), Room k (A.deeper (envOfC qual (defScope st) s.heap.objs.size f cdv)) → PSs (cxOf CX0 P w K mg base N qual (defScope st) f cdv A outer s H E).nox (defBody st) (rdL ⟨K, H, Hs, E, ec, none, []⟩ F)) :
    FnOk P w K mg base CX0 (k + 1) f fd ps (spL K ec n (runF N.length F)) := by
  refine Fu.ok S (fun vs H Q E h => ?_) (fun cdv A outer s H vs Q E hr h => ?_)
  · obtain ⟨ds, Hs, h1, _, h2, _⟩ := h
    rw [h2.length, h1, hn]
  · obtain ⟨ds, Hs, h1, h2, h3, q⟩ := h
    refine ⟨_, body cdv A outer s H Hs E hr, startD N.length ds, [], Hs, rel_start h2 h3, ?_⟩
    have nm : ∀ b, ¬ Me.mine ⟨K, H, Hs, E, ec, none, []⟩ b := fun b m => m.elim (fun ⟨k, z⟩ => nomatch z) fun m => m.elim (fun ⟨q, z⟩ => nomatch z) fun ⟨_, _, z, _⟩ => nomatch z
    unfold runF at q
    cases e : F (startD N.length ds) [] with
    | rt d S =>
      rw [e] at q
      cases d with
      | lst es => exact fun p xs σ H' ρ Hf' R hp lx vx => q p xs H' Hf' (fun b o z => R.full b o z (nm b)) R.base R.sub R.fresh R.notb hp lx vx
      | _ => exact q.elim
    | nx ρ S => rw [e] at q; exact q.elim
    | er m v => rw [e] at q; exact fun dd H' full h1 h2 => q dd H' (fun b o z => full b o z (nm b)) h1 h2
    | bk ρ S => rw [e] at q; exact q.elim
    | ct ρ S => rw [e] at q; exact q.elim
    | bad => rw [e] at q; exact q.elim
end
section
variable {X : Cx} {M : Me}
/-- name = f(..), a new list -/
def fSetL (i : Nat) (F : List Dat → RF) (a : FA) : FS := fun ρ S => match a ρ S with
  | .ok ds S1 => match F ds with
    | .ok (.lst es) => .nx (ρ.set i (some (.own es))) S1
    | .er m v => .er m v
    | _ => .bad
  | .er n v => .er n v
  | .bad => .bad
theorem sv_setL {st : Stmt} {i n : Nat} {F : List Dat → RF} {fa : FA} {ec : Str → Addr} {K' : PySem.W.Frag} (hK : M.K = K') (hec : M.ec = ec) (hn : ∀ ρ S ds S', fa ρ S = .ok ds S' → ds.length = n) (h : PS X st (tAsg (tCall (spL K' ec n F) [] M.E (rdA M fa)) (gName i))) : PS X st (rdS M (fSetL i F fa)) := ps_weak h fun D σ H ⟨ρ, S, Hf, R, q⟩ => by
  refine ⟨ρ, S, Hf, R, ?_⟩
  unfold fSetL at q
  cases e1 : fa ρ S with
  | er n v => simp only [e1] at q; exact q
  | bad => simp only [e1] at q; exact q.elim
  | ok ds S1 =>
    simp only [e1] at q
    intro vs H1 Hf1 T1 hv
    refine ⟨ds, Hf1, hn _ _ _ _ e1, T1.rel.sub, by rw [List.append_nil, ← hK]; exact hv, ?_⟩
    cases eF : F ds with
    | ok d =>
      simp only [eF] at q
      cases d with
      | lst es =>
        intro p xs H' Hs' s1 s2 s3 fr nt hp lx vx
        have R1 := T1.rel.called s1 s2 s3 fr nt
        exact q _ _ Hs' (R1.newOwn (i := i) hp lx (by rw [hK]; exact vx)) (T1.same.trans s2)
      | _ => exact q.elim
    | er m v =>
      simp only [eF] at q
      intro dd H' s1 h1 h2
      rw [← hec]
      exact q dd H' (fun b o e m => s1 _ _ (T1.rel.full b o e m)) (T1.rel.H0none h1) h2
    | bad => simp only [eF] at q; exact q.elim
/-- f(..), a new list, as a datum -/
theorem ev_callL {e : Expr} {n : Nat} {F : List Dat → RF} {fa : FA} {ec : Str → Addr} {K' : PySem.W.Frag} (hK : M.K = K') (hec : M.ec = ec) (hn : ∀ ρ S ds S', fa ρ S = .ok ds S' → ds.length = n) (hL : ∀ ds d, F ds = .ok d → ∃ es, d = .lst es) (h : PE X e (tCall (spL K' ec n F) [] M.E (rdA M fa))) : PE X e (rdE M (fCall F fa)) := pe_weak h fun σ H Q ⟨ρ, S, Hf, R, q⟩ => by
  refine ⟨ρ, S, Hf, R, ?_⟩
  unfold fCall RA.bind at q
  cases e1 : fa ρ S with
  | er n v => simp only [e1] at q; exact q
  | bad => simp only [e1] at q
  | ok ds S1 =>
    simp only [e1] at q
    intro vs H1 Hf1 T1 hv
    refine ⟨ds, Hf1, hn _ _ _ _ e1, T1.rel.sub, by rw [List.append_nil, ← hK]; exact hv, ?_⟩
    unfold RF.re at q
    cases eF : F ds with
    | ok d =>
      simp only [eF] at q
      obtain ⟨es, rfl⟩ := hL _ _ eF
      intro p xs H' Hs' s1 s2 s3 fr nt hp lx vx
      have R1 := T1.rel.called s1 s2 s3 fr nt
      have T2 : Stp M σ ρ Hf H S1 Hs' H' := T1.trans ⟨R1, s2, fun b o e _ _ => s1 _ _ e, fshN fr⟩
      exact q _ _ _ (T2.new hp (o := .lst xs) (fun _ z => nomatch z)) (.lst upd_same lx (DVs.same (upd_new (none_of_same s3 hp)) (by rw [hK]; exact vx)))
    | er m v =>
      simp only [eF] at q
      intro dd H' s1 h1 h2
      rw [← hec]
      exact q dd H' (fun b o e m => s1 _ _ (T1.rel.full b o e m)) (T1.rel.H0none h1) h2
    | bad => simp only [eF] at q
/-- sorted(set(..)) is a list -/
theorem runF_SS {N : Nat} {fa : FE} : ∀ ds d, runF N (fRetSS fa) ds = .ok d → ∃ es, d = .lst es := fun ds d e => by
  unfold runF fRetSS fRet RE.bindS fUn RE.bind at e
  cases e1 : fa (startD N ds) [] with
  | er n v => simp only [e1] at e; cases e
  | bad => simp only [e1] at e; cases e
  | ok x S1 =>
    simp only [e1] at e
    unfold ofO oSS at e
    cases x with
    | lst ds =>
      simp only at e
      cases es : strsOf ds with
      | none => simp only [es] at e; cases e
      | some zs =>
        simp only [es] at e
        by_cases hz : zs.length < 64
        · simp only [if_pos hz] at e
          cases e
          exact ⟨_, rfl⟩
        · simp only [if_neg hz] at e
          cases e
    | _ => cases e
/-- the data alone -/
def onlyD (ρ : DEnv) : DEnv := ρ.map fun s => match s with
  | some (.v d) => some (.v d)
  | _ => none
/-- a test that reads an own list as a datum, and changes nothing -/
def fTmp (i : Nat) (f : FE) : FE := fun ρ S => match ρ[i]? with
  | some (some (.own ds)) => match f (onlyD (ρ.set i (some (.v (.lst ds))))) [] with
    | .ok (.bl b) _ => .ok (.bl b) S
    | _ => .bad
  | _ => .bad
theorem onlyD_at {ρ : DEnv} {j : Nat} {s : Slot} (h : (onlyD ρ)[j]? = some (some s)) : ∃ d, s = .v d ∧ ρ[j]? = some (some (.v d)) := by
  unfold onlyD at h
  rw [List.getElem?_map] at h
  cases e : ρ[j]? with
  | none => rw [e] at h; cases h
  | some o =>
    rw [e] at h
    cases o with
    | none => cases h
    | some t =>
      cases t with
      | v d => cases h; exact ⟨d, rfl, rfl⟩
      | own ds => cases h
      | me => cases h
      | me2 => cases h
theorem ev_tmp {e : Expr} {i : Nat} {f : FE} (h : ∀ H0 Hs, PE X e (rdE ⟨M.K, H0, Hs, M.E, M.ec, none, M.T⟩ f)) : PE X e (rdE M (fTmp i f)) := ⟨fun pins s σ H Q I ⟨ρ, S, Hf, R, q⟩ => by
  unfold fTmp at q
  have e1 : ∃ ds, ρ[i]? = some (some (.own ds)) := by
    cases e1 : ρ[i]? with
    | none => simp only [e1] at q
    | some o =>
      cases o with
      | none => simp only [e1] at q
      | some t =>
        cases t with
        | own ds => exact ⟨ds, rfl⟩
        | v d => simp only [e1] at q
        | me => simp only [e1] at q
        | me2 => simp only [e1] at q
  · obtain ⟨ds, e1⟩ := e1
    simp only [e1] at q
    obtain ⟨Hf', R', sm⟩ := R.freezeV e1
    cases e2 : f (onlyD (ρ.set i (some (.v (.lst ds))))) [] with
    | ok d S2 =>
      simp only [e2] at q
      cases d with
      | bl b =>
        simp only at q
        refine (h H Hf').run pins s σ H Q I ⟨onlyD (ρ.set i (some (.v (.lst ds)))), [], Hf', ⟨?_, Same.refl _, R'.sub, fun _ _ z _ => z, fun _ z => .inl z, fun j xs p z _ => ?_, fun j t z => ?_, fun j k xs ys p _ z => ?_, fun _ _ z => (nomatch z), R.tabs, R'.tabf, (fun _ _ z => z), fun _ ⟨_, _, z, _⟩ => nomatch z⟩, ?_⟩
        · rw [R'.len]
          unfold onlyD
          rw [List.length_map]
        · obtain ⟨d, z1, _⟩ := onlyD_at z
          cases z1
        · obtain ⟨d, rfl, z1⟩ := onlyD_at z
          exact R'.slot j _ z1
        · obtain ⟨d, z1, _⟩ := onlyD_at z
          cases z1
        · rw [e2]
          intro v H' Hf2 T hv
          cases hv with
          | bl _ =>
            have kp : ∀ a o, H a = some o → (∀ ps, o ≠ .tbl ps) → H' a = some o := fun a o z nt => T.rel.full a o z fun m => by
              rcases m with ⟨k, m⟩ | ⟨t, m⟩ | ⟨_, _, m, _⟩
              · cases m
              · obtain ⟨ps, z2⟩ := tabs_at R.tabs m
                rw [z] at z2
                cases z2
                exact nt ps rfl
              · cases m
            refine q _ H' Hf ⟨⟨R.len, R.base, fun a o z => ?_, fun a o z m => ?_, R.fresh, R.ownF, fun j t z => ?_, R.inj, fun x k z => ?_, T.rel.tabs, R.tabf, R.notb, R.subs⟩, Same.refl _, fun a o z m nt => ?_, fun _ z => .inl z⟩ (.bl b)
            · refine T.rel.full a o (R.sub _ _ z) fun m => ?_
              rcases m with ⟨k, m⟩ | ⟨t, m⟩ | ⟨_, _, m, _⟩
              · cases m
              · have := R.tabf _ m
                rw [this] at z
                cases z
              · cases m
            · refine T.rel.full a o (R.full a o z m) fun m2 => ?_
              rcases m2 with ⟨k, m2⟩ | ⟨t, m2⟩ | ⟨_, _, m2, _⟩
              · cases m2
              · exact m (.inr (.inl ⟨t, m2⟩))
              · cases m2
            · obtain ⟨v, h1, h2⟩ := R.slot j t z
              refine ⟨v, h1, ?_⟩
              cases t with
              | v d => exact h2
              | me => exact h2
              | me2 => exact h2
              | own xs =>
                obtain ⟨p, vs, rfl, a1, a2, a3, a4⟩ := h2
                exact ⟨p, vs, rfl, kp _ _ a1 (fun _ y => nomatch y), a2, a3, a4⟩
            · obtain ⟨h1, h0, h2⟩ := R.me x k z
              exact ⟨h1, h0, h2.mono (fun b o hb y => kp _ _ y (by
                rcases hb with rfl | hb
                · obtain ⟨u, hu, nu⟩ := h2.nli
                  rw [hu] at y
                  cases y
                  intro ps w
                  exact nu (by rw [w]; exact ⟨fun _ z => (nomatch z), fun _ _ _ z => (nomatch z)⟩)
                · obtain ⟨u, hu, nu⟩ := h2.thereS hb
                  rw [hu] at y
                  cases y
                  exact nu)) (Same.refl _)⟩
            · refine T.rel.full a o z fun m2 => ?_
              rcases m2 with ⟨k, m2⟩ | ⟨t, m2⟩ | ⟨_, _, m2, _⟩
              · cases m2
              · exact m (.inr (.inl ⟨t, m2⟩))
              · cases m2
      | _ => exact q.elim
    | er n v => simp only [e2] at q
    | bad => simp only [e2] at q⟩
end
end PD

set_option Elab.async false
set_option linter.all false
set_option maxRecDepth 100000
set_option maxHeartbeats 2000000
/-! name[e] = v of a list of its own; for a, b in zip(x, y) -/
namespace PD
open PySem PySem.Spec PyProof.Rows L2 RB
section
variable {X : Cx} {M : Me}
/-- name[e] = v, a list of its own -/
def fOwnPut (i : Nat) (fi fa : FE) : FS := fun ρ S => (fa ρ S).bindS fun d S1 => match ρ[i]? with
  | some (some (.own ds)) => (fi ρ S1).bindS fun k S2 => match k with
    | .int k => match ixN ds.length k with
      | some j => .nx (ρ.set i (some (.own (ds.set j d)))) S2
      | none => .bad
    | _ => .bad
  | _ => .bad
theorem sv_ownPut {st : Stmt} {i : Nat} {fi fa : FE} (h : PS X st (tAsg (rdE M fa) (gSub (tVar i) (rdE M fi) rSetL))) : PS X st (rdS M (fOwnPut i fi fa)) := ps_weak h fun D σ H ⟨ρ, S, Hf, R, q⟩ => by
  refine ⟨ρ, S, Hf, R, ?_⟩
  unfold fOwnPut RE.bindS at q
  cases e1 : fa ρ S with
  | er n v => simp only [e1] at q; exact q
  | bad => simp only [e1] at q; exact q.elim
  | ok d S1 =>
    simp only [e1] at q
    intro v H1 Hf1 T1 hv
    split at q
    · rename_i ds e2
      obtain ⟨w, h1, p, vs, rfl, hp, hf, hl, hvs⟩ := T1.rel.slot i _ e2
      refine ⟨_, h1, ρ, S1, Hf1, T1.rel, ?_⟩
      cases e3 : fi ρ S1 with
      | er n v => simp only [e3] at q; exact q
      | bad => simp only [e3] at q; exact q.elim
      | ok k S2 =>
        simp only [e3] at q
        intro iv H2 Hf2 T2 hi
        obtain ⟨w', h1', p', vs', rfl, hp', hf', hl', hvs'⟩ := T2.rel.slot i _ e2
        rw [h1] at h1'
        cases h1'
        cases hi with
        | int k =>
          simp only at q
          cases ej : ixN ds.length k with
          | none => simp only [ej] at q; exact q.elim
          | some j =>
            simp only [ej] at q
            exact ⟨p, vs', k, j, rfl, rfl, hp', by rw [hvs'.length]; exact ej, q _ _ Hf2 (T2.rel.chg e2 h1 (by rw [List.length_set]; exact hl') (DVs.set (hv.same T2.same) j hvs')) (T1.same.trans T2.same)⟩
        | _ => exact q.elim
    · exact q.elim
/-- for .. in zip(x, y) -/
def fForZ (a : FA) (g : FG) (b : FS) : FS := fun ρ S => match a ρ S with
  | .ok ds S1 => match zipOf ds with
    | some es => fForL g b es ρ S1
    | none => .bad
  | .er n v => .er n v
  | .bad => .bad
theorem sv_forZ {tg iter : Expr} {body : List Stmt} {pos : Pos} {f : FA} {fb : FS} {g : TG} {fg : FG} (hK : M.K = X.K) (hg : SimG M g fg) (h : PS X (.For tg iter body [] pos) (tFor (RZ.iZipA X.K (rdA M f)) g (rdS M fb))) : PS X (.For tg iter body [] pos) (rdS M (fForZ f fg fb)) := ps_weak h fun D σ H ⟨ρ, S, Hf, R, q⟩ => by
  refine ⟨ρ, S, Hf, R, ?_⟩
  unfold fForZ at q
  cases e1 : f ρ S with
  | er n v => simp only [e1] at q; exact q
  | bad => simp only [e1] at q; exact q.elim
  | ok ds S1 =>
    simp only [e1] at q
    intro x H1 Hf1 T1 hx
    cases ez : zipOf ds with
    | none => simp only [ez] at q; exact q.elim
    | some es =>
      simp only [ez] at q
      unfold zipOf at ez
      split at ez
      · cases ez
        cases hx with
        | cons h1 t =>
          cases t with
          | cons h2 t =>
            cases t
            cases h1 with
            | lst a la va =>
              cases h2 with
              | lst b lb vb => exact ⟨_, _, _, _, rfl, .inl ⟨.inl (.inl (T1.rel.sub _ _ a)), .inl (.inl (T1.rel.sub _ _ b)), by rw [← hK]; exact post_for (Walks.zipL (.inl (.inl a)) (.inl (.inl b)) va vb) hg T1.rel (q.mono T1.same)⟩⟩
      · cases ez
        cases hx with
        | cons h1 t =>
          cases t with
          | cons h2 t =>
            cases t
            cases h1 with
            | tup a la va =>
              cases h2 with
              | tup b lb vb => exact ⟨_, _, _, _, rfl, .inr ⟨by rw [← hK]; exact Kp.sqT (.of T1.rel.sub) a, by rw [← hK]; exact Kp.sqT (.of T1.rel.sub) b, by rw [← hK]; exact post_for (Walks.zipT a b va vb) hg T1.rel (q.mono T1.same)⟩⟩
      · cases ez
end
end PD

set_option Elab.async false
set_option linter.all false
set_option maxRecDepth 100000
set_option maxHeartbeats 2000000
namespace PD
open PySem PySem.Spec PyProof.Rows L2 RB RBN
/-! ### defs whose last two arguments may change: a list and a list, a list and a dict by nested keys -/
abbrev S2 (ds es : List Dat) : Fld := [(("" : Str), Dat.lst ds), (("" : Str), Dat.lst es)]
def two2 (S : Fld) : Option (List Dat × List Dat) := match S with
  | [(_, .lst ds), (_, .lst es)] => some (ds, es)
  | _ => none
/-- of a datum: what F makes -/
def spM2 (K : PySem.W.Frag) (ec : Str → Addr) (kd : MK → Prop) (F : Fld → List Dat → RE) : Sp := fun vs H Q E => ∃ (x y : Addr) (k : MK) (S : Fld) (w : V) (d : Dat) (Hs : Hp), vs = [w, .ref x, .ref y] ∧ kd k ∧ k.sub = some y ∧ Same Hs H ∧ Hs x = none ∧ Hs y = none ∧ MeIs K x H Hs S k ∧ DV K Hs w d ∧ match F S [d] with
  | .ok r S' => ∀ v H' Hs', (∀ b o, H b = some o → b ≠ x → b ≠ y → H' b = some o) → Same Hs Hs' → Same Hs' H' → (∀ b, Hs' b ≠ none → Hs b ≠ none ∨ H b = none) → (∀ b ps, Hs' b = some (.tbl ps) → Hs b = some (.tbl ps)) → MeIs K x H' Hs' S' k → DV K Hs' v r → Q v H'
  | _ => False
def startM2 (N : Nat) (d : Dat) : DEnv := some (.v d) :: some .me :: some .me2 :: List.replicate (N - 3) none
def runM2 (N : Nat) (f : FS) (S : Fld) (ds : List Dat) : RE := match ds with
  | [d] => (match f (startM2 N d) S with
    | .rt r S' => .ok r S'
    | .nx _ S' => .ok .non S'
    | _ => .bad)
  | _ => .bad
theorem startM2_get {N i : Nat} {d : Dat} {s : Slot} (h : (startM2 N d)[i]? = some (some s)) : (i = 0 ∧ s = .v d) ∨ (i = 1 ∧ s = .me) ∨ (i = 2 ∧ s = .me2) := by
  unfold startM2 at h
  match i, h with
  | 0, h => cases h; exact .inl ⟨rfl, rfl⟩
  | 1, h => cases h; exact .inr (.inl ⟨rfl, rfl⟩)
  | 2, h => cases h; exact .inr (.inr ⟨rfl, rfl⟩)
  | i + 3, h =>
    have h : (List.replicate (N - 3) (none : Option Slot))[i]? = some (some s) := h
    rw [List.getElem?_replicate] at h
    split at h <;> cases h
theorem rel_startM2 {K : PySem.W.Frag} {H Hs : Hp} {E : XK} {ec : Str → Addr} {N : List Str} {x y : Addr} {k : MK} {S : Fld} {w : V} {d : Dat} (ky : k.sub = some y) (s : Same Hs H) (hx : Hs x = none) (hy : Hs y = none) (hm : MeIs K x H Hs S k) (hv : DV K Hs w d) : Rel ⟨K, H, Hs, E, ec, some (x, k), []⟩ (L2.start N [w, .ref x, .ref y]) H (startM2 N.length d) S Hs := by
  refine ⟨?_, Same.refl _, s, fun b o e _ => e, fun b e => .inl e, fun i xs p e1 e2 => ?_, fun i s e => ?_, fun i j xs ys p n e1 e2 e3 => ?_, fun y' k' e => ?_, fun z hz => (nomatch hz), fun z hz => (nomatch hz), (fun _ _ e => e), fun b ⟨x', k', e, m⟩ => ?_⟩
  · unfold L2.start startM2
    simp
  · rcases startM2_get e1 with ⟨_, z⟩ | ⟨_, z⟩ | ⟨_, z⟩ <;> cases z
  · rcases startM2_get e with ⟨rfl, rfl⟩ | ⟨rfl, rfl⟩ | ⟨rfl, rfl⟩
    · exact ⟨w, rfl, hv⟩
    · exact ⟨.ref x, rfl, x, k, rfl, rfl⟩
    · exact ⟨.ref y, rfl, y, ⟨x, k, rfl, ky⟩, rfl⟩
  · rcases startM2_get e1 with ⟨_, z⟩ | ⟨_, z⟩ | ⟨_, z⟩ <;> cases z
  · cases e
    obtain ⟨o, ho⟩ := hm.there
    exact ⟨hx, by show H x ≠ none; rw [ho]; simp, hm⟩
  · cases e
    rw [ky] at m
    cases m
    obtain ⟨o, ho, _⟩ := hm.thereS ky
    exact ⟨hy, by show H y ≠ none; rw [ho]; simp⟩
section
variable {P : Program} {w : World} {K : PySem.W.Frag} {mg : Str → Option Value} {base : Heap}
theorem post_endM2 {H Hs : Hp} {E : XK} {ec : Str → Addr} {N : Nat} {f : FS} {S : Fld} {d : Dat} {Q : VK} {x y : Addr} {k : MK} (ky : k.sub = some y) (q : match runM2 N f S [d] with
  | .ok r S' => ∀ v H' Hs', (∀ b o, H b = some o → b ≠ x → b ≠ y → H' b = some o) → Same Hs Hs' → Same Hs' H' → (∀ b, Hs' b ≠ none → Hs b ≠ none ∨ H b = none) → (∀ b ps, Hs' b = some (.tbl ps) → Hs b = some (.tbl ps)) → MeIs K x H' Hs' S' k → DV K Hs' v r → Q v H'
  | _ => False) : Post ⟨K, H, Hs, E, ec, some (x, k), []⟩ Hs { nx := fun _ H' => Q .non H', rt := Q } (f (startM2 N d) S) := by
  have nm : ∀ b, b ≠ x → b ≠ y → ¬ Me.mine ⟨K, H, Hs, E, ec, some (x, k), []⟩ b := fun b hb hb2 m => by
    rcases m with ⟨k', z⟩ | ⟨q, z⟩ | ⟨_, _, z, m⟩
    · cases z
      exact hb rfl
    · cases z
    · cases z
      rw [ky] at m
      cases m
      exact hb2 rfl
  simp only [runM2] at q
  cases e : f (startM2 N d) S with
  | rt d S' => rw [e] at q; exact fun v σ H' ρ Hf' R hd => q v H' Hf' (fun b o z hb hb2 => R.full b o z (nm b hb hb2)) R.base R.sub R.fresh R.notb (R.me x k rfl).2.2 hd
  | nx ρ S' => rw [e] at q; exact fun σ H' Hf' R s => q .non H' Hf' (fun b o z hb hb2 => R.full b o z (nm b hb hb2)) R.base R.sub R.fresh R.notb (R.me x k rfl).2.2 .non
  | er m v => rw [e] at q; exact q.elim
  | bk ρ S => rw [e] at q; exact q.elim
  | ct ρ S => rw [e] at q; exact q.elim
  | bad => rw [e] at q; exact q.elim
theorem fnM2 {x qual : Str} {st : Stmt} {f : Addr} {fd : FuncData} {N ps : List Str} {k : Nat} {F : FS} {ec : Str → Addr} {kd : MK → Prop} (Fu : L2.Fun K x qual st f fd) (S : FnScope N ps (defScope st)) (hn : ps.length = 3)
    (body : ∀ (cdv : Value) (A : Around) (outer : List PySem.Env) (s : Shared) (H Hs : Hp) (E : XK) (y : Addr) (kk : MK), kd kk → Room k (A.deeper (envOfC qual (defScope st) s.heap.objs.size f cdv)) → PSs (cxOf CX0 P w K mg base N qual (defScope st) f cdv A outer s H E).nox (defBody st) (rdS ⟨K, H, Hs, E, ec, some (y, kk), []⟩ F)) :
    FnOk P w K mg base CX0 (k + 1) f fd ps (spM2 K ec kd (runM2 N.length F)) := by
  refine Fu.ok S (fun vs H Q E h => ?_) (fun cdv A outer s H vs Q E hr h => ?_)
  · obtain ⟨x, y, kk, S0, v, d, Hs, rfl, _⟩ := h
    rw [hn]
    rfl
  · obtain ⟨x, y, kk, S0, v, d, Hs, rfl, hk, ky, h2, h3, h4, h5, h6, q⟩ := h
    exact ⟨_, body cdv A outer s H Hs E x kk hk hr, startM2 N.length d, S0, Hs, rel_startM2 ky h2 h3 h4 h5 h6, post_endM2 ky q⟩
theorem fn_badM2 {CX : CXT} {k : Nat} {f : Addr} {fd : FuncData} {ps : List Str} {ec : Str → Addr} {kd : MK → Prop} (hn : ps.length = 3) : FnOk P w K mg base CX k f fd ps (spM2 K ec kd fun _ _ => .bad) :=
  ⟨fun vs H Q E ⟨x, y, kk, S0, v, d, Hs, e, _⟩ => by
    rw [hn, e]
    rfl, fun _ _ _ _ _ _ _ _ _ _ _ _ _ ⟨_, _, _, _, _, _, _, _, _, _, _, _, _, _, _, z⟩ => z.elim⟩
end
/-- one of the two is changed -/
theorem Rel.chgMe {M : Me} {σ : L2.St} {H : Hp} {ρ : DEnv} {S S' : Fld} {Hf : Hp} {x b : Addr} {k : MK} {o : HO} (R : Rel M σ H ρ S Hf) (hT : M.T = []) (hs : M.self = some (x, k)) (hb : b = x ∨ k.sub = some b) (hm : MeIs M.K x (upd H b o) Hf S' k) : Rel M σ (upd H b o) ρ S' Hf := by
  obtain ⟨h1, h0⟩ := R.own0 hs hb
  refine ⟨R.len, R.base, fun c u e => ?_, fun c u e m => ?_, R.fresh, R.ownF, fun j s e => ?_, R.inj, fun x2 k2 e => ?_, fun z hz => ?_, R.tabf, R.notb, R.subs⟩
  · rw [upd_ne (ne_of_none e h1)]
    exact R.sub _ _ e
  · have : c ≠ b := fun z => by
      subst z
      rcases hb with rfl | hb
      · exact m (.inl ⟨_, hs⟩)
      · exact m (.inr (.inr ⟨x, k, hs, hb⟩))
    rw [upd_ne this]
    exact R.full c u e m
  · obtain ⟨w, g1, g2⟩ := R.slot j s e
    refine ⟨w, g1, ?_⟩
    cases s with
    | v d => exact g2
    | me => exact g2
    | me2 => exact g2
    | own xs =>
      obtain ⟨p, ws, rfl, a, c, d, f⟩ := g2
      have nq : p ≠ b := fun z => h0 (by rw [← z]; exact R.ownF j xs p e g1)
      exact ⟨p, ws, rfl, by rw [upd_ne nq]; exact a, c, d, f⟩
  · rw [hs] at e
    cases e
    obtain ⟨a, c, _⟩ := R.me x k hs
    exact ⟨a, c, hm⟩
  · rw [hT] at hz
    cases hz
/-- behind a call that changes both -/
theorem Rel.calledM2 {M : Me} {σ : L2.St} {H H' : Hp} {ρ : DEnv} {S S' : Fld} {Hf Hs' : Hp} {x y : Addr} {k : MK} (R : Rel M σ H ρ S Hf) (hT : M.T = []) (hs : M.self = some (x, k)) (ky : k.sub = some y) (s1 : ∀ b o, H b = some o → b ≠ x → b ≠ y → H' b = some o) (s2 : Same Hf Hs') (s3 : Same Hs' H') (fr : ∀ b, Hs' b ≠ none → Hf b ≠ none ∨ H b = none) (nt : ∀ b ps, Hs' b = some (.tbl ps) → Hf b = some (.tbl ps)) (hm : MeIs M.K x H' Hs' S' k) : Rel M σ H' ρ S' Hs' := by
  obtain ⟨x1, x2, x3⟩ := R.me x k hs
  have y2 := R.own0 hs (.inr ky)
  have nn : ∀ {p : Addr} {o : HO}, H p = some o → Hf p = none → Hs' p = none := fun {p o} e n => by
    cases z : Hs' p with
    | none => rfl
    | some u =>
      rcases fr p (by rw [z]; simp) with q | q
      · exact (q n).elim
      · rw [e] at q
        cases q
  refine ⟨R.len, R.base.trans s2, s3, fun b o e m => s1 _ _ (R.full b o e m) (fun z => m (.inl ⟨k, by rw [z]; exact hs⟩)) (fun z => m (.inr (.inr ⟨x, k, hs, by rw [z]; exact ky⟩))), fun b e => ?_, R.ownF, fun i s e => ?_, R.inj, fun y' kd e => ?_, fun z hz => (by rw [hT] at hz; cases hz), fun z hz => (by rw [hT] at hz; cases hz), fun b ps e => R.notb b ps (nt b ps e), fun b m => (R.subAt m).elim fun _ h => ⟨nn h.1 (R.subs b m).1, (R.subs b m).2⟩⟩
  · rcases fr b e with q | q
    · exact R.fresh b q
    · exact .inr (R.H0none q)
  · obtain ⟨v, h1, h2⟩ := R.slot i s e
    refine ⟨v, h1, ?_⟩
    cases s with
    | v d => exact DV.same s2 h2
    | me => exact h2
    | me2 => exact h2
    | own ds =>
      obtain ⟨q, vs, rfl, a, b, c, d⟩ := h2
      have nq : q ≠ x := fun z => x2 (by rw [← z]; exact R.ownF i ds q e h1)
      have nq2 : q ≠ y := fun z => y2.2 (by rw [← z]; exact R.ownF i ds q e h1)
      exact ⟨q, vs, rfl, s1 _ _ a nq nq2, nn a b, c, d.same s2⟩
  · rw [hs] at e
    cases e
    obtain ⟨_, hx⟩ := x3.there
    exact ⟨nn hx x1, x2, hm⟩
def isMe2 (ρ : DEnv) (i : Nat) : Bool := match ρ[i]? with
  | some (some .me2) => true
  | _ => false
theorem isMe2_ok {ρ : DEnv} {i : Nat} (h : isMe2 ρ i = true) : ρ[i]? = some (some .me2) := by
  unfold isMe2 at h
  split at h
  · assumption
  · cases h
/-- f(e, a, b) -/
def fCallT (i j : Nat) (F : Fld → List Dat → RE) (a : FE) : FE := fun ρ S => match isMe ρ i && isMe2 ρ j with
  | true => (a ρ S).bind fun d S1 => noEr (F S1 [d])
  | false => .bad
section
variable {X : Cx} {M : Me}
theorem sub_eq {x y : Addr} {k : MK} (hs : M.self = some (x, k)) (h : M.sub y) : k.sub = some y := by
  obtain ⟨x', k', e, m⟩ := h
  rw [hs] at e
  cases e
  exact m
theorem ev_callT {e : Expr} {i j : Nat} {kd : MK → Prop} {F : Fld → List Dat → RE} {fa : FE} {ec : Str → Addr} {K' : PySem.W.Frag} {E : XK} (hK : M.K = K') (hT : M.T = []) (hkd : ∀ x k, M.self = some (x, k) → kd k) (h : PE X e (tCall (spM2 K' ec kd F) [] E (tCons (rdE M fa) (tCons (tVar i) (tCons (tVar j) tNil))))) : PE X e (rdE M (fCallT i j F fa)) := pe_weak h fun σ H Q ⟨ρ, S, Hf, R, q⟩ => by
  unfold fCallT at q
  cases em : (isMe ρ i && isMe2 ρ j) with
  | false => rw [em] at q; exact q.elim
  | true =>
    rw [em] at q
    obtain ⟨m1, m2⟩ := Bool.and_eq_true_iff.mp em
    refine ⟨ρ, S, Hf, R, ?_⟩
    unfold RE.bind at q
    cases e1 : fa ρ S with
    | er n v => simp only [e1] at q; exact q
    | bad => simp only [e1] at q
    | ok d S1 =>
      simp only [e1] at q
      intro w H1 Hf1 T1 hw
      have R1 := T1.rel
      obtain ⟨v1, h1, x, k, hs, rfl⟩ := R1.slot i _ (isMe_ok m1)
      obtain ⟨v2, h2, y, hy, rfl⟩ := R1.slot j _ (isMe2_ok m2)
      have ky := sub_eq hs hy
      obtain ⟨x1, x2, x3⟩ := R1.me x k hs
      refine ⟨_, h1, _, h2, x, y, k, S1, w, d, Hf1, rfl, hkd x k hs, ky, R1.sub, x1, (R1.subs y hy).1, by rw [← hK]; exact x3, by rw [← hK]; exact hw, ?_⟩
      cases eF : F S1 [d] with
      | ok r S2 =>
        simp only [eF, noEr] at q
        intro v H' Hs' s1 s2 s3 fr nt hme hd
        rw [← hK] at hme hd
        exact q v H' Hs' (T1.trans ⟨R1.calledM2 hT hs ky s1 s2 s3 fr nt hme, s2, fun b o e m _ => s1 _ _ e (fun z => m (.inl ⟨k, by rw [z]; exact hs⟩)) (fun z => m (.inr (.inr ⟨x, k, hs, by rw [z]; exact ky⟩))), fshN fr⟩) hd
      | er m v => simp only [eF, noEr] at q
      | bad => simp only [eF, noEr] at q
/-! ### reading the first, the second -/
theorem MeIs.two2 {K : PySem.W.Frag} {x y : Addr} {H Hf : Hp} {S : Fld} {k : MK} (h : MeIs K x H Hf S k) (ky : k.sub = some y) : ∃ vs ds es, S = S2 ds es ∧ H x = some (.lst vs) ∧ vs.length ≤ 100000 ∧ DVs K Hf vs ds := by
  cases k with
  | ins C dx => cases ky
  | lst => cases ky
  | two y => obtain ⟨vs, ds, ws, es, a, b, c, d, _⟩ := h; exact ⟨vs, ds, es, a, b, c, d⟩
  | tab y D => obtain ⟨vs, ds, ws, es, a, b, c, d, _⟩ := h; exact ⟨vs, ds, es, a, b, c, d⟩
/-- len(a) and the like -/
def fOn1 (o : List Dat → Option Dat) (i : Nat) : FE := fun ρ S => match isMe ρ i, two2 S with
  | true, some p => ofO (o [.lst p.1]) S
  | _, _ => .bad
theorem ev_on1 {e : Expr} {i : Nat} {r : List V → Hp → VK → Prop} {o : List Dat → Option Dat} (hK : M.K = X.K) (hk : ∀ x k, M.self = some (x, k) → ∃ y, k.sub = some y) (hs : SimN X.K r o) (h : PE X e (tCB r (tCons (tVar i) tNil))) : PE X e (rdE M (fOn1 o i)) := pe_weak h fun σ H Q ⟨ρ, S, Hf, R, q⟩ => by
  unfold fOn1 at q
  cases em : isMe ρ i with
  | false => simp only [em] at q
  | true =>
    obtain ⟨v1, h1, x, k, hx, rfl⟩ := R.slot i _ (isMe_ok em)
    obtain ⟨y, ky⟩ := hk x k hx
    obtain ⟨vs, ds, es, rfl, e1, e2, e3⟩ := (R.me x k hx).2.2.two2 ky
    simp only [em, two2] at q
    unfold ofO at q
    cases eo : o [.lst ds] with
    | none => rw [eo] at q; exact q.elim
    | some z =>
      rw [eo] at q
      rw [hK] at e3 q
      exact ⟨_, h1, hs [.ref x] H Hf [.lst ds] z Q R.sub (.cons (.inr ⟨x, vs, ds, rfl, rfl, e1, e2, e3⟩) .nil) eo (fun v hv => q v H Hf (.refl R) hv) fun p ob v hp no hv => q v _ _ ((Stp.refl R).new hp no) hv⟩
/-- e in b, e not in b -/
def fIn2 (o : Dat → Dat → Option Dat) (j : Nat) (a : FE) : FE := fun ρ S => (a ρ S).bind fun d S1 => match isMe2 ρ j, two2 S1 with
  | true, some p => ofO (o d (.lst p.2)) S1
  | _, _ => .bad
theorem MeIs.snd {K : PySem.W.Frag} {x y : Addr} {H Hf : Hp} {S : Fld} (h : MeIs K x H Hf S (.two y)) : ∃ ws ds es, S = S2 ds es ∧ H y = some (.lst ws) ∧ ws.length ≤ 100000 ∧ DVs K Hf ws es := by
  obtain ⟨vs, ds, ws, es, a, b, c, d, n, f, g, i⟩ := h
  exact ⟨ws, ds, es, a, f, g, i⟩
theorem rd_in2 {r : R2} {o : Dat → Dat → Option Dat} {fa : FE} {j : Nat} {σ : L2.St} {H : Hp} {Q : VK} (hK : M.K = X.K) (hk : ∀ x k, M.self = some (x, k) → ∃ y, k = .two y) (hs : Sim2 X.K r o) (h : rdE M (fIn2 o j fa) σ H Q) : tOp r (rdO M fa) (tVar j) σ H Q := by
  obtain ⟨ρ, S, Hf, R, q⟩ := h
  refine ⟨ρ, S, Hf, R, ?_⟩
  unfold fIn2 RE.bind at q
  cases e1 : fa ρ S with
  | er n v => simp only [e1] at q; exact q
  | bad => simp only [e1] at q
  | ok d S1 =>
    simp only [e1] at q
    intro w H1 Hf1 T1 hw
    have R1 := T1.rel
    cases em : isMe2 ρ j with
    | false => simp only [em] at q
    | true =>
      obtain ⟨v2, h2, y, hy, rfl⟩ := R1.slot j _ (isMe2_ok em)
      obtain ⟨x, k, hx, ky⟩ := hy
      obtain ⟨y', rfl⟩ := hk x k hx
      cases ky
      obtain ⟨ws, ds, es, rfl, e1, e2, e3⟩ := (R1.me x _ hx).2.2.snd
      simp only [em, two2] at q
      refine ⟨_, h2, ?_⟩
      unfold ofO at q
      cases eo : o d (.lst es) with
      | none => simp only [eo] at q
      | some z =>
        simp only [eo] at q
        rw [hK] at e3 q
        exact hs w (.ref y) H1 Hf1 d (.lst es) z Q R1.sub (by rw [← hK]; exact hw.gv R1) (.inr ⟨y, ws, es, rfl, rfl, e1, e2, e3⟩) eo (fun v hv => q v H1 Hf1 T1 hv) fun p ob v hp no hv => q v _ _ (T1.new hp no) hv
theorem tv_in2 {a b : Expr} {op : CmpOp} {pos : Pos} {r : R2} {o : Dat → Dat → Option Dat} {fa : FE} {j : Nat} (ho : OpR X (compareOp op) r) (hm : behindInMarks op b = false) (hK : M.K = X.K) (hk : ∀ x k, M.self = some (x, k) → ∃ y, k = .two y) (hs : Sim2 X.K r o) (ha : PE X a (rdO M fa)) (hb : PE X b (tVar j)) : PT X (.Compare a [op] [b] pos) (rdT M (fIn2 o j fa)) :=
  pt_weak (pt_cmpR ho ha hb hm) fun σ H Q h => rd_in2 hK hk hs (rdT_of h)
/-- b.index(e) -/
def fIx2 (o : List Dat → Dat → Option Dat) (j : Nat) (a : FE) : FE := fun ρ S => match isMe2 ρ j with
  | true => (a ρ S).bind fun d S1 => match two2 S1 with
    | some p => ofO (o p.2 d) S1
    | none => .bad
  | false => .bad
/-! nested data in a list, and their places -/
def oInD (neg : Bool) (x y : Dat) : Option Dat := match y with
  | .lst ds => if SeqAt.shaped x.pd = true ∧ SeqAt.shaped (Dat.lst ds).pd = true then some (.bl (if neg then !((pds ds).any fun z => PyData.eqv z x.pd) else (pds ds).any fun z => PyData.eqv z x.pd)) else none
  | _ => none
theorem sim_inD {K : PySem.W.Frag} : Sim2 K (rInD K) (oInD false) := by
  intro x y H Hf dx dy z Q s hx hy e q _
  unfold oInD at e
  split at e
  · split at e
    · rename_i ds hc
      cases e
      exact ⟨dx.pd, pds ds, hx.dp s hc.1, hy.dp s hc.2, hc.1, hc.2, q _ (.bl _)⟩
    · cases e
  · cases e
theorem sim_notInD {K : PySem.W.Frag} : Sim2 K (rNotInD K) (oInD true) := by
  intro x y H Hf dx dy z Q s hx hy e q _
  unfold oInD at e
  split at e
  · split at e
    · rename_i ds hc
      cases e
      exact ⟨dx.pd, pds ds, hx.dp s hc.1, hy.dp s hc.2, hc.1, hc.2, q _ (.bl _)⟩
    · cases e
  · cases e
/-- where a datum stands -/
def oIndexD (ds : List Dat) (x : Dat) : Option Dat := if SeqAt.shaped x.pd = true ∧ SeqAt.shaped (Dat.lst ds).pd = true then ((pds ds).findIdx? fun z => PyData.eqv z x.pd).map (fun (j : Nat) => Dat.int (j : Int)) else none
theorem ev_ix2 {e : Expr} {j : Nat} {fa : FE} (hK : M.K = X.K) (hk : ∀ x k, M.self = some (x, k) → ∃ y, k = .two y) (h : PE X e (tBM X.K "list" (rIndexD X.K) (tVar j) (tCons (rdE M fa) tNil))) : PE X e (rdE M (fIx2 oIndexD j fa)) := pe_weak h fun σ H Q ⟨ρ, S, Hf, R, q⟩ => by
  unfold fIx2 at q
  cases em : isMe2 ρ j with
  | false => rw [em] at q; exact q.elim
  | true =>
    rw [em] at q
    obtain ⟨v2, h2, y, hy, rfl⟩ := R.slot j _ (isMe2_ok em)
    have hy0 := hy
    obtain ⟨x, k, hx, ky⟩ := hy
    obtain ⟨y', rfl⟩ := hk x k hx
    cases ky
    obtain ⟨ws0, _, _, _, e0, _⟩ := (R.me x _ hx).2.2.snd
    refine ⟨_, h2, .inl ⟨rfl, ws0, .inl (.inl e0)⟩, ρ, S, Hf, R, ?_⟩
    unfold RE.bind at q
    cases e1 : fa ρ S with
    | er n v => simp only [e1] at q; exact q
    | bad => simp only [e1] at q
    | ok d S1 =>
      simp only [e1] at q
      intro w H1 Hf1 T1 hw
      have R1 := T1.rel
      obtain ⟨ws, ds, es, rfl, f1, f2, f3⟩ := (R1.me x _ hx).2.2.snd
      simp only [two2] at q
      unfold ofO oIndexD at q
      by_cases hc : SeqAt.shaped d.pd = true ∧ SeqAt.shaped (Dat.lst es).pd = true
      · simp only [if_pos hc] at q
        cases ei : (pds es).findIdx? fun z => PyData.eqv z d.pd with
        | none => simp only [ei, Option.map_none] at q
        | some m =>
          simp only [ei, Option.map_some] at q
          obtain ⟨lt, g1, g2⟩ := List.findIdx?_eq_some_iff_getElem.mp ei
          refine ⟨y, w, d.pd, pds es, m, (pds es)[m], rfl, rfl, ?_, ?_, hc.2, hc.1, List.getElem?_eq_getElem lt, g1, fun n z' hn hz => ?_, q _ H1 Hf1 T1 (.int _)⟩
          · have : GV X.K Hf1 H1 (.ref y) (.lst es) := .inr ⟨y, ws, es, rfl, rfl, f1, f2, by rw [← hK]; exact f3⟩
            exact this.dp R1.sub hc.2
          · have : GV X.K Hf1 H1 w d := .inl (by rw [← hK]; exact hw)
            exact this.dp R1.sub hc.1
          · have hl : n < (pds es).length := by omega
            rw [List.getElem?_eq_getElem hl] at hz
            cases hz
            have := g2 n hn
            simpa using this
      · simp only [if_neg hc] at q
/-! ### appending -/
def fApp1 (i : Nat) (a : FE) : FS := fun ρ S => match isMe ρ i with
  | true => (a ρ S).bindS fun d S1 => match two2 S1 with
    | some p => if p.1.length < 100000 then .nx ρ (S2 (p.1 ++ [d]) p.2) else .bad
    | none => .bad
  | false => .bad
def fApp2 (j : Nat) (a : FE) : FS := fun ρ S => match isMe2 ρ j with
  | true => (a ρ S).bindS fun d S1 => match two2 S1 with
    | some p => if p.2.length < 100000 then .nx ρ (S2 p.1 (p.2 ++ [d])) else .bad
    | none => .bad
  | false => .bad
theorem MeIs.app1 {K : PySem.W.Frag} {x y : Addr} {H Hf : Hp} {ds es : List Dat} {vs : List V} {k : MK} (h : MeIs K x H Hf (S2 ds es) k) (ky : k.sub = some y) {v : V} {d : Dat} (hx : H x = some (.lst vs)) (hl : vs.length < 100000) (hv : DV K Hf v d) : MeIs K x (upd H x (.lst (vs ++ [v]))) Hf (S2 (ds ++ [d]) es) k := by
  cases k with
  | ins C dx => cases ky
  | lst => cases ky
  | two y' =>
    obtain ⟨vs', ds', ws, es', a, b, c, f, n, g, i, j⟩ := h
    cases a
    rw [hx] at b
    cases b
    exact ⟨_, _, ws, _, rfl, upd_same, by rw [List.length_append]; exact hl, f.app (.cons hv .nil), n, by rw [upd_ne n]; exact g, i, j⟩
  | tab y' D =>
    obtain ⟨vs', ds', ws, es', a, b, c, f, n, g, i, j⟩ := h
    cases a
    rw [hx] at b
    cases b
    exact ⟨_, _, ws, _, rfl, upd_same, by rw [List.length_append]; exact hl, f.app (.cons hv .nil), n, by rw [upd_ne n]; exact g, i, j⟩
theorem sv_app1 {i : Nat} {e o : Expr} {apos cpos pos : Pos} {f : FE} (hT : M.T = []) (hk : ∀ x k, M.self = some (x, k) → ∃ y, k.sub = some y) (h : PS X (.Expr (.Call (.Attribute o "append" apos) [e] [] cpos) pos) (tDrop (tBM X.K "list" rAppend (tVar i) (tCons (rdE M f) tNil)))) : PS X (.Expr (.Call (.Attribute o "append" apos) [e] [] cpos) pos) (rdS M (fApp1 i f)) := ps_weak h fun D σ H ⟨ρ, S, Hf, R, q⟩ => by
  unfold fApp1 at q
  cases em : isMe ρ i with
  | false => rw [em] at q; exact q.elim
  | true =>
    rw [em] at q
    obtain ⟨v1, h1, x, k, hx, rfl⟩ := R.slot i _ (isMe_ok em)
    obtain ⟨y, ky⟩ := hk x k hx
    obtain ⟨vs0, _, _, _, e0, _⟩ := (R.me x k hx).2.2.two2 ky
    refine ⟨_, h1, .inl ⟨rfl, vs0, .inl (.inl e0)⟩, ρ, S, Hf, R, ?_⟩
    simp only [RE.bindS] at q
    cases e1 : f ρ S with
    | er n v => simp only [e1] at q; exact q
    | bad => simp only [e1] at q; exact q.elim
    | ok d S1 =>
      simp only [e1] at q
      intro v H1 Hf1 T1 hv
      have R1 := T1.rel
      have hm := (R1.me x k hx).2.2
      obtain ⟨vs, ds, es, rfl, f1, f2, f3⟩ := hm.two2 ky
      simp only [two2] at q
      by_cases hl : ds.length < 100000
      · rw [if_pos hl] at q
        have ln : vs.length < 100000 := by rw [f3.length]; exact hl
        exact ⟨x, vs, v, rfl, rfl, f1, Nat.lt_of_lt_of_le ln (line5 (Nat.le_refl _)), q _ _ Hf1 (R1.chgMe hT hx (.inl rfl) (hm.app1 ky f1 ln hv)) T1.same⟩
      · rw [if_neg hl] at q
        exact q.elim
theorem sv_app2 {j : Nat} {e o : Expr} {apos cpos pos : Pos} {f : FE} (hT : M.T = []) (hk : ∀ x k, M.self = some (x, k) → ∃ y, k = .two y) (h : PS X (.Expr (.Call (.Attribute o "append" apos) [e] [] cpos) pos) (tDrop (tBM X.K "list" rAppend (tVar j) (tCons (rdE M f) tNil)))) : PS X (.Expr (.Call (.Attribute o "append" apos) [e] [] cpos) pos) (rdS M (fApp2 j f)) := ps_weak h fun D σ H ⟨ρ, S, Hf, R, q⟩ => by
  unfold fApp2 at q
  cases em : isMe2 ρ j with
  | false => rw [em] at q; exact q.elim
  | true =>
    rw [em] at q
    obtain ⟨v2, h2, y, hy, rfl⟩ := R.slot j _ (isMe2_ok em)
    obtain ⟨x, k, hx, ky⟩ := hy
    obtain ⟨y', rfl⟩ := hk x k hx
    cases ky
    obtain ⟨ws0, _, _, _, e0, _⟩ := (R.me x _ hx).2.2.snd
    refine ⟨_, h2, .inl ⟨rfl, ws0, .inl (.inl e0)⟩, ρ, S, Hf, R, ?_⟩
    simp only [RE.bindS] at q
    cases e1 : f ρ S with
    | er n v => simp only [e1] at q; exact q
    | bad => simp only [e1] at q; exact q.elim
    | ok d S1 =>
      simp only [e1] at q
      intro v H1 Hf1 T1 hv
      have R1 := T1.rel
      obtain ⟨vs, ds, ws, es, rfl, f1, f2, f3, n, g, i, l⟩ := (R1.me x _ hx).2.2
      simp only [two2] at q
      by_cases hl : es.length < 100000
      · rw [if_pos hl] at q
        have ln : ws.length < 100000 := by rw [l.length]; exact hl
        exact ⟨y, ws, v, rfl, rfl, g, Nat.lt_of_lt_of_le ln (line5 (Nat.le_refl _)), q _ _ Hf1 (R1.chgMe hT hx (.inr rfl) ⟨vs, ds, _, _, rfl, by rw [upd_ne n.symm]; exact f1, f2, f3, n, upd_same, by rw [List.length_append]; exact ln, l.app (.cons hv .nil)⟩) T1.same⟩
      · rw [if_neg hl] at q
        exact q.elim
/-! ### the dict -/
def entK (e : Dat) : Option Dat := match e with
  | .tup [k, _] => some k
  | _ => none
def entV (e : Dat) : Option Dat := match e with
  | .tup [_, v] => some v
  | _ => none
def isKey (k : NestedKey) (e : Dat) : Bool := decide ((entK e).bind nk = some k)
def tabAt (es : List Dat) (k : NestedKey) : Option Dat := (es.find? (isKey k)).bind entV
/-- a key that is asked for -/
def tkey (d : Dat) : Option NestedKey := match d with
  | .tup ds => match nk (.tup ds) with
    | some k => if k.depth ≤ 8 then some k else none
    | none => none
  | _ => none
theorem tkey_at {K : PySem.W.Frag} {H : Hp} {v : V} {d : Dat} {k : NestedKey} (h : tkey d = some k) (hv : DV K H v d) : nk d = some k ∧ k.depth ≤ 8 ∧ ∃ b, v = .ref b := by
  unfold tkey at h
  split at h
  · rename_i ds
    split at h
    · rename_i k' e
      split at h
      · rename_i hd
        cases h
        refine ⟨e, hd, ?_⟩
        cases hv with
        | tup a b c => exact ⟨_, rfl⟩
      · cases h
    · cases h
  · cases h
theorem EntD.at {K : PySem.W.Frag} {H : Hp} {k : NestedKey} : ∀ {xs : List Ent} {ds : List Dat}, EntD K H xs ds → (tabAt ds k = none ∧ atE xs k = none) ∨ ∃ a v d, atE xs k = some (a, v) ∧ tabAt ds k = some d ∧ DV K H v d
  | _, _, .nil => .inl ⟨rfl, rfl⟩
  | _, _, .cons (k := k') (a := a) (v := v) (kd := kd) (vd := vd) (xs := xs) (ds := ds) h1 h2 h3 h4 t => by
    have ih := EntD.at (k := k) t
    unfold tabAt atE at ih ⊢
    rw [List.find?_cons, List.find?_cons]
    by_cases h : k' = k
    · subst h
      have e : isKey k' (.tup [kd, vd]) = true := by simp [isKey, entK, h2]
      rw [e, decide_eq_true rfl]
      exact .inr ⟨a, v, vd, rfl, rfl, h4⟩
    · have e : isKey k (.tup [kd, vd]) = false := by simp [isKey, entK, h2, h]
      rw [e, decide_eq_false h]
      exact ih
theorem EntD.keys {K : PySem.W.Frag} {H : Hp} : ∀ {xs : List Ent} {ds : List Dat}, EntD K H xs ds → KeysIn K H xs
  | _, _, .nil => fun _ h => nomatch h
  | _, _, .cons h1 h2 h3 h4 t => fun x hx => by
    rcases List.mem_cons.mp hx with rfl | hx
    · exact ⟨_, h1, h2, h3⟩
    · exact t.keys x hx
theorem EntD.length {K : PySem.W.Frag} {H : Hp} : ∀ {xs : List Ent} {ds : List Dat}, EntD K H xs ds → xs.length = ds.length
  | _, _, .nil => rfl
  | _, _, .cons _ _ _ _ t => congrArg Nat.succ t.length
theorem EntD.app {K : PySem.W.Frag} {H : Hp} {x : Ent} {d : Dat} (h : EntD K H [x] [d]) : ∀ {xs : List Ent} {ds : List Dat}, EntD K H xs ds → EntD K H (xs ++ [x]) (ds ++ [d])
  | _, _, .nil => h
  | _, _, .cons h1 h2 h3 h4 t => .cons h1 h2 h3 h4 (EntD.app h t)
abbrev kTab (P : Program) (w : World) (k : MK) : Prop := ∃ y, k = .tab y (DictN P w y)
theorem kTab.sub {P : Program} {w : World} {k : MK} (h : kTab P w k) : ∃ y, k.sub = some y := by
  obtain ⟨y, rfl⟩ := h
  exact ⟨y, rfl⟩
theorem dictN_tbl {P : Program} {w : World} {a : Addr} {xs : List Ent} : ∀ ps, DictN P w a xs ≠ .tbl ps := fun ps z => by
  unfold DictN at z
  cases z
def fInT (neg : Bool) (j : Nat) (a : FE) : FE := fun ρ S => (a ρ S).bind fun d S1 => match isMe2 ρ j, two2 S1, tkey d with
  | true, some p, some k => .ok (.bl (if neg then !(tabAt p.2 k).isSome else (tabAt p.2 k).isSome)) S1
  | _, _, _ => .bad
theorem rd_inT {neg : Bool} {fa : FE} {j : Nat} {σ : L2.St} {H : Hp} {Q : VK} (hu : X.A.units + 9 < cLine) (hK : M.K = X.K) (hk : ∀ x k, M.self = some (x, k) → kTab X.prog X.w k) (h : rdE M (fInT neg j fa) σ H Q) : tOp (rInN X neg) (rdE M fa) (tVar j) σ H Q := by
  obtain ⟨ρ, S, Hf, R, q⟩ := h
  refine ⟨ρ, S, Hf, R, ?_⟩
  unfold fInT RE.bind at q
  cases e1 : fa ρ S with
  | er n v => simp only [e1] at q; exact q
  | bad => simp only [e1] at q
  | ok d S1 =>
    simp only [e1] at q
    intro w H1 Hf1 T1 hw
    have R1 := T1.rel
    cases em : isMe2 ρ j with
    | false => simp only [em] at q
    | true =>
      obtain ⟨v2, h2, y, hy, rfl⟩ := R1.slot j _ (isMe2_ok em)
      obtain ⟨x, k, hx, ky⟩ := hy
      obtain ⟨y', rfl⟩ := hk x k hx
      cases ky
      obtain ⟨vs, ds, ws, es, rfl, f1, f2, f3, n, g, _, l⟩ := (R1.me x _ hx).2.2
      simp only [em, two2] at q
      cases et : tkey d with
      | none => simp only [et] at q
      | some kk =>
        simp only [et] at q
        obtain ⟨k1, k2, b, rfl⟩ := tkey_at et hw
        have hs : (atE ws kk).isSome = (tabAt es kk).isSome := by
          rcases l.at (k := kk) with ⟨a1, a2⟩ | ⟨a, v, d', a1, a2, _⟩ <;> rw [a1, a2] <;> rfl
        have l' := l.same R1.sub
        rw [hK] at l'
        refine ⟨_, h2, b, y, kk, ws, rfl, rfl, ⟨d, by rw [← hK]; exact hw.same R1.sub, k1, k2⟩, g, l'.keys, hu, ?_⟩
        rw [hs]
        exact q _ H1 Hf1 T1 (.bl _)
theorem tv_inT {a b : Expr} {pos : Pos} {fa : FE} {j : Nat} (hu : X.A.units + 9 < cLine) (hK : M.K = X.K) (hk : ∀ x k, M.self = some (x, k) → kTab X.prog X.w k) (ha : PE X a (rdE M fa)) (hb : PE X b (tVar j)) (hm : behindInMarks .NotIn b = false := by rfl) : PT X (.Compare a [.NotIn] [b] pos) (rdT M (fInT true j fa)) :=
  pt_weak (pt_cmpR or_notinN ha hb hm) fun σ H Q h => rd_inT hu hK hk (rdT_of h)
/-- b[e], a key that is there -/
def fGetT (j : Nat) (a : FE) : FE := fun ρ S => match isMe2 ρ j with
  | true => (a ρ S).bind fun d S1 => match two2 S1, tkey d with
    | some p, some k => ofO (tabAt p.2 k) S1
    | _, _ => .bad
  | false => .bad
theorem ev_getT {e : Expr} {fa : FE} {j : Nat} (hu : X.A.units + 9 < cLine) (hK : M.K = X.K) (hk : ∀ x k, M.self = some (x, k) → kTab X.prog X.w k) (h : PE X e (tOp (rGetN X) (tVar j) (rdE M fa))) : PE X e (rdE M (fGetT j fa)) := pe_weak h fun σ H Q ⟨ρ, S, Hf, R, q⟩ => by
  unfold fGetT at q
  cases em : isMe2 ρ j with
  | false => rw [em] at q; exact q.elim
  | true =>
    rw [em] at q
    obtain ⟨v2, h2, y, hy, rfl⟩ := R.slot j _ (isMe2_ok em)
    obtain ⟨x, k, hx, ky⟩ := hy
    obtain ⟨y', rfl⟩ := hk x k hx
    cases ky
    refine ⟨_, h2, ρ, S, Hf, R, ?_⟩
    unfold RE.bind at q
    cases e1 : fa ρ S with
    | er n v => simp only [e1] at q; exact q
    | bad => simp only [e1] at q
    | ok d S1 =>
      simp only [e1] at q
      intro w H1 Hf1 T1 hw
      have R1 := T1.rel
      obtain ⟨vs, ds, ws, es, rfl, f1, f2, f3, n, g, _, l⟩ := (R1.me x _ hx).2.2
      simp only [two2] at q
      cases et : tkey d with
      | none => simp only [et] at q
      | some kk =>
        simp only [et, ofO] at q
        obtain ⟨k1, k2, b, rfl⟩ := tkey_at et hw
        have l' := l.same R1.sub
        rw [hK] at l'
        rcases l.at (k := kk) with ⟨a1, a2⟩ | ⟨a, v, d', a1, a2, a3⟩
        · simp only [a1] at q
        · simp only [a2] at q
          exact ⟨y, b, kk, ws, (a, v), rfl, rfl, ⟨d, by rw [← hK]; exact hw.same R1.sub, k1, k2⟩, g, l'.keys, hu, a1, q v H1 Hf1 T1 a3⟩
/-- b[e] = c, a key that is not there -/
def fPutT (j : Nat) (a c : FE) : FS := fun ρ S => (c ρ S).bindS fun r S1 => match isMe2 ρ j with
  | true => (a ρ S1).bindS fun d S2' => match two2 S2', tkey d with
    | some p, some k => if (tabAt p.2 k).isNone ∧ p.2.length < 100000 then .nx ρ (S2 p.1 (p.2 ++ [.tup [d, r]])) else .bad
    | _, _ => .bad
  | false => .bad
theorem sv_putT {st : Stmt} {j : Nat} {fa fc : FE} (hu : X.A.units + 9 < cLine) (hK : M.K = X.K) (hT : M.T = []) (hk : ∀ x k, M.self = some (x, k) → kTab X.prog X.w k) (h : PS X st (tAsg (rdE M fc) (gSub (tVar j) (rdE M fa) (rPutN X)))) : PS X st (rdS M (fPutT j fa fc)) := ps_weak h fun D σ H ⟨ρ, S, Hf, R, q⟩ => by
  refine ⟨ρ, S, Hf, R, ?_⟩
  unfold fPutT at q
  simp only [RE.bindS] at q
  cases e0 : fc ρ S with
  | er n v => simp only [e0] at q; exact q
  | bad => simp only [e0] at q; exact q.elim
  | ok r S1 =>
    simp only [e0] at q
    intro rv H1 Hf1 T1 hrv
    have R1 := T1.rel
    cases em : isMe2 ρ j with
    | false => rw [em] at q; exact q.elim
    | true =>
      rw [em] at q
      obtain ⟨v2, h2, y, hy, rfl⟩ := R1.slot j _ (isMe2_ok em)
      obtain ⟨x, k, hx, ky⟩ := hy
      obtain ⟨y', rfl⟩ := hk x k hx
      cases ky
      refine ⟨_, h2, ρ, S1, Hf1, R1, ?_⟩
      simp only at q
      cases e1 : fa ρ S1 with
      | er n v => simp only [e1] at q; exact q
      | bad => simp only [e1] at q; exact q.elim
      | ok d S2' =>
        simp only [e1] at q
        intro w H2 Hf2 T2 hw
        have R2 := T2.rel
        obtain ⟨vs, ds, ws, es, rfl, f1, f2, f3, n, g, nt, l⟩ := (R2.me x _ hx).2.2
        simp only [two2] at q
        cases et : tkey d with
        | none => simp only [et] at q; exact q.elim
        | some kk =>
          simp only [et] at q
          obtain ⟨k1, k2, b, rfl⟩ := tkey_at et hw
          by_cases hc : (tabAt es kk).isNone ∧ es.length < 100000
          · rw [if_pos hc] at q
            have l' := l.same R2.sub
            rw [hK] at l'
            have hn : atE ws kk = none := by
              rcases l.at (k := kk) with ⟨a1, a2⟩ | ⟨a, v, d', a1, a2, a3⟩
              · exact a2
              · rw [a2] at hc
                cases hc.1
            have lw : ws.length < 100000 := by rw [l.length]; exact hc.2
            refine ⟨y, b, kk, ws, rfl, rfl, ⟨d, by rw [← hK]; exact hw.same R2.sub, k1, k2⟩, g, l'.keys, hu, hn, Nat.lt_of_lt_of_le lw (line5 (Nat.le_refl _)), ?_⟩
            refine q _ _ Hf2 (R2.chgMe hT hx (.inr rfl) ⟨vs, ds, _, _, rfl, by rw [upd_ne n.symm]; exact f1, f2, f3, n, upd_same, nt, ?_⟩) (T1.same.trans T2.same)
            exact EntD.app (.cons hw k1 k2 (hrv.same T2.same) .nil) l
          · rw [if_neg hc] at q
            exact q.elim
end
end PD

set_option Elab.async false
set_option linter.all false
set_option maxRecDepth 100000
set_option maxHeartbeats 2000000
namespace PD
open PySem PySem.Spec PyProof.Rows L2 RB RBN
/-! ### a list and a dict that a def makes, and that another def changes -/
theorem Rel.setN {M : Me} {σ : L2.St} {H : Hp} {ρ : DEnv} {S : Fld} {Hf : Hp} (R : Rel M σ H ρ S Hf) {i : Nat} {v : V} {s0 : Slot} (hv : SlotOk M Hf H v s0) (no : ∀ ds, s0 ≠ .own ds) : Rel M (σ.set i (some v)) H (ρ.set i (some s0)) S Hf := by
  have nv : ∀ (m : Nat) (xs : List Dat), (ρ.set i (some s0))[m]? = some (some (.own xs)) → i ≠ m ∧ ρ[m]? = some (some (.own xs)) := fun m xs e => by
    rw [List.getElem?_set] at e
    by_cases hj : i = m
    · rw [if_pos hj] at e
      split at e
      · exact (no xs (Option.some.inj (Option.some.inj e))).elim
      · cases e
    · rw [if_neg hj] at e
      exact ⟨hj, e⟩
  refine ⟨by rw [List.length_set, List.length_set]; exact R.len, R.base, R.sub, R.full, R.fresh, fun j ds p e1 e2 => ?_, fun j s e => ?_, fun j k ds es p n e1 e2 e3 => ?_, R.me, R.tabs, R.tabf, R.notb, R.subs⟩
  · obtain ⟨n1, e1⟩ := nv _ _ e1
    rw [List.getElem?_set, if_neg n1] at e2
    exact R.ownF j ds p e1 e2
  · rw [List.getElem?_set] at e ⊢
    by_cases hj : i = j
    · subst hj
      rw [if_pos rfl] at e ⊢
      by_cases hi : i < ρ.length
      · rw [if_pos hi] at e
        rw [if_pos (by rw [R.len]; exact hi)]
        cases e
        exact ⟨v, rfl, hv⟩
      · rw [if_neg hi] at e
        cases e
    · rw [if_neg hj] at e ⊢
      exact R.slot j s e
  · obtain ⟨n1, e1⟩ := nv _ _ e1
    obtain ⟨n2, e2⟩ := nv _ _ e2
    rw [List.getElem?_set, if_neg n1] at e3
    rw [List.getElem?_set, if_neg n2]
    exact R.inj j k ds es p n e1 e2 e3
def Me.with2 (M : Me) (x y : Addr) (D : List Ent → HO) (o1 o2 : HO) : Me := ⟨M.K, upd (upd M.H0 x o1) y o2, M.Hs, M.E, M.ec, some (x, .tab y D), M.T⟩
theorem Rel.take2 {M : Me} {σ : L2.St} {H : Hp} {ρ : DEnv} {S : Fld} {Hf : Hp} {x y : Addr} {D : List Ent → HO} {o1 o2 : HO} (R : Rel M σ H ρ S Hf) (hs : M.self = none) (hT : M.T = []) (hx : H x = none) (hy : H y = none) (n : y ≠ x) (nt : ∀ ws ps, D ws ≠ .tbl ps) : Rel (M.with2 x y D o1 o2) σ (upd (upd H x (.lst [])) y (D [])) ρ (S2 [] []) Hf := by
  have x0 := R.H0none hx
  have y0 := R.H0none hy
  have xf := none_of_same R.sub hx
  have yf := none_of_same R.sub hy
  have up : Same H (upd (upd H x (.lst [])) y (D [])) := fun b u e => by
    rw [upd_ne (ne_of_none e hy)]
    exact upd_new hx _ _ e
  have z0 : ∀ {b : Addr}, b ≠ x → b ≠ y → upd (upd M.H0 x o1) y o2 b = M.H0 b := fun {b} h1 h2 => by rw [upd_ne h2, upd_ne h1]
  refine ⟨R.len, R.base, fun b u e => up _ _ (R.sub _ _ e), fun b u e m => ?_, fun b e => ?_, fun i ds p e1 e2 => ?_, fun i s e => ?_, R.inj, fun x' k' e => ?_, fun z hz => (by rw [show (M.with2 x y D o1 o2).T = M.T from rfl, hT] at hz; cases hz), fun z hz => (by rw [show (M.with2 x y D o1 o2).T = M.T from rfl, hT] at hz; cases hz), R.notb, fun b ⟨x', k', e, m⟩ => ?_⟩
  · have h1 : b ≠ x := fun z => m (.inl ⟨_, by rw [z]; rfl⟩)
    have h2 : b ≠ y := fun z => m (.inr (.inr ⟨x, _, rfl, by rw [z]; rfl⟩))
    have e : upd (upd M.H0 x o1) y o2 b = some u := e
    rw [z0 h1 h2] at e
    refine up _ _ (R.full b u e fun z => ?_)
    rcases z with ⟨k, z⟩ | ⟨q, z⟩ | ⟨_, _, z, _⟩
    · rw [hs] at z; cases z
    · rw [hT] at z; cases z
    · rw [hs] at z; cases z
  · rcases R.fresh b e with z | z
    · exact .inl z
    · have h1 : b ≠ x := fun z => e (by rw [z]; exact xf)
      have h2 : b ≠ y := fun z => e (by rw [z]; exact yf)
      exact .inr (by show upd (upd M.H0 x o1) y o2 b = none; rw [z0 h1 h2]; exact z)
  · obtain ⟨v, h1, p', vs, rfl, a, _⟩ := R.slot i _ e1
    rw [e2] at h1
    cases h1
    show upd (upd M.H0 x o1) y o2 p = none
    rw [z0 (ne_of_none a hx) (ne_of_none a hy)]
    exact R.ownF i ds p e1 e2
  · obtain ⟨v, h1, h2⟩ := R.slot i s e
    refine ⟨v, h1, ?_⟩
    cases s with
    | v d => exact h2
    | me =>
      obtain ⟨_, _, z, _⟩ := h2
      rw [hs] at z
      cases z
    | me2 =>
      obtain ⟨_, ⟨_, _, z, _⟩, _⟩ := h2
      rw [hs] at z
      cases z
    | own ds =>
      obtain ⟨q, vs, rfl, a, b, c, d⟩ := h2
      exact ⟨q, vs, rfl, up _ _ a, b, c, d⟩
  · cases e
    refine ⟨xf, by show upd (upd M.H0 x o1) y o2 x ≠ none; rw [upd_ne n.symm, upd_same]; simp, [], [], [], [], rfl, by rw [upd_ne n.symm, upd_same], by simp, .nil, n, upd_same, nt, .nil⟩
  · cases e
    cases m
    exact ⟨yf, by show upd (upd M.H0 x o1) y o2 y ≠ none; rw [upd_same]; simp⟩
/-- the dict is let go, the list is the def's own -/
theorem Rel.forget2 {M : Me} {σ : L2.St} {H : Hp} {ρ : DEnv} {S S' : Fld} {Hf : Hp} {x y : Addr} {D : List Ent → HO} {o1 o2 : HO} {i : Nat} {ds es : List Dat} (hs : M.self = none) (hT : M.T = []) (hx : M.H0 x = none) (hy : M.H0 y = none) (R : Rel (M.with2 x y D o1 o2) σ H ρ S Hf) (hi : ρ[i]? = some (some .me)) (hS : two2 S = some (ds, es)) : Rel M σ H ((dropMe ρ).set i (some (.own ds))) S' Hf := by
  obtain ⟨vi, ei, x', k', z1, rfl⟩ := R.slot i _ hi
  cases z1
  obtain ⟨xf, x0, vs, ds', ws, es', rfl, f1, f2, f3, n, g, _⟩ := R.me x _ rfl
  cases hS
  have il : i < ρ.length := by
    rcases Nat.lt_or_ge i ρ.length with z | z
    · exact z
    · rw [List.getElem?_eq_none z] at hi
      cases hi
  have il2 : i < (dropMe ρ).length := by unfold dropMe; rw [List.length_map]; exact il
  have nn : ∀ {b : Addr} {u : HO}, M.H0 b = some u → b ≠ x ∧ b ≠ y := fun {b u} e => ⟨ne_of_none e hx, ne_of_none e hy⟩
  have z0 : ∀ {b : Addr}, b ≠ x → b ≠ y → upd (upd M.H0 x o1) y o2 b = M.H0 b := fun {b} h1 h2 => by rw [upd_ne h2, upd_ne h1]
  have h0n : ∀ {b : Addr}, upd (upd M.H0 x o1) y o2 b = none → M.H0 b = none ∧ b ≠ x := fun {b} e => by
    by_cases h2 : b = y
    · rw [h2, upd_same] at e
      cases e
    · by_cases h1 : b = x
      · rw [upd_ne h2, h1, upd_same] at e
        cases e
      · rw [z0 h1 h2] at e
        exact ⟨e, h1⟩
  have nv : ∀ (m : Nat) (s : Slot), ((dropMe ρ).set i (some (.own ds)))[m]? = some (some s) → (i = m ∧ s = .own ds) ∨ (i ≠ m ∧ ρ[m]? = some (some s) ∧ s ≠ .me ∧ s ≠ .me2) := fun m s e => by
    rw [List.getElem?_set] at e
    by_cases hj : i = m
    · rw [if_pos hj, if_pos il2] at e
      cases e
      exact .inl ⟨hj, rfl⟩
    · rw [if_neg hj] at e
      exact .inr ⟨hj, dropMe_get e⟩
  refine ⟨by rw [List.length_set]; exact R.len.trans (by unfold dropMe; rw [List.length_map]), R.base, R.sub, fun b u e m => ?_, fun b e => ?_, fun j xs p e1 e2 => ?_, fun j s e => ?_, fun j k xs ys p ne e1 e2 e3 => ?_, fun y' k' e => (by rw [hs] at e; cases e), fun z hz => (by rw [hT] at hz; cases hz), fun z hz => (by rw [hT] at hz; cases hz), R.notb, fun b ⟨_, _, e, _⟩ => (by rw [hs] at e; cases e)⟩
  · obtain ⟨h1, h2⟩ := nn e
    refine R.full b u (by show upd (upd M.H0 x o1) y o2 b = some u; rw [z0 h1 h2]; exact e) fun z => ?_
    rcases z with ⟨k, z⟩ | ⟨q, z⟩ | ⟨_, _, z, z2⟩
    · cases z
      exact h1 rfl
    · have z : (b, q) ∈ M.T := z
      rw [hT] at z
      cases z
    · cases z
      cases z2
      exact h2 rfl
  · rcases R.fresh b e with z | z
    · exact .inl z
    · exact .inr (h0n z).1
  · rcases nv j _ e1 with ⟨rfl, z⟩ | ⟨hj, e1, _⟩
    · cases z
      rw [ei] at e2
      cases e2
      exact hx
    · exact (h0n (R.ownF j xs p e1 e2)).1
  · rcases nv j s e with ⟨rfl, rfl⟩ | ⟨hj, e, n1, n2⟩
    · exact ⟨_, ei, x, vs, rfl, f1, xf, f2, f3⟩
    · obtain ⟨v, h1, h2⟩ := R.slot j s e
      refine ⟨v, h1, ?_⟩
      cases s with
      | v d => exact h2
      | own ds => exact h2
      | me => exact (n1 rfl).elim
      | me2 => exact (n2 rfl).elim
  · rcases nv j _ e1 with ⟨rfl, z⟩ | ⟨hj, e1, _⟩
    · rw [ei] at e3
      cases e3
      rcases nv k _ e2 with ⟨rfl, _⟩ | ⟨hk, e2, _⟩
      · exact (ne rfl).elim
      · exact fun z => (h0n (R.ownF k ys x e2 z)).2 rfl
    · rcases nv k _ e2 with ⟨rfl, _⟩ | ⟨hk, e2, _⟩
      · intro z
        rw [ei] at z
        cases z
        exact (h0n (R.ownF j xs x e1 e3)).2 rfl
      · exact R.inj j k xs ys p ne e1 e2 e3
def fWith2 (i j : Nat) (f g : FS) : FS := fun ρ S => match f ((ρ.set i (some .me)).set j (some .me2)) (S2 [] []) with
  | .nx ρ1 S1 => (match isMe ρ1 i, two2 S1 with
    | true, some p => g ((dropMe ρ1).set i (some (.own p.1))) S
    | _, _ => .bad)
  | _ => .bad
section
variable {X : Cx} {M : Me}
theorem sv_with2 {st1 st2 st3 : Stmt} {rest : List Stmt} {i j : Nat} {f g : FS} (hs : M.self = none) (hT : M.T = []) (h1 : PS X st1 (tAsg (tLst tNil) (gName i))) (h2 : PS X st2 (tAsg (tDNewN X) (gName j))) (h3 : ∀ x y o1 o2, PS X st3 (rdS (M.with2 x y (DictN X.prog X.w y) o1 o2) f)) (h4 : PSs X rest (rdS M g)) : PSs X (st1 :: st2 :: st3 :: rest) (rdS M (fWith2 i j f g)) := by
  have h3' : PS X st3 (fun D σ H => ∃ x y o1 o2, rdS (M.with2 x y (DictN X.prog X.w y) o1 o2) f D σ H) := ⟨fun pins s σ H D I ⟨x, y, o1, o2, q⟩ => (h3 x y o1 o2).run pins s σ H D I q⟩
  refine pss_weak (pss_cons h1 (pss_cons h2 (pss_cons h3' h4))) fun D σ H ⟨ρ, S, Hf, R, q⟩ => ?_
  unfold fWith2 at q
  refine ⟨Nat.zero_le _, fun x hx => fun y hy => ?_⟩
  have n : y ≠ x := fun z => by
    subst z
    rw [upd_same] at hy
    cases hy
  have hy' : H y = none := by rw [upd_ne n] at hy; exact hy
  have R1 := R.take2 (o1 := .lst []) (o2 := .lst []) (D := DictN X.prog X.w y) hs hT hx hy' n (fun ws => dictN_tbl)
  have R2 : Rel (M.with2 x y (DictN X.prog X.w y) (.lst []) (.lst [])) ((σ.set i (some (.ref x))).set j (some (.ref y))) _ ((ρ.set i (some .me)).set j (some .me2)) (S2 [] []) Hf := (R1.setN (i := i) (v := .ref x) (s0 := .me) ⟨x, _, rfl, rfl⟩ (fun _ z => nomatch z)).setN (i := j) (v := .ref y) (s0 := .me2) ⟨y, ⟨x, _, rfl, rfl⟩, rfl⟩ (fun _ z => nomatch z)
  refine ⟨x, y, .lst [], .lst [], _, S2 [] [], Hf, R2, ?_⟩
  cases e : f ((ρ.set i (some .me)).set j (some .me2)) (S2 [] []) with
  | nx ρ1 S1 =>
    rw [e] at q
    intro σ' H' Hf' R' s'
    simp only at q
    cases em : isMe ρ1 i with
    | false => simp only [em] at q; exact q.elim
    | true =>
      cases e2 : two2 S1 with
      | none => simp only [em, e2] at q; exact q.elim
      | some p =>
        simp only [em, e2] at q
        exact ⟨_, S, Hf', R'.forget2 hs hT (R.H0none hx) (R.H0none hy') (isMe_ok em) e2, q.mono s'⟩
  | rt d S' => rw [e] at q; exact q.elim
  | er m v => rw [e] at q; exact q.elim
  | bk ρ S => rw [e] at q; exact q.elim
  | ct ρ S => rw [e] at q; exact q.elim
  | bad => rw [e] at q; exact q.elim
end
theorem hu9_of {A : Around} {k : Nat} (h : Room k A) : A.units + 9 < cLine := by
  have := h.un
  omega
theorem hu65_of {A : Around} {k : Nat} (h : Room k A) : A.units + 65 < cLine := by
  have := h.un
  omega
end PD

set_option Elab.async false
set_option linter.all false
set_option maxRecDepth 100000
set_option maxHeartbeats 2000000
namespace RBF
open PySem PySem.Spec PyProof.Rows L2 RB
section
variable {X : Cx} {CX : CXT} {k : Nat} {f C p g : Addr} {sp : Sp} {E : XK} {x m : Str} {mc : Value} {o e : Expr} {es : List Expr} {p1 pos apos : Pos} {ta : TE} {t : TA} {pl : Sem Bool}
/-- a def by its promise alone, called -/
theorem pe_callFR (F : FnR X.prog X.w X.K X.mg X.base CX k f sp) (hr : Room k X.A) (hk : PySem.W.keepIn X.K (.ref f) = true) (hg : Gl X x) (hm : X.mg x = some (.ref f)) (hx : Passes CX X E) (ha : PA X (e :: es) t) (hd : (x == ("__debug__" : Str)) = false := by decide)
    (he : starEach (e :: es) X.env = (false, eval e X.env) :: starEach es X.env := by rfl) (hpl : (backTo pos (starEach es X.env)).any (·.1) = false := by rfl) :
    PE X (.Call (.Name x p1) (e :: es) [] pos) (fun σ H Q => t σ H fun vs H1 => sp vs H1 Q E) := by
  refine ⟨fun pins s σ H Q I h => wpAny_Call_Name_kw (ld_glob I hg hm (PySem.W.callWith_K (h₀ := X.base) I.ok.mod.kin hk (thn (ha.run pos pins s σ H _ I h) fun us s1 z => ?_) he hpl) hd)⟩
  obtain ⟨vs, H1, I1, r, q⟩ := z
  exact ⟨I1.kIn, wpAny_call (run_fnR F hr hx I1 r q)⟩
theorem pe_callFR0 (F : FnR X.prog X.w X.K X.mg X.base CX k f sp) (hr : Room k X.A) (hk : PySem.W.keepIn X.K (.ref f) = true) (hg : Gl X x) (hm : X.mg x = some (.ref f)) (hx : Passes CX X E) (hd : (x == ("__debug__" : Str)) = false := by decide) :
    PE X (.Call (.Name x p1) [] [] pos) (fun _ H Q => sp [] H Q E) :=
  ⟨fun pins s σ H Q I h => wpAny_Call_Name_kw (ld_glob I hg hm (PySem.W.callWith_K0 I.kIn hk (wpAny_call (run_fnR (us := []) (vs := []) F hr hx I .nil h))) hd)⟩
end
end RBF
namespace PD
open PySem PySem.Spec PyProof.Rows L2 RB
/-- def f(*xs) -/
def spFv (K : PySem.W.Frag) (ec : Str → Addr) (F : List Dat → RF) : Sp := fun vs H Q E => ∃ n, spF K ec n F vs H Q E
def starF (N : Nat) (f : FS) : List Dat → RF := fun ds => if ds.length ≤ 100000 then runF N f [.tup ds] else .bad
section
variable {P : Program} {w : World} {K : PySem.W.Frag} {mg : Str → Option Value} {base : Heap}
theorem fnR_starF {CX : CXT} {k : Nat} {f : Addr} {ec : Str → Addr} {F G : List Dat → RF} (hF : ∀ ds, F ds ≠ .bad → ds.length ≤ 100000 ∧ G [.tup ds] = F ds)
    (h : FnR P w K mg base CX k f (fun vs H Q E => ∃ ws rest, vs = ws ++ rest ∧ ws.length = ([] : List Str).length ∧ rest.length ≤ sizeLine ∧ ∀ p, H p = none → spF K ec 1 G (ws ++ [V.ref p]) (upd H p (.tup rest)) Q E)) : FnR P w K mg base CX k f (spFv K ec F) := by
  refine FnR.imp h fun vs H Q E hs => ?_
  obtain ⟨n, ds, Hs, hl, s, hv, q⟩ := hs
  have hb : F ds ≠ .bad := fun z => by rw [z] at q; exact q
  obtain ⟨h1, h2⟩ := hF ds hb
  refine ⟨[], vs, rfl, rfl, by rw [hv.length]; exact line5 h1, fun p hp => ?_⟩
  have hpf := none_of_same s hp
  have sm := upd_new (o := .tup vs) hpf
  refine ⟨[.tup ds], upd Hs p (.tup vs), rfl, fun b u e => ?_, .cons (.tup (.inl (.inl upd_same)) (by rw [hv.length]; exact h1) (hv.same sm)) .nil, ?_⟩
  · by_cases hb : b = p
    · subst hb
      rw [upd_same] at e ⊢
      exact e
    · rw [upd_ne hb] at e ⊢
      exact s _ _ e
  · rw [h2]
    cases e : F ds with
    | bad => exact hb e
    | ok d =>
      rw [e] at q
      intro v H' Hs' s1 s2 s3 fr nt hd
      refine q v H' Hs' (fun b o z => s1 b o (upd_new hp _ _ z)) (sm.trans s2) s3 (fun b z => ?_) (fun b ps z => by
        have y := nt b ps z
        by_cases hb : b = p
        · rw [hb, upd_same] at y
          cases y
        · rw [upd_ne hb] at y
          exact y) hd
      by_cases hb : b = p
      · subst hb
        exact .inr hp
      · rcases fr b z with y | y
        · rw [upd_ne hb] at y
          exact .inl y
        · rw [upd_ne hb] at y
          exact .inr y
    | er m v =>
      rw [e] at q
      intro dd H' s1 h1 h2
      have nd : dd ≠ p := fun z => by
        rw [z, upd_same] at h1
        cases h1
      rw [upd_ne nd] at h1
      exact q dd H' (fun b o z => s1 b o (upd_new hp _ _ z)) h1 h2
end
section
variable {X : Cx} {M : Me}
theorem ev_callR {e : Expr} {F : List Dat → RF} {fa : FA} {ec : Str → Addr} {K' : PySem.W.Frag} (hK : M.K = K') (hec : M.ec = ec) (h : PE X e (fun σ H Q => rdA M fa σ H fun vs H1 => spFv K' ec F vs H1 Q M.E)) : PE X e (rdE M (fCall F fa)) := pe_weak h fun σ H Q ⟨ρ, S, Hf, R, q⟩ => by
  refine ⟨ρ, S, Hf, R, ?_⟩
  unfold fCall RA.bind at q
  cases e1 : fa ρ S with
  | er n v => simp only [e1] at q; exact q
  | bad => simp only [e1] at q
  | ok ds S1 =>
    simp only [e1] at q
    intro vs H1 Hf1 T1 hv
    refine ⟨ds.length, ds, Hf1, rfl, T1.rel.sub, ?_, ?_⟩
    · rw [← hK]
      exact hv
    · unfold RF.re at q
      cases eF : F ds with
      | ok d =>
        simp only [eF] at q
        intro v H' Hs' s1 s2 s3 fr nt hd
        refine q v H' Hs' (T1.trans ⟨T1.rel.called s1 s2 s3 fr nt, s2, fun b o e _ _ => s1 _ _ e, fshN fr⟩) ?_
        rw [hK]
        exact hd
      | er m v =>
        simp only [eF] at q
        intro dd H' s1 h1 h2
        rw [← hec]
        exact q dd H' (fun b o e m => s1 _ _ (T1.rel.full b o e m)) (T1.rel.H0none h1) h2
      | bad => simp only [eF] at q
theorem ev_callR0 {e : Expr} {F : List Dat → RF} {ec : Str → Addr} {K' : PySem.W.Frag} (hK : M.K = K') (hec : M.ec = ec) (h : PE X e (fun _ H Q => spFv K' ec F [] H Q M.E)) : PE X e (rdE M (fCall F fNil)) := pe_weak h fun σ H Q ⟨ρ, S, Hf, R, q⟩ => by
  unfold fCall RA.bind fNil at q
  simp only at q
  refine ⟨0, [], Hf, rfl, R.sub, .nil, ?_⟩
  unfold RF.re at q
  cases eF : F [] with
  | ok d =>
    simp only [eF] at q
    intro v H' Hs' s1 s2 s3 fr nt hd
    refine q v H' Hs' ⟨R.called s1 s2 s3 fr nt, s2, fun b o e _ _ => s1 _ _ e, fshN fr⟩ ?_
    rw [hK]
    exact hd
  | er m v =>
    simp only [eF] at q
    intro dd H' s1 h1 h2
    rw [← hec]
    exact q dd H' (fun b o e m => s1 _ _ (R.full b o e m)) (R.H0none h1) h2
  | bad => simp only [eF] at q
end
end PD

set_option Elab.async false
set_option linter.all false
set_option maxRecDepth 100000
set_option maxHeartbeats 2000000
/-! zip of a tuple and a list -/
namespace RBZ
open PySem PySem.Spec PyProof.Rows L2
/-- the tuple at a, the list at b -/
def ItzM (K : PySem.W.Frag) (a b : Addr) : It :=
  ⟨fun i H => ∃ (xs ys : List V) (x y : V), SqT K H a xs ∧ SqL K H b ys ∧ xs[i]? = some x ∧ ys[i]? = some y,
    fun i H v H' => ∃ N x y, v = .ref N ∧ H N = none ∧ H' = upd H N (.tup [x, y]) ∧ (∀ xs, SqT K H a xs → xs[i]? = some x) ∧ ∀ ys, SqL K H b ys → ys[i]? = some y,
    fun i H => ∃ xs ys : List V, SqT K H a xs ∧ SqL K H b ys ∧ (xs.length ≤ i ∨ ys.length ≤ i) ∧ i ≤ xs.length ∧ i ≤ ys.length⟩
theorem sep_of {z TI TO i1 i2 a b : Addr} (D : ZipApart z TI TO i1 i2 a b) : ZipSep2 z TI TO i1 i2 [i1, a] [i2, b] where
  TIz := D.TIz
  TOz := D.TOz
  TITO := D.TITO
  TIi1 := D.TIi1
  mem1 := by simp
  zf1 := by simp [D.i1z.symm, D.l1z.symm]
  Tf1 := by simp [D.TOi1, D.l1TO.symm]
  TIi2 := D.TIi2
  mem2 := by simp
  zf2 := by simp [D.i2z.symm, D.l2z.symm]
  Tf2 := by simp [D.TOi2, D.l2TO.symm]
  sep1_2 := by simp [D.i12, D.l2i1.symm]
  sep2_1 := by simp [D.i12.symm, D.l1i2.symm]
/-- how the zip stands at turn i -/
def StM (a b z TI TO i1 i2 : Addr) (i : Nat) (h : Heap) : Prop := IsZip h z TI TO .none ∧ IsPair h TI (.ref i1) (.ref i2) ∧ (∃ x y, IsPair h TO x y) ∧ h.IsTupleIter i1 a i ∧ h.IsListIter i2 b i
theorem five {z TI TO i1 i2 c : Addr} (h : c ∈ [z, TI, TO, i1, i2]) : c = z ∨ c = TI ∨ c = TO ∨ c = i1 ∨ c = i2 := by simpa using h
theorem five_not {z TI TO i1 i2 c : Addr} (h : c ∉ [z, TI, TO, i1, i2]) : c ≠ z ∧ c ≠ TI ∧ c ≠ TO ∧ c ≠ i1 ∧ c ≠ i2 := by simpa using h
theorem StM.at {a b z TI TO i1 i2 : Addr} {i : Nat} {h : Heap} (st : StM a b z TI TO i1 i2 i h) {c : Addr} (hc : c ∈ [z, TI, TO, i1, i2]) : ∃ o, h.get? c = some o ∧ c < h.objs.size := by
  obtain ⟨s1, s2, ⟨x, y, s3⟩, ⟨o1, e1, _⟩, ⟨o2, e2, _⟩⟩ := st
  rcases five hc with q | q | q | q | q <;> rw [q]
  · exact ⟨_, s1, Heap.lt_size s1⟩
  · exact ⟨_, s2, Heap.lt_size s2⟩
  · exact ⟨_, s3, Heap.lt_size s3⟩
  · exact ⟨_, e1, Heap.lt_size e1⟩
  · exact ⟨_, e2, Heap.lt_size e2⟩
theorem turn_zipM {P : Program} {w : World} {K : PySem.W.Frag} {elts : List Expr} {kk : Nat} {tpos : Pos} {a b z TI TO i1 i2 : Addr} (D : ZipApart z TI TO i1 i2 a b) :
    Turn P w K (.Tuple elts kk tpos) (ItzM K a b) [z, TI, TO, i1, i2] z (StM a b z TI TO i1 i2) where
  mem := by simp
  obj := fun i h st c hc => by
    obtain ⟨s1, s2, ⟨x, y, s3⟩, ⟨o1, e1, _, d1⟩, ⟨o2, e2, _, d2⟩⟩ := st
    rcases five hc with q | q | q | q | q <;> rw [q]
    · exact ⟨_, s1, fun v q => nomatch q⟩
    · exact ⟨_, s2, fun v q => nomatch q⟩
    · exact ⟨_, s3, fun v q => nomatch q⟩
    · exact ⟨o1, e1, fun v q => by rw [d1] at q; cases q⟩
    · exact ⟨o2, e2, fun v q => by rw [d2] at q; cases q⟩
  keep := fun i h h' ⟨s1, s2, ⟨x, y, s3⟩, s4, s5⟩ k =>
    ⟨k z (by simp) _ s1, k TI (by simp) _ s2, ⟨x, y, k TO (by simp) _ s3⟩, s4.at fun o q => k i1 (by simp) o q, s5.at fun o q => k i2 (by simp) o q⟩
  item := by
    intro X hP hw hK hc i pins s σ H E I hf st hg
    subst hP hw hK
    have st0 := st
    obtain ⟨s1, s2, ⟨x0, y0, s3⟩, s4, s5⟩ := st
    obtain ⟨xs, ys, x, y, hqx, hqy, hx, hy⟩ := hg
    obtain ⟨its, rv, p, _⟩ := I.tuple hqx
    obtain ⟨its2, rv2, p2, _⟩ := I.list hqy
    obtain ⟨u, hu, ru⟩ := rv.get hx
    obtain ⟨u2, hu2, ru2⟩ := rv2.get hy
    have hh : X.A.in1.handled = none := I.ok.hd hc
    have hzl : z < s.heap.objs.size := Heap.lt_size s1
    have b1 : i < its.toArray.size := by
      have := (List.getElem?_eq_some_iff.mp hu).1
      simpa using this
    have b2 : i < its2.toArray.size := by
      have := (List.getElem?_eq_some_iff.mp hu2).1
      simpa using this
    apply wpAny_pyNext_zipD2_item (sep_of D) (Draws.tuple hh i1 a D.l1i1 its.toArray) (Draws.list hh i2 b D.l2i2 its2.toArray) s1 s2 s3 ⟨s4, p⟩ ⟨s5, p2.isList⟩ b1 b2
    intro v1 v2 h' tk y1 y2 c1 c2 c3 c4 c5 c6 c7
    obtain rfl : u = v1 := by
      have : its[i]? = some v1 := by simpa using y1
      rw [hu] at this
      exact Option.some.inj this
    obtain rfl : u2 = v2 := by
      have : its2[i]? = some v2 := by simpa using y2
      rw [hu2] at this
      exact Option.some.inj this
    refine ⟨_, rfl, wpAny_letOwnedTupleGo_zip (s := { s with heap := h', toks := tk }) c1 fun g c8 sb => ?_⟩
    have up : ∀ c o, c ∉ [z, TI, TO, i1, i2] → s.heap.get? c = some o → g.get? c = some o := fun c o n e => by
      obtain ⟨n1, n2, n3, n4, n5⟩ := five_not n
      exact (sb.2 c n1).trans (c7 c o n1 n3 n4 n5 e)
    have c9 : g.get? s.heap.objs.size = some { cls := .type "tuple", data := .seq #[u, u2] } := (sb.2 _ (Nat.ne_of_gt hzl)).trans c5
    have new : ObjOk X.prog X.w (upd H s.heap.objs.size (.tup [x, y])) g s.heap.objs.size (.tup [x, y]) := ⟨show 2 ≤ sizeLine by decide, [u, u2], .cons ru (.cons ru2 .nil), _, c9, rfl, _, rfl⟩
    have I1 := I.turnedNew (t' := tk) (ch := [z, TI, TO, i1, i2]) up hf (Nat.le_refl _) new
    refine ⟨.ref s.heap.objs.size, _, I1, rfl, ⟨_, x, y, rfl, I.hok.fresh (Nat.le_refl _), rfl, fun l hl => ?_, fun l hl => ?_⟩, ⟨c8, ?_, ⟨u, u2, (sb.2 _ D.TOz).trans c2⟩, ?_, ?_⟩, fun c hcm => ?_⟩
    · rw [I.tuple_inj hl hqx]
      exact hx
    · rw [I.list_inj hl hqy]
      exact hy
    · exact (sb.2 _ D.TIz).trans (c7 _ _ D.TIz D.TITO D.TIi1 D.TIi2 s2)
    · exact c3.1.at fun o q => (sb.2 _ D.i1z).trans q
    · exact c4.1.at fun o q => (sb.2 _ D.i2z).trans q
    · obtain ⟨_, _, lt⟩ := st0.at hcm
      rw [upd_ne (Nat.ne_of_lt lt)]
      exact (hf c hcm).1
  done := by
    intro X hP hw hK hc i pins s σ H E I hf st hg
    subst hP hw hK
    obtain ⟨s1, s2, ⟨x0, y0, s3⟩, s4, s5⟩ := st
    obtain ⟨xs, ys, hqx, hqy, hend, h1, h2⟩ := hg
    obtain ⟨its, rv, p, _⟩ := I.tuple hqx
    obtain ⟨its2, rv2, p2, _⟩ := I.list hqy
    have l1 := rv.length
    have l2 := rv2.length
    have hh : X.A.in1.handled = none := I.ok.hd hc
    have z1 : its.toArray.size = its.length := by simp
    have z2 : its2.toArray.size = its2.length := by simp
    apply wpAny_pyNext_zipD2_end (sep_of D) (Draws.tuple hh i1 a D.l1i1 its.toArray) (Draws.list hh i2 b D.l2i2 its2.toArray) s1 s2 s3 ⟨s4, p⟩ ⟨s5, p2.isList⟩ (by omega) (by omega) (by omega)
    intro h' tk k
    refine ⟨rfl, I.turnedL (t' := tk) (ch := [z, TI, TO, i1, i2]) (fun c o n e => ?_) hf⟩
    obtain ⟨n1, n2, n3, n4, n5⟩ := five_not n
    exact k c o n1 n3 n4 n5 e
  self := fun A i s Q E st h => wpAny_pyIter_zip st.1 h
/-- the heaps on the way to a new zip -/
abbrev hA (h : Heap) (a : Addr) : Heap := h.push { cls := .type "tuple_iterator", data := .fields #[.ref a, .int 0 0] }
abbrev hB (h : Heap) (a b : Addr) : Heap := (hA h a).push { cls := .type "list_iterator", data := .fields #[.ref b, .int 0 0] }
abbrev hC (h : Heap) (a b : Addr) : Heap := (hB h a b).push { cls := .type "tuple", data := .seq #[.ref h.objs.size, .ref (hA h a).objs.size] }
abbrev hD (h : Heap) (a b : Addr) : Heap := (hC h a b).push { cls := .type "tuple", data := .seq #[.none, .none] }
abbrev hE (h : Heap) (a b : Addr) : Heap := (hD h a b).push { cls := .type "zip", data := .fields #[.none, .bool false, .bool false, .ref (hB h a b).objs.size, .ref (hC h a b).objs.size] }
theorem new_M (a b : Addr) (xs ys : Array Value) :
    Meets (Builtin.«zip.__new__» ⟨[.type "zip", .ref a, .ref b], []⟩) (fun _ R s => s.heap.IsTuple a xs ∧ s.heap.IsList b ys ∧ R (.ok (.ret (.ref (hD s.heap a b).objs.size))) { s with heap := hE s.heap a b }) :=
  .of_wp fun prog w A R s q => by
    obtain ⟨hp, g, d, tk, os⟩ := s
    obtain ⟨q1, q2, q⟩ := q
    have hsub := sub_zip
    have e1 : Heap.IsTuple (Shared.heap ⟨hp, g, d, tk, os⟩) a xs := q1
    have e2 : Heap.IsList (Shared.heap ⟨hp.push { cls := .type "tuple_iterator", data := .fields #[.ref a, .int 0 0] }, g, d, tk, os⟩) b ys := Heap.IsList.push q2 _
    wp_walk using wpAny_pyIter_tuple e1, wpAny_pyIter_list e2
    exact ⟨_, rfl, q⟩
section
variable {prog : Program} {w : World} {A : Around} {E : Value → Shared → Prop} {s : Shared}
theorem call_M {a b : Addr} {xs ys : Array Value} {Q : Value → Shared → Prop} (q1 : s.heap.IsTuple a xs) (q2 : s.heap.IsList b ys)
    (q : ∀ g, StM a b (s.heap.objs.size + 4) (s.heap.objs.size + 2) (s.heap.objs.size + 3) s.heap.objs.size (s.heap.objs.size + 1) 0 g → (∀ c o, s.heap.get? c = some o → g.get? c = some o) → Q (.ref (s.heap.objs.size + 4)) { s with heap := g }) : wpAny (model prog w) A (call (.type "zip") [.ref a, .ref b]) Q E s := by
  refine callType_new F.called_zip (by decide) (F.typeCall_zip_2 _ _) (F.newCall_zip_2 _ _) (fun o => F.args_object_init_3 o _ _) F.entry_zip_new (new_M a b xs ys) ⟨q1, q2, ?_⟩
  have za : (hA s.heap a).objs.size = s.heap.objs.size + 1 := Heap.size_push ..
  have zb : (hB s.heap a b).objs.size = s.heap.objs.size + 2 := by rw [Heap.size_push, za]
  have zc : (hC s.heap a b).objs.size = s.heap.objs.size + 3 := by rw [Heap.size_push, zb]
  have zd : (hD s.heap a b).objs.size = s.heap.objs.size + 4 := by rw [Heap.size_push, zc]
  have ge : (hE s.heap a b).get? (hD s.heap a b).objs.size = some _ := Heap.get?_push_size _ rfl
  have up : ∀ {h : Heap} {o : Obj} {c : Addr} {u : Obj}, h.get? c = some u → (h.push o).get? c = some u := fun e => Heap.get?_push_of_some _ e
  have gd : (hE s.heap a b).get? (hC s.heap a b).objs.size = some _ := up (Heap.get?_push_size _ rfl)
  have gc : (hE s.heap a b).get? (hB s.heap a b).objs.size = some _ := up (up (Heap.get?_push_size _ rfl))
  have gb : (hE s.heap a b).get? (hA s.heap a).objs.size = some _ := up (up (up (Heap.get?_push_size _ rfl)))
  have ga : (hE s.heap a b).get? s.heap.objs.size = some _ := up (up (up (up (Heap.get?_push_size _ rfl))))
  show _ ∧ _
  rw [zb, zc, zd] at ge
  rw [za, zb] at gc
  rw [zc] at gd
  rw [za] at gb
  rw [zd]
  exact ⟨⟨_, ge, rfl⟩, q _ ⟨ge, gc, ⟨_, _, gd⟩, ⟨_, ga, rfl, rfl⟩, ⟨_, gb, rfl, rfl⟩⟩ fun c o e => up (up (up (up (up e))))⟩
end
/-- zip(x, y): a tuple and a list -/
def iZipM (K : PySem.W.Frag) (ta : TA) : TI := fun σ H R => ta σ H fun vs H1 => ∃ a b xs ys, vs = [.ref a, .ref b] ∧ SqT K H1 a xs ∧ SqL K H1 b ys ∧ R (ItzM K a b) H1
theorem pi_zipM {X : Cx} {e e2 : Expr} {ta : TA} {p pos tpos : Pos} {elts : List Expr} {kk : Nat} (hg : Gl X "zip") (hm : X.mg "zip" = none) (ha : PA X [e, e2] ta)
    (hs : starEach [e, e2] X.env = (false, eval e X.env) :: starEach [e2] X.env := by exact rfl) (hpl : (backTo pos (starEach [e2] X.env)).any (·.1) = false := by exact rfl) :
    PI X (.Tuple elts kk tpos) (.Call (.Name "zip" p) [e, e2] [] pos) (iZipM X.K ta) := ⟨fun pins s σ H R I h => by
  refine Call_ (ld_blt I hg hm PyProof.Rows.boot_zip ?_)
  refine PyProof.Rows.callWith_type1 (thn (ha.run pos pins s σ H _ I h) fun us s1 ⟨vs, H1, I1, r1, a, b, xs, ys, ex, qx, qy, q⟩ => ?_) hs hpl
  subst ex
  rcases r1 with _ | ⟨r, rr⟩
  rcases rr with _ | ⟨r', rr⟩
  cases rr
  cases r
  cases r'
  obtain ⟨its, rv, p1, _⟩ := I1.tuple qx
  obtain ⟨its2, rv2, p2, _⟩ := I1.list qy
  have p1' : s1.heap.IsTuple a its.toArray := p1
  obtain ⟨o1, ho1, _⟩ := id p1
  refine call_M p1' p2.isList fun g st k => wpAny_pyIter_zip st.1 ?_
  have fr : ∀ c, c ∈ [s1.heap.objs.size + 4, s1.heap.objs.size + 2, s1.heap.objs.size + 3, s1.heap.objs.size, s1.heap.objs.size + 1] → FpOk X pins H1 c := fun c hcm => by
    have le : s1.heap.objs.size ≤ c := by rcases five hcm with z | z | z | z | z <;> rw [z] <;> first | exact Nat.le_refl _ | exact Nat.le_add_right _ _
    exact I1.fpOk le (I1.hok.fresh le)
  have D := PySem.W.ktu_apart s1.heap.objs.size a b (Heap.lt_size ho1) p2.lt
  exact ⟨_, _, _, _, H1, rfl, I1.kept (t' := s1.toks) k, turn_zipM D, st, fr, q⟩⟩
end RBZ
namespace PD
open PySem PySem.Spec PyProof.Rows L2 RB RBZ
theorem Walks.zipM {K : PySem.W.Frag} {Hf : Hp} {a b : Addr} {xs ys : List V} {as bs : List Dat} (ha : SqT K Hf a xs) (hb : SqL K Hf b ys) (va : DVs K Hf xs as) (vb : DVs K Hf ys bs) (hl : as.length = bs.length) : Walks K (ItzM K a b) Hf (zipD as bs) where
  stop := fun H s => ⟨xs, ys, Kp.sqT (.of s) ha, Kp.sqL (.of s) hb, by
    rw [va.length, vb.length]
    simp only [zipD, List.length_map, List.length_zip]
    omega⟩
  go := fun i H hi s => by
    simp only [zipD, List.length_map, List.length_zip] at hi
    have h1 : i < xs.length := by rw [va.length]; omega
    have h2 : i < ys.length := by rw [vb.length]; omega
    exact ⟨xs, ys, xs[i], ys[i], Kp.sqT (.of s) ha, Kp.sqL (.of s) hb, List.getElem?_eq_getElem h1, List.getElem?_eq_getElem h2⟩
  yld := fun i d x H H' hd s y => by
    obtain ⟨T, u, v, rfl, hT, rfl, f1, f2⟩ := y
    have e1 := f1 xs (Kp.sqT (.of s) ha)
    have e2 := f2 ys (Kp.sqL (.of s) hb)
    obtain ⟨p, q, h1, h2, rfl⟩ := zipD_get hd
    obtain ⟨p', h1', hp⟩ := va.get' e1
    obtain ⟨q', h2', hq⟩ := vb.get' e2
    rw [h1] at h1'
    rw [h2] at h2'
    cases h1'
    cases h2'
    refine .inr ⟨T, _, hT, (by intro _ z; cases z), rfl, fun Hg sg hg => .tup (.inl (.inl upd_same)) (by simp) (.cons ?_ (.cons ?_ .nil))⟩
    · exact (hp.same sg).same (upd_new hg)
    · exact (hq.same sg).same (upd_new hg)
def zipOfM : List Dat → Option (List Dat)
  | [.tup a, .lst b] => if a.length = b.length then some (zipD a b) else none
  | _ => none
def fForZM (a : FA) (g : FG) (b : FS) : FS := fun ρ S => match a ρ S with
  | .ok ds S1 => match zipOfM ds with
    | some es => fForL g b es ρ S1
    | none => .bad
  | .er n v => .er n v
  | .bad => .bad
theorem sv_forZM {X : Cx} {M : Me} {tg iter : Expr} {body : List Stmt} {pos : Pos} {f : FA} {fb : FS} {g : TG} {fg : FG} (hK : M.K = X.K) (hg : SimG M g fg) (h : PS X (.For tg iter body [] pos) (tFor (iZipM X.K (rdA M f)) g (rdS M fb))) : PS X (.For tg iter body [] pos) (rdS M (fForZM f fg fb)) := ps_weak h fun D σ H ⟨ρ, S, Hf, R, q⟩ => by
  refine ⟨ρ, S, Hf, R, ?_⟩
  unfold fForZM at q
  cases e1 : f ρ S with
  | er n v => simp only [e1] at q; exact q
  | bad => simp only [e1] at q; exact q.elim
  | ok ds S1 =>
    simp only [e1] at q
    intro x H1 Hf1 T1 hx
    cases ez : zipOfM ds with
    | none => simp only [ez] at q; exact q.elim
    | some es =>
      simp only [ez] at q
      unfold zipOfM at ez
      split at ez
      · split at ez
        · rename_i hl
          cases ez
          cases hx with
          | cons h1 t =>
            cases t with
            | cons h2 t =>
              cases t
              cases h1 with
              | tup a la va =>
                cases h2 with
                | lst b lb vb => exact ⟨_, _, _, _, rfl, by rw [← hK]; exact Kp.sqT (.of T1.rel.sub) a, .inl (.inl (T1.rel.sub _ _ b)), by rw [← hK]; exact post_for (Walks.zipM a (.inl (.inl b)) va vb hl) hg T1.rel (q.mono T1.same)⟩
        · cases ez
      · cases ez
end PD

set_option Elab.async false
set_option linter.all false
set_option maxRecDepth 100000
set_option maxHeartbeats 2000000
namespace PD
open PySem PySem.Spec PyProof.Rows L2 RB
/-! ### a law as a function of what its generator holds -/
/-- the generator's list, as data -/
def rngF (ns : List Int) (i b s : Int) : Fld := [((("" : Str)), Dat.lst (ns.map Dat.int)), (("" : Str), Dat.int i), (("" : Str), Dat.int b), (("" : Str), Dat.int s)]
def RngS (S : Fld) : Prop := ∃ (ns : List Int) (i b s : Int), S = rngF ns i b s ∧ ns.length ≤ 1000 ∧ 0 ≤ i ∧ 0 ≤ b ∧ 0 ≤ s ∧ s < 2147483647
def spDraws2 (K : PySem.W.Frag) : Sp := fun vs H Q _ => ∃ (a : Addr) (ns : List Int), vs = [.ref a] ∧ SqL K H a (ns.map V.int) ∧ ns.length ≤ 1000 ∧
  ∀ (H' : Hp) (r c : Addr) (ms : List Int) (i b s : Int), H' r = some (.lst [.ref c, .int i, .int b, .int s]) → H' c = some (.lst (ms.map V.int)) → Same H H' → ms.length ≤ 1000 → 0 ≤ i → 0 ≤ b → 0 ≤ s → s < 2147483647 → Q (.ref r) H'
def spLawN (K : PySem.W.Frag) : Sp := fun vs H Q _ => ∃ (a : Addr) (ns : List Int), vs = [.ref a] ∧ SqL K H a (ns.map V.int) ∧ ns.length ≤ 63 ∧ ∀ H', Q (.bl true) H'
abbrev lamQ : Str := (("law" : Str) ++ ".<locals>.") ++ "<lambda>"
def spLawT (K : PySem.W.Frag) (Pt : Addr) : Sp := fun vs H Q _ => ∃ (a : Addr) (ns : List Int), vs = [.ref a] ∧ SqL K H a (ns.map V.int) ∧ ns.length ≤ 63 ∧ H Pt = some (.tbl #[]) ∧ ∀ H', Q (.bl true) H'
/-- no table stands in it -/
def NoTb (H : Hp) : Prop := ∀ b ps, H b ≠ some (.tbl ps)
theorem noTb1 {r : Addr} {xs : List V} : NoTb (upd (fun _ => none) r (.lst xs)) := fun b ps e => by
  by_cases h : b = r
  · subst h
    rw [upd_same] at e
    cases e
  · rw [upd_ne h] at e
    cases e
def startL (n : Nat) : DEnv := none :: some .me :: List.replicate (n - 2) none
theorem startL_get {n i : Nat} {s : Slot} (h : (startL n)[i]? = some (some s)) : i = 1 ∧ s = .me := by
  unfold startL at h
  match i, h with
  | 0, h => cases h
  | 1, h => cases h; exact ⟨rfl, rfl⟩
  | i + 2, h =>
    have h : (List.replicate (n - 2) (none : Option Slot))[i]? = some (some s) := h
    rw [List.getElem?_replicate] at h
    split at h <;> cases h
theorem dvs_ints {K : PySem.W.Frag} {H : Hp} : ∀ ms : List Int, DVs K H (ms.map V.int) (ms.map Dat.int)
  | [] => .nil
  | _ :: r => .cons (.int _) (dvs_ints r)
section
variable {P : Program} {w : World} {K : PySem.W.Frag} {mg : Str → Option Value} {base : Heap}
/-- where the law's generator stands -/
theorem rel_law {H : Hp} {r c : Addr} {ms : List Int} {i b s : Int} {ec : Str → Addr} {E : XK} {n : Nat} {σ : L2.St} (hr : H r = some (.lst [.ref c, .int i, .int b, .int s])) (hc : H c = some (.lst (ms.map V.int))) {T : List (Addr × Str)} (hT : LamX.Tabs T H) (hl : ms.length ≤ 1000) (hσ : σ.length = n) (hn : 2 ≤ n) :
    Rel ⟨K, upd (fun _ => none) r (.lst [.ref c, .int i, .int b, .int s]), fun _ => none, E, ec, some (r, .lst), T⟩ (σ.set 1 (some (.ref r))) H (startL n) (rngF ms i b s) (upd (fun _ => none) c (.lst (ms.map V.int))) := by
  have ne : c ≠ r := fun z => by
    subst z
    rw [hc] at hr
    have z2 : ms.map V.int = [.ref c, .int i, .int b, .int s] := HO.lst.inj (Option.some.inj hr)
    cases ms with
    | nil => cases z2
    | cons y l => have z3 := (List.cons.inj z2).1; cases z3
  refine ⟨?_, fun b u e => (nomatch (e : (none : Option HO) = some u)), fun b u e => ?_, fun b u e m => ?_, fun b e => ?_, fun j ds p e1 e2 => ?_, fun j s e => ?_, fun j k ds es p n0 e1 e2 e3 => ?_, fun x k e => ?_, hT, fun z hz => ?_, fun b ps e => ?_, fun b ⟨_, _, e, m⟩ => (by cases e; cases m)⟩
  · rw [List.length_set, hσ]
    unfold startL
    simp
    omega
  · by_cases h : b = c
    · subst h
      rw [upd_same] at e
      cases e
      exact hc
    · rw [upd_ne h] at e
      cases e
  · by_cases h : b = r
    · subst h
      exact (m (.inl ⟨_, rfl⟩)).elim
    · have e : upd (fun _ => none) r _ b = some u := e
      rw [upd_ne h] at e
      cases e
  · by_cases h : b = c
    · subst h
      exact .inr (by dsimp only; rw [upd_ne ne])
    · rw [upd_ne h] at e
      exact (e rfl).elim
  · obtain ⟨_, z⟩ := startL_get e1
    cases z
  · obtain ⟨rfl, rfl⟩ := startL_get e
    exact ⟨.ref r, by rw [List.getElem?_set, if_pos rfl, if_pos (by omega)], r, .lst, rfl, rfl⟩
  · obtain ⟨_, z⟩ := startL_get e1
    cases z
  · cases e
    refine ⟨by rw [upd_ne ne.symm], by dsimp only; rw [upd_same]; simp, _, hr, by simp, ?_⟩
    exact .cons (.lst upd_same (by rw [List.length_map]; omega) (dvs_ints ms)) (.cons (.int i) (.cons (.int b) (.cons (.int s) .nil)))
  · obtain ⟨ps, e, _⟩ := hT z hz
    have nz : z.1 ≠ c := fun q => by
      rw [q, hc] at e
      cases e
    rw [upd_ne nz]
  · by_cases hb : b = c
    · subst hb
      rw [upd_same] at e
      cases e
    · rw [upd_ne hb] at e
      cases e
theorem fnLaw {st s0 : Stmt} {rest : List Stmt} {f : Addr} {fd : FuncData} {N : List Str} {k : Nat} {F : FS} {ec : Str → Addr} (Fu : L2.Fun K "law" "law" st f fd) (S : FnScope N ["_law_script"] (defScope st)) (hb : defBody st = s0 :: rest) (hn : 2 ≤ N.length)
    (h1 : ∀ (cdv : Value) (A : Around) (outer : List PySem.Env) (s : Shared) (H : Hp) (E : XK), Room k (A.deeper (envOfC "law" (defScope st) s.heap.objs.size f cdv)) → PS (cxOf CX0 P w K mg base N "law" (defScope st) f cdv A outer s H E).nox s0 (tAsg (tCall (spDraws2 K) [] E0 (tCons (tVar 0) tNil)) (gName 1)))
    (h2 : ∀ (cdv : Value) (A : Around) (outer : List PySem.Env) (s : Shared) (H0 : Hp) (E0 : XK) (H Hs : Hp) (E : XK) (y : Addr) (kk : MK), kk = .lst → Room k (A.deeper (envOfC "law" (defScope st) s.heap.objs.size f cdv)) → PSs (cxOf CX0 P w K mg base N "law" (defScope st) f cdv A outer s H0 E0).nox rest (rdS ⟨K, H, Hs, E, ec, some (y, kk), []⟩ F))
    (hF : ∀ S, RngS S → ∃ S', F (startL N.length) S = .rt (.bl true) S') : FnOk P w K mg base CX0 (k + 1) f fd ["_law_script"] (spLawN K) := by
  refine Fu.ok S (fun vs H Q E h => ?_) (fun cdv A outer s H vs Q E hr h => ?_)
  · obtain ⟨a, ns, rfl, _⟩ := h
    rfl
  · obtain ⟨a, ns, rfl, hS, hl, q⟩ := h
    have h2' : PSs (cxOf CX0 P w K mg base N "law" (defScope st) f cdv A outer s H E).nox rest (fun D σ H' => ∃ H1 Hs E1 y, rdS ⟨K, H1, Hs, E1, ec, some (y, .lst), []⟩ F D σ H') := ⟨fun pins s' σ H' D I ⟨H1, Hs, E1, y, q⟩ => (h2 cdv A outer s H E H1 Hs E1 y .lst rfl hr).run pins s' σ H' D I q⟩
    refine ⟨_, by rw [hb]; exact pss_cons (h1 cdv A outer s H E hr) h2', ?_⟩
    refine ⟨.ref a, rfl, a, ns, rfl, hS, by omega, fun H' r c ms i b sl hr' hc s1 hm h0 h3 h4 h5 => ?_⟩
    obtain ⟨S', eF⟩ := hF _ ⟨ms, i, b, sl, rfl, hm, h0, h3, h4, h5⟩
    have hlen : (L2.start N [V.ref a]).length = N.length := by
      unfold L2.start
      simp
      omega
    refine ⟨_, _, fun _ _ _ => False, r, startL N.length, _, _, rel_law hr' hc (fun p hp => nomatch hp) hm hlen hn, ?_⟩
    rw [eF]
    intro v σ H2 ρ Hf R hv
    cases hv
    exact q H2
theorem fnLawT {st s0 : Stmt} {rest : List Stmt} {f c : Addr} {N : List Str} {k : Nat} {F : FS} {ec : Str → Addr} {Pt : Addr} {oc kV doc pm ct : Value} {od an : Option Addr} {osl : Array (Option Value)} (lk : K.lookup f = some ⟨oc, od, .func (PySem.W.fnOf "law" "law" (defArgs st) (defBody st) (defScope st) .none kV doc pm an (.ref c) ct), osl⟩) (hcd : PySem.W.codeIn K (.ref c) "law" = true) (S : FnScope N ["_law_script"] (defScope st)) (hb : defBody st = s0 :: rest) (hn : 2 ≤ N.length)
    (h1 : ∀ (A : Around) (outer : List PySem.Env) (s : Shared) (H : Hp) (E : XK), Room k (A.deeper (envOfC "law" (defScope st) s.heap.objs.size f (.ref c))) → PS (cxOf CX0 P w K mg base N "law" (defScope st) f (.ref c) A outer s H E).nox s0 (tAsg (tCall (spDraws2 K) [] E0 (tCons (tVar 0) tNil)) (gName 1)))
    (h2 : ∀ (A : Around) (outer : List PySem.Env) (s : Shared) (H0 : Hp) (E0 : XK) (H Hs : Hp) (E : XK) (y : Addr) (kk : MK), kk = .lst → NoTb H → NoTb Hs → Room k (A.deeper (envOfC "law" (defScope st) s.heap.objs.size f (.ref c))) → PSs (cxOf CX0 P w K mg base N "law" (defScope st) f (.ref c) A outer s H0 E0).nox rest (rdS ⟨K, H, Hs, E, ec, some (y, kk), [(Pt, lamQ)]⟩ F))
    (hF : ∀ S, RngS S → ∃ S', F (startL N.length) S = .rt (.bl true) S') : FnOk P w K mg base CX0 (k + 1) f (PySem.W.fnOf "law" "law" (defArgs st) (defBody st) (defScope st) .none kV doc pm an (.ref c) ct) ["_law_script"] (spLawT K Pt) := by
  refine fn_of lk hcd S (fun vs H Q E h => ?_) (fun A outer s H vs Q E hr h => ?_)
  · obtain ⟨a, ns, rfl, _⟩ := h
    rfl
  · obtain ⟨a, ns, rfl, hS, hl, hP, q⟩ := h
    have h2' : PSs (cxOf CX0 P w K mg base N "law" (defScope st) f (.ref c) A outer s H E).nox rest (fun D σ H' => ∃ H1 Hs E1 y, NoTb H1 ∧ NoTb Hs ∧ rdS ⟨K, H1, Hs, E1, ec, some (y, .lst), [(Pt, lamQ)]⟩ F D σ H') := ⟨fun pins s' σ H' D I ⟨H1, Hs, E1, y, n1, n2, q⟩ => (h2 A outer s H E H1 Hs E1 y .lst rfl n1 n2 hr).run pins s' σ H' D I q⟩
    suffices PT : ∃ t, PSs (cxOf CX0 P w K mg base N "law" (defScope st) f (.ref c) A outer s H E).nox (defBody st) t ∧ t { nx := fun _ H' => Q .non H', rt := Q } (L2.start N [.ref a]) H from PT.elim fun t h => ⟨t, h.1.nox, h.2⟩
    refine ⟨_, by rw [hb]; exact pss_cons (h1 A outer s H E hr) h2', ?_⟩
    refine ⟨.ref a, rfl, a, ns, rfl, hS, by omega, fun H' r c2 ms i b sl hr' hc s1 hm h0 h3 h4 h5 => ?_⟩
    obtain ⟨S', eF⟩ := hF _ ⟨ms, i, b, sl, rfl, hm, h0, h3, h4, h5⟩
    have hlen : (L2.start N [V.ref a]).length = N.length := by
      unfold L2.start
      simp
      omega
    refine ⟨upd (fun _ => none) r (.lst [.ref c2, .int i, .int b, .int sl]), fun _ => none, fun _ _ _ => False, r, noTb1, (fun b ps e => by cases e), startL N.length, _, _, rel_law hr' hc (fun p hp => by rw [List.mem_singleton.mp hp]; exact LamX.TabS.nil (s1 _ _ hP)) hm hlen hn, ?_⟩
    rw [eF]
    intro v σ H2 ρ Hf R hv
    cases hv
    exact q H2
end
end PD

set_option Elab.async false
set_option linter.all false
set_option maxRecDepth 100000
set_option maxHeartbeats 2000000
/-! functions of data, walked by simp: what is wanted of an outcome -/
namespace PD
open PySem PySem.Spec PyProof.Rows L2 RB
def EW (r : RE) (Q : Dat → Fld → Prop) : Prop := match r with
  | .ok d S => Q d S
  | _ => False
def AW (r : RA) (Q : List Dat → Fld → Prop) : Prop := match r with
  | .ok d S => Q d S
  | _ => False
def FW (r : RF) (Q : Dat → Prop) : Prop := match r with
  | .ok d => Q d
  | _ => False
def OW (r : Option Dat) (Q : Dat → Prop) : Prop := match r with
  | some d => Q d
  | none => False
/-- a slot's datum -/
def sV (s : Option (Option Slot)) (Q : Dat → Prop) : Prop := match s with
  | some (some (.v d)) => Q d
  | _ => False
def sO (s : Option (Option Slot)) (Q : List Dat → Prop) : Prop := match s with
  | some (some (.own d)) => Q d
  | _ => False
def sM (s : Option (Option Slot)) : Prop := match s with
  | some (some .me) => True
  | _ => False
/-- a test -/
def bW (d : Dat) (t u : Prop) : Prop := match d with
  | .bl true => t
  | .bl false => u
  | _ => False
def iW (d : Dat) (Q : Int → Prop) : Prop := match d with
  | .int i => Q i
  | _ => False
def strW (d : Dat) (Q : Str → Prop) : Prop := match d with
  | .str i => Q i
  | _ => False
def pW (p : Option (Str × Dat)) (Q : Dat → Prop) : Prop := match p with
  | some p => Q p.2
  | none => False
def seqW (d : Dat) (Q : List Dat → Prop) : Prop := match d with
  | .lst ds => Q ds
  | .tup ds => Q ds
  | _ => False
def twoW (ds : List Dat) (Q : Dat → Dat → Prop) : Prop := match ds with
  | [x, y] => Q x y
  | _ => False
/-- a statement: on, or a result -/
def SW (r : RS) (N : DEnv → Fld → Prop) (R : Dat → Fld → Prop) : Prop := match r with
  | .nx ρ S => N ρ S
  | .rt d S => R d S
  | _ => False
section
variable {Q : Dat → Fld → Prop} {QA : List Dat → Fld → Prop} {QF : Dat → Prop} {N : DEnv → Fld → Prop} {R : Dat → Fld → Prop} {ρ : DEnv} {S : Fld}
@[simp] theorem EW_ok {d : Dat} : EW (.ok d S) Q ↔ Q d S := Iff.rfl
@[simp] theorem EW_bad : EW .bad Q ↔ False := Iff.rfl
@[simp] theorem EW_er {n : Str} {v : Dat} : EW (.er n v) Q ↔ False := Iff.rfl
@[simp] theorem AW_ok {d : List Dat} : AW (.ok d S) QA ↔ QA d S := Iff.rfl
@[simp] theorem AW_bad : AW .bad QA ↔ False := Iff.rfl
@[simp] theorem AW_er {n : Str} {v : Dat} : AW (.er n v) QA ↔ False := Iff.rfl
@[simp] theorem FW_ok {d : Dat} : FW (.ok d) QF ↔ QF d := Iff.rfl
@[simp] theorem FW_bad : FW .bad QF ↔ False := Iff.rfl
@[simp] theorem FW_er {n : Str} {v : Dat} : FW (.er n v) QF ↔ False := Iff.rfl
@[simp] theorem OW_some {d : Dat} : OW (some d) QF ↔ QF d := Iff.rfl
@[simp] theorem OW_none : OW none QF ↔ False := Iff.rfl
@[simp] theorem sV_v {d : Dat} : sV (some (some (.v d))) QF ↔ QF d := Iff.rfl
@[simp] theorem sV_none : sV none QF ↔ False := Iff.rfl
@[simp] theorem sV_no : sV (some none) QF ↔ False := Iff.rfl
@[simp] theorem sV_own {d : List Dat} : sV (some (some (.own d))) QF ↔ False := Iff.rfl
@[simp] theorem sV_me : sV (some (some .me)) QF ↔ False := Iff.rfl
@[simp] theorem sO_own {d : List Dat} {Q : List Dat → Prop} : sO (some (some (.own d))) Q ↔ Q d := Iff.rfl
@[simp] theorem sM_me : sM (some (some .me)) ↔ True := Iff.rfl
@[simp] theorem sM_v {d : Dat} : sM (some (some (.v d))) ↔ False := Iff.rfl
@[simp] theorem bW_t {t u : Prop} : bW (.bl true) t u ↔ t := Iff.rfl
@[simp] theorem bW_f {t u : Prop} : bW (.bl false) t u ↔ u := Iff.rfl
theorem bW_bl {b : Bool} {t u : Prop} : bW (.bl b) t u ↔ (b = true → t) ∧ (b = false → u) := by cases b <;> simp
@[simp] theorem bW_dec {p : Prop} [Decidable p] {t u : Prop} : bW (.bl (decide p)) t u ↔ if p then t else u := by
  by_cases h : p <;> simp [h]
@[simp] theorem bW_ndec {p : Prop} [Decidable p] {t u : Prop} : bW (.bl (!decide p)) t u ↔ if p then u else t := by
  by_cases h : p <;> simp [h]
@[simp] theorem iW_int {i : Int} {Q : Int → Prop} : iW (.int i) Q ↔ Q i := Iff.rfl
@[simp] theorem strW_str {i : Str} {Q : Str → Prop} : strW (.str i) Q ↔ Q i := Iff.rfl
@[simp] theorem pW_some {p : Str × Dat} : pW (some p) QF ↔ QF p.2 := Iff.rfl
@[simp] theorem pW_none : pW none QF ↔ False := Iff.rfl
@[simp] theorem seqW_lst {ds : List Dat} {Q : List Dat → Prop} : seqW (.lst ds) Q ↔ Q ds := Iff.rfl
@[simp] theorem seqW_tup {ds : List Dat} {Q : List Dat → Prop} : seqW (.tup ds) Q ↔ Q ds := Iff.rfl
@[simp] theorem twoW_two {x y : Dat} {Q : Dat → Dat → Prop} : twoW [x, y] Q ↔ Q x y := Iff.rfl
@[simp] theorem SW_nx : SW (.nx ρ S) N R ↔ N ρ S := Iff.rfl
@[simp] theorem SW_rt {d : Dat} : SW (.rt d S) N R ↔ R d S := Iff.rfl
@[simp] theorem SW_bad : SW .bad N R ↔ False := Iff.rfl
@[simp] theorem SW_er {n : Str} {v : Dat} : SW (.er n v) N R ↔ False := Iff.rfl
theorem EW_bind {r : RE} {k : Dat → Fld → RE} : EW (r.bind k) Q ↔ EW r fun d S => EW (k d S) Q := by cases r <;> rfl
theorem EW_bindA {r : RE} {k : Dat → Fld → RA} : AW (r.bindA k) QA ↔ EW r fun d S => AW (k d S) QA := by cases r <;> rfl
theorem AW_bind {r : RA} {k : List Dat → Fld → RE} : EW (r.bind k) Q ↔ AW r fun d S => EW (k d S) Q := by cases r <;> rfl
theorem AW_bindA {r : RA} {k : List Dat → Fld → RA} : AW (r.bindA k) QA ↔ AW r fun d S => AW (k d S) QA := by cases r <;> rfl
theorem EW_bindS {r : RE} {k : Dat → Fld → RS} : SW (r.bindS k) N R ↔ EW r fun d S => SW (k d S) N R := by cases r <;> rfl
theorem EW_ofO {o : Option Dat} : EW (ofO o S) Q ↔ OW o fun d => Q d S := by cases o <;> rfl
theorem EW_mono {r : RE} {Q' : Dat → Fld → Prop} (h : EW r Q) (i : ∀ d S, Q d S → Q' d S) : EW r Q' := by cases r <;> first | exact i _ _ h | exact h
theorem AW_mono {r : RA} {Q' : List Dat → Fld → Prop} (h : AW r QA) (i : ∀ d S, QA d S → Q' d S) : AW r Q' := by cases r <;> first | exact i _ _ h | exact h
theorem FW_mono {r : RF} {Q' : Dat → Prop} (h : FW r QF) (i : ∀ d, QF d → Q' d) : FW r Q' := by cases r <;> first | exact i _ h | exact h
theorem SW_mono {r : RS} {N' : DEnv → Fld → Prop} {R' : Dat → Fld → Prop} (h : SW r N R) (i : ∀ d S, N d S → N' d S) (j : ∀ d S, R d S → R' d S) : SW r N' R' := by cases r <;> first | exact i _ _ h | exact j _ _ h | exact h
theorem EW.eq {r : RE} {d : Dat} {S : Fld} (h : EW r fun d' S' => d' = d ∧ S' = S) : r = .ok d S := by
  cases r <;> first | exact h.elim | skip
  obtain ⟨rfl, rfl⟩ := h
  rfl
theorem FW.eq {r : RF} {d : Dat} (h : FW r fun d' => d' = d) : r = .ok d := by
  cases r <;> first | exact h.elim | skip
  cases h
  rfl
theorem FW.ex {r : RF} (h : FW r QF) : ∃ d, r = .ok d ∧ QF d := by
  cases r <;> first | exact h.elim | exact ⟨_, rfl, h⟩
theorem EW.ex {r : RE} (h : EW r Q) : ∃ d S, r = .ok d S ∧ Q d S := by
  cases r <;> first | exact h.elim | exact ⟨_, _, rfl, h⟩
theorem FW.of {r : RF} {d : Dat} (h : r = .ok d) (q : QF d) : FW r QF := by rw [h]; exact q
theorem EW.of {r : RE} {d : Dat} (h : r = .ok d S) (q : Q d S) : EW r Q := by rw [h]; exact q
/-! ### expressions -/
@[simp] theorem ew_var {i : Nat} : EW (fVar i ρ S) Q ↔ sV ρ[i]? fun d => Q d S := by
  unfold fVar sV
  cases ρ[i]? with
  | none => rfl
  | some s => cases s with
    | none => rfl
    | some s => cases s <;> rfl
@[simp] theorem ew_own {i : Nat} : EW (fOwn i ρ S) Q ↔ sO ρ[i]? fun d => Q (.lst d) S := by
  unfold fOwn sO
  cases ρ[i]? with
  | none => rfl
  | some s => cases s with
    | none => rfl
    | some s => cases s <;> rfl
@[simp] theorem ew_c {d : Dat} : EW (fC d ρ S) Q ↔ Q d S := Iff.rfl
@[simp] theorem ew_op {o : Dat → Dat → Option Dat} {a b : FE} : EW (fOp o a b ρ S) Q ↔ EW (a ρ S) fun x S1 => EW (b ρ S1) fun y S2 => OW (o x y) fun z => Q z S2 := by
  simp only [fOp, EW_bind, EW_ofO]
@[simp] theorem ew_un {o : Dat → Option Dat} {a : FE} : EW (fUn o a ρ S) Q ↔ EW (a ρ S) fun x S1 => OW (o x) fun z => Q z S1 := by
  simp only [fUn, EW_bind, EW_ofO]
theorem EW_congr {r : RE} {Q' : Dat → Fld → Prop} (h : ∀ d S, Q d S ↔ Q' d S) : EW r Q ↔ EW r Q' := ⟨fun q => EW_mono q fun d S => (h d S).mp, fun q => EW_mono q fun d S => (h d S).mpr⟩
theorem AW_congr {r : RA} {Q' : List Dat → Fld → Prop} (h : ∀ d S, QA d S ↔ Q' d S) : AW r QA ↔ AW r Q' := ⟨fun q => AW_mono q fun d S => (h d S).mp, fun q => AW_mono q fun d S => (h d S).mpr⟩
theorem EW_bW {d : Dat} {t u : RE} : EW (match (motive := Dat → RE) d with
  | .bl true => t
  | .bl false => u
  | _ => .bad) Q ↔ bW d (EW t Q) (EW u Q) := by
  cases d <;> first | rfl | (rename_i b; cases b <;> rfl)
@[simp] theorem ew_if {c a b : FE} : EW (fIf c a b ρ S) Q ↔ EW (c ρ S) fun x S1 => bW x (EW (a ρ S1) Q) (EW (b ρ S1) Q) := by
  simp only [fIf, EW_bind]
  exact EW_congr fun d S => EW_bW
@[simp] theorem ew_and {a b : FE} : EW (fAnd a b ρ S) Q ↔ EW (a ρ S) fun x S1 => bW x (EW (b ρ S1) Q) (Q (.bl false) S1) := by
  simp only [fAnd, EW_bind]
  exact EW_congr fun d S => EW_bW
@[simp] theorem ew_or {a b : FE} : EW (fOr a b ρ S) Q ↔ EW (a ρ S) fun x S1 => bW x (Q (.bl true) S1) (EW (b ρ S1) Q) := by
  simp only [fOr, EW_bind]
  exact EW_congr fun d S => EW_bW
@[simp] theorem ew_not {a : FE} : EW (fNot a ρ S) Q ↔ EW (a ρ S) fun x S1 => bW x (Q (.bl false) S1) (Q (.bl true) S1) := by
  simp only [fNot, EW_bind]
  cases a ρ S with
  | ok d S1 => cases d <;> first | rfl | (rename_i b; cases b <;> rfl)
  | _ => rfl
@[simp] theorem ew_chain {o o' : Dat → Dat → Option Dat} {a b c : FE} : EW (fChain o o' a b c ρ S) Q ↔ EW (a ρ S) fun x S1 => EW (b ρ S1) fun y S2 => OW (o x y) fun z => bW z (EW (c ρ S2) fun t S3 => OW (o' y t) fun u => Q u S3) (Q (.bl false) S2) := by
  simp only [fChain, EW_bind]
  cases a ρ S with
  | ok d S1 =>
    simp only [EW_ok]
    cases b ρ S1 with
    | ok e S2 =>
      simp only [EW_ok]
      cases o d e with
      | none => rfl
      | some z =>
        simp only [OW_some]
        cases z <;> first | rfl | skip
        rename_i z
        cases z
        · rfl
        · show EW (RE.bind _ _) Q ↔ _
          simp only [EW_bind, EW_ofO, bW_t]
    | _ => rfl
  | _ => rfl
@[simp] theorem aw_nil_ : AW (fNil ρ S) QA ↔ QA [] S := Iff.rfl
@[simp] theorem aw_cons_ {a : FE} {r : FA} : AW (fCons a r ρ S) QA ↔ EW (a ρ S) fun x S1 => AW (r ρ S1) fun xs S2 => QA (x :: xs) S2 := by
  simp only [fCons, EW_bindA, AW_bindA, AW_ok]
@[simp] theorem ew_app {o : List Dat → Option Dat} {a : FA} : EW (fApp o a ρ S) Q ↔ AW (a ρ S) fun xs S1 => OW (o xs) fun z => Q z S1 := by
  simp only [fApp, AW_bind, EW_ofO]
@[simp] theorem ew_mt {ty : Dat → Bool} {o : Dat → List Dat → Option Dat} {a : FE} {as : FA} : EW (fMt ty o a as ρ S) Q ↔ EW (a ρ S) fun x S1 => ty x = true ∧ AW (as ρ S1) fun xs S2 => OW (o x xs) fun z => Q z S2 := by
  simp only [fMt, EW_bind]
  cases a ρ S with
  | ok d S1 =>
    simp only [EW_ok]
    by_cases h : ty d = true
    · rw [if_pos h]
      simp only [AW_bind, EW_ofO, h, true_and]
    · rw [if_neg h]
      simp only [EW_bad, h, false_and]
      simp
  | _ => rfl
@[simp] theorem ew_sl00 {o : Dat → Option Int → Option Int → Option Dat} {a : FE} : EW (fSl o a none none ρ S) Q ↔ EW (a ρ S) fun x S1 => OW (o x none none) fun z => Q z S1 := by
  simp only [fSl, EW_bind, EW_ofO]
theorem EW_iW {d : Dat} {t : Int → RE} : EW (match (motive := Dat → RE) d with
  | .int i => t i
  | _ => .bad) Q ↔ iW d fun i => EW (t i) Q := by cases d <;> rfl
@[simp] theorem ew_sl10 {o : Dat → Option Int → Option Int → Option Dat} {a f : FE} : EW (fSl o a (some f) none ρ S) Q ↔ EW (a ρ S) fun x S1 => EW (f ρ S1) fun l S2 => iW l fun i => OW (o x (some i) none) fun z => Q z S2 := by
  simp only [fSl, EW_bind]
  exact EW_congr fun d S => EW_congr fun e S2 => by cases e <;> first | exact EW_ofO | rfl
@[simp] theorem ew_sl01 {o : Dat → Option Int → Option Int → Option Dat} {a f : FE} : EW (fSl o a none (some f) ρ S) Q ↔ EW (a ρ S) fun x S1 => EW (f ρ S1) fun l S2 => iW l fun i => OW (o x none (some i)) fun z => Q z S2 := by
  simp only [fSl, EW_bind]
  exact EW_congr fun d S => EW_congr fun e S2 => by cases e <;> first | exact EW_ofO | rfl
@[simp] theorem ew_sl11 {o : Dat → Option Int → Option Int → Option Dat} {a f g : FE} : EW (fSl o a (some f) (some g) ρ S) Q ↔ EW (a ρ S) fun x S1 => EW (f ρ S1) fun l S2 => EW (g ρ S2) fun h S3 => iW l fun i => iW h fun j => OW (o x (some i) (some j)) fun z => Q z S3 := by
  simp only [fSl, EW_bind]
  cases a ρ S with
  | ok d S1 =>
    simp only [EW_ok]
    cases f ρ S1 with
    | ok e S2 =>
      simp only [EW_ok]
      cases g ρ S2 with
      | ok h S3 => cases e <;> cases h <;> simp [EW_ok, iW, EW_ofO, EW_bind]
      | _ => cases e <;> simp [EW, EW_bind, RE.bind]
    | _ => rfl
  | _ => rfl
@[simp] theorem ew_call {F : List Dat → RF} {a : FA} : EW (fCall F a ρ S) Q ↔ AW (a ρ S) fun ds S1 => FW (F ds) fun d => Q d S1 := by
  simp only [fCall, AW_bind]
  cases a ρ S with
  | ok ds S1 => simp only [AW_ok]; cases F ds <;> rfl
  | _ => rfl
@[simp] theorem ew_call0 {F : List Dat → RF} {a : FA} : EW (fCall0 F a ρ S) Q ↔ AW (a ρ S) fun ds S1 => FW (F ds) fun d => Q d S1 := by
  simp only [fCall0, AW_bind]
  cases a ρ S with
  | ok ds S1 => simp only [AW_ok]; cases F ds <;> rfl
  | _ => rfl
theorem isMe_sM {i : Nat} : isMe ρ i = true ↔ sM ρ[i]? := by
  unfold isMe sM
  cases ρ[i]? with
  | none => simp
  | some s => cases s with
    | none => simp
    | some s => cases s <;> simp
@[simp] theorem ew_callM {i : Nat} {F : Fld → List Dat → RE} {a : FA} : EW (fCallM i F a ρ S) Q ↔ sM ρ[i]? ∧ AW (a ρ S) fun ds S1 => EW (F S1 ds) Q := by
  unfold fCallM
  rw [← isMe_sM]
  cases isMe ρ i with
  | true => simp only [AW_bind, true_and]
  | false => simp
@[simp] theorem ew_meIx {i k : Nat} : EW (fMeIx i k ρ S) Q ↔ sM ρ[i]? ∧ pW S[k]? fun d => Q d S := by
  unfold fMeIx
  rw [← isMe_sM]
  cases isMe ρ i with
  | true => cases S[k]? <;> simp
  | false => simp
@[simp] theorem ew_get {kvs : List (Str × Dat)} {a b : FE} : EW (fGet kvs a b ρ S) Q ↔ EW (a ρ S) fun x S1 => EW (b ρ S1) fun y S2 => strW x fun z => Q ((kvs.lookup z).getD y) S2 := by
  simp only [fGet, EW_bind]
  cases a ρ S with
  | ok d S1 =>
    simp only [EW_ok]
    cases b ρ S1 with
    | ok e S2 =>
      cases d <;> simp [strW]
      rename_i z
      cases kvs.lookup z <;> simp
    | _ => rfl
  | _ => rfl
/-! ### statements -/
@[simp] theorem sw_next : SW (fNext ρ S) N R ↔ N ρ S := Iff.rfl
@[simp] theorem sw_seq {f g : FS} : SW (fSeq f g ρ S) N R ↔ SW (f ρ S) (fun ρ' S' => SW (g ρ' S') N R) R := by
  unfold fSeq
  cases f ρ S <;> rfl
@[simp] theorem sw_ret {a : FE} : SW (fRet a ρ S) N R ↔ EW (a ρ S) R := by
  simp only [fRet, EW_bindS, SW_rt]
@[simp] theorem sw_retOwn {i : Nat} : SW (fRetOwn i ρ S) N R ↔ sO ρ[i]? fun ds => R (.lst ds) S := by
  unfold fRetOwn sO
  cases ρ[i]? with
  | none => rfl
  | some s => cases s with
    | none => rfl
    | some s => cases s <;> rfl
@[simp] theorem sw_set {i : Nat} {a : FE} : SW (fSet i a ρ S) N R ↔ EW (a ρ S) fun d S' => N (ρ.set i (some (.v d))) S' := by
  simp only [fSet, EW_bindS, SW_nx]
@[simp] theorem sw_drop {a : FE} : SW (fDrop a ρ S) N R ↔ EW (a ρ S) fun d S' => N ρ S' := by
  simp only [fDrop, EW_bindS, SW_nx]
@[simp] theorem sw_ifS {c : FE} {t u : FS} : SW (fIfS c t u ρ S) N R ↔ EW (c ρ S) fun d S' => bW d (SW (t ρ S') N R) (SW (u ρ S') N R) := by
  simp only [fIfS, EW_bindS]
  cases c ρ S with
  | ok d S1 => cases d <;> first | rfl | (rename_i b; cases b <;> rfl)
  | _ => rfl
@[simp] theorem sw_newO {i : Nat} {a : FA} : SW (fNewO i a ρ S) N R ↔ AW (a ρ S) fun ds S' => ds.length ≤ 100000 ∧ N (ρ.set i (some (.own ds))) S' := by
  unfold fNewO
  cases a ρ S with
  | ok ds S1 =>
    simp only [AW_ok]
    by_cases h : ds.length ≤ 100000
    · simp [h]
    · simp [h]
  | _ => rfl
@[simp] theorem sw_newL {i : Nat} {a : FE} : SW (fNewL i a ρ S) N R ↔ EW (a ρ S) fun d S' => seqW d fun ds => N (ρ.set i (some (.own ds))) S' := by
  unfold fNewL
  simp only [EW_bindS]
  cases a ρ S with
  | ok d S1 => cases d <;> rfl
  | _ => rfl
@[simp] theorem sw_appd {i : Nat} {a : FE} : SW (fAppd i a ρ S) N R ↔ sO ρ[i]? fun ds => EW (a ρ S) fun d S' => ds.length < 100000 ∧ N (ρ.set i (some (.own (ds ++ [d])))) S' := by
  unfold fAppd sO
  cases ρ[i]? with
  | none => rfl
  | some s => cases s with
    | none => rfl
    | some s =>
      cases s with
      | own ds =>
        simp only [EW_bindS]
        cases a ρ S with
        | ok d S1 =>
          simp only [EW_ok]
          by_cases h : ds.length < 100000
          · simp [h]
          · simp [h]
        | _ => rfl
      | _ => rfl
@[simp] theorem sw_pop {i : Nat} : SW (fPop i ρ S) N R ↔ sO ρ[i]? fun ds => ds ≠ [] ∧ N (ρ.set i (some (.own ds.dropLast))) S := by
  unfold fPop sO
  cases ρ[i]? with
  | none => rfl
  | some s => cases s with
    | none => rfl
    | some s =>
      cases s with
      | own ds => by_cases h : ds = [] <;> simp [h]
      | _ => rfl
@[simp] theorem sw_par {i j : Nat} {a : FA} : SW (fPar i j a ρ S) N R ↔ AW (a ρ S) fun ds S' => twoW ds fun x y => N ((ρ.set i (some (.v x))).set j (some (.v y))) S' := by
  unfold fPar
  cases a ρ S with
  | ok ds S1 =>
    match ds with
    | [] => rfl
    | [x] => rfl
    | [x, y] => rfl
    | x :: y :: z :: r => rfl
  | _ => rfl
@[simp] theorem sw_mePut {i k : Nat} {a : FE} : SW (fMePut i k a ρ S) N R ↔ sM ρ[i]? ∧ EW (a ρ S) fun d S1 => k < S1.length ∧ N ρ (S1.set k ("", d)) := by
  unfold fMePut
  rw [← isMe_sM]
  cases isMe ρ i with
  | true =>
    simp only [EW_bindS, true_and]
    cases a ρ S with
    | ok d S1 =>
      by_cases h : k < S1.length
      · simp [h]
      · simp [h]
    | _ => rfl
  | false => simp
@[simp] theorem sw_asg {a : FE} {g : FG} : SW (fAsg a g ρ S) N R ↔ EW (a ρ S) fun d S' => ∃ ρ', g d ρ = some ρ' ∧ N ρ' S' := by
  unfold fAsg
  simp only [EW_bindS]
  cases a ρ S with
  | ok d S1 =>
    simp only [EW_ok]
    cases g d ρ <;> simp
  | _ => rfl
@[simp] theorem sw_lvl {i : Nat} {kvs : List (Str × Dat)} {a b : FE} : SW (fLvl i kvs a b ρ S) N R ↔ i < ρ.length ∧ EW (fGet kvs a b (ρ.set i none) S) R := by
  unfold fLvl
  by_cases h : i < ρ.length
  · simp [h, fRet, EW_bindS]
  · simp [h]
/-! ### loops -/
/-- a for over data: what holds ahead of each item -/
theorem sw_for {g : FG} {b : FS} {ds : List Dat} (I : Nat → DEnv → Fld → Prop) (h0 : I 0 ρ S) (step : ∀ i d ρ S, ds[i]? = some d → I i ρ S → ∃ ρ', g d ρ = some ρ' ∧ SW (b ρ' S) (I (i + 1)) R) (hN : ∀ ρ S, I ds.length ρ S → N ρ S) : SW (fForL g b ds ρ S) N R := by
  induction ds generalizing I ρ S with
  | nil => exact hN ρ S h0
  | cons d ds ih =>
    obtain ⟨ρ', e, q⟩ := step 0 d ρ S rfl h0
    show SW (match g d ρ with
      | some ρ' => loopR (b ρ' S) (fForL g b ds)
      | none => .bad) N R
    rw [e]
    have key : ∀ r : RS, SW r (I 1) R → SW (loopR r (fForL g b ds)) N R := fun r q => by
      cases r with
      | nx ρ1 S1 => exact ih (I := fun i => I (i + 1)) q (fun i d ρ S e q => step (i + 1) d ρ S (by simpa using e) q) fun ρ S h => hN ρ S h
      | rt d S1 => exact q
      | _ => exact q.elim
    exact key _ q
@[simp] theorem sw_forR1 {a : FE} {g : FG} {b : FS} : SW (fForR1 a g b ρ S) N R ↔ EW (a ρ S) fun d S' => iW d fun n => (n < 2 ^ 62 ∧ -(2 ^ 62) ≤ n) ∧ SW (fForL g b (rangeD 0 n.toNat) ρ S') N R := by
  unfold fForR1
  simp only [EW_bindS]
  cases a ρ S with
  | ok d S1 =>
    cases d <;> simp only [EW_ok, iW, SW_bad]
    rename_i n
    by_cases h : n < 2 ^ 62 ∧ -(2 ^ 62) ≤ n
    · rw [if_pos h]
      exact ⟨fun z => ⟨h, z⟩, fun z => z.2⟩
    · rw [if_neg h]
      exact ⟨fun z => z.elim, fun z => (h z.1).elim⟩
  | _ => rfl
@[simp] theorem sw_forL {it : Dat → Option (List Dat)} {a : FE} {g : FG} {b : FS} : SW (fFor it a g b ρ S) N R ↔ EW (a ρ S) fun d S' => ∃ ds, it d = some ds ∧ SW (fForL g b ds ρ S') N R := by
  unfold fFor
  simp only [EW_bindS]
  cases a ρ S with
  | ok d S1 =>
    simp only [EW_ok]
    cases it d <;> simp
  | _ => rfl
/-- a while by an invariant and a measure -/
theorem sw_while {c : FE} {b : FS} (I : DEnv → Fld → Prop) (m : DEnv → Fld → Nat) (hs : ∀ ρ S, I ρ S → EW (c ρ S) fun d S1 => bW d (SW (b ρ S1) (fun ρ' S' => I ρ' S' ∧ m ρ' S' < m ρ S) R) (N ρ S1)) : ∀ (n : Nat) {ρ : DEnv} {S : Fld}, I ρ S → m ρ S < n → SW (fWhile n c b ρ S) N R
  | 0, ρ, S, _, h => by omega
  | n + 1, ρ, S, hi, h => by
    show SW ((c ρ S).bindS fun d S' => match d with
      | .bl true => loopR (b ρ S') (fWhile n c b)
      | .bl false => .nx ρ S'
      | _ => .bad) N R
    rw [EW_bindS]
    refine EW_mono (hs ρ S hi) fun d S1 q => ?_
    cases d <;> first | exact q.elim | skip
    rename_i t
    cases t with
    | false => exact q
    | true =>
      have q : SW (b ρ S1) (fun ρ' S' => I ρ' S' ∧ m ρ' S' < m ρ S) R := q
      show SW (loopR (b ρ S1) (fWhile n c b)) N R
      revert q
      cases b ρ S1 with
      | nx ρ1 S2 => exact fun q => sw_while I m hs n q.1 (by have := q.2; omega)
      | rt d S2 => exact id
      | _ => exact fun q => (q : False).elim
theorem rangeD_get {n i : Nat} {d : Dat} (h : (rangeD 0 n)[i]? = some d) : d = .int i ∧ i < n := by
  unfold rangeD at h
  rw [List.getElem?_map] at h
  by_cases hi : i < n
  · rw [List.getElem?_range hi] at h
    cases h
    exact ⟨by simp, hi⟩
  · rw [List.getElem?_eq_none (by simp; omega)] at h
    cases h
@[simp] theorem rangeD_len {lo : Int} {n : Nat} : (rangeD lo n).length = n := by simp [rangeD]
/-- a comprehension that may draw: what each element is -/
theorem aw_lcL {g : FG} {ft fe : FE} {vs : List Nat} {ds : List Dat} (I : Fld → Prop) (P : Nat → Dat → Prop) (h0 : I S) (hd : ∀ i d S, ds[i]? = some d → I S → ∃ ρ1, g d (wipeD ρ vs) = some ρ1 ∧ EW (ft ρ1 S) fun b S1 => b = .bl true ∧ EW (fe ρ1 S1) fun y S2 => P i y ∧ I S2)
    (hq : ∀ ys S, ys.length = ds.length → (∀ i y, ys[i]? = some y → P i y) → I S → QA ys S) : AW (fLcL g ft fe vs ρ ds S) QA := by
  induction ds generalizing S P QA with
  | nil => exact hq [] S rfl (fun i y e => by simp at e) h0
  | cons d ds ih =>
    obtain ⟨ρ1, e, q⟩ := hd 0 d S rfl h0
    show AW (match g d (wipeD ρ vs) with
      | none => .bad
      | some ρ1 => (ft ρ1 S).bindA fun b S1 => match b with
        | .bl true => (fe ρ1 S1).bindA fun y S2 => (fLcL g ft fe vs ρ ds S2).bindA fun ys S3 => .ok (y :: ys) S3
        | .bl false => fLcL g ft fe vs ρ ds S1
        | _ => .bad) QA
    rw [e]
    simp only [EW_bindA]
    refine EW_mono q fun b S1 ⟨hb, q1⟩ => ?_
    subst hb
    simp only [EW_bindA, AW_bindA]
    refine EW_mono q1 fun y S2 ⟨hy, hS⟩ => ?_
    refine ih (fun i => P (i + 1)) hS (fun i d S e h => hd (i + 1) d S (by simpa using e) h) fun ys S3 l hp hI => ?_
    refine hq _ _ (by simp [l]) (fun i z ez => ?_) hI
    cases i with
    | zero => cases ez; exact hy
    | succ i => exact hp i z (by simpa using ez)
/-- a comprehension that computes each element alone -/
theorem aw_lc_map {g : FG} {ft fe : FE} {vs : List Nat} {ds : List Dat} (h : Dat → Dat) (hg : ∀ d ∈ ds, ∃ ρ1, g d (wipeD ρ vs) = some ρ1 ∧ EW (ft ρ1 S) (fun b S1 => b = .bl true ∧ S1 = S) ∧ EW (fe ρ1 S) (fun y S1 => y = h d ∧ S1 = S)) (q : QA (ds.map h) S) : AW (fLcL g ft fe vs ρ ds S) QA := by
  induction ds generalizing QA with
  | nil => exact q
  | cons d ds ih =>
    obtain ⟨ρ1, e, q0, q1⟩ := hg d List.mem_cons_self
    show AW (match g d (wipeD ρ vs) with
      | none => .bad
      | some ρ1 => (ft ρ1 S).bindA fun b S1 => match b with
        | .bl true => (fe ρ1 S1).bindA fun y S2 => (fLcL g ft fe vs ρ ds S2).bindA fun ys S3 => .ok (y :: ys) S3
        | .bl false => fLcL g ft fe vs ρ ds S1
        | _ => .bad) QA
    rw [e]
    simp only [EW_bindA]
    refine EW_mono q0 fun b S1 ⟨hb, e1⟩ => ?_
    subst hb e1
    simp only [EW_bindA, AW_bindA]
    refine EW_mono q1 fun y S2 ⟨hy, e2⟩ => ?_
    subst hy e2
    exact ih (fun d hd => hg d (List.mem_cons_of_mem _ hd)) q
@[simp] theorem aw_lc_nil {g : FG} {ft fe : FE} {vs : List Nat} : AW (fLcL g ft fe vs ρ [] S) QA ↔ QA [] S := Iff.rfl
@[simp] theorem aw_lc_cons {g : FG} {ft fe : FE} {vs : List Nat} {d : Dat} {ds : List Dat} : AW (fLcL g ft fe vs ρ (d :: ds) S) QA ↔ ∃ ρ1, g d (wipeD ρ vs) = some ρ1 ∧ EW (ft ρ1 S) fun b S1 => bW b (EW (fe ρ1 S1) fun y S2 => AW (fLcL g ft fe vs ρ ds S2) fun ys S3 => QA (y :: ys) S3) (AW (fLcL g ft fe vs ρ ds S1) QA) := by
  show AW (match g d (wipeD ρ vs) with
      | none => .bad
      | some ρ1 => (ft ρ1 S).bindA fun b S1 => match b with
        | .bl true => (fe ρ1 S1).bindA fun y S2 => (fLcL g ft fe vs ρ ds S2).bindA fun ys S3 => .ok (y :: ys) S3
        | .bl false => fLcL g ft fe vs ρ ds S1
        | _ => .bad) QA ↔ _
  cases g d (wipeD ρ vs) with
  | none => simp
  | some ρ1 =>
    simp only [Option.some.injEq, exists_eq_left', EW_bindA]
    refine EW_congr fun b S1 => ?_
    cases b <;> first | rfl | skip
    rename_i b
    cases b
    · rfl
    · show AW (RE.bindA _ _) QA ↔ _
      simp only [EW_bindA, AW_bindA, AW_ok, bW_t]
@[simp] theorem ew_lc0 {g : FG} {ft fe : FE} {vs : List Nat} {ds : List Dat} : EW (fLc0 g ft fe vs ds ρ S) Q ↔ (ds.length ≤ 100000 ∧ ownAny ρ vs = false) ∧ AW (fLcL g ft fe vs ρ ds S) fun ys S' => Q (.lst ys) S' := by
  unfold fLc0
  by_cases h : ds.length ≤ 100000 ∧ ownAny ρ vs = false
  · rw [if_pos h]
    simp only [AW_bind, EW_ok, h, true_and, and_self]
  · rw [if_neg h]
    simp only [EW_bad, h, false_and]
@[simp] theorem ew_lc {it : Dat → Option (List Dat)} {a : FE} {g : FG} {ft fe : FE} {vs : List Nat} : EW (fLc it a g ft fe vs ρ S) Q ↔ EW (a ρ S) fun d S1 => ∃ ds, it d = some ds ∧ EW (fLc0 g ft fe vs ds ρ S1) Q := by
  simp only [fLc, EW_bind]
  cases a ρ S with
  | ok d S1 =>
    simp only [EW_ok]
    cases it d <;> simp
  | _ => rfl
@[simp] theorem ew_lcR1 {a : FE} {g : FG} {ft fe : FE} {vs : List Nat} : EW (fLcR1 a g ft fe vs ρ S) Q ↔ EW (a ρ S) fun d S1 => iW d fun n => (n < 2 ^ 62 ∧ -(2 ^ 62) ≤ n) ∧ EW (fLc0 g ft fe vs (rangeD 0 n.toNat) ρ S1) Q := by
  simp only [fLcR1, EW_bind]
  cases a ρ S with
  | ok d S1 =>
    cases d <;> simp only [EW_ok, iW, EW_bad]
    rename_i n
    by_cases h : n < 2 ^ 62 ∧ -(2 ^ 62) ≤ n
    · rw [if_pos h]
      exact ⟨fun z => ⟨h, z⟩, fun z => z.2⟩
    · rw [if_neg h]
      exact ⟨fun z => z.elim, fun z => (h z.1).elim⟩
  | _ => rfl
@[simp] theorem ew_lcZ {a : FA} {g : FG} {ft fe : FE} {vs : List Nat} : EW (fLcZ a g ft fe vs ρ S) Q ↔ AW (a ρ S) fun ds S1 => ∃ es, zipOf ds = some es ∧ EW (fLc0 g ft fe vs es ρ S1) Q := by
  simp only [fLcZ, AW_bind]
  cases a ρ S with
  | ok ds S1 =>
    simp only [AW_ok]
    cases zipOf ds <;> simp
  | _ => rfl
@[simp] theorem ew_yes : EW (fYes ρ S) Q ↔ Q (.bl true) S := Iff.rfl
/-! ### defs -/
theorem fw_run {n : Nat} {f : FS} {ds : List Dat} (h : SW (f (startD n ds) []) (fun _ _ => QF .non) fun d _ => QF d) : FW (runF n f ds) QF := by
  unfold runF
  revert h
  cases f (startD n ds) [] <;> exact id
theorem ew_run {n : Nat} {f : FS} {ds : List Dat} (h : SW (f (startM n ds) S) (fun _ S => Q .non S) Q) : EW (runM n f S ds) Q := by
  unfold runM
  revert h
  cases f (startM n ds) S <;> exact id
theorem sw_cut {f g : FS} (I : DEnv → Fld → Prop) (h1 : SW (f ρ S) I R) (h2 : ∀ ρ' S', I ρ' S' → SW (g ρ' S') N R) : SW (fSeq f g ρ S) N R := by
  rw [sw_seq]
  exact SW_mono h1 h2 fun _ _ h => h
/-! ### operations of data -/
@[simp] theorem oLt_i (i j : Int) : oLt (.int i) (.int j) = some (.bl (decide (i < j))) := rfl
@[simp] theorem oLe_i (i j : Int) : oLe (.int i) (.int j) = some (.bl (decide (i ≤ j))) := rfl
@[simp] theorem oGt_i (i j : Int) : oGt (.int i) (.int j) = some (.bl (decide (j < i))) := rfl
@[simp] theorem oGe_i (i j : Int) : oGe (.int i) (.int j) = some (.bl (decide (j ≤ i))) := rfl
@[simp] theorem oSub_i (i j : Int) : oSub (.int i) (.int j) = some (.int (i - j)) := rfl
@[simp] theorem oAdd_i (i j : Int) : oAdd (.int i) (.int j) = some (.int (i + j)) := rfl
@[simp] theorem oNeg_i (i : Int) : oNeg (.int i) = some (.int (-i)) := rfl
theorem OW_if {p : Prop} [Decidable p] {d : Dat} : OW (if p then some d else none) QF ↔ p ∧ QF d := by
  by_cases h : p <;> simp [h]
@[simp] theorem OW_add_s {a b : Str} : OW (oAdd (.str a) (.str b)) QF ↔ a.length + b.length ≤ 100000 ∧ QF (.str (a ++ b)) := OW_if
@[simp] theorem OW_add_t {a b : List Dat} : OW (oAdd (.tup a) (.tup b)) QF ↔ a.length + b.length ≤ 100000 ∧ QF (.tup (a ++ b)) := OW_if
@[simp] theorem OW_add_l {a b : List Dat} : OW (oAdd (.lst a) (.lst b)) QF ↔ a.length + b.length ≤ 100000 ∧ QF (.lst (a ++ b)) := OW_if
theorem oAdd_s {a b : Str} (h : a.length + b.length ≤ 100000) : oAdd (.str a) (.str b) = some (.str (a ++ b)) := if_pos h
theorem oAdd_t {a b : List Dat} (h : a.length + b.length ≤ 100000) : oAdd (.tup a) (.tup b) = some (.tup (a ++ b)) := if_pos h
theorem oAdd_l {a b : List Dat} (h : a.length + b.length ≤ 100000) : oAdd (.lst a) (.lst b) = some (.lst (a ++ b)) := if_pos h
@[simp] theorem mkT_ {ds : List Dat} : OW (mkT ds) QF ↔ ds.length ≤ 100000 ∧ QF (.tup ds) := by
  unfold mkT
  by_cases h : ds.length ≤ 100000 <;> simp [h]
@[simp] theorem mkL_ {ds : List Dat} : OW (mkL ds) QF ↔ ds.length ≤ 100000 ∧ QF (.lst ds) := by
  unfold mkL
  by_cases h : ds.length ≤ 100000 <;> simp [h]
theorem ixL (ds : List Dat) (k : Nat) : atI ds (k : Int) = ds[k]? := by
  unfold atI ixN
  rw [if_pos (Int.natCast_nonneg k), Int.toNat_natCast]
  by_cases h : k < ds.length
  · simp [h]
  · rw [if_neg (by omega), List.getElem?_eq_none (by omega)]
    rfl
@[simp] theorem oIx_t0 (ds : List Dat) : oIx (.tup ds) (.int 0) = ds[0]? := ixL ds 0
@[simp] theorem oIx_l0 (ds : List Dat) : oIx (.lst ds) (.int 0) = ds[0]? := ixL ds 0
@[simp] theorem oIx_t1 (ds : List Dat) : oIx (.tup ds) (.int 1) = ds[1]? := ixL ds 1
@[simp] theorem oIx_l1 (ds : List Dat) : oIx (.lst ds) (.int 1) = ds[1]? := ixL ds 1
@[simp] theorem oIx_t2 (ds : List Dat) : oIx (.tup ds) (.int 2) = ds[2]? := ixL ds 2
@[simp] theorem oIx_l2 (ds : List Dat) : oIx (.lst ds) (.int 2) = ds[2]? := ixL ds 2
@[simp] theorem oIx_t3 (ds : List Dat) : oIx (.tup ds) (.int 3) = ds[3]? := ixL ds 3
@[simp] theorem oIx_l3 (ds : List Dat) : oIx (.lst ds) (.int 3) = ds[3]? := ixL ds 3
@[simp] theorem oIx_t4 (ds : List Dat) : oIx (.tup ds) (.int 4) = ds[4]? := ixL ds 4
@[simp] theorem oIx_l4 (ds : List Dat) : oIx (.lst ds) (.int 4) = ds[4]? := ixL ds 4
@[simp] theorem oIx_t5 (ds : List Dat) : oIx (.tup ds) (.int 5) = ds[5]? := ixL ds 5
@[simp] theorem oIx_l5 (ds : List Dat) : oIx (.lst ds) (.int 5) = ds[5]? := ixL ds 5
@[simp] theorem oIx_t6 (ds : List Dat) : oIx (.tup ds) (.int 6) = ds[6]? := ixL ds 6
@[simp] theorem oIx_l6 (ds : List Dat) : oIx (.lst ds) (.int 6) = ds[6]? := ixL ds 6
@[simp] theorem oIx_t7 (ds : List Dat) : oIx (.tup ds) (.int 7) = ds[7]? := ixL ds 7
@[simp] theorem oIx_l7 (ds : List Dat) : oIx (.lst ds) (.int 7) = ds[7]? := ixL ds 7
/-- a written text can be laid -/
theorem sok_of (s : String) : PyData.strOk (Str.ofString s) = true := by
  unfold PyData.strOk
  rw [Str.ofString_eq_toList]
  rw [Array.all_eq_true_iff_forall_mem]
  intro c hc
  simp only [List.mem_toArray, List.mem_map] at hc
  obtain ⟨a, _, rfl⟩ := hc
  have := a.valid
  have h2 : a.toNat = a.val.toNat := rfl
  rw [h2]
  unfold UInt32.isValidChar Nat.isValidChar at this
  simp only [decide_eq_true_eq]
  omega
theorem ofString_inj {a b : String} (h : Str.ofString a = Str.ofString b) : a = b := by
  rw [Str.ofString_eq_toList, Str.ofString_eq_toList] at h
  have h1 := congrArg (fun s : Str => s.cps.toList) h
  simp only at h1
  have h2 : a.toList = b.toList := by
    have inj : ∀ (x y : List Char), x.map Char.toNat = y.map Char.toNat → x = y := by
      intro x
      induction x with
      | nil => intro y e; cases y with
        | nil => rfl
        | cons _ _ => cases e
      | cons c x ih => intro y e; cases y with
        | nil => cases e
        | cons d y =>
          simp only [List.map_cons, List.cons.injEq] at e
          rw [ih y e.2, Char.toNat_inj.mp e.1]
    exact inj _ _ h1
  exact String.toList_inj.mp h2
@[simp] theorem ofString_eq {a b : String} : (Str.ofString a = Str.ofString b) ↔ a = b := ⟨ofString_inj, fun h => by rw [h]⟩
@[simp] theorem ofString_beq (a b : String) : (Str.ofString a == Str.ofString b) = (a == b) := by
  by_cases h : a = b
  · simp [h]
  · have : ¬ Str.ofString a = Str.ofString b := fun z => h (ofString_inj z)
    rw [beq_eq_false_iff_ne.mpr this, beq_eq_false_iff_ne.mpr h]
theorem shp_s {a : Str} (h : PyData.strOk a = true) : SeqAt.shaped (Dat.str a).pd = true := by
  show (PyData.canLay0 (.str a) && decide (PyData.depth (.str a) ≤ 64)) = true
  rw [show PyData.canLay0 (.str a) = PyData.strOk a from rfl, h]
  rfl
theorem oEq_s {a b : Str} (ha : PyData.strOk a = true) (hb : PyData.strOk b = true) : oEq (.str a) (.str b) = some (.bl (decide (a = b))) := by
  unfold oEq
  rw [if_pos ⟨shp_s ha, shp_s hb⟩]
  show some (Dat.bl (a == b)) = _
  by_cases h : a = b <;> simp [h]
theorem oNe_s {a b : Str} (ha : PyData.strOk a = true) (hb : PyData.strOk b = true) : oNe (.str a) (.str b) = some (.bl (!decide (a = b))) := by
  unfold oNe
  rw [if_pos ⟨shp_s ha, shp_s hb⟩]
  show some (Dat.bl (!(a == b))) = _
  by_cases h : a = b <;> simp [h]
@[simp] theorem oEq_ll (a b : String) : oEq (.str (Str.ofString a)) (.str (Str.ofString b)) = some (.bl (decide (a = b))) := by
  rw [oEq_s (sok_of a) (sok_of b)]
  by_cases h : a = b <;> simp [h]
@[simp] theorem oEq_ii (a b : Int) : oEq (.int a) (.int b) = some (.bl (decide (a = b))) := by
  unfold oEq
  rw [if_pos ⟨rfl, rfl⟩]
  show some (Dat.bl (a == b)) = _
  by_cases h : a = b <;> simp [h]
@[simp] theorem oNe_ii (a b : Int) : oNe (.int a) (.int b) = some (.bl (!decide (a = b))) := by
  unfold oNe
  rw [if_pos ⟨rfl, rfl⟩]
  show some (Dat.bl (!(a == b))) = _
  by_cases h : a = b <;> simp [h]
end
end PD

set_option Elab.async false
set_option linter.all false
set_option maxRecDepth 100000
set_option maxHeartbeats 2000000
/-! RbW for new lists and for a test that reads an own list -/
namespace PD
open PySem PySem.Spec PyProof.Rows L2 RB RBS
section
variable {Q : Dat → Fld → Prop} {QA : List Dat → Fld → Prop} {QF : Dat → Prop} {N : DEnv → Fld → Prop} {R : Dat → Fld → Prop} {ρ : DEnv} {S : Fld}
theorem sw_fl_nil {g : FG} {b : FS} (h : N ρ S) : SW (fForL g b [] ρ S) N R := h
theorem sw_fl_cons {g : FG} {b : FS} {d : Dat} {ds : List Dat} {ρ' : DEnv} (e : g d ρ = some ρ') (h : SW (b ρ' S) (fun ρ S => SW (fForL g b ds ρ S) N R) R) : SW (fForL g b (d :: ds) ρ S) N R := by
  show SW (match g d ρ with
    | some ρ' => loopR (b ρ' S) (fForL g b ds)
    | none => .bad) N R
  rw [e]
  show SW (loopR (b ρ' S) (fForL g b ds)) N R
  cases eb : b ρ' S with
  | nx ρ2 S2 => rw [eb] at h; exact h
  | rt d S2 => rw [eb] at h; exact h
  | _ => rw [eb] at h; exact h.elim
@[simp] theorem sw_ext_ {i : Nat} {a : FE} {ds es : List Dat} {S' : Fld} (h : ρ[i]? = some (some (.own ds))) (e : a ρ S = .ok (.lst es) S') : SW (fExt i a ρ S) N R ↔ ds.length + es.length ≤ 100000 ∧ N (ρ.set i (some (.own (ds ++ es)))) S' := by
  unfold fExt
  rw [h]
  simp only [e, RE.bindS]
  by_cases c : ds.length + es.length ≤ 100000
  · rw [if_pos c]
    simp [c]
  · rw [if_neg c]
    simp [c]
theorem sw_ext {i : Nat} {a : FE} {ds : List Dat} (h : ρ[i]? = some (some (.own ds))) (q : EW (a ρ S) fun d S' => ∃ es, d = .lst es ∧ ds.length + es.length ≤ 100000 ∧ N (ρ.set i (some (.own (ds ++ es)))) S') : SW (fExt i a ρ S) N R := by
  cases e : a ρ S with
  | ok d S' =>
    rw [e] at q
    obtain ⟨es, rfl, hl, q⟩ := q
    exact (sw_ext_ h e).mpr ⟨hl, q⟩
  | er n v => rw [e] at q; exact q.elim
  | bad => rw [e] at q; exact q.elim
theorem sw_setL {i : Nat} {F : List Dat → RF} {a : FA} {ds es : List Dat} {S' : Fld} (h : a ρ S = .ok ds S') (e : F ds = .ok (.lst es)) (q : N (ρ.set i (some (.own es))) S') : SW (fSetL i F a ρ S) N R := by
  unfold fSetL
  rw [h]
  show SW (match F ds with
    | .ok (.lst es) => .nx (ρ.set i (some (.own es))) S'
    | .er m v => .er m v
    | _ => .bad) N R
  rw [e]
  exact q
theorem ew_tmp {i : Nat} {f : FE} {ds : List Dat} (h : ρ[i]? = some (some (.own ds))) (q : EW (f (onlyD (ρ.set i (some (.v (.lst ds))))) []) fun d _ => ∃ b, d = .bl b ∧ Q (.bl b) S) : EW (fTmp i f ρ S) Q := by
  unfold fTmp
  rw [h]
  show EW (match f (onlyD (ρ.set i (some (.v (.lst ds))))) [] with
    | .ok (.bl b) _ => .ok (.bl b) S
    | _ => .bad) Q
  cases e : f (onlyD (ρ.set i (some (.v (.lst ds))))) [] with
  | ok d S2 =>
    rw [e] at q
    obtain ⟨b, rfl, q⟩ := q
    exact q
  | er n v => rw [e] at q; exact q.elim
  | bad => rw [e] at q; exact q.elim
end
theorem oSS_strs {xs : List Str} (h : xs.length < 64) : oSS (.lst (xs.map Dat.str)) = some (.lst ((sortT (dd xs)).map Dat.str)) := by
  unfold oSS
  simp only [strsOf_map, if_pos h]
theorem oSortS_strs {xs : List Str} (h : xs.length < 64) : oSortS [.lst (xs.map Dat.str)] = some (.lst ((sortT xs).map Dat.str)) := by
  unfold oSortS
  simp only [strsOf_map, if_pos h]
end PD

set_option Elab.async false
set_option linter.all false
set_option maxRecDepth 100000
set_option maxHeartbeats 2000000
namespace PD
open PySem PySem.Spec PyProof.Rows L2 RB
/-! ### list(range(n)), list(range(a, b)) -/
theorem dvs_rg {K : PySem.W.Frag} {H : Hp} (a b : Int) : DVs K H (rgV a b) (rangeD a (b - a).toNat) := by
  unfold rgV rangeD
  generalize List.range (b - a).toNat = l
  induction l with
  | nil => exact .nil
  | cons x l ih => exact .cons (.int _) ih
theorem rgV_len (a b : Int) : (rgV a b).length = (b - a).toNat := by
  unfold rgV
  rw [List.length_map, List.length_range]
def fListR2 (a b : FE) : FE := fun ρ S => (a ρ S).bind fun x S1 => (b ρ S1).bind fun y S2 => match x, y with
  | .int i, .int j => if -(2 ^ 40) ≤ i ∧ i < 2 ^ 40 ∧ -(2 ^ 40) ≤ j ∧ j < 2 ^ 40 ∧ (j - i).toNat ≤ 100000 then .ok (.lst (rangeD i (j - i).toNat)) S2 else .bad
  | _, _ => .bad
def fListR1 (b : FE) : FE := fListR2 (fC (.int 0)) b
section
variable {X : Cx} {M : Me}
theorem rg_ok {i j : Int} (h : -(2 ^ 40) ≤ i ∧ i < 2 ^ 40 ∧ -(2 ^ 40) ≤ j ∧ j < 2 ^ 40 ∧ (j - i).toNat ≤ 100000) : RgOk i j := ⟨by omega, by omega, by omega, by omega, by omega⟩
theorem rd_listR2 {fa fb : FE} {σ : L2.St} {H : Hp} {Q : VK} (hK : M.K = X.K) (h : rdE M (fListR2 fa fb) σ H Q) : tLstRg (tRg2 (rdE M fa) (rdE M fb)) σ H Q := by
  obtain ⟨ρ, S, Hf, R, q⟩ := h
  refine ⟨ρ, S, Hf, R, ?_⟩
  unfold fListR2 RE.bind at q
  cases e1 : fa ρ S with
  | er n v => simp only [e1] at q; exact q
  | bad => simp only [e1] at q
  | ok x S1 =>
    simp only [e1] at q
    intro xv H1 Hf1 T1 hx
    refine ⟨ρ, S1, Hf1, T1.rel, ?_⟩
    cases e2 : fb ρ S1 with
    | er n v => simp only [e2] at q; exact q
    | bad => simp only [e2] at q
    | ok y S2 =>
      simp only [e2] at q
      intro yv H2 Hf2 T2 hy
      cases x with
      | int i =>
        cases y with
        | int j =>
          simp only at q
          by_cases hc : -(2 ^ 40) ≤ i ∧ i < 2 ^ 40 ∧ -(2 ^ 40) ≤ j ∧ j < 2 ^ 40 ∧ (j - i).toNat ≤ 100000
          · rw [if_pos hc] at q
            cases hx
            cases hy
            exact ⟨i, j, rfl, rfl, rg_ok hc, fun p hp => q _ _ _ ((T1.trans T2).new hp (fun _ z => nomatch z)) (.lst upd_same (by rw [rgV_len]; exact hc.2.2.2.2) (dvs_rg i j))⟩
          · rw [if_neg hc] at q
            exact q.elim
        | _ => exact q.elim
      | _ => exact q.elim
theorem ev_listR2 {e : Expr} {fa fb : FE} (hK : M.K = X.K) (h : PE X e (tLstRg (tRg2 (rdE M fa) (rdE M fb)))) : PE X e (rdE M (fListR2 fa fb)) := pe_weak h fun σ H Q q => rd_listR2 hK q
theorem ev_listR1 {e : Expr} {fb : FE} (hK : M.K = X.K) (h : PE X e (tLstRg (tRg1 (rdE M fb)))) : PE X e (rdE M (fListR1 fb)) := pe_weak h fun σ H Q ⟨ρ, S, Hf, R, q⟩ => by
  refine ⟨ρ, S, Hf, R, ?_⟩
  unfold fListR1 fListR2 RE.bind fC at q
  simp only at q
  cases e2 : fb ρ S with
  | er n v => simp only [e2] at q; exact q
  | bad => simp only [e2] at q
  | ok y S2 =>
    simp only [e2] at q
    intro yv H2 Hf2 T2 hy
    cases y with
    | int j =>
      simp only at q
      by_cases hc : -(2 ^ 40) ≤ (0 : Int) ∧ (0 : Int) < 2 ^ 40 ∧ -(2 ^ 40) ≤ j ∧ j < 2 ^ 40 ∧ (j - 0).toNat ≤ 100000
      · rw [if_pos hc] at q
        cases hy
        exact ⟨j, rfl, rg_ok hc, fun p hp => q _ _ _ (T2.new hp (fun _ z => nomatch z)) (.lst upd_same (by rw [rgV_len]; exact hc.2.2.2.2) (dvs_rg 0 j))⟩
      · rw [if_neg hc] at q
        exact q.elim
    | _ => exact q.elim
end
section
variable {Q : Dat → Fld → Prop} {ρ : DEnv} {S : Fld}
@[simp] theorem ew_listR1 {b : FE} : EW (fListR1 b ρ S) Q ↔ EW (b ρ S) fun d S2 => iW d fun j => (j < 2 ^ 40 ∧ -(2 ^ 40) ≤ j ∧ j.toNat ≤ 100000) ∧ Q (.lst (rangeD 0 j.toNat)) S2 := by
  cases e : b ρ S with
  | ok y S2 =>
    cases y with
    | int j =>
      simp only [fListR1, fListR2, RE.bind, fC, e, EW_ok, iW]
      by_cases hc : j < 2 ^ 40 ∧ -(2 ^ 40) ≤ j ∧ j.toNat ≤ 100000
      · rw [if_pos (by omega)]
        simp only [EW_ok, hc, and_self, true_and, Int.sub_zero]
      · rw [if_neg (by omega)]
        exact ⟨fun h => h.elim, fun h => hc h.1⟩
    | _ => simp only [fListR1, fListR2, RE.bind, fC, e, EW_ok, iW, EW_bad]
  | er n v => simp only [fListR1, fListR2, RE.bind, fC, e, EW_er]
  | bad => simp only [fListR1, fListR2, RE.bind, fC, e, EW_bad]
end
end PD

set_option Elab.async false
set_option linter.all false
set_option maxRecDepth 100000
set_option maxHeartbeats 2000000
namespace PD
open PySem PySem.Spec PyProof.Rows L2 RB
/-! ### a, b = a list -/
def gTL (gs : List FG) : FG := fun d ρ => match d with
  | .lst ds => gsN gs ds ρ
  | _ => none
section
variable {X : Cx} {M : Me}
theorem simG_lst {u : TGs} {gs : List FG} {n : Nat} (hs : SimGs M u gs) (hn : gs.length = n) (hK : M.K = X.K) : SimG M (gUnl X.K n u) (gTL gs) := fun v σ H ρ S Hf d ρ' Q R hv e q => by
  cases hv with
  | dct _ _ _ _ _ => cases e
  | ins _ _ _ _ => cases e
  | lst a l b =>
    have e : gsN gs _ ρ = some ρ' := e
    refine ⟨_, _, rfl, by rw [← hK]; exact .inl (.inl (R.sub _ _ a)), ?_, SimGs.run hs R b e q⟩
    have : ∀ (gs : List FG) (ds : List Dat) (ρ : DEnv) (ρ' : DEnv), gsN gs ds ρ = some ρ' → ds.length = gs.length := by
      intro gs
      induction gs with
      | nil => intro ds ρ ρ' e; cases ds with
        | nil => rfl
        | cons _ _ => cases e
      | cons g gs ih =>
        intro ds ρ ρ' e
        cases ds with
        | nil => cases e
        | cons d ds =>
          have e : (g d ρ).bind (gsN gs ds) = some ρ' := e
          cases eg : g d ρ with
          | none => rw [eg] at e; cases e
          | some ρ1 =>
            rw [eg] at e
            exact congrArg Nat.succ (ih ds ρ1 ρ' e)
    rw [b.length, this _ _ _ _ e, hn]
  | non => cases e
  | bl _ => cases e
  | int _ => cases e
  | str _ => cases e
  | tup _ _ _ => cases e
end
end PD

set_option Elab.async false
set_option linter.all false
set_option maxRecDepth 100000
set_option maxHeartbeats 4000000
namespace RB
open PySem PySem.Spec PyProof.Rows L2 PD
def tab_OPERAND_PLACES : List (Str × Dat) := [("list", (.tup [])), ("roots", (.tup [])), ("unity", (.tup [])), ("name", (.tup [])), ("join", (.tup [(.int 1), (.int 2)])), ("sum", (.tup [(.int 1), (.int 2)])), ("difference", (.tup [(.int 1), (.int 2)])), ("product", (.tup [(.int 1), (.int 2)])), ("quotient", (.tup [(.int 1), (.int 2)])), ("negative", (.tup [(.int 1)])), ("power", (.tup [(.int 1)])), ("map", (.tup [(.int 2)])), ("sums", (.tup [(.int 1)])), ("products", (.tup [(.int 1)])), ("distinct", (.tup [(.int 1)])), ("common", (.tup [(.int 1), (.int 2)])), ("without", (.tup [(.int 1), (.int 2)]))]
section
variable {P : Program} {w : World} {K : PySem.W.Frag} {mg : Str → Option Value} {base : Heap}
theorem sc_operands : FnScope ["tree", "place"] ["tree"] (defScope s_operands) := ⟨rfl, rfl, rfl, by decide +kernel, rfl, by decide +kernel, by decide +kernel⟩
def B_operands : FS :=
  (fRet (fLc tupOf (fUn (oTab tab_OPERAND_PLACES) (fOp oIx (fVar 0) (fC (.int 0)))) (gN 1) fYes (fOp oIx (fVar 0) (fVar 1)) [1]))
def F_operands : List Dat → RF := runF 2 B_operands
theorem ok_operands {ec : Str → Addr} {f : Addr} {fd : FuncData} (F : L2.Fun K "operands" "operands" s_operands f fd) {a_OPERAND_PLACES : Addr} (g_OPERAND_PLACES : mg "OPERAND_PLACES" = some (.ref a_OPERAND_PLACES)) {es_OPERAND_PLACES : Array DictEntry} {nn_OPERAND_PLACES : Nat} (D_OPERAND_PLACES : KDict K w a_OPERAND_PLACES es_OPERAND_PLACES nn_OPERAND_PLACES) (t_OPERAND_PLACES : TabF K w a_OPERAND_PLACES tab_OPERAND_PLACES) : FnOk P w K mg base CX0 1 f fd ["tree"] (spF K ec 1 F_operands) := by
  have nd := sc_operands.nd
  refine fnF (k := 0) F sc_operands rfl fun cdv A outer s H Hs E hr => ?_
  skip
  skip
  exact (sv_one (sv_ret (ev_lc_ (pe_lc (own := [("place", 1)]) (te := rdE (⟨K, H, Hs, E, ec, none, []⟩ : Me) (fOp oIx (fVar 0) (fVar 1))) (tt := rdT (⟨K, H, Hs, E, ec, none, []⟩ : Me) fYes) (by rfl) nd (pi_tup (tl := rdE (⟨K, H, Hs, E, ec, none, []⟩ : Me) (fUn (oTab tab_OPERAND_PLACES) (fOp oIx (fVar 0) (fC (.int 0))))) (ev_tab rfl t_OPERAND_PLACES.d (pe_ix ix_kdict (pe_glob (v := .ref a_OPERAND_PLACES) (by rfl) g_OPERAND_PLACES rfl) (ev_o (ev_ix ix_seq (fun _ _ => rfl) rfl sim_ix (ev_o (ev_var (pv 0))) (ev_o (ev_c pe_int fun _ => .int _)))) (fun _ _ => rfl)))) (blkOk_by (N := ["tree", "place"]) (sc := defScope s_operands) (by decide +kernel)) (fun _ _ _ _ _ => pg_name (i := 1) nd rfl (.inl rfl) (hf := .inr rfl)) (fun _ _ _ _ _ => ptv_nil) (fun _ _ _ _ _ => (ev_ix ix_seq (fun _ _ => rfl) rfl sim_ix (ev_o (ev_var (pv 0))) (ev_o (ev_var (pv 1)))))) (fun _ _ _ h => rd_lcT rfl (simW_name (by decide)) h))))
theorem sc_with_operands : FnScope ["tree", "found", "parts", "place", "operand"] ["tree", "found"] (defScope s_with_operands) := ⟨rfl, rfl, rfl, by decide +kernel, rfl, by decide +kernel, by decide +kernel⟩
def B_with_operands : FS :=
  (fSeq (fNewL 2 (fVar 0))
  (fSeq (fForZM (fCons (fUn (oTab tab_OPERAND_PLACES) (fOp oIx (fVar 0) (fC (.int 0)))) (fCons (fVar 1) fNil)) (gT [(gN 3), (gN 4)]) (fOwnPut 2 (fVar 3) (fVar 4)))
  (fRet (fApp oTuple (fCons (fOwn 2) fNil)))))
def F_with_operands : List Dat → RF := runF 5 B_with_operands
theorem ok_with_operands {ec : Str → Addr} {f : Addr} {fd : FuncData} (F : L2.Fun K "with_operands" "with_operands" s_with_operands f fd) (mtuple : mg "tuple" = none) {a_OPERAND_PLACES : Addr} (g_OPERAND_PLACES : mg "OPERAND_PLACES" = some (.ref a_OPERAND_PLACES)) {es_OPERAND_PLACES : Array DictEntry} {nn_OPERAND_PLACES : Nat} (D_OPERAND_PLACES : KDict K w a_OPERAND_PLACES es_OPERAND_PLACES nn_OPERAND_PLACES) (t_OPERAND_PLACES : TabF K w a_OPERAND_PLACES tab_OPERAND_PLACES) (mzip : mg "zip" = none) (mlist : mg "list" = none) : FnOk P w K mg base CX0 1 f fd ["tree", "found"] (spF K ec 2 F_with_operands) := by
  have nd := sc_with_operands.nd
  refine fnF (k := 0) F sc_with_operands rfl fun cdv A outer s H Hs E hr => ?_
  skip
  skip
  exact (sv_cons (sv_newL rfl (ps_set (i := 2) nd rfl (.inl rfl) (pe_callTy call_list_of (by rfl) mlist (by decide +kernel) (pa_cons (ev_o (ev_var (pv 0))) pa_nil))))
    (sv_cons (sv_forZM rfl (simG_tup (.cons simG_name (.cons simG_name .nil)) rfl rfl) (ps_for PassesOwn.never rfl (RBZ.pi_zipM (by rfl) mzip (av_cons (ev_tab rfl t_OPERAND_PLACES.d (pe_ix ix_kdict (pe_glob (v := .ref a_OPERAND_PLACES) (by rfl) g_OPERAND_PLACES rfl) (ev_o (ev_ix ix_seq (fun _ _ => rfl) rfl sim_ix (ev_o (ev_var (pv 0))) (ev_o (ev_c pe_int fun _ => .int _)))) (fun _ _ => rfl))) (av_cons (ev_var (pv 1)) av_nil))) (pg_tup (by rfl) (pgs_cons (pg_name (i := 3) nd rfl (.inl rfl)) (pgs_cons (pg_name (i := 4) nd rfl (.inl rfl)) pgs_nil)))
    (sv_one (sv_ownPut (ps_asg (ev_var (pv 4)) (pg_sub (pv 2) (ev_var (pv 3)) set_list))))))
    (sv_one (sv_ret (ev_call_ rfl sim_tuple (pe_callTy call_tuple_of (by rfl) mtuple (by decide +kernel) (aw_cons (ev_own (pv 2)) aw_nil)))))))
theorem sc_put_step : FnScope ["tree", "steps", "indexes", "step", "operand"] ["tree", "steps", "indexes"] (defScope s_put_step) := ⟨rfl, rfl, rfl, by decide +kernel, rfl, by decide +kernel, by decide +kernel⟩
def B_put_step (slf : Fld → List Dat → RE) : FS :=
  (fSeq (fSet 3 (fCall F_with_operands (fCons (fVar 0) (fCons (fLc listOf (fCall F_operands (fCons (fVar 0) fNil)) (gN 4) fYes (fCallT 1 2 slf (fVar 4)) [4]) fNil))))
  (fSeq (fIfS (fInT true 2 (fVar 3)) (fSeq (fPutT 2 (fVar 3) (fOn1 oLen 1))
  (fApp1 1 (fVar 3))) fNext)
  (fRet (fGetT 2 (fVar 3)))))
def F_put_step : Nat → Fld → List Dat → RE
  | 0 => fun _ _ => .bad
  | n + 1 => runM2 5 (B_put_step (F_put_step n))
theorem ok_put_step {ec : Str → Addr} {f : Addr} {fd : FuncData} (F : L2.Fun K "put_step" "put_step" s_put_step f fd) (g_put_step : mg "put_step" = some (.ref f)) (k_put_step : PySem.W.keepIn K (.ref f) = true) (b_put_step : L2.Binds K fd ["tree", "steps", "indexes"] []) (mlen : mg "len" = none) {f_operands : Addr} {d_operands : FuncData} (G_operands : FnOk P w K mg base CX0 1 f_operands d_operands ["tree"] (spF K ec 1 F_operands)) (g_operands : mg "operands" = some (.ref f_operands)) (k_operands : PySem.W.keepIn K (.ref f_operands) = true) (b_operands : L2.Binds K d_operands ["tree"] []) {f_with_operands : Addr} {d_with_operands : FuncData} (G_with_operands : FnOk P w K mg base CX0 1 f_with_operands d_with_operands ["tree", "found"] (spF K ec 2 F_with_operands)) (g_with_operands : mg "with_operands" = some (.ref f_with_operands)) (k_with_operands : PySem.W.keepIn K (.ref f_with_operands) = true) (b_with_operands : L2.Binds K d_with_operands ["tree", "found"] []) : ∀ n : Nat, FnOk P w K mg base CX0 (1 + n) f fd ["tree", "steps", "indexes"] (spM2 K ec (kTab P w) (F_put_step n))
  | 0 => fn_badM2 rfl
  | n + 1 => by
    have nd := sc_put_step.nd
    have ih := ok_put_step (ec := ec) F g_put_step k_put_step b_put_step mlen G_operands g_operands k_operands b_operands G_with_operands g_with_operands k_with_operands b_with_operands n
    refine fnM2 (k := 1 + n) F sc_put_step rfl fun cdv A outer s H Hs E y kk hk hr => ?_
    have hr0 := hr
    have hkd : ∀ (x : Addr) (kd : MK), (some (y, kk) : Option (Addr × MK)) = some (x, kd) → (kTab P w) kd := fun _ _ z => by cases z; exact hk
    have hk1 : ∀ (x : Addr) (kd : MK), (some (y, kk) : Option (Addr × MK)) = some (x, kd) → ∃ y, kd.sub = some y := fun _ _ z => by cases z; obtain ⟨y2, e⟩ := hk; exact ⟨y2, by rw [e]; rfl⟩
    exact (sv_cons (sv_set (ps_set (i := 3) nd rfl (.inl rfl) (ev_callF rfl rfl (len_cons (len_cons len_nil)) (pe_call G_with_operands (hr.mono (by omega)) (by rfl) g_with_operands k_with_operands b_with_operands .nil passZ (av_cons (ev_var (pv 0)) (av_cons (ev_lc_ (pe_lc (own := [("operand", 4)]) (te := rdE (⟨K, H, Hs, E, ec, some (y, kk), []⟩ : Me) (fCallT 1 2 (F_put_step n) (fVar 4))) (tt := rdT (⟨K, H, Hs, E, ec, some (y, kk), []⟩ : Me) fYes) (by rfl) nd (pi_list (tl := rdE (⟨K, H, Hs, E, ec, some (y, kk), []⟩ : Me) (fCall F_operands (fCons (fVar 0) fNil))) (ev_callF rfl rfl (len_cons len_nil) (pe_call G_operands (hr.mono (by omega)) (by rfl) g_operands k_operands b_operands .nil passZ (av_cons (ev_var (pv 0)) av_nil)))) (blkOk_by (N := ["tree", "steps", "indexes", "step", "operand"]) (sc := defScope s_put_step) (by decide +kernel)) (fun _ _ _ _ _ => pg_name (i := 4) nd rfl (.inl rfl) (hf := .inr rfl)) (fun _ _ _ _ _ => ptv_nil) (fun _ _ _ _ _ => (ev_callT (E := E0) rfl rfl hkd (pe_call ih hr0 (by rfl) g_put_step k_put_step b_put_step .nil passZ (pa_cons (ev_var (pv 4)) (pa_cons (pv 1) (pa_cons (pv 2) pa_nil))))))) (fun _ _ _ h => rd_lcL rfl (simW_name (by decide)) h)) av_nil))))))
    (sv_cons (sv_if (tv_inT (hu9_of hr) rfl hkd (ev_var (pv 3)) (pv 2))
    (sv_cons (sv_putT (hu9_of hr) rfl rfl hkd (ps_asg (ev_on1 rfl hk1 sim_len (pe_callB call_len (by rfl) mlen PySem.boot_len (pa_cons (pv 1) pa_nil))) (pg_sub (pv 2) (ev_var (pv 3)) RBN.put_N)))
    (sv_one (sv_app1 rfl hk1 (ps_expr (pe_bm PySem.F.plainAttrs_list PySem.F.slot_list_append PySem.F.type_list_append mt_append (pv 1) (pa_cons (ev_var (pv 3)) pa_nil))))))
    sv_nil)
    (sv_one (sv_ret (ev_getT (hu9_of hr) rfl hkd (pe_ix RBN.ix_N (pv 2) (ev_var (pv 3)) (fun _ _ => rfl)))))))
theorem sc_planned : FnScope ["trees", "steps", "indexes", "results", "tree"] ["trees"] (defScope s_planned) := ⟨rfl, rfl, rfl, by decide +kernel, rfl, by decide +kernel, by decide +kernel⟩
def B_planned : FS :=
  (fWith2 1 2
  (fSet 3 (fLc tupOf (fVar 0) (gN 4) fYes (fCallT 1 2 (F_put_step 20) (fVar 4)) [4]))
  (fFz 1 (fRet (fApp mkT (fCons (fVar 1) (fCons (fVar 3) fNil))))))
def F_planned : List Dat → RF := runF 5 B_planned
theorem ok_planned {ec : Str → Addr} {f : Addr} {fd : FuncData} (F : L2.Fun K "planned" "planned" s_planned f fd) {f_put_step : Addr} {d_put_step : FuncData} (G_put_step : FnOk P w K mg base CX0 21 f_put_step d_put_step ["tree", "steps", "indexes"] (spM2 K ec (kTab P w) (F_put_step 20))) (g_put_step : mg "put_step" = some (.ref f_put_step)) (k_put_step : PySem.W.keepIn K (.ref f_put_step) = true) (b_put_step : L2.Binds K d_put_step ["tree", "steps", "indexes"] []) : FnOk P w K mg base CX0 22 f fd ["trees"] (spF K ec 1 F_planned) := by
  have nd := sc_planned.nd
  refine fnF (k := 21) F sc_planned rfl fun cdv A outer s H Hs E hr => ?_
  skip
  skip
  exact (sv_with2 rfl rfl (ps_asg (pe_lst pa_nil) (pg_name (i := 1) nd rfl (.inr rfl))) (ps_asg RBN.pe_dnewN (pg_name (i := 2) nd rfl (.inr rfl))) (fun x y o1 o2 => by
    have hkd : ∀ (x2 : Addr) (kd : MK), (Me.with2 (⟨K, H, Hs, E, ec, none, []⟩ : Me) x y (RBN.DictN P w y) o1 o2).self = some (x2, kd) → kTab P w kd := fun _ _ z => by cases z; exact ⟨_, rfl⟩
    have hk1 : ∀ (x2 : Addr) (kd : MK), (Me.with2 (⟨K, H, Hs, E, ec, none, []⟩ : Me) x y (RBN.DictN P w y) o1 o2).self = some (x2, kd) → ∃ y, kd.sub = some y := fun _ _ z => by cases z; exact ⟨_, rfl⟩
    exact (sv_setLc (ps_setLc (i := 3) (own := [("tree", 4)]) (te := rdE (Me.with2 (⟨K, H, Hs, E, ec, none, []⟩ : Me) x y (RBN.DictN P w y) o1 o2) (fCallT 1 2 (F_put_step 20) (fVar 4))) (tt := rdT (Me.with2 (⟨K, H, Hs, E, ec, none, []⟩ : Me) x y (RBN.DictN P w y) o1 o2) fYes) (by rfl) nd rfl rfl (sw_true rfl rfl rfl (by decide +kernel)) (pi_tup (tl := rdE (Me.with2 (⟨K, H, Hs, E, ec, none, []⟩ : Me) x y (RBN.DictN P w y) o1 o2) (fVar 0)) (ev_var (pv 0))) (blkOk_by (N := ["trees", "steps", "indexes", "results", "tree"]) (sc := defScope s_planned) (by decide +kernel)) (fun _ _ _ _ _ => pg_name (i := 4) nd rfl (.inl rfl) (hf := .inr rfl)) (fun _ _ _ _ _ => ptv_nil) (fun _ _ _ _ _ => (ev_callT (E := E0) rfl rfl hkd (pe_call G_put_step (hr.mono (by omega)) (by rfl) g_put_step k_put_step b_put_step .nil passZ (pa_cons (ev_var (pv 4)) (pa_cons (pv 1) (pa_cons (pv 2) pa_nil))))))) (fun _ _ _ h => rd_lcT rfl (simW_name (by decide)) h)))
    (pss_weak (sv_one (sv_ret (ev_tup (av_cons (ev_var (pv 1)) (av_cons (ev_var (pv 3)) av_nil))))) fun D σ H h => rd_fz (i := 1) h))
theorem sc_compiled : FnScope ["trees"] (([] : List Str) ++ (["trees"] : List Str)) (defScope s_compiled) := ⟨rfl, rfl, rfl, by decide +kernel, rfl, by decide +kernel, by decide +kernel⟩
def B_compiled : FS :=
  (fRet (fCall F_planned (fCons (fVar 0) fNil)))
def F_compiled : List Dat → RF := starF 1 B_compiled
theorem ok_compiled {ec : Str → Addr} {f : Addr} {oc kV doc pm ct cdv : Value} {od an : Option Addr} {osl : Array (Option Value)} (lk : K.lookup f = some ⟨oc, od, .func (PySem.W.fnOf "compiled" "compiled" (defArgs s_compiled) (defBody s_compiled) (defScope s_compiled) .none kV doc pm an cdv ct), osl⟩) (hcd : PySem.W.codeIn K cdv "compiled" = true) {f_planned : Addr} {d_planned : FuncData} (G_planned : FnOk P w K mg base CX0 22 f_planned d_planned ["trees"] (spF K ec 1 F_planned)) (g_planned : mg "planned" = some (.ref f_planned)) (k_planned : PySem.W.keepIn K (.ref f_planned) = true) (b_planned : L2.Binds K d_planned ["trees"] []) : FnR P w K mg base CX0 23 f (spFv K ec F_compiled) := by
  have nd := sc_compiled.nd
  refine fnR_starF (G := runF 1 B_compiled) (fun ds h => ?_) ?_
  · unfold F_compiled starF at h ⊢
    split at h
    · rename_i hl
      exact ⟨hl, by rw [if_pos hl]⟩
    · exact (h rfl).elim
  · refine StX.fn_star (ps := []) (pv := "trees") (k := 22) (N := ["trees"]) (sp := spF K ec 1 (runF 1 B_compiled)) lk hcd sc_compiled StX.cxUp_none (fun us rest hl => match us, rest, hl with | [], [], _ => rfl | [], _ :: _, _ => rfl) (fun A outer s H vs Q E hr h => ?_)
    obtain ⟨ds, Hs, h1, h2, h3, q⟩ := h
    have PT : PSs (cxOf CX0 P w K mg base ["trees"] "compiled" (defScope s_compiled) f cdv A outer s H E).nox (defBody s_compiled) (PD.rdS ⟨K, H, Hs, E, ec, none, []⟩ B_compiled) :=
      (sv_one (sv_ret (ev_callF rfl rfl (len_cons len_nil) (pe_call G_planned (hr.mono (by omega)) (by rfl) g_planned k_planned b_planned .nil passZ (av_cons (ev_var (pv 0)) av_nil)))))
    exact ⟨_, PT.nox, startD 1 ds, [], Hs, rel_start h2 h3, post_end (n := 1) q⟩
theorem sc_plan_trees : FnScope ["plan", "found", "step", "steps", "results", "index"] ["plan"] (defScope s_plan_trees) := ⟨rfl, rfl, rfl, by decide +kernel, rfl, by decide +kernel, by decide +kernel⟩
def B_plan_trees : FS :=
  (fSeq (fAsg (fVar 0) (gT [(gN 3), (gN 4)]))
  (fSeq (fNewO 1 fNil)
  (fSeq (fFor listOf (fVar 3) (gN 2) (fAppd 1 (fCall F_with_operands (fCons (fVar 2) (fCons (fLc listOf (fCall F_operands (fCons (fVar 2) fNil)) (gN 5) fYes (fOp oIx (fOwn 1) (fVar 5)) [5]) fNil)))))
  (fRet (fLc listOf (fVar 4) (gN 5) fYes (fOp oIx (fOwn 1) (fVar 5)) [5])))))
def F_plan_trees : List Dat → RF := runF 6 B_plan_trees
theorem ok_plan_trees {ec : Str → Addr} {f : Addr} {fd : FuncData} (F : L2.Fun K "plan_trees" "plan_trees" s_plan_trees f fd) {f_operands : Addr} {d_operands : FuncData} (G_operands : FnOk P w K mg base CX0 1 f_operands d_operands ["tree"] (spF K ec 1 F_operands)) (g_operands : mg "operands" = some (.ref f_operands)) (k_operands : PySem.W.keepIn K (.ref f_operands) = true) (b_operands : L2.Binds K d_operands ["tree"] []) {f_with_operands : Addr} {d_with_operands : FuncData} (G_with_operands : FnOk P w K mg base CX0 1 f_with_operands d_with_operands ["tree", "found"] (spF K ec 2 F_with_operands)) (g_with_operands : mg "with_operands" = some (.ref f_with_operands)) (k_with_operands : PySem.W.keepIn K (.ref f_with_operands) = true) (b_with_operands : L2.Binds K d_with_operands ["tree", "found"] []) : FnOk P w K mg base CX0 2 f fd ["plan"] (spF K ec 1 F_plan_trees) := by
  have nd := sc_plan_trees.nd
  refine fnF (k := 1) F sc_plan_trees rfl fun cdv A outer s H Hs E hr => ?_
  skip
  skip
  exact (sv_cons (sv_asg (simG_tup (.cons simG_name (.cons simG_name .nil)) rfl rfl) (ps_asg (ev_var (pv 0)) (pg_tup (by rfl) (pgs_cons (pg_name (i := 3) nd rfl (.inl rfl)) (pgs_cons (pg_name (i := 4) nd rfl (.inl rfl)) pgs_nil)))))
    (sv_cons (sv_newO (ps_set (i := 1) nd rfl (.inr rfl) (pe_lst av_nil)))
    (sv_cons (sv_forL rfl simG_name (ps_for PassesOwn.never rfl (pi_list (ev_var (pv 3))) (pg_name (i := 2) nd rfl (.inl rfl))
    (sv_one (sv_appd (ps_expr (pe_bm PySem.F.plainAttrs_list PySem.F.slot_list_append PySem.F.type_list_append mt_append (pv 1) (pa_cons (ev_callF rfl rfl (len_cons (len_cons len_nil)) (pe_call G_with_operands (hr.mono (by omega)) (by rfl) g_with_operands k_with_operands b_with_operands .nil passZ (av_cons (ev_var (pv 2)) (av_cons (ev_lc_ (pe_lc (own := [("index", 5)]) (te := rdE (⟨K, H, Hs, E, ec, none, []⟩ : Me) (fOp oIx (fOwn 1) (fVar 5))) (tt := rdT (⟨K, H, Hs, E, ec, none, []⟩ : Me) fYes) (by rfl) nd (pi_list (tl := rdE (⟨K, H, Hs, E, ec, none, []⟩ : Me) (fCall F_operands (fCons (fVar 2) fNil))) (ev_callF rfl rfl (len_cons len_nil) (pe_call G_operands (hr.mono (by omega)) (by rfl) g_operands k_operands b_operands .nil passZ (av_cons (ev_var (pv 2)) av_nil)))) (blkOk_by (N := ["plan", "found", "step", "steps", "results", "index"]) (sc := defScope s_plan_trees) (by decide +kernel)) (fun _ _ _ _ _ => pg_name (i := 5) nd rfl (.inl rfl) (hf := .inr rfl)) (fun _ _ _ _ _ => ptv_nil) (fun _ _ _ _ _ => (ev_ix ix_seq (fun _ _ => rfl) rfl sim_ix (ev_own (pv 1)) (ev_o (ev_var (pv 5)))))) (fun _ _ _ h => rd_lcL rfl (simW_name (by decide)) h)) av_nil)))) pa_nil)))))))
    (sv_one (sv_ret (ev_lc_ (pe_lc (own := [("index", 5)]) (te := rdE (⟨K, H, Hs, E, ec, none, []⟩ : Me) (fOp oIx (fOwn 1) (fVar 5))) (tt := rdT (⟨K, H, Hs, E, ec, none, []⟩ : Me) fYes) (by rfl) nd (pi_list (tl := rdE (⟨K, H, Hs, E, ec, none, []⟩ : Me) (fVar 4)) (ev_var (pv 4))) (blkOk_by (N := ["plan", "found", "step", "steps", "results", "index"]) (sc := defScope s_plan_trees) (by decide +kernel)) (fun _ _ _ _ _ => pg_name (i := 5) nd rfl (.inl rfl) (hf := .inr rfl)) (fun _ _ _ _ _ => ptv_nil) (fun _ _ _ _ _ => (ev_ix ix_seq (fun _ _ => rfl) rfl sim_ix (ev_own (pv 1)) (ev_o (ev_var (pv 5)))))) (fun _ _ _ h => rd_lcL rfl (simW_name (by decide)) h)))))))
end
end RB

set_option Elab.async false
set_option linter.all false
set_option maxRecDepth 100000
set_option maxHeartbeats 4000000
namespace RB
open PySem PySem.Spec PyProof.Rows L2 PD
section
variable {P : Program} {w : World} {K : PySem.W.Frag} {mg : Str → Option Value} {base : Heap}
theorem sc_law_draw : FnScope ["_law_rng", "_law_amount", "_law_seed", "_law_cell", "_law_got"] ["_law_rng", "_law_amount"] (defScope sDraw) := ⟨rfl, rfl, rfl, by decide +kernel, rfl, by decide +kernel, by decide +kernel⟩
def B_law_draw : FS :=
  (fSeq (fIfS (fAnd (fOp oEq (fMeIx 0 2) (fC (.int 0))) (fOp oLt (fMeIx 0 1) (fApp oLen (fCons (fMeIx 0 0) fNil)))) (fSeq (fSet 3 (fOp oIx (fMeIx 0 0) (fMeIx 0 1)))
  (fSeq (fMePut 0 1 (fOp oAdd (fMeIx 0 1) (fC (.int 1))))
  (fIfS (fOp oGe (fVar 3) (fOp oPow (fC (.int 10)) (fC (.int 18)))) (fMePut 0 2 (fVar 3)) (fMePut 0 3 (fOp oMod (fOp oAdd (fOp oAdd (fOp oMul (fMeIx 0 3) (fC (.int 48271))) (fOp oMul (fOp oMod (fVar 3) (fC (.int 2147483579))) (fC (.int 69697)))) (fC (.int 29))) (fC (.int 2147483647))))))) fNext)
  (fSeq (fIfS (fOp oGt (fMeIx 0 2) (fC (.int 0))) (fSeq (fSet 4 (fOp oMod (fMeIx 0 2) (fVar 1)))
  (fSeq (fMePut 0 2 (fOp oFdiv (fMeIx 0 2) (fVar 1)))
  (fRet (fVar 4)))) fNext)
  (fSeq (fSet 2 (fMeIx 0 3))
  (fSeq (fMePut 0 3 (fOp oMod (fOp oAdd (fOp oAdd (fOp oMul (fVar 2) (fC (.int 62089))) (fOp oMul (fOp oFdiv (fVar 2) (fC (.int 65543))) (fC (.int 37)))) (fC (.int 1013904223))) (fC (.int 2147483647))))
  (fRet (fOp oMod (fOp oAdd (fOp oFdiv (fMeIx 0 3) (fC (.int 89))) (fOp oMul (fOp oMod (fMeIx 0 3) (fC (.int 8191))) (fC (.int 71)))) (fVar 1)))))))
def F_law_draw : Fld → List Dat → RE := runM 5 B_law_draw
theorem ok_law_draw {ec : Str → Addr} {f : Addr} {fd : FuncData} (F : L2.Fun K "_law_draw" "_law_draw" sDraw f fd) (mlen : mg "len" = none) : FnOk P w K mg base CX0 1 f fd ["_law_rng", "_law_amount"] (spM K ec (fun k => k = .lst) 1 F_law_draw) := by
  have nd := sc_law_draw.nd
  refine fnM (k := 0) F sc_law_draw rfl fun cdv A outer s H Hs E y kk hk hr => ?_
  have hC : ∀ (x : Addr) (kd : MK), (some (y, kk) : Option (Addr × MK)) = some (x, kd) → kd = .lst := fun _ _ z => by cases z; exact hk
  have hkd := hC
  exact (sv_cons (sv_if (PW.pt (wv_and (tv_cmp (op_eqD hr.units) (nomark _) rfl sim_eq (ev_o (ev_meIx (k := 2) rfl hC (pe_ix ix_list (pv 0) pe_int (fun _ _ => rfl)))) (ev_o (ev_c pe_int fun _ => .int _))) (wv_one (.inl rfl) (tv_cmp op_lt (nomark _) rfl sim_lt (ev_o (ev_meIx (k := 1) rfl hC (pe_ix ix_list (pv 0) pe_int (fun _ _ => rfl)))) (ev_o (ev_call_ rfl sim_len (pe_callB call_len (by rfl) mlen PySem.boot_len (aw_cons (ev_o (ev_meIx (k := 0) rfl hC (pe_ix ix_list (pv 0) pe_int (fun _ _ => rfl)))) aw_nil))))))))
    (sv_cons (sv_set (ps_set (i := 3) nd rfl (.inl rfl) (ev_ix ix_seq (fun _ _ => rfl) rfl sim_ix (ev_o (ev_meIx (k := 0) rfl hC (pe_ix ix_list (pv 0) pe_int (fun _ _ => rfl)))) (ev_o (ev_meIx (k := 1) rfl hC (pe_ix ix_list (pv 0) pe_int (fun _ _ => rfl)))))))
    (sv_cons (sv_mePut (k := 1) rfl hC (ps_asg (ev_op op_addA rfl sim_add (ev_o (ev_meIx (k := 1) rfl hC (pe_ix ix_list (pv 0) pe_int (fun _ _ => rfl)))) (ev_o (ev_c pe_int fun _ => .int _))) (pg_sub (pv 0) pe_int set_list)))
    (sv_one (sv_if (tv_cmp op_ge (nomark _) rfl sim_ge (ev_o (ev_var (pv 3))) (ev_o (ev_op op_pow rfl sim_pow (ev_o (ev_c pe_int fun _ => .int _)) (ev_o (ev_c pe_int fun _ => .int _)))))
    (sv_one (sv_mePut (k := 2) rfl hC (ps_asg (ev_var (pv 3)) (pg_sub (pv 0) pe_int set_list))))
    (sv_one (sv_mePut (k := 3) rfl hC (ps_asg (ev_op op_modN rfl sim_mod (ev_o (ev_op op_addA rfl sim_add (ev_o (ev_op op_addA rfl sim_add (ev_o (ev_op op_mulW rfl sim_mul (ev_o (ev_meIx (k := 3) rfl hC (pe_ix ix_list (pv 0) pe_int (fun _ _ => rfl)))) (ev_o (ev_c pe_int fun _ => .int _)))) (ev_o (ev_op op_mulW rfl sim_mul (ev_o (ev_op op_modN rfl sim_mod (ev_o (ev_var (pv 3))) (ev_o (ev_c pe_int fun _ => .int _)))) (ev_o (ev_c pe_int fun _ => .int _)))))) (ev_o (ev_c pe_int fun _ => .int _)))) (ev_o (ev_c pe_int fun _ => .int _))) (pg_sub (pv 0) pe_int set_list))))))))
    sv_nil)
    (sv_cons (sv_if (tv_cmp op_gt (nomark _) rfl sim_gt (ev_o (ev_meIx (k := 2) rfl hC (pe_ix ix_list (pv 0) pe_int (fun _ _ => rfl)))) (ev_o (ev_c pe_int fun _ => .int _)))
    (sv_cons (sv_set (ps_set (i := 4) nd rfl (.inl rfl) (ev_op op_modN rfl sim_mod (ev_o (ev_meIx (k := 2) rfl hC (pe_ix ix_list (pv 0) pe_int (fun _ _ => rfl)))) (ev_o (ev_var (pv 1))))))
    (sv_cons (sv_mePut (k := 2) rfl hC (ps_asg (ev_op op_fdivX rfl sim_fdiv (ev_o (ev_meIx (k := 2) rfl hC (pe_ix ix_list (pv 0) pe_int (fun _ _ => rfl)))) (ev_o (ev_var (pv 1)))) (pg_sub (pv 0) pe_int set_list)))
    (sv_one (sv_ret (ev_var (pv 4))))))
    sv_nil)
    (sv_cons (sv_set (ps_set (i := 2) nd rfl (.inl rfl) (ev_meIx (k := 3) rfl hC (pe_ix ix_list (pv 0) pe_int (fun _ _ => rfl)))))
    (sv_cons (sv_mePut (k := 3) rfl hC (ps_asg (ev_op op_modN rfl sim_mod (ev_o (ev_op op_addA rfl sim_add (ev_o (ev_op op_addA rfl sim_add (ev_o (ev_op op_mulW rfl sim_mul (ev_o (ev_var (pv 2))) (ev_o (ev_c pe_int fun _ => .int _)))) (ev_o (ev_op op_mulW rfl sim_mul (ev_o (ev_op op_fdivX rfl sim_fdiv (ev_o (ev_var (pv 2))) (ev_o (ev_c pe_int fun _ => .int _)))) (ev_o (ev_c pe_int fun _ => .int _)))))) (ev_o (ev_c pe_int fun _ => .int _)))) (ev_o (ev_c pe_int fun _ => .int _))) (pg_sub (pv 0) pe_int set_list)))
    (sv_one (sv_ret (ev_op op_modN rfl sim_mod (ev_o (ev_op op_addA rfl sim_add (ev_o (ev_op op_fdivX rfl sim_fdiv (ev_o (ev_meIx (k := 3) rfl hC (pe_ix ix_list (pv 0) pe_int (fun _ _ => rfl)))) (ev_o (ev_c pe_int fun _ => .int _)))) (ev_o (ev_op op_mulW rfl sim_mul (ev_o (ev_op op_modN rfl sim_mod (ev_o (ev_meIx (k := 3) rfl hC (pe_ix ix_list (pv 0) pe_int (fun _ _ => rfl)))) (ev_o (ev_c pe_int fun _ => .int _)))) (ev_o (ev_c pe_int fun _ => .int _)))))) (ev_o (ev_var (pv 1))))))))))
theorem sc_law_pick : FnScope ["_law_rng", "_law_things"] ["_law_rng", "_law_things"] (defScope sPick) := ⟨rfl, rfl, rfl, by decide +kernel, rfl, by decide +kernel, by decide +kernel⟩
def B_law_pick : FS :=
  (fRet (fOp oIx (fVar 1) (fCallM 0 F_law_draw (fCons (fApp oLen (fCons (fVar 1) fNil)) fNil))))
def F_law_pick : Fld → List Dat → RE := runM 2 B_law_pick
theorem ok_law_pick {ec : Str → Addr} {f : Addr} {fd : FuncData} (F : L2.Fun K "_law_pick" "_law_pick" sPick f fd) (mlen : mg "len" = none) {f__law_draw : Addr} {d__law_draw : FuncData} (G__law_draw : FnOk P w K mg base CX0 1 f__law_draw d__law_draw ["_law_rng", "_law_amount"] (spM K ec (fun k => k = .lst) 1 F_law_draw)) (g__law_draw : mg "_law_draw" = some (.ref f__law_draw)) (k__law_draw : PySem.W.keepIn K (.ref f__law_draw) = true) (b__law_draw : L2.Binds K d__law_draw ["_law_rng", "_law_amount"] []) : FnOk P w K mg base CX0 2 f fd ["_law_rng", "_law_things"] (spM K ec (fun k => k = .lst) 1 F_law_pick) := by
  have nd := sc_law_pick.nd
  refine fnM (k := 1) F sc_law_pick rfl fun cdv A outer s H Hs E y kk hk hr => ?_
  have hC : ∀ (x : Addr) (kd : MK), (some (y, kk) : Option (Addr × MK)) = some (x, kd) → kd = .lst := fun _ _ z => by cases z; exact hk
  have hkd := hC
  exact (sv_one (sv_ret (ev_ix ix_seq (fun _ _ => rfl) rfl sim_ix (ev_o (ev_var (pv 1))) (ev_o (ev_callM rfl rfl hkd (len_cons len_nil) (pe_call G__law_draw (hr.mono (by omega)) (by rfl) g__law_draw k__law_draw b__law_draw .nil passZ (pa_cons (pv 0) (av_cons (ev_call_ rfl sim_len (pe_callB call_len (by rfl) mlen PySem.boot_len (aw_cons (ev_o (ev_var (pv 1))) aw_nil))) av_nil))))))))
theorem sc_law_gcd : FnScope ["_law_one", "_law_other"] ["_law_one", "_law_other"] (defScope sGcd) := ⟨rfl, rfl, rfl, by decide +kernel, rfl, by decide +kernel, by decide +kernel⟩
def B_law_gcd : FS :=
  (fSeq (fPar 0 1 (fCons (fApp oAbs (fCons (fVar 0) fNil)) (fCons (fApp oAbs (fCons (fVar 1) fNil)) fNil)))
  (fSeq (fWhile 100 (fOp oNe (fVar 1) (fC (.int 0))) (fPar 0 1 (fCons (fVar 1) (fCons (fOp oMod (fVar 0) (fVar 1)) fNil))))
  (fRet (fVar 0))))
def F_law_gcd : List Dat → RF := runF 2 B_law_gcd
theorem ok_law_gcd {ec : Str → Addr} {f : Addr} {fd : FuncData} (F : L2.Fun K "_law_gcd" "_law_gcd" sGcd f fd) (mabs : mg "abs" = none) : FnOk P w K mg base CX0 1 f fd ["_law_one", "_law_other"] (spF K ec 2 F_law_gcd) := by
  have nd := sc_law_gcd.nd
  refine fnF (k := 0) F sc_law_gcd rfl fun cdv A outer s H Hs E hr => ?_
  skip
  skip
  exact (sv_cons (sv_par (ps_par (i := 0) (j := 1) (by rfl) nd rfl rfl (by decide) rfl rfl (av_cons (ev_call_ rfl sim_abs (pe_callB call_abs (by rfl) mabs (by decide +kernel) (aw_cons (ev_o (ev_var (pv 0))) aw_nil))) (av_cons (ev_call_ rfl sim_abs (pe_callB call_abs (by rfl) mabs (by decide +kernel) (aw_cons (ev_o (ev_var (pv 1))) aw_nil))) av_nil)) (by rfl)))
    (sv_cons (sv_while 100 PassesOwn.never (tv_cmp (op_neD hr.units) (nomark _) rfl sim_ne (ev_o (ev_var (pv 1))) (ev_o (ev_c pe_int fun _ => .int _)))
    (sv_one (sv_par (ps_par (i := 0) (j := 1) (by rfl) nd rfl rfl (by decide) rfl rfl (av_cons (ev_var (pv 1)) (av_cons (ev_op op_modN rfl sim_mod (ev_o (ev_var (pv 0))) (ev_o (ev_var (pv 1)))) av_nil)) (by rfl)))))
    (sv_one (sv_ret (ev_var (pv 0))))))
theorem sc_law_low : FnScope ["_law_top", "_law_bottom", "_law_shared"] ["_law_top", "_law_bottom"] (defScope sLow) := ⟨rfl, rfl, rfl, by decide +kernel, rfl, by decide +kernel, by decide +kernel⟩
def B_law_low : FS :=
  (fSeq (fSet 2 (fCall F_law_gcd (fCons (fVar 0) (fCons (fVar 1) fNil))))
  (fSeq (fIfS (fOp oLt (fVar 1) (fC (.int 0))) (fSet 2 (fUn oNeg (fVar 2))) fNext)
  (fRet (fApp mkT (fCons (fOp oFdiv (fVar 0) (fVar 2)) (fCons (fOp oFdiv (fVar 1) (fVar 2)) fNil))))))
def F_law_low : List Dat → RF := runF 3 B_law_low
theorem ok_law_low {ec : Str → Addr} {f : Addr} {fd : FuncData} (F : L2.Fun K "_law_low" "_law_low" sLow f fd) {f__law_gcd : Addr} {d__law_gcd : FuncData} (G__law_gcd : FnOk P w K mg base CX0 1 f__law_gcd d__law_gcd ["_law_one", "_law_other"] (spF K ec 2 F_law_gcd)) (g__law_gcd : mg "_law_gcd" = some (.ref f__law_gcd)) (k__law_gcd : PySem.W.keepIn K (.ref f__law_gcd) = true) (b__law_gcd : L2.Binds K d__law_gcd ["_law_one", "_law_other"] []) : FnOk P w K mg base CX0 2 f fd ["_law_top", "_law_bottom"] (spF K ec 2 F_law_low) := by
  have nd := sc_law_low.nd
  refine fnF (k := 1) F sc_law_low rfl fun cdv A outer s H Hs E hr => ?_
  skip
  skip
  exact (sv_cons (sv_set (ps_set (i := 2) nd rfl (.inl rfl) (ev_callF rfl rfl (len_cons (len_cons len_nil)) (pe_call G__law_gcd (hr.mono (by omega)) (by rfl) g__law_gcd k__law_gcd b__law_gcd .nil passZ (av_cons (ev_var (pv 0)) (av_cons (ev_var (pv 1)) av_nil))))))
    (sv_cons (sv_if (tv_cmp op_lt (nomark _) rfl sim_lt (ev_o (ev_var (pv 1))) (ev_o (ev_c pe_int fun _ => .int _)))
    (sv_one (sv_set (ps_set (i := 2) nd rfl (.inl rfl) (ev_un un_neg rfl sim_neg (ev_o (ev_var (pv 2)))))))
    sv_nil)
    (sv_one (sv_ret (ev_tup (av_cons (ev_op op_fdivX rfl sim_fdiv (ev_o (ev_var (pv 0))) (ev_o (ev_var (pv 2)))) (av_cons (ev_op op_fdivX rfl sim_fdiv (ev_o (ev_var (pv 1))) (ev_o (ev_var (pv 2)))) av_nil)))))))
end
end RB

set_option Elab.async false
set_option linter.all false
set_option maxRecDepth 100000
set_option maxHeartbeats 4000000
namespace RB
open PySem PySem.Spec PyProof.Rows L2 PD
section
variable {P : Program} {w : World} {K : PySem.W.Frag} {mg : Str → Option Value} {base : Heap}
theorem sc_law_trim : FnScope ["_law_parts_here", "_law_found"] ["_law_parts_here"] (defScope s_law_trim) := ⟨rfl, rfl, rfl, by decide +kernel, rfl, by decide +kernel, by decide +kernel⟩
def B_law_trim : FS :=
  (fSeq (fNewL 1 (fVar 0))
  (fSeq (fWhile 100 (fAnd (fOp oNe (fOwn 1) (fApp mkL fNil)) (fOp oEq (fOp oIx (fOwn 1) (fUn oNeg (fC (.int 1)))) (fApp mkT (fCons (fC (.int 0)) (fCons (fC (.int 1)) fNil))))) (fPop 1))
  (fRetOwn 1)))
def F_law_trim : List Dat → RF := runF 2 B_law_trim
theorem ok_law_trim {ec : Str → Addr} {f : Addr} {fd : FuncData} (F : L2.Fun K "_law_trim" "_law_trim" s_law_trim f fd) (mlist : mg "list" = none) : FnOk P w K mg base CX0 1 f fd ["_law_parts_here"] (spF K ec 1 F_law_trim) := by
  have nd := sc_law_trim.nd
  refine fnF (k := 0) F sc_law_trim rfl fun cdv A outer s H Hs E hr => ?_
  skip
  skip
  exact (sv_cons (sv_newL rfl (ps_set (i := 1) nd rfl (.inl rfl) (pe_callTy call_list_of (by rfl) mlist (by decide +kernel) (pa_cons (ev_o (ev_var (pv 0))) pa_nil))))
    (sv_cons (sv_while 100 PassesOwn.never (PW.pt (wv_and (tv_cmp (op_neD hr.units) (nomark _) rfl sim_ne (ev_own (pv 1)) (ev_o (ev_lst av_nil))) (wv_one (.inl rfl) (tv_cmp (op_eqD hr.units) (nomark _) rfl sim_eq (ev_o (ev_ix ix_seq (fun _ _ => rfl) rfl sim_ix (ev_own (pv 1)) (ev_o (ev_un un_neg rfl sim_neg (ev_o (ev_c pe_int fun _ => .int _)))))) (ev_o (ev_tup (av_cons (ev_c pe_int fun _ => .int _) (av_cons (ev_c pe_int fun _ => .int _) av_nil))))))))
    (sv_one (sv_pop (ps_expr (pe_bm0 PySem.F.plainAttrs_list PySem.F.slot_list_pop PySem.F.type_list_pop mt_pop (pv 1))))))
    (sv_one (sv_retOwn (pv 1)))))
theorem sc_law_value : FnScope ["_law_rng", "_law_way"] ["_law_rng"] (defScope s_law_value) := ⟨rfl, rfl, rfl, by decide +kernel, rfl, by decide +kernel, by decide +kernel⟩
def B_law_value : FS :=
  (fSeq (fSet 1 (fCallM 0 F_law_draw (fCons (fC (.int 8)) fNil)))
  (fSeq (fIfS (fOp oLt (fVar 1) (fC (.int 5))) (fRet (fApp mkT (fCons (fOp oSub (fCallM 0 F_law_draw (fCons (fC (.int 9)) fNil)) (fC (.int 4))) (fCons (fC (.int 1)) fNil)))) fNext)
  (fSeq (fIfS (fOp oLt (fVar 1) (fC (.int 7))) (fRet (fCall F_law_low (fCons (fOp oSub (fCallM 0 F_law_draw (fCons (fC (.int 9)) fNil)) (fC (.int 4))) (fCons (fOp oAdd (fC (.int 2)) (fCallM 0 F_law_draw (fCons (fC (.int 3)) fNil))) fNil)))) fNext)
  (fRet (fCall F_law_low (fCons (fOp oSub (fCallM 0 F_law_draw (fCons (fC (.int 2001)) fNil)) (fC (.int 1000))) (fCons (fOp oAdd (fC (.int 1)) (fCallM 0 F_law_draw (fCons (fC (.int 12)) fNil))) fNil)))))))
def F_law_value : Fld → List Dat → RE := runM 2 B_law_value
theorem ok_law_value {ec : Str → Addr} {f : Addr} {fd : FuncData} (F : L2.Fun K "_law_value" "_law_value" s_law_value f fd) {f__law_draw : Addr} {d__law_draw : FuncData} (G__law_draw : FnOk P w K mg base CX0 1 f__law_draw d__law_draw ["_law_rng", "_law_amount"] (spM K ec (fun k => k = .lst) 1 F_law_draw)) (g__law_draw : mg "_law_draw" = some (.ref f__law_draw)) (k__law_draw : PySem.W.keepIn K (.ref f__law_draw) = true) (b__law_draw : L2.Binds K d__law_draw ["_law_rng", "_law_amount"] []) {f__law_low : Addr} {d__law_low : FuncData} (G__law_low : FnOk P w K mg base CX0 2 f__law_low d__law_low ["_law_top", "_law_bottom"] (spF K ec 2 F_law_low)) (g__law_low : mg "_law_low" = some (.ref f__law_low)) (k__law_low : PySem.W.keepIn K (.ref f__law_low) = true) (b__law_low : L2.Binds K d__law_low ["_law_top", "_law_bottom"] []) : FnOk P w K mg base CX0 3 f fd ["_law_rng"] (spM K ec (fun k => k = .lst) 0 F_law_value) := by
  have nd := sc_law_value.nd
  refine fnM (k := 2) F sc_law_value rfl fun cdv A outer s H Hs E y kk hk hr => ?_
  have hC : ∀ (x : Addr) (kd : MK), (some (y, kk) : Option (Addr × MK)) = some (x, kd) → kd = .lst := fun _ _ z => by cases z; exact hk
  have hkd := hC
  exact (sv_cons (sv_set (ps_set (i := 1) nd rfl (.inl rfl) (ev_callM rfl rfl hkd (len_cons len_nil) (pe_call G__law_draw (hr.mono (by omega)) (by rfl) g__law_draw k__law_draw b__law_draw .nil passZ (pa_cons (pv 0) (av_cons (ev_c pe_int fun _ => .int _) av_nil))))))
    (sv_cons (sv_if (tv_cmp op_lt (nomark _) rfl sim_lt (ev_o (ev_var (pv 1))) (ev_o (ev_c pe_int fun _ => .int _)))
    (sv_one (sv_ret (ev_tup (av_cons (ev_op op_sub rfl sim_sub (ev_o (ev_callM rfl rfl hkd (len_cons len_nil) (pe_call G__law_draw (hr.mono (by omega)) (by rfl) g__law_draw k__law_draw b__law_draw .nil passZ (pa_cons (pv 0) (av_cons (ev_c pe_int fun _ => .int _) av_nil))))) (ev_o (ev_c pe_int fun _ => .int _))) (av_cons (ev_c pe_int fun _ => .int _) av_nil)))))
    sv_nil)
    (sv_cons (sv_if (tv_cmp op_lt (nomark _) rfl sim_lt (ev_o (ev_var (pv 1))) (ev_o (ev_c pe_int fun _ => .int _)))
    (sv_one (sv_ret (ev_callF rfl rfl (len_cons (len_cons len_nil)) (pe_call G__law_low (hr.mono (by omega)) (by rfl) g__law_low k__law_low b__law_low .nil passZ (av_cons (ev_op op_sub rfl sim_sub (ev_o (ev_callM rfl rfl hkd (len_cons len_nil) (pe_call G__law_draw (hr.mono (by omega)) (by rfl) g__law_draw k__law_draw b__law_draw .nil passZ (pa_cons (pv 0) (av_cons (ev_c pe_int fun _ => .int _) av_nil))))) (ev_o (ev_c pe_int fun _ => .int _))) (av_cons (ev_op op_addA rfl sim_add (ev_o (ev_c pe_int fun _ => .int _)) (ev_o (ev_callM rfl rfl hkd (len_cons len_nil) (pe_call G__law_draw (hr.mono (by omega)) (by rfl) g__law_draw k__law_draw b__law_draw .nil passZ (pa_cons (pv 0) (av_cons (ev_c pe_int fun _ => .int _) av_nil)))))) av_nil))))))
    sv_nil)
    (sv_one (sv_ret (ev_callF rfl rfl (len_cons (len_cons len_nil)) (pe_call G__law_low (hr.mono (by omega)) (by rfl) g__law_low k__law_low b__law_low .nil passZ (av_cons (ev_op op_sub rfl sim_sub (ev_o (ev_callM rfl rfl hkd (len_cons len_nil) (pe_call G__law_draw (hr.mono (by omega)) (by rfl) g__law_draw k__law_draw b__law_draw .nil passZ (pa_cons (pv 0) (av_cons (ev_c pe_int fun _ => .int _) av_nil))))) (ev_o (ev_c pe_int fun _ => .int _))) (av_cons (ev_op op_addA rfl sim_add (ev_o (ev_c pe_int fun _ => .int _)) (ev_o (ev_callM rfl rfl hkd (len_cons len_nil) (pe_call G__law_draw (hr.mono (by omega)) (by rfl) g__law_draw k__law_draw b__law_draw .nil passZ (pa_cons (pv 0) (av_cons (ev_c pe_int fun _ => .int _) av_nil)))))) av_nil)))))))))
theorem sc_law_number_text : FnScope ["_law_part"] ["_law_part"] (defScope s_law_number_text) := ⟨rfl, rfl, rfl, by decide +kernel, rfl, by decide +kernel, by decide +kernel⟩
def B_law_number_text : FS :=
  (fRet (fOp oAdd (fApp oStr (fCons (fOp oIx (fVar 0) (fC (.int 0))) fNil)) (fIf (fOp oNe (fOp oIx (fVar 0) (fC (.int 1))) (fC (.int 1))) (fOp oAdd (fC (.str "/")) (fApp oStr (fCons (fOp oIx (fVar 0) (fC (.int 1))) fNil))) (fC (.str "")))))
def F_law_number_text : List Dat → RF := runF 1 B_law_number_text
theorem ok_law_number_text {ec : Str → Addr} {f : Addr} {fd : FuncData} (F : L2.Fun K "_law_number_text" "_law_number_text" s_law_number_text f fd) (mstr : mg "str" = none) : FnOk P w K mg base CX0 1 f fd ["_law_part"] (spF K ec 1 F_law_number_text) := by
  have nd := sc_law_number_text.nd
  refine fnF (k := 0) F sc_law_number_text rfl fun cdv A outer s H Hs E hr => ?_
  skip
  skip
  exact (sv_one (sv_ret (ev_op op_addA rfl sim_add (ev_o (ev_call_ rfl sim_str (pe_callTy call_str_int (by rfl) mstr boot_str (aw_cons (ev_o (ev_ix ix_seq (fun _ _ => rfl) rfl sim_ix (ev_o (ev_var (pv 0))) (ev_o (ev_c pe_int fun _ => .int _)))) aw_nil)))) (ev_o (ev_if (tv_cmp (op_neD hr.units) (nomark _) rfl sim_ne (ev_o (ev_ix ix_seq (fun _ _ => rfl) rfl sim_ix (ev_o (ev_var (pv 0))) (ev_o (ev_c pe_int fun _ => .int _)))) (ev_o (ev_c pe_int fun _ => .int _))) (ev_op op_addA rfl sim_add (ev_o (ev_c pe_str fun _ => .str _)) (ev_o (ev_call_ rfl sim_str (pe_callTy call_str_int (by rfl) mstr boot_str (aw_cons (ev_o (ev_ix ix_seq (fun _ _ => rfl) rfl sim_ix (ev_o (ev_var (pv 0))) (ev_o (ev_c pe_int fun _ => .int _)))) aw_nil))))) (ev_c pe_str fun _ => .str _))))))
theorem sc_law_numbers_text : FnScope ["_law_parts_here", "_law_part"] ["_law_parts_here"] (defScope s_law_numbers_text) := ⟨rfl, rfl, rfl, by decide +kernel, rfl, by decide +kernel, by decide +kernel⟩
def B_law_numbers_text : FS :=
  (fRet (fMt isStr oJoin (fC (.str ", ")) (fCons (fLc tupOf (fVar 0) (gN 1) fYes (fCall F_law_number_text (fCons (fVar 1) fNil)) [1]) fNil)))
def F_law_numbers_text : List Dat → RF := runF 2 B_law_numbers_text
theorem ok_law_numbers_text {ec : Str → Addr} {f : Addr} {fd : FuncData} (F : L2.Fun K "_law_numbers_text" "_law_numbers_text" s_law_numbers_text f fd) {f__law_number_text : Addr} {d__law_number_text : FuncData} (G__law_number_text : FnOk P w K mg base CX0 1 f__law_number_text d__law_number_text ["_law_part"] (spF K ec 1 F_law_number_text)) (g__law_number_text : mg "_law_number_text" = some (.ref f__law_number_text)) (k__law_number_text : PySem.W.keepIn K (.ref f__law_number_text) = true) (b__law_number_text : L2.Binds K d__law_number_text ["_law_part"] []) : FnOk P w K mg base CX0 2 f fd ["_law_parts_here"] (spF K ec 1 F_law_numbers_text) := by
  have nd := sc_law_numbers_text.nd
  refine fnF (k := 1) F sc_law_numbers_text rfl fun cdv A outer s H Hs E hr => ?_
  skip
  skip
  exact (sv_one (sv_ret (ev_mt rfl sim_join (pe_bm PySem.F.plainAttrs_str PySem.F.slot_str_join PySem.F.type_str_join mt_join (ev_o (ev_c pe_str fun _ => .str _)) (aw_cons (ev_o (ev_lc_ (pe_lc (own := [("_law_part", 1)]) (te := rdE (⟨K, H, Hs, E, ec, none, []⟩ : Me) (fCall F_law_number_text (fCons (fVar 1) fNil))) (tt := rdT (⟨K, H, Hs, E, ec, none, []⟩ : Me) fYes) (by rfl) nd (pi_tup (tl := rdE (⟨K, H, Hs, E, ec, none, []⟩ : Me) (fVar 0)) (ev_var (pv 0))) (blkOk_by (N := ["_law_parts_here", "_law_part"]) (sc := defScope s_law_numbers_text) (by decide +kernel)) (fun _ _ _ _ _ => pg_name (i := 1) nd rfl (.inl rfl) (hf := .inr rfl)) (fun _ _ _ _ _ => ptv_nil) (fun _ _ _ _ _ => (ev_callF rfl rfl (len_cons len_nil) (pe_call G__law_number_text (hr.mono (by omega)) (by rfl) g__law_number_text k__law_number_text b__law_number_text .nil passZ (av_cons (ev_var (pv 1)) av_nil))))) (fun _ _ _ h => rd_lcT rfl (simW_name (by decide)) h))) aw_nil)))))
theorem sc_law_parts : FnScope ["_law_tree_here"] ["_law_tree_here"] (defScope s_law_parts) := ⟨rfl, rfl, rfl, by decide +kernel, rfl, by decide +kernel, by decide +kernel⟩
def B_law_parts : FS :=
  (fSeq (fIfS (fOp (oIn false) (fOp oIx (fVar 0) (fC (.int 0))) (fApp mkL (fCons (fC (.str "name")) (fCons (fC (.str "list")) (fCons (fC (.str "unity")) (fCons (fC (.str "roots")) fNil)))))) (fRet (fApp mkL fNil)) fNext)
  (fSeq (fIfS (fOp (oIn false) (fOp oIx (fVar 0) (fC (.int 0))) (fApp mkL (fCons (fC (.str "negative")) (fCons (fC (.str "power")) (fCons (fC (.str "sums")) (fCons (fC (.str "products")) (fCons (fC (.str "distinct")) fNil))))))) (fRet (fApp mkL (fCons (fOp oIx (fVar 0) (fC (.int 1))) fNil))) fNext)
  (fRet (fIf (fOp oEq (fOp oIx (fVar 0) (fC (.int 0))) (fC (.str "map"))) (fApp mkL (fCons (fOp oIx (fVar 0) (fC (.int 2))) fNil)) (fApp mkL (fCons (fOp oIx (fVar 0) (fC (.int 1))) (fCons (fOp oIx (fVar 0) (fC (.int 2))) fNil)))))))
def F_law_parts : List Dat → RF := runF 1 B_law_parts
theorem ok_law_parts {ec : Str → Addr} {f : Addr} {fd : FuncData} (F : L2.Fun K "_law_parts" "_law_parts" s_law_parts f fd)  : FnOk P w K mg base CX0 1 f fd ["_law_tree_here"] (spF K ec 1 F_law_parts) := by
  have nd := sc_law_parts.nd
  refine fnF (k := 0) F sc_law_parts rfl fun cdv A outer s H Hs E hr => ?_
  skip
  skip
  exact (sv_cons (sv_if (tv_cmp op_inA rfl rfl sim_in (ev_o (ev_ix ix_seq (fun _ _ => rfl) rfl sim_ix (ev_o (ev_var (pv 0))) (ev_o (ev_c pe_int fun _ => .int _)))) (ev_o (ev_lst (av_cons (ev_c pe_str fun _ => .str _) (av_cons (ev_c pe_str fun _ => .str _) (av_cons (ev_c pe_str fun _ => .str _) (av_cons (ev_c pe_str fun _ => .str _) av_nil)))))))
    (sv_one (sv_ret (ev_lst av_nil)))
    sv_nil)
    (sv_cons (sv_if (tv_cmp op_inA rfl rfl sim_in (ev_o (ev_ix ix_seq (fun _ _ => rfl) rfl sim_ix (ev_o (ev_var (pv 0))) (ev_o (ev_c pe_int fun _ => .int _)))) (ev_o (ev_lst (av_cons (ev_c pe_str fun _ => .str _) (av_cons (ev_c pe_str fun _ => .str _) (av_cons (ev_c pe_str fun _ => .str _) (av_cons (ev_c pe_str fun _ => .str _) (av_cons (ev_c pe_str fun _ => .str _) av_nil))))))))
    (sv_one (sv_ret (ev_lst (av_cons (ev_ix ix_seq (fun _ _ => rfl) rfl sim_ix (ev_o (ev_var (pv 0))) (ev_o (ev_c pe_int fun _ => .int _))) av_nil))))
    sv_nil)
    (sv_one (sv_ret (ev_if (tv_cmp (op_eqD hr.units) (nomark _) rfl sim_eq (ev_o (ev_ix ix_seq (fun _ _ => rfl) rfl sim_ix (ev_o (ev_var (pv 0))) (ev_o (ev_c pe_int fun _ => .int _)))) (ev_o (ev_c pe_str fun _ => .str _))) (ev_lst (av_cons (ev_ix ix_seq (fun _ _ => rfl) rfl sim_ix (ev_o (ev_var (pv 0))) (ev_o (ev_c pe_int fun _ => .int _))) av_nil)) (ev_lst (av_cons (ev_ix ix_seq (fun _ _ => rfl) rfl sim_ix (ev_o (ev_var (pv 0))) (ev_o (ev_c pe_int fun _ => .int _))) (av_cons (ev_ix ix_seq (fun _ _ => rfl) rfl sim_ix (ev_o (ev_var (pv 0))) (ev_o (ev_c pe_int fun _ => .int _))) av_nil))))))))
end
end RB

set_option Elab.async false
set_option linter.all false
set_option maxRecDepth 100000
set_option maxHeartbeats 4000000
namespace RB
open PySem PySem.Spec PyProof.Rows L2 PD
section
variable {P : Program} {w : World} {K : PySem.W.Frag} {mg : Str → Option Value} {base : Heap}
theorem sc_law_tree : FnScope ["_law_rng", "_law_deep", "_law_names", "_law_way", "_law_here", "_law_word", "_law_k"] ["_law_rng", "_law_deep", "_law_names"] (defScope s_law_tree) := ⟨rfl, rfl, rfl, by decide +kernel, rfl, by decide +kernel, by decide +kernel⟩
def B_law_tree (slf : Fld → List Dat → RE) : FS :=
  (fSeq (fSet 3 (fIf (fOp oGt (fVar 1) (fC (.int 1))) (fCallM 0 F_law_draw (fCons (fC (.int 14)) fNil)) (fCallM 0 F_law_draw (fCons (fC (.int 4)) fNil))))
  (fSeq (fIfS (fOp oLt (fVar 3) (fC (.int 2))) (fRet (fApp mkT (fCons (fC (.str "name")) (fCons (fCallM 0 F_law_pick (fCons (fVar 2) fNil)) fNil)))) fNext)
  (fSeq (fIfS (fOp oEq (fVar 3) (fC (.int 2))) (fRet (fApp mkT (fCons (fC (.str "list")) (fCons (fApp oTuple (fCons (fLcR1 (fCallM 0 F_law_draw (fCons (fC (.int 4)) fNil)) (gN 6) fYes (fCallM 0 F_law_value fNil) [6]) fNil)) fNil)))) fNext)
  (fSeq (fIfS (fOp oEq (fVar 3) (fC (.int 3))) (fSeq (fIfS (fOp oEq (fCallM 0 F_law_draw (fCons (fC (.int 3)) fNil)) (fC (.int 0))) (fRet (fApp mkT (fCons (fC (.str "unity")) (fCons (fCallM 0 F_law_draw (fCons (fC (.int 13)) fNil)) fNil)))) fNext)
  (fRet (fApp mkT (fCons (fC (.str "roots")) (fCons (fApp oTuple (fCons (fOp oAdd (fLcR1 (fCallM 0 F_law_draw (fCons (fC (.int 3)) fNil)) (gN 6) fYes (fCallM 0 F_law_value fNil) [6]) (fApp mkL (fCons (fApp mkT (fCons (fOp oAdd (fC (.int 1)) (fCallM 0 F_law_draw (fCons (fC (.int 3)) fNil))) (fCons (fC (.int 1)) fNil))) fNil))) fNil)) fNil))))) fNext)
  (fSeq (fSet 4 (fCallM 0 slf (fCons (fOp oSub (fVar 1) (fC (.int 1))) (fCons (fVar 2) fNil))))
  (fSeq (fIfS (fOp oLt (fVar 3) (fC (.int 9))) (fSeq (fSet 5 (fOp oIx (fApp mkL (fCons (fC (.str "join")) (fCons (fC (.str "sum")) (fCons (fC (.str "difference")) (fCons (fC (.str "product")) (fCons (fC (.str "quotient")) fNil)))))) (fOp oSub (fVar 3) (fC (.int 4)))))
  (fRet (fApp mkT (fCons (fVar 5) (fCons (fVar 4) (fCons (fCallM 0 slf (fCons (fOp oSub (fVar 1) (fC (.int 1))) (fCons (fVar 2) fNil))) fNil)))))) fNext)
  (fSeq (fIfS (fOp oEq (fVar 3) (fC (.int 9))) (fRet (fCallM 0 F_law_pick (fCons (fApp mkL (fCons (fApp mkT (fCons (fC (.str "negative")) (fCons (fVar 4) fNil))) (fCons (fApp mkT (fCons (fC (.str "distinct")) (fCons (fVar 4) fNil))) fNil))) fNil))) fNext)
  (fSeq (fIfS (fOp oEq (fVar 3) (fC (.int 10))) (fRet (fApp mkT (fCons (fC (.str "power")) (fCons (fVar 4) (fCons (fCallM 0 F_law_draw (fCons (fC (.int 19)) fNil)) fNil))))) fNext)
  (fSeq (fIfS (fOp oEq (fVar 3) (fC (.int 11))) (fRet (fApp mkT (fCons (fC (.str "map")) (fCons (fApp oTuple (fCons (fCall F_law_trim (fCons (fLcR1 (fCallM 0 F_law_draw (fCons (fC (.int 4)) fNil)) (gN 6) fYes (fCallM 0 F_law_value fNil) [6]) fNil)) fNil)) (fCons (fVar 4) fNil))))) fNext)
  (fSeq (fIfS (fOp oEq (fVar 3) (fC (.int 12))) (fRet (fApp mkT (fCons (fCallM 0 F_law_pick (fCons (fApp mkL (fCons (fC (.str "sums")) (fCons (fC (.str "products")) fNil))) fNil)) (fCons (fVar 4) (fCons (fCallM 0 F_law_draw (fCons (fC (.int 5)) fNil)) fNil))))) fNext)
  (fRet (fApp mkT (fCons (fCallM 0 F_law_pick (fCons (fApp mkL (fCons (fC (.str "common")) (fCons (fC (.str "without")) fNil))) fNil)) (fCons (fVar 4) (fCons (fCallM 0 slf (fCons (fOp oSub (fVar 1) (fC (.int 1))) (fCons (fVar 2) fNil))) fNil)))))))))))))))
def F_law_tree : Nat → Fld → List Dat → RE
  | 0 => fun _ _ => .bad
  | n + 1 => runM 7 (B_law_tree (F_law_tree n))
theorem ok_law_tree {ec : Str → Addr} {f : Addr} {fd : FuncData} (F : L2.Fun K "_law_tree" "_law_tree" s_law_tree f fd) (g__law_tree : mg "_law_tree" = some (.ref f)) (k__law_tree : PySem.W.keepIn K (.ref f) = true) (b__law_tree : L2.Binds K fd ["_law_rng", "_law_deep", "_law_names"] []) {f__law_pick : Addr} {d__law_pick : FuncData} (G__law_pick : FnOk P w K mg base CX0 2 f__law_pick d__law_pick ["_law_rng", "_law_things"] (spM K ec (fun k => k = .lst) 1 F_law_pick)) (g__law_pick : mg "_law_pick" = some (.ref f__law_pick)) (k__law_pick : PySem.W.keepIn K (.ref f__law_pick) = true) (b__law_pick : L2.Binds K d__law_pick ["_law_rng", "_law_things"] []) {f__law_draw : Addr} {d__law_draw : FuncData} (G__law_draw : FnOk P w K mg base CX0 1 f__law_draw d__law_draw ["_law_rng", "_law_amount"] (spM K ec (fun k => k = .lst) 1 F_law_draw)) (g__law_draw : mg "_law_draw" = some (.ref f__law_draw)) (k__law_draw : PySem.W.keepIn K (.ref f__law_draw) = true) (b__law_draw : L2.Binds K d__law_draw ["_law_rng", "_law_amount"] []) {f__law_value : Addr} {d__law_value : FuncData} (G__law_value : FnOk P w K mg base CX0 3 f__law_value d__law_value ["_law_rng"] (spM K ec (fun k => k = .lst) 0 F_law_value)) (g__law_value : mg "_law_value" = some (.ref f__law_value)) (k__law_value : PySem.W.keepIn K (.ref f__law_value) = true) (b__law_value : L2.Binds K d__law_value ["_law_rng"] []) (mrange : mg "range" = none) {f__law_trim : Addr} {d__law_trim : FuncData} (G__law_trim : FnOk P w K mg base CX0 1 f__law_trim d__law_trim ["_law_parts_here"] (spF K ec 1 F_law_trim)) (g__law_trim : mg "_law_trim" = some (.ref f__law_trim)) (k__law_trim : PySem.W.keepIn K (.ref f__law_trim) = true) (b__law_trim : L2.Binds K d__law_trim ["_law_parts_here"] []) (mtuple : mg "tuple" = none) : ∀ n : Nat, FnOk P w K mg base CX0 (3 + n) f fd ["_law_rng", "_law_deep", "_law_names"] (spM K ec (fun k => k = .lst) 2 (F_law_tree n))
  | 0 => fn_badM rfl
  | n + 1 => by
    have nd := sc_law_tree.nd
    have ih := ok_law_tree (ec := ec) F g__law_tree k__law_tree b__law_tree G__law_pick g__law_pick k__law_pick b__law_pick G__law_draw g__law_draw k__law_draw b__law_draw G__law_value g__law_value k__law_value b__law_value mrange G__law_trim g__law_trim k__law_trim b__law_trim mtuple n
    refine fnM (k := 3 + n) F sc_law_tree rfl fun cdv A outer s H Hs E y kk hk hr => ?_
    have hr0 := hr
    have hC : ∀ (x : Addr) (kd : MK), (some (y, kk) : Option (Addr × MK)) = some (x, kd) → kd = .lst := fun _ _ z => by cases z; exact hk
    have hkd := hC
    exact (sv_cons (sv_set (ps_set (i := 3) nd rfl (.inl rfl) (ev_if (tv_cmp op_gt (nomark _) rfl sim_gt (ev_o (ev_var (pv 1))) (ev_o (ev_c pe_int fun _ => .int _))) (ev_callM rfl rfl hkd (len_cons len_nil) (pe_call G__law_draw (hr.mono (by omega)) (by rfl) g__law_draw k__law_draw b__law_draw .nil passZ (pa_cons (pv 0) (av_cons (ev_c pe_int fun _ => .int _) av_nil)))) (ev_callM rfl rfl hkd (len_cons len_nil) (pe_call G__law_draw (hr.mono (by omega)) (by rfl) g__law_draw k__law_draw b__law_draw .nil passZ (pa_cons (pv 0) (av_cons (ev_c pe_int fun _ => .int _) av_nil)))))))
    (sv_cons (sv_if (tv_cmp op_lt (nomark _) rfl sim_lt (ev_o (ev_var (pv 3))) (ev_o (ev_c pe_int fun _ => .int _)))
    (sv_one (sv_ret (ev_tup (av_cons (ev_c pe_str fun _ => .str _) (av_cons (ev_callM rfl rfl hkd (len_cons len_nil) (pe_call G__law_pick (hr.mono (by omega)) (by rfl) g__law_pick k__law_pick b__law_pick .nil passZ (pa_cons (pv 0) (av_cons (ev_var (pv 2)) av_nil)))) av_nil)))))
    sv_nil)
    (sv_cons (sv_if (tv_cmp (op_eqD hr.units) (nomark _) rfl sim_eq (ev_o (ev_var (pv 3))) (ev_o (ev_c pe_int fun _ => .int _)))
    (sv_one (sv_ret (ev_tup (av_cons (ev_c pe_str fun _ => .str _) (av_cons (ev_call_ rfl sim_tuple (pe_callTy call_tuple_of (by rfl) mtuple (by decide +kernel) (aw_cons (ev_o (ev_lc_ (pe_lc (own := [("_law_k", 6)]) (te := rdE (⟨K, H, Hs, E, ec, some (y, kk), []⟩ : Me) (fCallM 0 F_law_value fNil)) (tt := rdT (⟨K, H, Hs, E, ec, some (y, kk), []⟩ : Me) fYes) (by rfl) nd (pi_range1 (ta := tCons (rdE (⟨K, H, Hs, E, ec, some (y, kk), []⟩ : Me) (fCallM 0 F_law_draw (fCons (fC (.int 4)) fNil))) tNil) (by rfl) mrange (pa_cons (ev_callM rfl rfl hkd (len_cons len_nil) (pe_call G__law_draw (hr.mono (by omega)) (by rfl) g__law_draw k__law_draw b__law_draw .nil passZ (pa_cons (pv 0) (av_cons (ev_c pe_int fun _ => .int _) av_nil)))) pa_nil)) (blkOk_by (N := ["_law_rng", "_law_deep", "_law_names", "_law_way", "_law_here", "_law_word", "_law_k"]) (sc := defScope s_law_tree) (by decide +kernel)) (fun _ _ _ _ _ => pg_name (i := 6) nd rfl (.inl rfl) (hf := .inr rfl)) (fun _ _ _ _ _ => ptv_nil) (fun _ _ _ _ _ => (ev_callM rfl rfl hkd len_nil (pe_call G__law_value (hr.mono (by omega)) (by rfl) g__law_value k__law_value b__law_value .nil passZ (pa_cons (pv 0) av_nil))))) (fun _ _ _ h => rd_lcR (simW_name (by decide)) h))) aw_nil))) av_nil)))))
    sv_nil)
    (sv_cons (sv_if (tv_cmp (op_eqD hr.units) (nomark _) rfl sim_eq (ev_o (ev_var (pv 3))) (ev_o (ev_c pe_int fun _ => .int _)))
    (sv_cons (sv_if (tv_cmp (op_eqD hr.units) (nomark _) rfl sim_eq (ev_o (ev_callM rfl rfl hkd (len_cons len_nil) (pe_call G__law_draw (hr.mono (by omega)) (by rfl) g__law_draw k__law_draw b__law_draw .nil passZ (pa_cons (pv 0) (av_cons (ev_c pe_int fun _ => .int _) av_nil))))) (ev_o (ev_c pe_int fun _ => .int _)))
    (sv_one (sv_ret (ev_tup (av_cons (ev_c pe_str fun _ => .str _) (av_cons (ev_callM rfl rfl hkd (len_cons len_nil) (pe_call G__law_draw (hr.mono (by omega)) (by rfl) g__law_draw k__law_draw b__law_draw .nil passZ (pa_cons (pv 0) (av_cons (ev_c pe_int fun _ => .int _) av_nil)))) av_nil)))))
    sv_nil)
    (sv_one (sv_ret (ev_tup (av_cons (ev_c pe_str fun _ => .str _) (av_cons (ev_call_ rfl sim_tuple (pe_callTy call_tuple_of (by rfl) mtuple (by decide +kernel) (aw_cons (ev_o (ev_op op_addA rfl sim_add (ev_o (ev_lc_ (pe_lc (own := [("_law_k", 6)]) (te := rdE (⟨K, H, Hs, E, ec, some (y, kk), []⟩ : Me) (fCallM 0 F_law_value fNil)) (tt := rdT (⟨K, H, Hs, E, ec, some (y, kk), []⟩ : Me) fYes) (by rfl) nd (pi_range1 (ta := tCons (rdE (⟨K, H, Hs, E, ec, some (y, kk), []⟩ : Me) (fCallM 0 F_law_draw (fCons (fC (.int 3)) fNil))) tNil) (by rfl) mrange (pa_cons (ev_callM rfl rfl hkd (len_cons len_nil) (pe_call G__law_draw (hr.mono (by omega)) (by rfl) g__law_draw k__law_draw b__law_draw .nil passZ (pa_cons (pv 0) (av_cons (ev_c pe_int fun _ => .int _) av_nil)))) pa_nil)) (blkOk_by (N := ["_law_rng", "_law_deep", "_law_names", "_law_way", "_law_here", "_law_word", "_law_k"]) (sc := defScope s_law_tree) (by decide +kernel)) (fun _ _ _ _ _ => pg_name (i := 6) nd rfl (.inl rfl) (hf := .inr rfl)) (fun _ _ _ _ _ => ptv_nil) (fun _ _ _ _ _ => (ev_callM rfl rfl hkd len_nil (pe_call G__law_value (hr.mono (by omega)) (by rfl) g__law_value k__law_value b__law_value .nil passZ (pa_cons (pv 0) av_nil))))) (fun _ _ _ h => rd_lcR (simW_name (by decide)) h))) (ev_o (ev_lst (av_cons (ev_tup (av_cons (ev_op op_addA rfl sim_add (ev_o (ev_c pe_int fun _ => .int _)) (ev_o (ev_callM rfl rfl hkd (len_cons len_nil) (pe_call G__law_draw (hr.mono (by omega)) (by rfl) g__law_draw k__law_draw b__law_draw .nil passZ (pa_cons (pv 0) (av_cons (ev_c pe_int fun _ => .int _) av_nil)))))) (av_cons (ev_c pe_int fun _ => .int _) av_nil))) av_nil))))) aw_nil))) av_nil))))))
    sv_nil)
    (sv_cons (sv_set (ps_set (i := 4) nd rfl (.inl rfl) (ev_callM rfl rfl hkd (len_cons (len_cons len_nil)) (pe_call ih hr0 (by rfl) g__law_tree k__law_tree b__law_tree .nil passZ (pa_cons (pv 0) (av_cons (ev_op op_sub rfl sim_sub (ev_o (ev_var (pv 1))) (ev_o (ev_c pe_int fun _ => .int _))) (av_cons (ev_var (pv 2)) av_nil)))))))
    (sv_cons (sv_if (tv_cmp op_lt (nomark _) rfl sim_lt (ev_o (ev_var (pv 3))) (ev_o (ev_c pe_int fun _ => .int _)))
    (sv_cons (sv_set (ps_set (i := 5) nd rfl (.inl rfl) (ev_ix ix_seq (fun _ _ => rfl) rfl sim_ix (ev_o (ev_lst (av_cons (ev_c pe_str fun _ => .str _) (av_cons (ev_c pe_str fun _ => .str _) (av_cons (ev_c pe_str fun _ => .str _) (av_cons (ev_c pe_str fun _ => .str _) (av_cons (ev_c pe_str fun _ => .str _) av_nil))))))) (ev_o (ev_op op_sub rfl sim_sub (ev_o (ev_var (pv 3))) (ev_o (ev_c pe_int fun _ => .int _)))))))
    (sv_one (sv_ret (ev_tup (av_cons (ev_var (pv 5)) (av_cons (ev_var (pv 4)) (av_cons (ev_callM rfl rfl hkd (len_cons (len_cons len_nil)) (pe_call ih hr0 (by rfl) g__law_tree k__law_tree b__law_tree .nil passZ (pa_cons (pv 0) (av_cons (ev_op op_sub rfl sim_sub (ev_o (ev_var (pv 1))) (ev_o (ev_c pe_int fun _ => .int _))) (av_cons (ev_var (pv 2)) av_nil))))) av_nil)))))))
    sv_nil)
    (sv_cons (sv_if (tv_cmp (op_eqD hr.units) (nomark _) rfl sim_eq (ev_o (ev_var (pv 3))) (ev_o (ev_c pe_int fun _ => .int _)))
    (sv_one (sv_ret (ev_callM rfl rfl hkd (len_cons len_nil) (pe_call G__law_pick (hr.mono (by omega)) (by rfl) g__law_pick k__law_pick b__law_pick .nil passZ (pa_cons (pv 0) (av_cons (ev_lst (av_cons (ev_tup (av_cons (ev_c pe_str fun _ => .str _) (av_cons (ev_var (pv 4)) av_nil))) (av_cons (ev_tup (av_cons (ev_c pe_str fun _ => .str _) (av_cons (ev_var (pv 4)) av_nil))) av_nil))) av_nil))))))
    sv_nil)
    (sv_cons (sv_if (tv_cmp (op_eqD hr.units) (nomark _) rfl sim_eq (ev_o (ev_var (pv 3))) (ev_o (ev_c pe_int fun _ => .int _)))
    (sv_one (sv_ret (ev_tup (av_cons (ev_c pe_str fun _ => .str _) (av_cons (ev_var (pv 4)) (av_cons (ev_callM rfl rfl hkd (len_cons len_nil) (pe_call G__law_draw (hr.mono (by omega)) (by rfl) g__law_draw k__law_draw b__law_draw .nil passZ (pa_cons (pv 0) (av_cons (ev_c pe_int fun _ => .int _) av_nil)))) av_nil))))))
    sv_nil)
    (sv_cons (sv_if (tv_cmp (op_eqD hr.units) (nomark _) rfl sim_eq (ev_o (ev_var (pv 3))) (ev_o (ev_c pe_int fun _ => .int _)))
    (sv_one (sv_ret (ev_tup (av_cons (ev_c pe_str fun _ => .str _) (av_cons (ev_call_ rfl sim_tuple (pe_callTy call_tuple_of (by rfl) mtuple (by decide +kernel) (aw_cons (ev_o (ev_callF rfl rfl (len_cons len_nil) (pe_call G__law_trim (hr.mono (by omega)) (by rfl) g__law_trim k__law_trim b__law_trim .nil passZ (av_cons (ev_lc_ (pe_lc (own := [("_law_k", 6)]) (te := rdE (⟨K, H, Hs, E, ec, some (y, kk), []⟩ : Me) (fCallM 0 F_law_value fNil)) (tt := rdT (⟨K, H, Hs, E, ec, some (y, kk), []⟩ : Me) fYes) (by rfl) nd (pi_range1 (ta := tCons (rdE (⟨K, H, Hs, E, ec, some (y, kk), []⟩ : Me) (fCallM 0 F_law_draw (fCons (fC (.int 4)) fNil))) tNil) (by rfl) mrange (pa_cons (ev_callM rfl rfl hkd (len_cons len_nil) (pe_call G__law_draw (hr.mono (by omega)) (by rfl) g__law_draw k__law_draw b__law_draw .nil passZ (pa_cons (pv 0) (av_cons (ev_c pe_int fun _ => .int _) av_nil)))) pa_nil)) (blkOk_by (N := ["_law_rng", "_law_deep", "_law_names", "_law_way", "_law_here", "_law_word", "_law_k"]) (sc := defScope s_law_tree) (by decide +kernel)) (fun _ _ _ _ _ => pg_name (i := 6) nd rfl (.inl rfl) (hf := .inr rfl)) (fun _ _ _ _ _ => ptv_nil) (fun _ _ _ _ _ => (ev_callM rfl rfl hkd len_nil (pe_call G__law_value (hr.mono (by omega)) (by rfl) g__law_value k__law_value b__law_value .nil passZ (pa_cons (pv 0) av_nil))))) (fun _ _ _ h => rd_lcR (simW_name (by decide)) h)) av_nil)))) aw_nil))) (av_cons (ev_var (pv 4)) av_nil))))))
    sv_nil)
    (sv_cons (sv_if (tv_cmp (op_eqD hr.units) (nomark _) rfl sim_eq (ev_o (ev_var (pv 3))) (ev_o (ev_c pe_int fun _ => .int _)))
    (sv_one (sv_ret (ev_tup (av_cons (ev_callM rfl rfl hkd (len_cons len_nil) (pe_call G__law_pick (hr.mono (by omega)) (by rfl) g__law_pick k__law_pick b__law_pick .nil passZ (pa_cons (pv 0) (av_cons (ev_lst (av_cons (ev_c pe_str fun _ => .str _) (av_cons (ev_c pe_str fun _ => .str _) av_nil))) av_nil)))) (av_cons (ev_var (pv 4)) (av_cons (ev_callM rfl rfl hkd (len_cons len_nil) (pe_call G__law_draw (hr.mono (by omega)) (by rfl) g__law_draw k__law_draw b__law_draw .nil passZ (pa_cons (pv 0) (av_cons (ev_c pe_int fun _ => .int _) av_nil)))) av_nil))))))
    sv_nil)
    (sv_one (sv_ret (ev_tup (av_cons (ev_callM rfl rfl hkd (len_cons len_nil) (pe_call G__law_pick (hr.mono (by omega)) (by rfl) g__law_pick k__law_pick b__law_pick .nil passZ (pa_cons (pv 0) (av_cons (ev_lst (av_cons (ev_c pe_str fun _ => .str _) (av_cons (ev_c pe_str fun _ => .str _) av_nil))) av_nil)))) (av_cons (ev_var (pv 4)) (av_cons (ev_callM rfl rfl hkd (len_cons (len_cons len_nil)) (pe_call ih hr0 (by rfl) g__law_tree k__law_tree b__law_tree .nil passZ (pa_cons (pv 0) (av_cons (ev_op op_sub rfl sim_sub (ev_o (ev_var (pv 1))) (ev_o (ev_c pe_int fun _ => .int _))) (av_cons (ev_var (pv 2)) av_nil))))) av_nil))))))))))))))))
theorem sc_law_nodes : FnScope ["_law_tree_here", "_law_part"] ["_law_tree_here"] (defScope s_law_nodes) := ⟨rfl, rfl, rfl, by decide +kernel, rfl, by decide +kernel, by decide +kernel⟩
def B_law_nodes (slf : List Dat → RF) : FS :=
  (fRet (fOp oAdd (fC (.int 1)) (fApp oSum (fCons (fLc listOf (fCall F_law_parts (fCons (fVar 0) fNil)) (gN 1) fYes (fCall slf (fCons (fVar 1) fNil)) [1]) fNil))))
def F_law_nodes : Nat → List Dat → RF
  | 0 => fun _ => .bad
  | n + 1 => runF 2 (B_law_nodes (F_law_nodes n))
theorem ok_law_nodes {ec : Str → Addr} {f : Addr} {fd : FuncData} (F : L2.Fun K "_law_nodes" "_law_nodes" s_law_nodes f fd) (g__law_nodes : mg "_law_nodes" = some (.ref f)) (k__law_nodes : PySem.W.keepIn K (.ref f) = true) (b__law_nodes : L2.Binds K fd ["_law_tree_here"] []) {f__law_parts : Addr} {d__law_parts : FuncData} (G__law_parts : FnOk P w K mg base CX0 1 f__law_parts d__law_parts ["_law_tree_here"] (spF K ec 1 F_law_parts)) (g__law_parts : mg "_law_parts" = some (.ref f__law_parts)) (k__law_parts : PySem.W.keepIn K (.ref f__law_parts) = true) (b__law_parts : L2.Binds K d__law_parts ["_law_tree_here"] []) (msum : mg "sum" = none) : ∀ n : Nat, FnOk P w K mg base CX0 (1 + n) f fd ["_law_tree_here"] (spF K ec 1 (F_law_nodes n))
  | 0 => fn_bad rfl
  | n + 1 => by
    have nd := sc_law_nodes.nd
    have ih := ok_law_nodes (ec := ec) F g__law_nodes k__law_nodes b__law_nodes G__law_parts g__law_parts k__law_parts b__law_parts msum n
    refine fnF (k := 1 + n) F sc_law_nodes rfl fun cdv A outer s H Hs E hr => ?_
    have hr0 := hr
    skip
    skip
    exact (sv_one (sv_ret (ev_op op_addA rfl sim_add (ev_o (ev_c pe_int fun _ => .int _)) (ev_o (ev_call_ rfl sim_sum (pe_callB (cr_sum rfl) (by rfl) msum (by decide +kernel) (aw_cons (ev_o (ev_lc_ (pe_lc (own := [("_law_part", 1)]) (te := rdE (⟨K, H, Hs, E, ec, none, []⟩ : Me) (fCall (F_law_nodes n) (fCons (fVar 1) fNil))) (tt := rdT (⟨K, H, Hs, E, ec, none, []⟩ : Me) fYes) (by rfl) nd (pi_list (tl := rdE (⟨K, H, Hs, E, ec, none, []⟩ : Me) (fCall F_law_parts (fCons (fVar 0) fNil))) (ev_callF rfl rfl (len_cons len_nil) (pe_call G__law_parts (hr.mono (by omega)) (by rfl) g__law_parts k__law_parts b__law_parts .nil passZ (av_cons (ev_var (pv 0)) av_nil)))) (blkOk_by (N := ["_law_tree_here", "_law_part"]) (sc := defScope s_law_nodes) (by decide +kernel)) (fun _ _ _ _ _ => pg_name (i := 1) nd rfl (.inl rfl) (hf := .inr rfl)) (fun _ _ _ _ _ => ptv_nil) (fun _ _ _ _ _ => (ev_callF rfl rfl (len_cons len_nil) (pe_call ih hr0 (by rfl) g__law_nodes k__law_nodes b__law_nodes .nil passZ (av_cons (ev_var (pv 1)) av_nil))))) (fun _ _ _ h => rd_lcL rfl (simW_name (by decide)) h))) aw_nil)))))))
theorem sc_law_term_names : FnScope ["_law_rng", "_law_letters", "_law_stem", "_law_found", "_law_at", "_law_start", "_law_k"] ["_law_rng"] (defScope s_law_term_names) := ⟨rfl, rfl, rfl, by decide +kernel, rfl, by decide +kernel, by decide +kernel⟩
def B_law_term_names : FS :=
  (fSeq (fSet 1 (fC (.str "abcdefghijklmnopqrstuvwxyz")))
  (fSeq (fSet 2 (fMt isStr oJoin (fC (.str "")) (fCons (fLcR1 (fCallM 0 F_law_draw (fCons (fC (.int 6)) fNil)) (gN 6) fYes (fOp oIx (fVar 1) (fCallM 0 F_law_draw (fCons (fC (.int 26)) fNil))) [6]) fNil)))
  (fSeq (fAsg (fApp mkT (fCons (fCallM 0 F_law_draw (fCons (fOp oAdd (fApp oLen (fCons (fVar 2) fNil)) (fC (.int 1))) fNil)) (fCons (fCallM 0 F_law_draw (fCons (fC (.int 26)) fNil)) fNil))) (gT [(gN 4), (gN 5)]))
  (fSeq (fSet 3 (fLcR1 (fC (.int 3)) (gN 6) fYes (fOp oAdd (fOp oAdd (fSl oSl (fVar 2) none (some (fVar 4))) (fOp oIx (fVar 1) (fOp oMod (fOp oAdd (fVar 5) (fOp oMul (fC (.int 9)) (fVar 6))) (fC (.int 26))))) (fSl oSl (fVar 2) (some (fVar 4)) none)) [6]))
  (fRet (fOp oAdd (fSl oSl (fVar 3) none (some (fC (.int 2)))) (fApp mkL (fCons (fOp oAdd (fOp oIx (fVar 3) (fC (.int 2))) (fOp oMulS (fC (.str "q")) (fCallM 0 F_law_draw (fCons (fC (.int 3)) fNil)))) fNil))))))))
def F_law_term_names : Fld → List Dat → RE := runM 7 B_law_term_names
theorem ok_law_term_names {ec : Str → Addr} {f : Addr} {fd : FuncData} (F : L2.Fun K "_law_term_names" "_law_term_names" s_law_term_names f fd) {f__law_draw : Addr} {d__law_draw : FuncData} (G__law_draw : FnOk P w K mg base CX0 1 f__law_draw d__law_draw ["_law_rng", "_law_amount"] (spM K ec (fun k => k = .lst) 1 F_law_draw)) (g__law_draw : mg "_law_draw" = some (.ref f__law_draw)) (k__law_draw : PySem.W.keepIn K (.ref f__law_draw) = true) (b__law_draw : L2.Binds K d__law_draw ["_law_rng", "_law_amount"] []) (mrange : mg "range" = none) (mlen : mg "len" = none) : FnOk P w K mg base CX0 2 f fd ["_law_rng"] (spM K ec (fun k => k = .lst) 0 F_law_term_names) := by
  have nd := sc_law_term_names.nd
  refine fnM (k := 1) F sc_law_term_names rfl fun cdv A outer s H Hs E y kk hk hr => ?_
  have hC : ∀ (x : Addr) (kd : MK), (some (y, kk) : Option (Addr × MK)) = some (x, kd) → kd = .lst := fun _ _ z => by cases z; exact hk
  have hkd := hC
  exact (sv_cons (sv_set (ps_set (i := 1) nd rfl (.inr rfl) (ev_c pe_str fun _ => .str _)))
    (sv_cons (sv_set (ps_set (i := 2) nd rfl (.inr rfl) (ev_mt rfl sim_join (pe_bm PySem.F.plainAttrs_str PySem.F.slot_str_join PySem.F.type_str_join mt_join (ev_o (ev_c pe_str fun _ => .str _)) (aw_cons (ev_o (ev_lc_ (pe_lc (own := [("_law_k", 6)]) (te := rdE (⟨K, H, Hs, E, ec, some (y, kk), []⟩ : Me) (fOp oIx (fVar 1) (fCallM 0 F_law_draw (fCons (fC (.int 26)) fNil)))) (tt := rdT (⟨K, H, Hs, E, ec, some (y, kk), []⟩ : Me) fYes) (by rfl) nd (pi_range1 (ta := tCons (rdE (⟨K, H, Hs, E, ec, some (y, kk), []⟩ : Me) (fCallM 0 F_law_draw (fCons (fC (.int 6)) fNil))) tNil) (by rfl) mrange (pa_cons (ev_callM rfl rfl hkd (len_cons len_nil) (pe_call G__law_draw (hr.mono (by omega)) (by rfl) g__law_draw k__law_draw b__law_draw .nil passZ (pa_cons (pv 0) (av_cons (ev_c pe_int fun _ => .int _) av_nil)))) pa_nil)) (blkOk_by (N := ["_law_rng", "_law_letters", "_law_stem", "_law_found", "_law_at", "_law_start", "_law_k"]) (sc := defScope s_law_term_names) (by decide +kernel)) (fun _ _ _ _ _ => pg_name (i := 6) nd rfl (.inl rfl) (hf := .inr rfl)) (fun _ _ _ _ _ => ptv_nil) (fun _ _ _ _ _ => (ev_ix ix_seq (fun _ _ => rfl) rfl sim_ix (ev_o (ev_var (pv 1))) (ev_o (ev_callM rfl rfl hkd (len_cons len_nil) (pe_call G__law_draw (hr.mono (by omega)) (by rfl) g__law_draw k__law_draw b__law_draw .nil passZ (pa_cons (pv 0) (av_cons (ev_c pe_int fun _ => .int _) av_nil)))))))) (fun _ _ _ h => rd_lcR (simW_name (by decide)) h))) aw_nil)))))
    (sv_cons (sv_asg (simG_tup (.cons simG_name (.cons simG_name .nil)) rfl rfl) (ps_asg (ev_tup (av_cons (ev_callM rfl rfl hkd (len_cons len_nil) (pe_call G__law_draw (hr.mono (by omega)) (by rfl) g__law_draw k__law_draw b__law_draw .nil passZ (pa_cons (pv 0) (av_cons (ev_op op_addA rfl sim_add (ev_o (ev_call_ rfl sim_len (pe_callB call_len (by rfl) mlen PySem.boot_len (aw_cons (ev_o (ev_var (pv 2))) aw_nil)))) (ev_o (ev_c pe_int fun _ => .int _))) av_nil)))) (av_cons (ev_callM rfl rfl hkd (len_cons len_nil) (pe_call G__law_draw (hr.mono (by omega)) (by rfl) g__law_draw k__law_draw b__law_draw .nil passZ (pa_cons (pv 0) (av_cons (ev_c pe_int fun _ => .int _) av_nil)))) av_nil))) (pg_tup (by rfl) (pgs_cons (pg_name (i := 4) nd rfl (.inr rfl)) (pgs_cons (pg_name (i := 5) nd rfl (.inr rfl)) pgs_nil)))))
    (sv_cons (sv_setLc (ps_setLc (i := 3) (own := [("_law_k", 6)]) (te := rdE (⟨K, H, Hs, E, ec, some (y, kk), []⟩ : Me) (fOp oAdd (fOp oAdd (fSl oSl (fVar 2) none (some (fVar 4))) (fOp oIx (fVar 1) (fOp oMod (fOp oAdd (fVar 5) (fOp oMul (fC (.int 9)) (fVar 6))) (fC (.int 26))))) (fSl oSl (fVar 2) (some (fVar 4)) none))) (tt := rdT (⟨K, H, Hs, E, ec, some (y, kk), []⟩ : Me) fYes) (by rfl) nd rfl rfl (sw_true rfl rfl rfl (by decide +kernel)) (pi_range1 (ta := tCons (rdE (⟨K, H, Hs, E, ec, some (y, kk), []⟩ : Me) (fC (.int 3))) tNil) (by rfl) mrange (pa_cons (ev_c pe_int fun _ => .int _) pa_nil)) (blkOk_by (N := ["_law_rng", "_law_letters", "_law_stem", "_law_found", "_law_at", "_law_start", "_law_k"]) (sc := defScope s_law_term_names) (by decide +kernel)) (fun _ _ _ _ _ => pg_name (i := 6) nd rfl (.inl rfl) (hf := .inr rfl)) (fun _ _ _ _ _ => ptv_nil) (fun _ _ _ _ _ => (ev_op op_addA rfl sim_add (ev_o (ev_op op_addA rfl sim_add (ev_o (ev_sl sl_all rfl sim_sl (ev_o (ev_var (pv 2))) .no (.yes (ev_var (pv 4))))) (ev_o (ev_ix ix_seq (fun _ _ => rfl) rfl sim_ix (ev_o (ev_var (pv 1))) (ev_o (ev_op op_modN rfl sim_mod (ev_o (ev_op op_addA rfl sim_add (ev_o (ev_var (pv 5))) (ev_o (ev_op op_mulW rfl sim_mul (ev_o (ev_c pe_int fun _ => .int _)) (ev_o (ev_var (pv 6))))))) (ev_o (ev_c pe_int fun _ => .int _)))))))) (ev_o (ev_sl sl_all rfl sim_sl (ev_o (ev_var (pv 2))) (.yes (ev_var (pv 4))) .no))))) (fun _ _ _ h => rd_lcR (simW_name (by decide)) h))
    (sv_one (sv_ret (ev_op op_addA rfl sim_add (ev_o (ev_sl sl_all rfl sim_sl (ev_o (ev_var (pv 3))) .no (.yes (ev_c pe_int fun _ => .int _)))) (ev_o (ev_lst (av_cons (ev_op op_addA rfl sim_add (ev_o (ev_ix ix_seq (fun _ _ => rfl) rfl sim_ix (ev_o (ev_var (pv 3))) (ev_o (ev_c pe_int fun _ => .int _)))) (ev_o (ev_op op_mul_str rfl sim_mulS (ev_o (ev_c pe_str fun _ => .str _)) (ev_o (ev_callM rfl rfl hkd (len_cons len_nil) (pe_call G__law_draw (hr.mono (by omega)) (by rfl) g__law_draw k__law_draw b__law_draw .nil passZ (pa_cons (pv 0) (av_cons (ev_c pe_int fun _ => .int _) av_nil)))))))) av_nil))))))))))
end
end RB

set_option Elab.async false
set_option linter.all false
set_option maxRecDepth 100000
set_option maxHeartbeats 4000000
namespace RB
open PySem PySem.Spec PyProof.Rows L2 PD
section
variable {P : Program} {w : World} {K : PySem.W.Frag} {mg : Str → Option Value} {base : Heap}
theorem sc_law_level : FnScope ["_law_tree_here", "_law_table"] ["_law_tree_here"] (defScope s_law_level) := ⟨rfl, rfl, rfl, by decide +kernel, rfl, by decide +kernel, by decide +kernel⟩
def B_law_level : FS :=
  (fLvl 1 [("join", .int 1), ("sum", .int 2), ("difference", .int 2), ("product", .int 3), ("quotient", .int 3), ("negative", .int 4), ("power", .int 5)] (fOp oIx (fVar 0) (fC (.int 0))) (fC (.int 6)))
def F_law_level : List Dat → RF := runF 2 B_law_level
theorem ok_law_level {ec : Str → Addr} {f : Addr} {fd : FuncData} (F : L2.Fun K "_law_level" "_law_level" s_law_level f fd)  : FnOk P w K mg base CX0 1 f fd ["_law_tree_here"] (spF K ec 1 F_law_level) := by
  have nd := sc_law_level.nd
  refine fnF (k := 0) F sc_law_level rfl fun cdv A outer s H Hs E hr => ?_
  skip
  skip
  exact (sv_level (kvs := [("join", .int 1), ("sum", .int 2), ("difference", .int 2), ("product", .int 3), ("quotient", .int 3), ("negative", .int 4), ("power", .int 5)]) (ps_asg (pe_disp (pps_cons pe_str pe_int (pps_cons pe_str pe_int (pps_cons pe_str pe_int (pps_cons pe_str pe_int (pps_cons pe_str pe_int (pps_cons pe_str pe_int (pps_cons pe_str pe_int pps_nil))))))) rfl rfl (by simp) (by decide)) (pg_name (i := 1) nd rfl (.inl rfl))) (fun _ _ _ h => h) (by decide +kernel) (by decide) (by decide) (pe_dget2 (hu_of hr) (pv 1) (ev_ix ix_seq (fun _ _ => rfl) rfl sim_ix (ev_o (ev_var (pv 0))) (ev_o (ev_c pe_int fun _ => .int _))) (ev_c pe_int fun _ => .int _) ⟨rfl, rfl, rfl, rfl⟩))
theorem sc_law_text : FnScope ["_law_tree_here", "_law_word", "_law_sign", "_law_level_here"] ["_law_tree_here"] (defScope s_law_text) := ⟨rfl, rfl, rfl, by decide +kernel, rfl, by decide +kernel, by decide +kernel⟩
theorem sc_law_operand : FnScope ["_law_tree_here", "_law_level_here", "_law_text_here"] ["_law_tree_here", "_law_level_here"] (defScope s_law_operand) := ⟨rfl, rfl, rfl, by decide +kernel, rfl, by decide +kernel, by decide +kernel⟩
structure S_GT where
  x_law_text : List Dat → RF
  x_law_operand : List Dat → RF
def B_law_text (slf : S_GT) : FS :=
  (fSeq (fSet 1 (fOp oIx (fVar 0) (fC (.int 0))))
  (fSeq (fIfS (fOp oEq (fVar 1) (fC (.str "name"))) (fRet (fOp oIx (fVar 0) (fC (.int 1)))) fNext)
  (fSeq (fIfS (fOp oEq (fVar 1) (fC (.str "list"))) (fRet (fOp oAdd (fOp oAdd (fC (.str "{")) (fCall F_law_numbers_text (fCons (fOp oIx (fVar 0) (fC (.int 1))) fNil))) (fC (.str "}")))) fNext)
  (fSeq (fIfS (fOp oEq (fVar 1) (fC (.str "unity"))) (fRet (fOp oAdd (fOp oAdd (fC (.str "unity(")) (fApp oStr (fCons (fOp oIx (fVar 0) (fC (.int 1))) fNil))) (fC (.str ")")))) fNext)
  (fSeq (fIfS (fOp oEq (fVar 1) (fC (.str "roots"))) (fRet (fOp oAdd (fOp oAdd (fC (.str "roots([")) (fCall F_law_numbers_text (fCons (fOp oIx (fVar 0) (fC (.int 1))) fNil))) (fC (.str "])")))) fNext)
  (fSeq (fIfS (fOp oEq (fVar 1) (fC (.str "negative"))) (fRet (fOp oAdd (fC (.str "-")) (fCall slf.x_law_operand (fCons (fOp oIx (fVar 0) (fC (.int 1))) (fCons (fC (.int 4)) fNil))))) fNext)
  (fSeq (fIfS (fOp oEq (fVar 1) (fC (.str "power"))) (fRet (fOp oAdd (fOp oAdd (fCall slf.x_law_operand (fCons (fOp oIx (fVar 0) (fC (.int 1))) (fCons (fC (.int 5)) fNil))) (fC (.str " ^ "))) (fApp oStr (fCons (fOp oIx (fVar 0) (fC (.int 2))) fNil)))) fNext)
  (fSeq (fIfS (fOp oEq (fVar 1) (fC (.str "map"))) (fRet (fOp oAdd (fOp oAdd (fOp oAdd (fOp oAdd (fC (.str "map([")) (fCall F_law_numbers_text (fCons (fOp oIx (fVar 0) (fC (.int 1))) fNil))) (fC (.str "], "))) (fCall slf.x_law_text (fCons (fOp oIx (fVar 0) (fC (.int 2))) fNil))) (fC (.str ")")))) fNext)
  (fSeq (fIfS (fOp (oIn false) (fVar 1) (fApp mkL (fCons (fC (.str "sums")) (fCons (fC (.str "products")) fNil)))) (fRet (fOp oAdd (fOp oAdd (fOp oAdd (fOp oAdd (fOp oAdd (fVar 1) (fC (.str "("))) (fCall slf.x_law_text (fCons (fOp oIx (fVar 0) (fC (.int 1))) fNil))) (fC (.str ", "))) (fApp oStr (fCons (fOp oIx (fVar 0) (fC (.int 2))) fNil))) (fC (.str ")")))) fNext)
  (fSeq (fIfS (fOp oEq (fVar 1) (fC (.str "distinct"))) (fRet (fOp oAdd (fOp oAdd (fC (.str "distinct(")) (fCall slf.x_law_text (fCons (fOp oIx (fVar 0) (fC (.int 1))) fNil))) (fC (.str ")")))) fNext)
  (fSeq (fIfS (fOp (oIn false) (fVar 1) (fApp mkL (fCons (fC (.str "common")) (fCons (fC (.str "without")) fNil)))) (fRet (fOp oAdd (fOp oAdd (fOp oAdd (fOp oAdd (fOp oAdd (fVar 1) (fC (.str "("))) (fCall slf.x_law_text (fCons (fOp oIx (fVar 0) (fC (.int 1))) fNil))) (fC (.str ", "))) (fCall slf.x_law_text (fCons (fOp oIx (fVar 0) (fC (.int 2))) fNil))) (fC (.str ")")))) fNext)
  (fSeq (fSet 2 (fUn (oTab [("join", .str " | "), ("sum", .str " + "), ("difference", .str " - "), ("product", .str " * "), ("quotient", .str " / ")]) (fVar 1)))
  (fSeq (fSet 3 (fCall F_law_level (fCons (fVar 0) fNil)))
  (fRet (fOp oAdd (fOp oAdd (fCall slf.x_law_operand (fCons (fOp oIx (fVar 0) (fC (.int 1))) (fCons (fVar 3) fNil))) (fVar 2)) (fCall slf.x_law_operand (fCons (fOp oIx (fVar 0) (fC (.int 2))) (fCons (fOp oAdd (fVar 3) (fC (.int 1))) fNil))))))))))))))))))
def B_law_operand (slf : S_GT) : FS :=
  (fSeq (fSet 2 (fCall slf.x_law_text (fCons (fVar 0) fNil)))
  (fRet (fIf (fOp oLt (fCall F_law_level (fCons (fVar 0) fNil)) (fVar 1)) (fOp oAdd (fOp oAdd (fC (.str "(")) (fVar 2)) (fC (.str ")"))) (fVar 2))))
def GT : Nat → S_GT
  | 0 => ⟨fun _ => .bad, fun _ => .bad⟩
  | n + 1 => ⟨runF 4 (B_law_text (GT n)), runF 3 (B_law_operand (GT n))⟩
theorem ok_GT {ec : Str → Addr}  {f__law_text : Addr} {d__law_text : FuncData} (F__law_text : L2.Fun K "_law_text" "_law_text" s_law_text f__law_text d__law_text) (g__law_text : mg "_law_text" = some (.ref f__law_text)) (k__law_text : PySem.W.keepIn K (.ref f__law_text) = true) (b__law_text : L2.Binds K d__law_text ["_law_tree_here"] []) {f__law_operand : Addr} {d__law_operand : FuncData} (F__law_operand : L2.Fun K "_law_operand" "_law_operand" s_law_operand f__law_operand d__law_operand) (g__law_operand : mg "_law_operand" = some (.ref f__law_operand)) (k__law_operand : PySem.W.keepIn K (.ref f__law_operand) = true) (b__law_operand : L2.Binds K d__law_operand ["_law_tree_here", "_law_level_here"] []) {f__law_level : Addr} {d__law_level : FuncData} (G__law_level : FnOk P w K mg base CX0 1 f__law_level d__law_level ["_law_tree_here"] (spF K ec 1 F_law_level)) (g__law_level : mg "_law_level" = some (.ref f__law_level)) (k__law_level : PySem.W.keepIn K (.ref f__law_level) = true) (b__law_level : L2.Binds K d__law_level ["_law_tree_here"] []) (mstr : mg "str" = none) {f__law_numbers_text : Addr} {d__law_numbers_text : FuncData} (G__law_numbers_text : FnOk P w K mg base CX0 2 f__law_numbers_text d__law_numbers_text ["_law_parts_here"] (spF K ec 1 F_law_numbers_text)) (g__law_numbers_text : mg "_law_numbers_text" = some (.ref f__law_numbers_text)) (k__law_numbers_text : PySem.W.keepIn K (.ref f__law_numbers_text) = true) (b__law_numbers_text : L2.Binds K d__law_numbers_text ["_law_parts_here"] []) : ∀ n : Nat, FnOk P w K mg base CX0 (2 + n) f__law_text d__law_text ["_law_tree_here"] (spF K ec 1 (GT n).x_law_text) ∧ FnOk P w K mg base CX0 (2 + n) f__law_operand d__law_operand ["_law_tree_here", "_law_level_here"] (spF K ec 2 (GT n).x_law_operand)
  | 0 => ⟨fn_bad rfl, fn_bad rfl⟩
  | n + 1 => by
    obtain ⟨ih__law_text, ih__law_operand⟩ := ok_GT (ec := ec) F__law_text g__law_text k__law_text b__law_text F__law_operand g__law_operand k__law_operand b__law_operand G__law_level g__law_level k__law_level b__law_level mstr G__law_numbers_text g__law_numbers_text k__law_numbers_text b__law_numbers_text n
    refine ⟨?_, ?_⟩
    · have nd := sc_law_text.nd
      refine fnF (k := 2 + n) ‹_› sc_law_text rfl fun cdv A outer s H Hs E hr => ?_
      have hr0 := hr
      skip
      skip
      exact (sv_cons (sv_set (ps_set (i := 1) nd rfl (.inl rfl) (ev_ix ix_seq (fun _ _ => rfl) rfl sim_ix (ev_o (ev_var (pv 0))) (ev_o (ev_c pe_int fun _ => .int _)))))
    (sv_cons (sv_if (tv_cmp (op_eqD hr.units) (nomark _) rfl sim_eq (ev_o (ev_var (pv 1))) (ev_o (ev_c pe_str fun _ => .str _)))
    (sv_one (sv_ret (ev_ix ix_seq (fun _ _ => rfl) rfl sim_ix (ev_o (ev_var (pv 0))) (ev_o (ev_c pe_int fun _ => .int _)))))
    sv_nil)
    (sv_cons (sv_if (tv_cmp (op_eqD hr.units) (nomark _) rfl sim_eq (ev_o (ev_var (pv 1))) (ev_o (ev_c pe_str fun _ => .str _)))
    (sv_one (sv_ret (ev_op op_addA rfl sim_add (ev_o (ev_op op_addA rfl sim_add (ev_o (ev_c pe_str fun _ => .str _)) (ev_o (ev_callF rfl rfl (len_cons len_nil) (pe_call G__law_numbers_text (hr.mono (by omega)) (by rfl) g__law_numbers_text k__law_numbers_text b__law_numbers_text .nil passZ (av_cons (ev_ix ix_seq (fun _ _ => rfl) rfl sim_ix (ev_o (ev_var (pv 0))) (ev_o (ev_c pe_int fun _ => .int _))) av_nil)))))) (ev_o (ev_c pe_str fun _ => .str _)))))
    sv_nil)
    (sv_cons (sv_if (tv_cmp (op_eqD hr.units) (nomark _) rfl sim_eq (ev_o (ev_var (pv 1))) (ev_o (ev_c pe_str fun _ => .str _)))
    (sv_one (sv_ret (ev_op op_addA rfl sim_add (ev_o (ev_op op_addA rfl sim_add (ev_o (ev_c pe_str fun _ => .str _)) (ev_o (ev_call_ rfl sim_str (pe_callTy call_str_int (by rfl) mstr boot_str (aw_cons (ev_o (ev_ix ix_seq (fun _ _ => rfl) rfl sim_ix (ev_o (ev_var (pv 0))) (ev_o (ev_c pe_int fun _ => .int _)))) aw_nil)))))) (ev_o (ev_c pe_str fun _ => .str _)))))
    sv_nil)
    (sv_cons (sv_if (tv_cmp (op_eqD hr.units) (nomark _) rfl sim_eq (ev_o (ev_var (pv 1))) (ev_o (ev_c pe_str fun _ => .str _)))
    (sv_one (sv_ret (ev_op op_addA rfl sim_add (ev_o (ev_op op_addA rfl sim_add (ev_o (ev_c pe_str fun _ => .str _)) (ev_o (ev_callF rfl rfl (len_cons len_nil) (pe_call G__law_numbers_text (hr.mono (by omega)) (by rfl) g__law_numbers_text k__law_numbers_text b__law_numbers_text .nil passZ (av_cons (ev_ix ix_seq (fun _ _ => rfl) rfl sim_ix (ev_o (ev_var (pv 0))) (ev_o (ev_c pe_int fun _ => .int _))) av_nil)))))) (ev_o (ev_c pe_str fun _ => .str _)))))
    sv_nil)
    (sv_cons (sv_if (tv_cmp (op_eqD hr.units) (nomark _) rfl sim_eq (ev_o (ev_var (pv 1))) (ev_o (ev_c pe_str fun _ => .str _)))
    (sv_one (sv_ret (ev_op op_addA rfl sim_add (ev_o (ev_c pe_str fun _ => .str _)) (ev_o (ev_callF rfl rfl (len_cons (len_cons len_nil)) (pe_call ih__law_operand hr0 (by rfl) g__law_operand k__law_operand b__law_operand .nil passZ (av_cons (ev_ix ix_seq (fun _ _ => rfl) rfl sim_ix (ev_o (ev_var (pv 0))) (ev_o (ev_c pe_int fun _ => .int _))) (av_cons (ev_c pe_int fun _ => .int _) av_nil))))))))
    sv_nil)
    (sv_cons (sv_if (tv_cmp (op_eqD hr.units) (nomark _) rfl sim_eq (ev_o (ev_var (pv 1))) (ev_o (ev_c pe_str fun _ => .str _)))
    (sv_one (sv_ret (ev_op op_addA rfl sim_add (ev_o (ev_op op_addA rfl sim_add (ev_o (ev_callF rfl rfl (len_cons (len_cons len_nil)) (pe_call ih__law_operand hr0 (by rfl) g__law_operand k__law_operand b__law_operand .nil passZ (av_cons (ev_ix ix_seq (fun _ _ => rfl) rfl sim_ix (ev_o (ev_var (pv 0))) (ev_o (ev_c pe_int fun _ => .int _))) (av_cons (ev_c pe_int fun _ => .int _) av_nil))))) (ev_o (ev_c pe_str fun _ => .str _)))) (ev_o (ev_call_ rfl sim_str (pe_callTy call_str_int (by rfl) mstr boot_str (aw_cons (ev_o (ev_ix ix_seq (fun _ _ => rfl) rfl sim_ix (ev_o (ev_var (pv 0))) (ev_o (ev_c pe_int fun _ => .int _)))) aw_nil)))))))
    sv_nil)
    (sv_cons (sv_if (tv_cmp (op_eqD hr.units) (nomark _) rfl sim_eq (ev_o (ev_var (pv 1))) (ev_o (ev_c pe_str fun _ => .str _)))
    (sv_one (sv_ret (ev_op op_addA rfl sim_add (ev_o (ev_op op_addA rfl sim_add (ev_o (ev_op op_addA rfl sim_add (ev_o (ev_op op_addA rfl sim_add (ev_o (ev_c pe_str fun _ => .str _)) (ev_o (ev_callF rfl rfl (len_cons len_nil) (pe_call G__law_numbers_text (hr.mono (by omega)) (by rfl) g__law_numbers_text k__law_numbers_text b__law_numbers_text .nil passZ (av_cons (ev_ix ix_seq (fun _ _ => rfl) rfl sim_ix (ev_o (ev_var (pv 0))) (ev_o (ev_c pe_int fun _ => .int _))) av_nil)))))) (ev_o (ev_c pe_str fun _ => .str _)))) (ev_o (ev_callF rfl rfl (len_cons len_nil) (pe_call ih__law_text hr0 (by rfl) g__law_text k__law_text b__law_text .nil passZ (av_cons (ev_ix ix_seq (fun _ _ => rfl) rfl sim_ix (ev_o (ev_var (pv 0))) (ev_o (ev_c pe_int fun _ => .int _))) av_nil)))))) (ev_o (ev_c pe_str fun _ => .str _)))))
    sv_nil)
    (sv_cons (sv_if (tv_cmp op_inA rfl rfl sim_in (ev_o (ev_var (pv 1))) (ev_o (ev_lst (av_cons (ev_c pe_str fun _ => .str _) (av_cons (ev_c pe_str fun _ => .str _) av_nil)))))
    (sv_one (sv_ret (ev_op op_addA rfl sim_add (ev_o (ev_op op_addA rfl sim_add (ev_o (ev_op op_addA rfl sim_add (ev_o (ev_op op_addA rfl sim_add (ev_o (ev_op op_addA rfl sim_add (ev_o (ev_var (pv 1))) (ev_o (ev_c pe_str fun _ => .str _)))) (ev_o (ev_callF rfl rfl (len_cons len_nil) (pe_call ih__law_text hr0 (by rfl) g__law_text k__law_text b__law_text .nil passZ (av_cons (ev_ix ix_seq (fun _ _ => rfl) rfl sim_ix (ev_o (ev_var (pv 0))) (ev_o (ev_c pe_int fun _ => .int _))) av_nil)))))) (ev_o (ev_c pe_str fun _ => .str _)))) (ev_o (ev_call_ rfl sim_str (pe_callTy call_str_int (by rfl) mstr boot_str (aw_cons (ev_o (ev_ix ix_seq (fun _ _ => rfl) rfl sim_ix (ev_o (ev_var (pv 0))) (ev_o (ev_c pe_int fun _ => .int _)))) aw_nil)))))) (ev_o (ev_c pe_str fun _ => .str _)))))
    sv_nil)
    (sv_cons (sv_if (tv_cmp (op_eqD hr.units) (nomark _) rfl sim_eq (ev_o (ev_var (pv 1))) (ev_o (ev_c pe_str fun _ => .str _)))
    (sv_one (sv_ret (ev_op op_addA rfl sim_add (ev_o (ev_op op_addA rfl sim_add (ev_o (ev_c pe_str fun _ => .str _)) (ev_o (ev_callF rfl rfl (len_cons len_nil) (pe_call ih__law_text hr0 (by rfl) g__law_text k__law_text b__law_text .nil passZ (av_cons (ev_ix ix_seq (fun _ _ => rfl) rfl sim_ix (ev_o (ev_var (pv 0))) (ev_o (ev_c pe_int fun _ => .int _))) av_nil)))))) (ev_o (ev_c pe_str fun _ => .str _)))))
    sv_nil)
    (sv_cons (sv_if (tv_cmp op_inA rfl rfl sim_in (ev_o (ev_var (pv 1))) (ev_o (ev_lst (av_cons (ev_c pe_str fun _ => .str _) (av_cons (ev_c pe_str fun _ => .str _) av_nil)))))
    (sv_one (sv_ret (ev_op op_addA rfl sim_add (ev_o (ev_op op_addA rfl sim_add (ev_o (ev_op op_addA rfl sim_add (ev_o (ev_op op_addA rfl sim_add (ev_o (ev_op op_addA rfl sim_add (ev_o (ev_var (pv 1))) (ev_o (ev_c pe_str fun _ => .str _)))) (ev_o (ev_callF rfl rfl (len_cons len_nil) (pe_call ih__law_text hr0 (by rfl) g__law_text k__law_text b__law_text .nil passZ (av_cons (ev_ix ix_seq (fun _ _ => rfl) rfl sim_ix (ev_o (ev_var (pv 0))) (ev_o (ev_c pe_int fun _ => .int _))) av_nil)))))) (ev_o (ev_c pe_str fun _ => .str _)))) (ev_o (ev_callF rfl rfl (len_cons len_nil) (pe_call ih__law_text hr0 (by rfl) g__law_text k__law_text b__law_text .nil passZ (av_cons (ev_ix ix_seq (fun _ _ => rfl) rfl sim_ix (ev_o (ev_var (pv 0))) (ev_o (ev_c pe_int fun _ => .int _))) av_nil)))))) (ev_o (ev_c pe_str fun _ => .str _)))))
    sv_nil)
    (sv_cons (sv_set (ps_set (i := 2) nd rfl (.inl rfl) (ev_dlit (kvs := [("join", .str " | "), ("sum", .str " + "), ("difference", .str " - "), ("product", .str " * "), ("quotient", .str " / ")]) rfl (hu_of hr) (fun _ _ => rfl) (pe_disp (pps_cons pe_str pe_str (pps_cons pe_str pe_str (pps_cons pe_str pe_str (pps_cons pe_str pe_str (pps_cons pe_str pe_str pps_nil))))) rfl rfl (by simp) (by decide)) (fun _ _ _ h => h) (by decide +kernel) (by decide) (by decide) (ev_o (ev_var (pv 1))))))
    (sv_cons (sv_set (ps_set (i := 3) nd rfl (.inl rfl) (ev_callF rfl rfl (len_cons len_nil) (pe_call G__law_level (hr.mono (by omega)) (by rfl) g__law_level k__law_level b__law_level .nil passZ (av_cons (ev_var (pv 0)) av_nil)))))
    (sv_one (sv_ret (ev_op op_addA rfl sim_add (ev_o (ev_op op_addA rfl sim_add (ev_o (ev_callF rfl rfl (len_cons (len_cons len_nil)) (pe_call ih__law_operand hr0 (by rfl) g__law_operand k__law_operand b__law_operand .nil passZ (av_cons (ev_ix ix_seq (fun _ _ => rfl) rfl sim_ix (ev_o (ev_var (pv 0))) (ev_o (ev_c pe_int fun _ => .int _))) (av_cons (ev_var (pv 3)) av_nil))))) (ev_o (ev_var (pv 2))))) (ev_o (ev_callF rfl rfl (len_cons (len_cons len_nil)) (pe_call ih__law_operand hr0 (by rfl) g__law_operand k__law_operand b__law_operand .nil passZ (av_cons (ev_ix ix_seq (fun _ _ => rfl) rfl sim_ix (ev_o (ev_var (pv 0))) (ev_o (ev_c pe_int fun _ => .int _))) (av_cons (ev_op op_addA rfl sim_add (ev_o (ev_var (pv 3))) (ev_o (ev_c pe_int fun _ => .int _))) av_nil)))))))))))))))))))))
    · have nd := sc_law_operand.nd
      refine fnF (k := 2 + n) ‹_› sc_law_operand rfl fun cdv A outer s H Hs E hr => ?_
      have hr0 := hr
      skip
      skip
      exact (sv_cons (sv_set (ps_set (i := 2) nd rfl (.inl rfl) (ev_callF rfl rfl (len_cons len_nil) (pe_call ih__law_text hr0 (by rfl) g__law_text k__law_text b__law_text .nil passZ (av_cons (ev_var (pv 0)) av_nil)))))
    (sv_one (sv_ret (ev_if (tv_cmp op_lt (nomark _) rfl sim_lt (ev_o (ev_callF rfl rfl (len_cons len_nil) (pe_call G__law_level (hr.mono (by omega)) (by rfl) g__law_level k__law_level b__law_level .nil passZ (av_cons (ev_var (pv 0)) av_nil)))) (ev_o (ev_var (pv 1)))) (ev_op op_addA rfl sim_add (ev_o (ev_op op_addA rfl sim_add (ev_o (ev_c pe_str fun _ => .str _)) (ev_o (ev_var (pv 2))))) (ev_o (ev_c pe_str fun _ => .str _))) (ev_var (pv 2))))))
end
end RB

set_option Elab.async false
set_option linter.all false
set_option maxRecDepth 100000
set_option maxHeartbeats 4000000
namespace RB
open PySem PySem.Spec PyProof.Rows L2 PD
section
variable {P : Program} {w : World} {K : PySem.W.Frag} {mg : Str → Option Value} {base : Heap}
theorem sc_law_same : FnScope ["_law_result", "_law_expected", "_law_a", "_law_b"] ["_law_result", "_law_expected"] (defScope sSame) := ⟨rfl, rfl, rfl, by decide +kernel, rfl, by decide +kernel, by decide +kernel⟩
def B_law_same (slf : List Dat → RF) : FS :=
  (fSeq (fIfS (fOr (fUn (oIsi Dat.isL) (fVar 1)) (fUn (oIsi Dat.isT) (fVar 1))) (fSeq (fIfS (fOr (fOp oNe (fUn (oIsi Dat.isL) (fVar 0)) (fUn (oIsi Dat.isL) (fVar 1))) (fOp oNe (fUn (oIsi Dat.isT) (fVar 0)) (fUn (oIsi Dat.isT) (fVar 1)))) (fRet (fC (.bl false))) fNext)
  (fRet (fAnd (fOp oEq (fApp oLen (fCons (fVar 0) fNil)) (fApp oLen (fCons (fVar 1) fNil))) (fApp oAll (fCons (fLcZ (fCons (fVar 0) (fCons (fVar 1) fNil)) (gT [gN 2, gN 3]) fYes (fCall slf (fCons (fVar 2) (fCons (fVar 3) fNil))) [2, 3]) fNil))))) fNext)
  (fSeq (fIfS (fOr (fOp oIsN (fVar 0) (fC .non)) (fOp oIsN (fVar 1) (fC .non))) (fRet (fAnd (fOp oIsN (fVar 0) (fC .non)) (fOp oIsN (fVar 1) (fC .non)))) fNext)
  (fSeq (fIfS (fOr (fOp oNe (fUn (oIsi Dat.isB) (fVar 0)) (fUn (oIsi Dat.isB) (fVar 1))) (fOp oNe (fUn (oIsi Dat.isI) (fVar 0)) (fUn (oIsi Dat.isI) (fVar 1)))) (fRet (fC (.bl false))) fNext)
  (fRet (fAnd (fOp oEq (fUn (oIsi Dat.isS) (fVar 0)) (fUn (oIsi Dat.isS) (fVar 1))) (fOp oEq (fVar 0) (fVar 1)))))))
def F_law_same : Nat → List Dat → RF
  | 0 => fun _ => .bad
  | n + 1 => runF 4 (B_law_same (F_law_same n))
theorem ok_law_same {ec : Str → Addr} {f : Addr} {fd : FuncData} (F : L2.Fun K "_law_same" "_law_same" sSame f fd) (g__law_same : mg "_law_same" = some (.ref f)) (k__law_same : PySem.W.keepIn K (.ref f) = true) (b__law_same : L2.Binds K fd ["_law_result", "_law_expected"] []) (misinstance : mg "isinstance" = none) (mstr : mg "str" = none) (mint : mg "int" = none) (mbool : mg "bool" = none) (mtuple : mg "tuple" = none) (mlist : mg "list" = none) (mzip : mg "zip" = none) (mall : mg "all" = none) (mlen : mg "len" = none) : ∀ n : Nat, FnOk P w K mg base CX0 (0 + n) f fd ["_law_result", "_law_expected"] (spF K ec 2 (F_law_same n))
  | 0 => fn_bad rfl
  | n + 1 => by
    have nd := sc_law_same.nd
    have ih := ok_law_same (ec := ec) F g__law_same k__law_same b__law_same misinstance mstr mint mbool mtuple mlist mzip mall mlen n
    refine fnF (k := 0 + n) F sc_law_same rfl fun cdv A outer s H Hs E hr => ?_
    have hr0 := hr
    skip
    skip
    exact (sv_cons (sv_if (PW.pt (wv_or (tv_val (ev_isi (T := "list") (f := Dat.isL) rfl (fun d => kit_list d) (pe_callB call_isi (by rfl) misinstance PyProof.Rows.boot_isinstance (pa_cons (ev_o (ev_var (pv 1))) (pa_cons (pe_bltn (v := .ty "list") (by rfl) mlist boot_list rfl) pa_nil))))) (wv_one (.inr rfl) (tv_val (ev_isi (T := "tuple") (f := Dat.isT) rfl (fun d => kit_tuple d) (pe_callB call_isi (by rfl) misinstance PyProof.Rows.boot_isinstance (pa_cons (ev_o (ev_var (pv 1))) (pa_cons (pe_bltn (v := .ty "tuple") (by rfl) mtuple boot_tuple rfl) pa_nil))))))))
    (sv_cons (sv_if (PW.pt (wv_or (tv_cmp (op_neD hr.units) (nomark _) rfl sim_ne (ev_o (ev_isi (T := "list") (f := Dat.isL) rfl (fun d => kit_list d) (pe_callB call_isi (by rfl) misinstance PyProof.Rows.boot_isinstance (pa_cons (ev_o (ev_var (pv 0))) (pa_cons (pe_bltn (v := .ty "list") (by rfl) mlist boot_list rfl) pa_nil))))) (ev_o (ev_isi (T := "list") (f := Dat.isL) rfl (fun d => kit_list d) (pe_callB call_isi (by rfl) misinstance PyProof.Rows.boot_isinstance (pa_cons (ev_o (ev_var (pv 1))) (pa_cons (pe_bltn (v := .ty "list") (by rfl) mlist boot_list rfl) pa_nil)))))) (wv_one (.inr rfl) (tv_cmp (op_neD hr.units) (nomark _) rfl sim_ne (ev_o (ev_isi (T := "tuple") (f := Dat.isT) rfl (fun d => kit_tuple d) (pe_callB call_isi (by rfl) misinstance PyProof.Rows.boot_isinstance (pa_cons (ev_o (ev_var (pv 0))) (pa_cons (pe_bltn (v := .ty "tuple") (by rfl) mtuple boot_tuple rfl) pa_nil))))) (ev_o (ev_isi (T := "tuple") (f := Dat.isT) rfl (fun d => kit_tuple d) (pe_callB call_isi (by rfl) misinstance PyProof.Rows.boot_isinstance (pa_cons (ev_o (ev_var (pv 1))) (pa_cons (pe_bltn (v := .ty "tuple") (by rfl) mtuple boot_tuple rfl) pa_nil)))))))))
    (sv_one (sv_ret (ev_c pe_bl fun _ => .bl _)))
    sv_nil)
    (sv_one (sv_ret (ev_and (ev_cmp (op_eqD hr.units) (nomark _) rfl sim_eq (ev_o (ev_call_ rfl sim_len (pe_callB call_len (by rfl) mlen PySem.boot_len (aw_cons (ev_o (ev_var (pv 0))) aw_nil)))) (ev_o (ev_call_ rfl sim_len (pe_callB call_len (by rfl) mlen PySem.boot_len (aw_cons (ev_o (ev_var (pv 1))) aw_nil))))) (pe_one (ev_call_ rfl sim_all (pe_callB (cr_all rfl) (by rfl) mall (by decide +kernel) (aw_cons (ev_o (ev_lc_ (pe_lc (own := [("_law_a", 2), ("_law_b", 3)]) (te := rdE (⟨K, H, Hs, E, ec, none, []⟩ : Me) (fCall (F_law_same n) (fCons (fVar 2) (fCons (fVar 3) fNil)))) (tt := rdT (⟨K, H, Hs, E, ec, none, []⟩ : Me) fYes) (by rfl) nd (RZ.pi_zipA (ta := rdA (⟨K, H, Hs, E, ec, none, []⟩ : Me) (fCons (fVar 0) (fCons (fVar 1) fNil))) (by rfl) mzip (av_cons (ev_var (pv 0)) (av_cons (ev_var (pv 1)) av_nil))) (blkOk_by (N := ["_law_result", "_law_expected", "_law_a", "_law_b"]) (sc := defScope sSame) (by decide +kernel)) (fun _ _ _ _ _ => pg_tup (by rfl) (pgs_cons (pg_name (i := 2) nd rfl (.inl rfl) (hf := .inr rfl)) (pgs_cons (pg_name (i := 3) nd rfl (.inl rfl) (hf := .inr rfl)) pgs_nil))) (fun _ _ _ _ _ => ptv_nil) (fun _ _ _ _ _ => (ev_callF rfl rfl (len_cons (len_cons len_nil)) (pe_call ih hr0 (by rfl) g__law_same k__law_same b__law_same .nil passZ (av_cons (ev_var (pv 2)) (av_cons (ev_var (pv 3)) av_nil)))))) (fun _ _ _ h => rd_lcZ rfl (simW_two (by decide) (by decide) rfl) h))) aw_nil))))))))
    sv_nil)
    (sv_cons (sv_if (PW.pt (wv_or (tv_cmp op_isN (nomark _) rfl sim_isN (ev_o (ev_var (pv 0))) (ev_o (ev_c pe_non fun _ => .non))) (wv_one (.inr rfl) (tv_cmp op_isN (nomark _) rfl sim_isN (ev_o (ev_var (pv 1))) (ev_o (ev_c pe_non fun _ => .non))))))
    (sv_one (sv_ret (ev_and (ev_cmp op_isN (nomark _) rfl sim_isN (ev_o (ev_var (pv 0))) (ev_o (ev_c pe_non fun _ => .non))) (pe_one (ev_cmp op_isN (nomark _) rfl sim_isN (ev_o (ev_var (pv 1))) (ev_o (ev_c pe_non fun _ => .non)))))))
    sv_nil)
    (sv_cons (sv_if (PW.pt (wv_or (tv_cmp (op_neD hr.units) (nomark _) rfl sim_ne (ev_o (ev_isi (T := "bool") (f := Dat.isB) rfl (fun d => kit_bool d) (pe_callB call_isi (by rfl) misinstance PyProof.Rows.boot_isinstance (pa_cons (ev_o (ev_var (pv 0))) (pa_cons (pe_bltn (v := .ty "bool") (by rfl) mbool boot_bool rfl) pa_nil))))) (ev_o (ev_isi (T := "bool") (f := Dat.isB) rfl (fun d => kit_bool d) (pe_callB call_isi (by rfl) misinstance PyProof.Rows.boot_isinstance (pa_cons (ev_o (ev_var (pv 1))) (pa_cons (pe_bltn (v := .ty "bool") (by rfl) mbool boot_bool rfl) pa_nil)))))) (wv_one (.inr rfl) (tv_cmp (op_neD hr.units) (nomark _) rfl sim_ne (ev_o (ev_isi (T := "int") (f := Dat.isI) rfl (fun d => kit_int d) (pe_callB call_isi (by rfl) misinstance PyProof.Rows.boot_isinstance (pa_cons (ev_o (ev_var (pv 0))) (pa_cons (pe_bltn (v := .ty "int") (by rfl) mint boot_int rfl) pa_nil))))) (ev_o (ev_isi (T := "int") (f := Dat.isI) rfl (fun d => kit_int d) (pe_callB call_isi (by rfl) misinstance PyProof.Rows.boot_isinstance (pa_cons (ev_o (ev_var (pv 1))) (pa_cons (pe_bltn (v := .ty "int") (by rfl) mint boot_int rfl) pa_nil)))))))))
    (sv_one (sv_ret (ev_c pe_bl fun _ => .bl _)))
    sv_nil)
    (sv_one (sv_ret (ev_and (ev_cmp (op_eqD hr.units) (nomark _) rfl sim_eq (ev_o (ev_isi (T := "str") (f := Dat.isS) rfl (fun d => kit_str d) (pe_callB call_isi (by rfl) misinstance PyProof.Rows.boot_isinstance (pa_cons (ev_o (ev_var (pv 0))) (pa_cons (pe_bltn (v := .ty "str") (by rfl) mstr boot_str rfl) pa_nil))))) (ev_o (ev_isi (T := "str") (f := Dat.isS) rfl (fun d => kit_str d) (pe_callB call_isi (by rfl) misinstance PyProof.Rows.boot_isinstance (pa_cons (ev_o (ev_var (pv 1))) (pa_cons (pe_bltn (v := .ty "str") (by rfl) mstr boot_str rfl) pa_nil)))))) (pe_one (ev_cmp (op_eqD hr.units) (nomark _) rfl sim_eq (ev_o (ev_var (pv 0))) (ev_o (ev_var (pv 1)))))))))))
end
end RB

set_option Elab.async false
set_option linter.all false
set_option maxRecDepth 100000
set_option maxHeartbeats 2000000
namespace PD
open PySem PySem.Spec PyProof.Rows L2 RB
/-! ### name, other = e, [] -/
def fParVO (i j : Nat) (a : FE) : FS := fun ρ S => (a ρ S).bindS fun d S1 => .nx ((ρ.set i (some (.v d))).set j (some (.own []))) S1
section
variable {X : Cx} {M : Me}
/-- a new object that is no datum -/
theorem Rel.upH {M : Me} {σ : L2.St} {H : Hp} {ρ : DEnv} {S : Fld} {Hf : Hp} (R : Rel M σ H ρ S Hf) {p : Addr} {o : HO} (hp : H p = none) (no : ∀ ps, o ≠ .tbl ps) : Rel M σ (upd H p o) ρ S Hf := R.called (upd_new hp) (Same.refl _) (R.sub.trans (upd_new hp)) (fun b z => .inl z) (fun b ps z => z)
theorem sv_parVO {st : Stmt} {i j : Nat} {fa : FE} (h : PS X st (tPar i j (tCons (rdE M fa) (tCons (tLst tNil) tNil)))) : PS X st (rdS M (fParVO i j fa)) := ps_weak h fun D σ H ⟨ρ, S, Hf, R, q⟩ => by
  refine ⟨ρ, S, Hf, R, ?_⟩
  unfold fParVO RE.bindS at q
  cases e : fa ρ S with
  | er n v => simp only [e] at q; exact q
  | bad => simp only [e] at q; exact q.elim
  | ok d S1 =>
    simp only [e] at q
    intro v H1 Hf1 T hv
    exact ⟨Nat.zero_le _, fun p hp => ⟨_, _, rfl, q _ _ Hf1 ((T.rel.set (i := i) hv).newOwn (i := j) (ds := []) (vs := []) hp (Nat.zero_le _) .nil) T.same⟩⟩
/-- name, other = [], [] where a name is a cell -/
theorem sv_parOOc {st : Stmt} {i j : Nat} (h : PS X st (tAsg (tTup (tCons (tLst tNil) (tCons (tLst tNil) tNil))) (gTup X.K 2 (gCons (gName i) (gCons (gName j) gNil))))) : PS X st (rdS M (fParOO i j)) := ps_weak h fun D σ H ⟨ρ, S, Hf, R, q⟩ => by
  refine ⟨Nat.zero_le _, fun p hp => ⟨Nat.zero_le _, fun p2 hp2 => ⟨by rw [sizeLine_eq]; simp, fun r hr => ?_⟩⟩⟩
  have n1 : r ≠ p := fun z => by
    rw [z, upd_ne (fun y => by rw [← y, upd_same] at hp2; cases hp2), upd_same] at hr
    cases hr
  have n2 : r ≠ p2 := fun z => by
    rw [z, upd_same] at hr
    cases hr
  have hr0 : H r = none := by
    rw [upd_ne n2, upd_ne n1] at hr
    exact hr
  refine ⟨r, _, rfl, .inl (.inl upd_same), rfl, _, _, rfl, _, _, rfl, rfl, ?_⟩
  have R1 := R.upH (o := .tup [V.ref p, V.ref p2]) hr0 (fun _ z => nomatch z)
  have hp' : upd H r (.tup [V.ref p, V.ref p2]) p = none := by rw [upd_ne n1.symm]; exact hp
  have hp2' : upd (upd H r (.tup [V.ref p, V.ref p2])) p (.lst []) p2 = none := by
    have n3 : p2 ≠ p := fun z => by
      rw [z, upd_same] at hp2
      cases hp2
    rw [upd_ne n3] at hp2 ⊢
    rw [upd_ne n2.symm]
    exact hp2
  have R2 := (R1.newOwn (i := i) (ds := []) (vs := []) hp' (Nat.zero_le _) .nil).newOwn (i := j) (ds := []) (vs := []) hp2' (Nat.zero_le _) .nil
  have e : upd (upd (upd H p (.lst [])) p2 (.lst [])) r (.tup [V.ref p, V.ref p2]) = upd (upd (upd H r (.tup [V.ref p, V.ref p2])) p (.lst [])) p2 (.lst []) := funext fun b => by
    by_cases h1 : b = r
    · rw [h1, upd_same, upd_ne n2, upd_ne n1, upd_same]
    · rw [upd_ne h1]
      by_cases h2 : b = p2
      · rw [h2, upd_same, upd_same]
      · rw [upd_ne h2, upd_ne h2]
        by_cases h3 : b = p
        · rw [h3, upd_same, upd_same]
        · rw [upd_ne h3, upd_ne h3, upd_ne h1]
  rw [e]
  exact q _ _ Hf R2 (Same.refl _)
/-! ### f(e, a, b), two own lists -/
def fCallO2 (i j : Nat) (F : Fld → List Dat → RE) (a : FE) : FS := fun ρ S => match ρ[i]?, ρ[j]? with
  | some (some (.own ds)), some (some (.own es)) => if i = j then .bad else (a ρ S).bindS fun d S1 => match F (S2 ds es) [d] with
    | .ok _ S' => (match two2 S' with
      | some p => .nx ((ρ.set i (some (.own p.1))).set j (some (.own p.2))) S1
      | none => .bad)
    | _ => .bad
  | _, _ => .bad
/-- behind such a call -/
theorem Rel.calledO2 {M : Me} {σ : L2.St} {H H' : Hp} {ρ : DEnv} {S : Fld} {Hf Hs' : Hp} {i j : Nat} {x y : Addr} {ds es ds' es' : List Dat} (R : Rel M σ H ρ S Hf) (hij : i ≠ j) (hi : ρ[i]? = some (some (.own ds))) (hj : ρ[j]? = some (some (.own es))) (si : σ[i]? = some (some (.ref x))) (sj : σ[j]? = some (some (.ref y)))
    (s1 : ∀ b o, H b = some o → b ≠ x → b ≠ y → H' b = some o) (s2 : Same Hf Hs') (s3 : Same Hs' H') (fr : ∀ b, Hs' b ≠ none → Hf b ≠ none ∨ H b = none) (nt : ∀ b ps, Hs' b = some (.tbl ps) → Hf b = some (.tbl ps)) (hm : MeIs M.K x H' Hs' (S2 ds' es') (.two y)) : Rel M σ H' ((ρ.set i (some (.own ds'))).set j (some (.own es'))) S Hs' := by
  have x0 := R.ownF i ds x hi si
  have y0 := R.ownF j es y hj sj
  have il : i < ρ.length := by
    rcases Nat.lt_or_ge i ρ.length with z | z
    · exact z
    · rw [List.getElem?_eq_none z] at hi
      cases hi
  have jl : j < ρ.length := by
    rcases Nat.lt_or_ge j ρ.length with z | z
    · exact z
    · rw [List.getElem?_eq_none z] at hj
      cases hj
  have nn : ∀ {p : Addr} {o : HO}, H p = some o → Hf p = none → Hs' p = none := fun {p o} e n => by
    cases z : Hs' p with
    | none => rfl
    | some u =>
      rcases fr p (by rw [z]; simp) with q | q
      · exact (q n).elim
      · rw [e] at q
        cases q
  obtain ⟨v1, g1, p1, vs1, rfl, hx, hxf, _⟩ := R.slot i _ hi
  rw [si] at g1
  cases g1
  obtain ⟨v2, g2, p2, vs2, rfl, hy, hyf, _⟩ := R.slot j _ hj
  rw [sj] at g2
  cases g2
  obtain ⟨ws, ds1, us, es1, eS, w1, w2, w3, nxy, u1, u2, u3⟩ := hm
  cases eS
  have nv : ∀ (m : Nat) (s : Slot), ((ρ.set i (some (.own ds'))).set j (some (.own es')))[m]? = some (some s) → (m = j ∧ s = .own es') ∨ (m = i ∧ s = .own ds') ∨ (m ≠ i ∧ m ≠ j ∧ ρ[m]? = some (some s)) := fun m s e => by
    rw [List.getElem?_set, List.getElem?_set] at e
    by_cases h1 : j = m
    · subst h1
      rw [if_pos rfl, if_pos (by rw [List.length_set]; exact jl)] at e
      cases e
      exact .inl ⟨rfl, rfl⟩
    · rw [if_neg h1] at e
      by_cases h2 : i = m
      · subst h2
        rw [if_pos rfl, if_pos il] at e
        cases e
        exact .inr (.inl ⟨rfl, rfl⟩)
      · rw [if_neg h2] at e
        exact .inr (.inr ⟨fun z => h2 z.symm, fun z => h1 z.symm, e⟩)
  have was : ∀ (m : Nat) (xs : List Dat), ((ρ.set i (some (.own ds'))).set j (some (.own es')))[m]? = some (some (.own xs)) → ∃ ys, ρ[m]? = some (some (.own ys)) := fun m xs e => by
    rcases nv m _ e with ⟨rfl, _⟩ | ⟨rfl, _⟩ | ⟨_, _, e⟩
    · exact ⟨_, hj⟩
    · exact ⟨_, hi⟩
    · exact ⟨_, e⟩
  have nme : ∀ {b : Addr} {o : HO}, M.H0 b = some o → b ≠ x ∧ b ≠ y := fun {b o} e => ⟨ne_of_none e x0, ne_of_none e y0⟩
  refine ⟨by rw [List.length_set, List.length_set]; exact R.len, R.base.trans s2, s3, fun b o e m => s1 _ _ (R.full b o e m) (nme e).1 (nme e).2, fun b e => ?_, fun m xs p e1 e2 => ?_, fun m s e => ?_, fun m n xs ys p h e1 e2 e3 => ?_, fun z k e => ?_, tabs_keep R.tabs fun b o e n => s1 b o e (fun z => by rw [z, hx] at e; cases e; exact nli_lst n) (fun z => by rw [z, hy] at e; cases e; exact nli_lst n), fun z hz => (R.tabs z hz).elim fun _ h => nn h.1 (R.tabf z hz), fun b ps e => R.notb b ps (nt b ps e), fun b m => (R.subAt m).elim fun _ h => ⟨nn h.1 (R.subs b m).1, (R.subs b m).2⟩⟩
  · rcases fr b e with q | q
    · exact R.fresh b q
    · exact .inr (R.H0none q)
  · obtain ⟨ys, e1⟩ := was m xs e1
    exact R.ownF m ys p e1 e2
  · rcases nv m s e with ⟨rfl, rfl⟩ | ⟨rfl, rfl⟩ | ⟨n1, n2, e⟩
    · exact ⟨_, sj, y, us, rfl, u1, nn hy hyf, u2, u3⟩
    · exact ⟨_, si, x, ws, rfl, w1, nn hx hxf, w2, w3⟩
    · obtain ⟨v, h1, h2⟩ := R.slot m s e
      refine ⟨v, h1, ?_⟩
      cases s with
      | v d => exact DV.same s2 h2
      | me => exact h2
      | me2 => exact h2
      | own xs =>
        obtain ⟨q, vs, rfl, a, b, c, d⟩ := h2
        have q1 : q ≠ x := fun z => R.inj m i xs ds q n1 e hi h1 (by rw [z]; exact si)
        have q2 : q ≠ y := fun z => R.inj m j xs es q n2 e hj h1 (by rw [z]; exact sj)
        exact ⟨q, vs, rfl, s1 _ _ a q1 q2, nn a b, c, d.same s2⟩
  · obtain ⟨a, e1⟩ := was m xs e1
    obtain ⟨b, e2⟩ := was n ys e2
    exact R.inj m n a b p h e1 e2 e3
  · obtain ⟨h1, h0, h2⟩ := R.me z k e
    obtain ⟨_, hz⟩ := h2.there
    refine ⟨nn hz h1, h0, h2.mono (fun b o m q => s1 _ _ q ?_ ?_) s2⟩
    · exact fun z => (R.own0 e m).2 (by rw [z]; exact x0)
    · exact fun z => (R.own0 e m).2 (by rw [z]; exact y0)
theorem sv_callO2 {st : Stmt} {i j : Nat} {kd : MK → Prop} {F : Fld → List Dat → RE} {fa : FE} {ec : Str → Addr} {K' : PySem.W.Frag} {E : XK} (hK : M.K = K') (hkd : ∀ y, kd (.two y)) (h : PS X st (tDrop (tCall (spM2 K' ec kd F) [] E (tCons (rdE M fa) (tCons (tVar i) (tCons (tVar j) tNil)))))) : PS X st (rdS M (fCallO2 i j F fa)) := ps_weak h fun D σ H ⟨ρ, S, Hf, R, q⟩ => by
  unfold fCallO2 at q
  split at q
  case h_2 => exact q.elim
  case h_1 ds es hi hj =>
  by_cases hij : i = j
  · rw [if_pos hij] at q
    exact q.elim
  rw [if_neg hij] at q
  refine ⟨ρ, S, Hf, R, ?_⟩
  unfold RE.bindS at q
  cases e1 : fa ρ S with
  | er n v => simp only [e1] at q; exact q
  | bad => simp only [e1] at q; exact q.elim
  | ok d S1 =>
    simp only [e1] at q
    intro w H1 Hf1 T1 hw
    have R1 := T1.rel
    obtain ⟨v1, g1, x, vs1, rfl, hx, hxf, lx, vx⟩ := R1.slot i _ hi
    obtain ⟨v2, g2, y, vs2, rfl, hy, hyf, ly, vy⟩ := R1.slot j _ hj
    have nxy : y ≠ x := fun z => R1.inj i j ds es x hij hi hj g1 (by rw [← z]; exact g2)
    refine ⟨_, g1, _, g2, x, y, .two y, S2 ds es, w, d, Hf1, rfl, hkd y, rfl, R1.sub, hxf, hyf, ⟨vs1, ds, vs2, es, rfl, hx, lx, by rw [← hK]; exact vx, nxy, hy, ly, by rw [← hK]; exact vy⟩, by rw [← hK]; exact hw, ?_⟩
    cases eF : F (S2 ds es) [d] with
    | er m v => simp only [eF] at q; exact q.elim
    | bad => simp only [eF] at q; exact q.elim
    | ok r S' =>
      simp only [eF] at q
      intro v H' Hs' s1 s2 s3 fr nt hm hd
      rw [← hK] at hm
      obtain ⟨ws, ds', us, es', eS, rest⟩ := id hm
      subst eS
      simp only [two2] at q
      exact q _ _ Hs' (R1.calledO2 hij hi hj g1 g2 s1 s2 s3 fr nt hm) (T1.same.trans s2)
/-! ### x.index(e), data -/
def fIxD (b a : FE) : FE := fun ρ S => (b ρ S).bind fun x S1 => match x with
  | .lst es => (a ρ S1).bind fun d S2 => ofO (oIndexD es d) S2
  | _ => .bad
theorem ev_ixD {e : Expr} {fb fa : FE} (hK : M.K = X.K) (h : PE X e (tBM X.K "list" (rIndexD X.K) (rdE M fb) (tCons (rdE M fa) tNil))) : PE X e (rdE M (fIxD fb fa)) := pe_weak h fun σ H Q ⟨ρ, S, Hf, R, q⟩ => by
  refine ⟨ρ, S, Hf, R, ?_⟩
  unfold fIxD RE.bind at q
  cases e0 : fb ρ S with
  | er n v => simp only [e0] at q; exact q
  | bad => simp only [e0] at q
  | ok xd S1 =>
    simp only [e0] at q
    intro x H1 Hf1 T1 hx
    cases xd with
    | lst es =>
      cases hx with
      | lst e2 l2 a2 =>
      rename_i y ws
      simp only at q
      refine ⟨.inl ⟨rfl, ws, .inl (.inl (T1.rel.sub _ _ e2))⟩, ρ, S1, Hf1, T1.rel, ?_⟩
      cases e1 : fa ρ S1 with
      | er n v => simp only [e1] at q; exact q
      | bad => simp only [e1] at q
      | ok d S2 =>
        simp only [e1] at q
        intro w H2 Hf2 T2 hw
        have R2 := T2.rel
        unfold ofO oIndexD at q
        by_cases hc : SeqAt.shaped d.pd = true ∧ SeqAt.shaped (Dat.lst es).pd = true
        · simp only [if_pos hc] at q
          cases ei : (pds es).findIdx? fun z => PyData.eqv z d.pd with
          | none => simp only [ei, Option.map_none] at q
          | some m =>
            simp only [ei, Option.map_some] at q
            obtain ⟨lt, g1, g2⟩ := List.findIdx?_eq_some_iff_getElem.mp ei
            have gx : GV X.K Hf2 H2 (.ref y) (.lst es) := .inl (by rw [← hK]; exact (DV.lst e2 l2 a2).same T2.same)
            have gw : GV X.K Hf2 H2 w d := .inl (by rw [← hK]; exact hw)
            refine ⟨y, w, d.pd, pds es, m, (pds es)[m], rfl, rfl, gx.dp R2.sub hc.2, gw.dp R2.sub hc.1, hc.2, hc.1, List.getElem?_eq_getElem lt, g1, fun n z' hn hz => ?_, q _ H2 Hf2 (T1.trans T2) (.int _)⟩
            have hl : n < (pds es).length := by omega
            rw [List.getElem?_eq_getElem hl] at hz
            cases hz
            have := g2 n hn
            simpa using this
        · simp only [if_neg hc] at q
    | _ => exact q.elim
end
end PD

set_option Elab.async false
set_option linter.all false
set_option maxRecDepth 100000
set_option maxHeartbeats 2000000
namespace PD
open PySem PySem.Spec PyProof.Rows L2 RB
/-! ### a pair whose first list is new -/
/-- the first item is a list that was not in H -/
def NewT (K : PySem.W.Frag) (H Hs : Hp) (v : V) : Prop := ∃ q xs p es, v = .ref q ∧ SqT K Hs q xs ∧ xs[0]? = some (.ref p) ∧ Hs p = some (.lst es) ∧ H p = none ∧ es.length < 100000
def spN (K : PySem.W.Frag) (ec : Str → Addr) (n : Nat) (F : List Dat → RF) : Sp := fun vs H Q _ => ∃ (ds : List Dat) (Hs : Hp), ds.length = n ∧ Same Hs H ∧ DVs K Hs vs ds ∧ match F ds with
  | .ok d => ∀ v H' Hs', Same H H' → Same Hs Hs' → Same Hs' H' → (∀ b, Hs' b ≠ none → Hs b ≠ none ∨ H b = none) → (∀ b ps, Hs' b = some (.tbl ps) → Hs b = some (.tbl ps)) → DV K Hs' v d → NewT K H Hs' v → Q v H'
  | _ => False
/-- F without errors -/
def noE (F : List Dat → RF) : List Dat → RF := fun ds => match F ds with
  | .ok d => .ok d
  | _ => .bad
section
variable {P : Program} {w : World} {K : PySem.W.Frag} {mg : Str → Option Value} {base : Heap}
theorem ofSpN {CX : CXT} {k n : Nat} {f : Addr} {fd : FuncData} {ps : List Str} {ec : Str → Addr} {F : List Dat → RF} (G : FnOk P w K mg base CX k f fd ps (spN K ec n F)) : FnOk P w K mg base CX k f fd ps (spF K ec n (noE F)) := G.imp fun vs H Q E ⟨ds, Hs, h1, h2, h3, q⟩ => by
  refine ⟨ds, Hs, h1, h2, h3, ?_⟩
  unfold noE at q
  cases e : F ds with
  | ok d =>
    simp only [e] at q ⊢
    exact fun v H' Hs' s1 s2 s3 fr nt hd _ => q v H' Hs' s1 s2 s3 fr nt hd
  | er m v => simp only [e] at q
  | bad => simp only [e] at q
end
def runN (N : Nat) (f : FS) (ds : List Dat) : RF := match f (startD N ds) [] with
  | .rt d _ => .ok d
  | _ => .bad
/-! data without lists -/
mutual
inductive NoL : Dat → Prop
  | non : NoL .non
  | bl (b : Bool) : NoL (.bl b)
  | int (i : Int) : NoL (.int i)
  | str (x : Str) : NoL (.str x)
  | tup {ds : List Dat} : NoLs ds → NoL (.tup ds)
inductive NoLs : List Dat → Prop
  | nil : NoLs []
  | cons {d : Dat} {ds : List Dat} : NoL d → NoLs ds → NoLs (d :: ds)
end
mutual
def noL : Dat → Bool
  | .non => true
  | .bl _ => true
  | .int _ => true
  | .str _ => true
  | .tup ds => noLs ds
  | _ => false
def noLs : List Dat → Bool
  | [] => true
  | d :: ds => noL d && noLs ds
end
mutual
theorem NoL.of : ∀ {d : Dat}, noL d = true → NoL d
  | .non, _ => .non
  | .bl b, _ => .bl b
  | .int i, _ => .int i
  | .str x, _ => .str x
  | .tup ds, h => .tup (NoLs.of (by unfold noL at h; exact h))
  | .lst ds, h => by unfold noL at h; cases h
  | .dct ks ds, h => by unfold noL at h; cases h
  | .ins c ks ds, h => by unfold noL at h; cases h
theorem NoLs.of : ∀ {ds : List Dat}, noLs ds = true → NoLs ds
  | [], _ => .nil
  | d :: ds, h => by
    unfold noLs at h
    obtain ⟨a, b⟩ := Bool.and_eq_true_iff.mp h
    exact .cons (NoL.of a) (NoLs.of b)
end
/-- all but the lists -/
def offL (H : Hp) : Hp := fun b => match H b with
  | some (.lst _) => none
  | o => o
theorem offL_some {H : Hp} {b : Addr} {o : HO} (h : H b = some o) (n : ∀ xs, o ≠ .lst xs) : offL H b = some o := by
  unfold offL
  rw [h]
  cases o <;> first | rfl | exact (n _ rfl).elim
theorem offL_same (H : Hp) : Same (offL H) H := fun b o e => by
  unfold offL at e
  cases h : H b with
  | none => rw [h] at e; cases e
  | some u =>
    rw [h] at e
    cases u <;> first | exact e | cases e
theorem offL_no {H : Hp} {b : Addr} {xs : List V} : offL H b ≠ some (.lst xs) := fun e => by
  have h := offL_same H b _ e
  unfold offL at e
  rw [h] at e
  cases e
mutual
theorem DV.offL {K : PySem.W.Frag} {H : Hp} : ∀ {v : V} {d : Dat}, DV K H v d → NoL d → DV K (PD.offL H) v d
  | _, _, .non, _ => .non
  | _, _, .bl b, _ => .bl b
  | _, _, .int i, _ => .int i
  | _, _, .str x, _ => .str x
  | _, _, .tup e l a, .tup h => .tup (e.imp (fun r => r.imp (fun z => offL_some z fun _ q => nomatch q) fun ⟨o, z⟩ => ⟨o, offL_some z fun _ q => nomatch q⟩) id) l (DVs.offL a h)
theorem DVs.offL {K : PySem.W.Frag} {H : Hp} : ∀ {vs : List V} {ds : List Dat}, DVs K H vs ds → NoLs ds → DVs K (PD.offL H) vs ds
  | _, _, .nil, _ => .nil
  | _, _, .cons a t, .cons h g => .cons (DV.offL a h) (DVs.offL t g)
end
/-- both heaps -/
def joinH (A B : Hp) : Hp := fun b => match A b with
  | some o => some o
  | none => B b
theorem joinH_l {A B : Hp} : Same A (joinH A B) := fun b o e => by
  unfold joinH
  rw [e]
theorem joinH_r {A B H : Hp} (a : Same A H) (b : Same B H) : Same B (joinH A B) := fun c o e => by
  unfold joinH
  cases h : A c with
  | none => exact e
  | some u =>
    have := (a _ _ h).symm.trans (b _ _ e)
    exact this
theorem joinH_s {A B H : Hp} (a : Same A H) (b : Same B H) : Same (joinH A B) H := fun c o e => by
  unfold joinH at e
  cases h : A c with
  | none => rw [h] at e; exact b _ _ e
  | some u => rw [h] at e; exact a _ _ (by rw [h]; exact e)
theorem joinH_none {A B : Hp} {b : Addr} (h : joinH A B b ≠ none) : A b ≠ none ∨ B b ≠ none := by
  unfold joinH at h
  cases e : A b with
  | none => rw [e] at h; exact .inr h
  | some u => exact .inl (by simp)
/-! ### the readings of a def that gives such a pair -/
def rdEN (M : Me) (f : FE) : TE := fun σ H Q => ∃ ρ S Hf, Rel M σ H ρ S Hf ∧ match f ρ S with
  | .ok d S' => ∀ v H' Hf', Stp M σ ρ Hf H S' Hf' H' → DV M.K Hf' v d → NewT M.K H Hf' v → Q v H'
  | .er n v => M.Er n v
  | .bad => False
def PostN (M : Me) (Hf : Hp) (D : Ends) : RS → Prop
  | .nx ρ S => ∀ σ H' Hf', Rel M σ H' ρ S Hf' → Same Hf Hf' → D.nx σ H'
  | .rt d S => ∀ v σ H' ρ Hf', Rel M σ H' ρ S Hf' → DV M.K Hf' v d → NewT M.K M.H0 Hf' v → D.rt v H'
  | .er n v => M.Er n v
  | _ => False
theorem PostN.mono {M : Me} {Hf Hf1 : Hp} {D : Ends} {r : RS} (h : PostN M Hf D r) (s : Same Hf Hf1) : PostN M Hf1 D r := by
  cases r with
  | nx ρ S => exact fun σ H' Hf' R s' => h σ H' Hf' R (s.trans s')
  | rt d S => exact h
  | er n v => exact h
  | bad => exact h
  | bk ρ S => exact h
  | ct ρ S => exact h
def rdN (M : Me) (f : FS) : TS := fun D σ H => ∃ ρ S Hf, Rel M σ H ρ S Hf ∧ PostN M Hf D (f ρ S)
section
variable {X : Cx} {M : Me}
theorem sn_ret {e : Expr} {pos : Pos} {f : FE} (h : PE X e (rdEN M f)) : PSs X [.Return (some e) pos] (rdN M (fRet f)) := pss_weak (pss_one (ps_ret h)) fun D σ H ⟨ρ, S, Hf, R, q⟩ => by
  refine ⟨ρ, S, Hf, R, ?_⟩
  unfold fRet at q
  cases e : f ρ S with
  | ok d S' =>
    rw [e] at q
    intro v H' Hf' T hv hn
    refine q v σ H' ρ Hf' T.rel hv ?_
    obtain ⟨a, xs, p, es, h1, h2, h3, h4, h5, h6⟩ := hn
    exact ⟨a, xs, p, es, h1, h2, h3, h4, R.H0none h5, h6⟩
  | er n v => rw [e] at q; exact q
  | bad => rw [e] at q; exact q
theorem sn_nil : PSs X [] (rdN M fNext) := pss_weak pss_nil fun D σ H ⟨ρ, S, Hf, R, q⟩ => q σ H Hf R (Same.refl _)
theorem sn_if {c : Expr} {a b rest : List Stmt} {pos : Pos} {fc : FE} {ft fu fr : FS} (hc : PT X c (rdT M fc)) (ha : PSs X a (rdN M ft)) (hb : PSs X b (rdN M fu)) (hr : PSs X rest (rdN M fr)) : PSs X (.If c a b pos :: rest) (rdN M (fSeq (fIfS fc ft fu) fr)) := pss_weak (pss_cons (ps_if hc ha hb) hr) fun D σ H ⟨ρ, S, Hf, R, q⟩ => by
  refine ⟨ρ, S, Hf, R, ?_⟩
  have sq : ∀ {r : RS} {Hf1 : Hp}, PostN M Hf1 D (match r with
      | .nx ρ S => fr ρ S
      | r => r) → PostN M Hf1 { D with nx := fun σ H => rdN M fr D σ H } r := fun {r Hf1} q => by
    cases r with
    | nx ρ' S' => exact fun σ' H' Hf' R' s => ⟨ρ', S', Hf', R', q.mono s⟩
    | rt d S => exact q
    | er n v => exact q
    | bk ρ S => exact q
    | ct ρ S => exact q
    | bad => exact q
  unfold fSeq fIfS RE.bindS at q
  cases e : fc ρ S with
  | ok d S' =>
    simp only [e] at q
    cases d with
    | bl b =>
      intro H' Hf' T
      cases b with
      | true =>
        rw [if_pos rfl]
        simp only at q
        refine ⟨ρ, S', Hf', T.rel, sq (PostN.mono ?_ T.same)⟩
        cases ef : ft ρ S' <;> rw [ef] at q <;> exact q
      | false =>
        rw [if_neg Bool.false_ne_true]
        simp only at q
        refine ⟨ρ, S', Hf', T.rel, sq (PostN.mono ?_ T.same)⟩
        cases ef : fu ρ S' <;> rw [ef] at q <;> exact q
    | _ => exact q.elim
  | er n v => simp only [e] at q; exact q
  | bad => simp only [e] at q; exact q.elim
theorem en_if {c a b : Expr} {pos : Pos} {fc fa fb : FE} (hT : M.T = []) (hc : PT X c (rdT M fc)) (ha : PE X a (rdEN M fa)) (hb : PE X b (rdEN M fb)) : PE X (.IfExp c a b pos) (rdEN M (fIf fc fa fb)) := pe_weak (pe_ifExp hc ha hb) fun σ H Q ⟨ρ, S, Hf, R, q⟩ => by
  refine ⟨ρ, S, Hf, R, ?_⟩
  unfold fIf RE.bind at q
  have back : ∀ {H1 Hf1 : Hp} {S1 : Fld}, Stp M σ ρ Hf H S1 Hf1 H1 → ∀ {Hx : Hp} {v : V}, NewT M.K H1 Hx v → NewT M.K H Hx v := fun {H1 Hf1 S1} T {Hx v} ⟨a, xs, p, es, h1, h2, h3, h4, h5, h6⟩ => ⟨a, xs, p, es, h1, h2, h3, h4, (by
    cases e : H p with
    | none => rfl
    | some o =>
      by_cases m : M.mine p
      · obtain ⟨u, hu⟩ := T.rel.mineAt m
        rw [hu] at h5
        cases h5
      · by_cases t : M.T ≠ [] ∧ ∃ ps, o = .tbl ps
        · exact (t.1 hT).elim
        · rw [T.fr p o e m fun h ps z => t ⟨h, ps, z⟩] at h5
          cases h5), h6⟩
  cases e : fc ρ S with
  | ok d S' =>
    simp only [e] at q
    cases d with
    | bl b =>
      intro H' Hf' T
      cases b with
      | true =>
        rw [if_pos rfl]
        refine ⟨ρ, S', Hf', T.rel, ?_⟩
        simp only at q
        cases ef : fa ρ S' with
        | ok d S2 => rw [ef] at q; exact fun v H2 Hf2 T2 hv hn => q v H2 Hf2 (T.trans T2) hv (back T hn)
        | er n v => rw [ef] at q; exact q
        | bad => rw [ef] at q; exact q
      | false =>
        rw [if_neg Bool.false_ne_true]
        refine ⟨ρ, S', Hf', T.rel, ?_⟩
        simp only at q
        cases ef : fb ρ S' with
        | ok d S2 => rw [ef] at q; exact fun v H2 Hf2 T2 hv hn => q v H2 Hf2 (T.trans T2) hv (back T hn)
        | er n v => rw [ef] at q; exact q
        | bad => rw [ef] at q; exact q
    | _ => exact q.elim
  | er n v => simp only [e] at q; exact q
  | bad => simp only [e] at q
/-- f(..) of a def with a star, its arguments without lists: what it gives is new -/
def fCallN (F : List Dat → RF) (a : FA) : FE := fun ρ S => match a ρ S with
  | .ok ds S1 => if noLs ds = true then (match F ds with
    | .ok (.tup (.lst xs :: r)) => if xs.length < 100000 then .ok (.tup (.lst xs :: r)) S1 else .bad
    | _ => .bad) else .bad
  | .er n v => .er n v
  | .bad => .bad
theorem new_of {vs : List V} {ds : List Dat} {H1 Hf1 : Hp} {F : List Dat → RF} {K' : PySem.W.Frag} {ec : Str → Addr} {E : XK} {Q : VK} {xs : List Dat} {r : List Dat} (s : Same Hf1 H1) (hv : DVs K' Hf1 vs ds) (hl : noLs ds = true) (eF : F ds = .ok (.tup (.lst xs :: r))) (lx : xs.length < 100000)
    (q : ∀ v H' Hs', Same H1 H' → Same Hf1 Hs' → Same Hs' H' → (∀ b, Hs' b ≠ none → Hf1 b ≠ none ∨ H1 b = none) → (∀ b ps, Hs' b = some (.tbl ps) → Hf1 b = some (.tbl ps)) → DV K' Hs' v (.tup (.lst xs :: r)) → NewT K' H1 Hs' v → Q v H') : spFv K' ec F vs H1 Q E := by
  refine ⟨ds.length, ds, offL Hf1, rfl, (offL_same _).trans s, hv.offL (NoLs.of hl), ?_⟩
  rw [eF]
  intro v H' Hs s1 s2 s3 fr nt hd
  have sf : Same Hf1 H' := s.trans s1
  refine q v H' (joinH Hs Hf1) s1 (joinH_r s3 sf) (joinH_s s3 sf) (fun b z => ?_) (fun b ps z => ?_) (hd.same joinH_l) ?_
  · rcases joinH_none z with z | z
    · rcases fr b z with y | y
      · refine .inl fun w => y ?_
        unfold offL
        rw [w]
      · exact .inr y
    · exact .inl z
  · unfold joinH at z
    cases e : Hs b with
    | none => rw [e] at z; exact z
    | some u =>
      rw [e] at z
      cases z
      exact offL_same _ _ _ (nt b ps e)
  · cases hd with
    | tup a l b =>
      cases b with
      | cons b1 b2 =>
        cases b1 with
        | lst c1 c2 c3 =>
          rename_i p es
          refine ⟨_, _, p, es, rfl, Kp.sqT (.of joinH_l) a, rfl, joinH_l _ _ c1, ?_, by rw [c3.length]; exact lx⟩
          rcases fr p (by rw [c1]; simp) with y | y
          · cases e : offL Hf1 p with
            | none => exact (y e).elim
            | some u =>
              have := s2 _ _ e
              rw [c1] at this
              cases this
              exact (offL_no e).elim
          · exact y
theorem en_callR {e : Expr} {F : List Dat → RF} {fa : FA} {ec : Str → Addr} {K' : PySem.W.Frag} (hK : M.K = K') (hT : M.T = []) (h : PE X e (fun σ H Q => rdA M fa σ H fun vs H1 => spFv K' ec F vs H1 Q M.E)) : PE X e (rdEN M (fCallN F fa)) := pe_weak h fun σ H Q ⟨ρ, S, Hf, R, q⟩ => by
  refine ⟨ρ, S, Hf, R, ?_⟩
  unfold fCallN at q
  cases e1 : fa ρ S with
  | er n v => simp only [e1] at q; exact q
  | bad => simp only [e1] at q
  | ok ds S1 =>
    simp only [e1] at q
    intro vs H1 Hf1 T1 hv
    by_cases hl : noLs ds = true
    · rw [if_pos hl] at q
      cases eF : F ds with
      | er m v => simp only [eF] at q
      | bad => simp only [eF] at q
      | ok d =>
        cases d with
        | tup es =>
          cases es with
          | nil => simp only [eF] at q
          | cons d0 r =>
            cases d0 with
            | lst xs =>
              simp only [eF] at q
              by_cases lx : xs.length < 100000
              case neg =>
                rw [if_neg lx] at q
                exact q.elim
              rw [if_pos lx] at q
              refine new_of T1.rel.sub (by rw [← hK]; exact hv) hl eF lx fun v H' Hs' s1 s2 s3 fr nt hd hn => ?_
              rw [← hK] at hd hn
              refine q v H' Hs' (T1.trans ⟨T1.rel.called s1 s2 s3 fr nt, s2, fun b o e _ _ => s1 _ _ e, fshN fr⟩) hd ?_
              obtain ⟨a, ys, p, es, h1, h2, h3, h4, h5, h6⟩ := hn
              refine ⟨a, ys, p, es, h1, h2, h3, h4, ?_, h6⟩
              cases e : H p with
              | none => rfl
              | some o =>
                by_cases m : M.mine p
                · obtain ⟨u, hu⟩ := T1.rel.mineAt m
                  rw [hu] at h5
                  cases h5
                · rw [T1.fr p o e m fun h => (h hT).elim] at h5
                  cases h5
            | _ => simp only [eF] at q
        | _ => simp only [eF] at q
    · rw [if_neg hl] at q
      exact q.elim
theorem en_callR0 {e : Expr} {F : List Dat → RF} {ec : Str → Addr} {K' : PySem.W.Frag} (hK : M.K = K') (h : PE X e (fun _ H Q => spFv K' ec F [] H Q M.E)) : PE X e (rdEN M (fCallN F fNil)) := pe_weak h fun σ H Q ⟨ρ, S, Hf, R, q⟩ => by
  unfold fCallN fNil at q
  simp only at q
  rw [if_pos (by rfl)] at q
  cases eF : F [] with
  | er m v => simp only [eF] at q
  | bad => simp only [eF] at q
  | ok d =>
    cases d with
    | tup es =>
      cases es with
      | nil => simp only [eF] at q
      | cons d0 r =>
        cases d0 with
        | lst xs =>
          simp only [eF] at q
          by_cases lx : xs.length < 100000
          case neg =>
            rw [if_neg lx] at q
            exact q.elim
          rw [if_pos lx] at q
          refine new_of R.sub .nil rfl eF lx fun v H' Hs' s1 s2 s3 fr nt hd hn => ?_
          rw [← hK] at hd hn
          exact q v H' Hs' ⟨R.called s1 s2 s3 fr nt, s2, fun b o e _ _ => s1 _ _ e, fshN fr⟩ hd hn
        | _ => simp only [eF] at q
    | _ => simp only [eF] at q
end
section
variable {P : Program} {w : World} {K : PySem.W.Frag} {mg : Str → Option Value} {base : Heap}
theorem fnN {x qual : Str} {st : Stmt} {f : Addr} {fd : FuncData} {N ps : List Str} {k n : Nat} {F : FS} {ec : Str → Addr} (Fu : L2.Fun K x qual st f fd) (S : FnScope N ps (defScope st)) (hn : ps.length = n)
    (body : ∀ (cdv : Value) (A : Around) (outer : List PySem.Env) (s : Shared) (H Hs : Hp) (E : XK), Room k (A.deeper (envOfC qual (defScope st) s.heap.objs.size f cdv)) → PSs (cxOf CX0 P w K mg base N qual (defScope st) f cdv A outer s H E).nox (defBody st) (rdN ⟨K, H, Hs, E, ec, none, []⟩ F)) :
    FnOk P w K mg base CX0 (k + 1) f fd ps (spN K ec n (runN N.length F)) := by
  refine Fu.ok S (fun vs H Q E h => ?_) (fun cdv A outer s H vs Q E hr h => ?_)
  · obtain ⟨ds, Hs, h1, _, h2, _⟩ := h
    rw [h2.length, h1, hn]
  · obtain ⟨ds, Hs, h1, h2, h3, q⟩ := h
    refine ⟨_, body cdv A outer s H Hs (fun _ _ _ => True) hr, startD N.length ds, [], Hs, rel_start h2 h3, ?_⟩
    have nm : ∀ b, ¬ Me.mine ⟨K, H, Hs, (fun _ _ _ => True), ec, none, []⟩ b := fun b m => m.elim (fun ⟨k, z⟩ => nomatch z) fun m => m.elim (fun ⟨q, z⟩ => nomatch z) fun ⟨_, _, z, _⟩ => nomatch z
    unfold runN at q
    cases e : F (startD N.length ds) [] with
    | rt d S => rw [e] at q; exact fun v σ H' ρ Hf' R hd hn => q v H' Hf' (fun b o z => R.full b o z (nm b)) R.base R.sub R.fresh R.notb hd hn
    | nx ρ S => rw [e] at q; exact q.elim
    | er m v => rw [e] at q; exact q.elim
    | bk ρ S => rw [e] at q; exact q.elim
    | ct ρ S => rw [e] at q; exact q.elim
    | bad => rw [e] at q; exact q.elim
end
/-! ### name = f(..); if test: return False; name[0].append(e) -/
def fNewT (i : Nat) (F : List Dat → RF) (fa : FA) (f2 f3 : FE) (g : FS) : FS := fun ρ S => if i < ρ.length then (match fa ρ S with
  | .ok ds S1 => (match F ds with
    | .ok d => (match f2 ((onlyD ρ).set i (some (.v d))) [] with
      | .ok (.bl true) _ => .rt (.bl false) S1
      | .ok (.bl false) S2 => (match f3 ((onlyD ρ).set i (some (.v d))) S2 with
        | .ok _ _ => g (ρ.set i none) S1
        | _ => .bad)
      | _ => .bad)
    | _ => .bad)
  | .er n v => .er n v
  | .bad => .bad) else .bad
section
variable {X : Cx} {M : Me}
theorem Rel.subRun {M : Me} {σ : L2.St} {H : Hp} {ρ : DEnv} {S : Fld} {Hf : Hp} (R : Rel M σ H ρ S Hf) : Rel ⟨M.K, H, Hf, M.E, M.ec, none, []⟩ σ H (onlyD ρ) [] Hf := by
  refine ⟨?_, Same.refl _, R.sub, fun _ _ z _ => z, fun _ z => .inl z, fun j xs p z _ => ?_, fun j t z => ?_, fun j k xs ys p _ z => ?_, fun _ _ z => (nomatch z), fun z hz => (nomatch hz), fun z hz => (nomatch hz), (fun _ _ z => z), fun _ ⟨_, _, z, _⟩ => nomatch z⟩
  · rw [R.len]
    unfold onlyD
    rw [List.length_map]
  · obtain ⟨d, z1, _⟩ := onlyD_at z
    cases z1
  · obtain ⟨d, rfl, z1⟩ := onlyD_at z
    exact R.slot j _ z1
  · obtain ⟨d, z1, _⟩ := onlyD_at z
    cases z1
theorem sv_newT {st1 st3 : Stmt} {c : Expr} {ret rest : List Stmt} {pos : Pos} {i n : Nat} {F : List Dat → RF} {fa : FA} {f2 f3 : FE} {g : FS} {ec : Str → Addr} {K' : PySem.W.Frag} {E : XK} {e3 : Expr} (hK : M.K = X.K) (hK' : M.K = K') (hT : M.T = []) (hn : ∀ ρ S ds S', fa ρ S = .ok ds S' → ds.length = n)
    (h1 : PS X st1 (tAsg (tCall (spN K' ec n F) [] E (rdA M fa)) (gName i))) (hc : ∀ H0 Hs, PT X c (rdT ⟨M.K, H0, Hs, M.E, M.ec, none, []⟩ f2)) (hr : PSs X ret (tRet (tC (.bl false))))
    (he : ∀ H0 Hs, PE X e3 (rdE ⟨M.K, H0, Hs, M.E, M.ec, none, []⟩ f3)) (h3 : PE X e3 (fun σ H Q => ∃ H0 Hs, rdE ⟨M.K, H0, Hs, M.E, M.ec, none, []⟩ f3 σ H Q) → PS X st3 (tDrop (tBM X.K "list" rAppend (tOp (rIxT X.K) (tVar i) (tC (.int 0))) (tCons (fun σ H Q => ∃ H0 Hs, rdE ⟨M.K, H0, Hs, M.E, M.ec, none, []⟩ f3 σ H Q) tNil))))
    (h4 : PSs X rest (rdS M g)) : PSs X (st1 :: .If c ret [] pos :: st3 :: rest) (rdS M (fNewT i F fa f2 f3 g)) := by
  have hc' : PT X c (fun σ H Q => ∃ H0 Hs, rdT ⟨M.K, H0, Hs, M.E, M.ec, none, []⟩ f2 σ H Q) := ⟨fun pins s σ H Q I ⟨H0, Hs, q⟩ => (hc H0 Hs).run pins s σ H Q I q⟩
  have he' : PE X e3 (fun σ H Q => ∃ H0 Hs, rdE ⟨M.K, H0, Hs, M.E, M.ec, none, []⟩ f3 σ H Q) := ⟨fun pins s σ H Q I ⟨H0, Hs, q⟩ => (he H0 Hs).run pins s σ H Q I q⟩
  refine pss_weak (pss_cons h1 (pss_cons (ps_if hc' hr pss_nil) (pss_cons (h3 he') h4))) fun D σ H ⟨ρ, S, Hf, R, q⟩ => ?_
  unfold fNewT at q
  by_cases hi : i < ρ.length
  case neg =>
    rw [if_neg hi] at q
    exact q.elim
  rw [if_pos hi] at q
  refine ⟨ρ, S, Hf, R, ?_⟩
  cases e1 : fa ρ S with
  | er n v => simp only [e1] at q; exact q
  | bad => simp only [e1] at q; exact q.elim
  | ok ds S1 =>
    simp only [e1] at q
    intro vs H1 Hf1 T1 hv
    refine ⟨ds, Hf1, hn _ _ _ _ e1, T1.rel.sub, by rw [List.append_nil, ← hK']; exact hv, ?_⟩
    cases eF : F ds with
    | er m v => simp only [eF] at q; exact q.elim
    | bad => simp only [eF] at q; exact q.elim
    | ok d =>
      simp only [eF] at q
      intro v H2 Hs2 s1 s2 s3 fr nt hd hnew
      have R1 := T1.rel
      have R2 := R1.called s1 s2 s3 fr nt
      have Rx := (R2.subRun).set (i := i) (v := v) (d := d) (by show DV M.K Hs2 v d; rw [hK']; exact hd)
      have il : i < σ.length := by rw [R.len]; exact hi
      have back : ∀ {Hx : Hp}, Same H1 Hx → Rel M σ Hx ρ S1 Hf1 := fun {Hx} s => R1.called s (Same.refl _) (R1.sub.trans s) (fun b z => .inl z) (fun b ps z => z)
      refine ⟨H2, Hs2, _, [], Hs2, Rx, ?_⟩
      cases e2 : f2 ((onlyD ρ).set i (some (.v d))) [] with
      | er m v => simp only [e2] at q; exact q.elim
      | bad => simp only [e2] at q; exact q.elim
      | ok d2 S2 =>
        cases d2 with
        | bl b =>
          intro H3 Hf3 T3
          have nm : ∀ (Ha Hb : Hp) (b : Addr), ¬ Me.mine ⟨M.K, Ha, Hb, M.E, M.ec, none, []⟩ b := fun Ha Hb b m => m.elim (fun ⟨k, z⟩ => nomatch z) fun m => m.elim (fun ⟨q, z⟩ => nomatch z) fun ⟨_, _, z, _⟩ => nomatch z
          have k3 : Same H2 H3 := fun a o z => T3.fr a o z (nm _ _ a) fun h => (h rfl).elim
          cases b with
          | true =>
            rw [if_pos rfl]
            simp only [e2] at q
            exact q (.bl false) _ H3 ρ Hf1 (back (s1.trans k3)) (.bl _)
          | false =>
            rw [if_neg Bool.false_ne_true]
            simp only [e2] at q
            obtain ⟨a, xs, p, es, rfl, n2, n3, n4, n5, n6⟩ := hnew
            have p3 : H3 p = some (.lst es) := k3 _ _ (s3 _ _ n4)
            refine ⟨.ref a, by rw [List.getElem?_set, if_pos rfl, if_pos il], a, xs, 0, .ref p, rfl, rfl, ?_, atI_nat (j := 0) n3, .inl ⟨rfl, es, .inl (.inl p3)⟩, H2, Hs2, _, S2, Hf3, T3.rel, ?_⟩
            · rw [← hK, hK']
              exact Kp.sqT (.of (s3.trans k3)) n2
            · cases e3 : f3 ((onlyD ρ).set i (some (.v d))) S2 with
              | er m v => simp only [e3] at q; exact q.elim
              | bad => simp only [e3] at q; exact q.elim
              | ok d3 S3 =>
                simp only [e3] at q
                intro v3 H4 Hf4 T4 hv3
                have k4 : Same H3 H4 := fun a o z => T4.fr a o z (nm _ _ a) fun h => (h rfl).elim
                refine ⟨p, es, v3, rfl, rfl, k4 _ _ p3, Nat.lt_of_lt_of_le n6 (line5 (Nat.le_refl _)), ?_⟩
                have k5 : Same H1 (upd H4 p (.lst (es ++ [v3]))) := fun b o z => by
                  rw [upd_ne (ne_of_none z n5)]
                  exact k4 _ _ (k3 _ _ (s1 _ _ z))
                exact ⟨_, S1, Hf1, (back k5).setNone, q.mono T1.same⟩
        | _ => simp only [e2] at q; exact q.elim
end
end PD

set_option Elab.async false
set_option linter.all false
set_option maxRecDepth 100000
set_option maxHeartbeats 4000000
namespace RB
open PySem PySem.Spec PyProof.Rows L2 PD
section
variable {P : Program} {w : World} {K : PySem.W.Frag} {mg : Str → Option Value} {base : Heap}
theorem sc_law_steps : FnScope ["_law_tree_here", "_law_steps_here", "_law_trees", "_law_part", "_law_places", "_law_step"] ["_law_tree_here", "_law_steps_here", "_law_trees"] (defScope s_law_steps) := ⟨rfl, rfl, rfl, by decide +kernel, rfl, by decide +kernel, by decide +kernel⟩
def B_law_steps (slf : Fld → List Dat → RE) : FS :=
  (fSeq (fIfS (fIn2 (oInD false) 2 (fVar 0)) (fRet (fC .non)) fNext)
  (fSeq (fFor listOf (fCall F_law_parts (fCons (fVar 0) fNil)) (gN 3) (fDrop (fCallT 1 2 slf (fVar 3))))
  (fSeq (fSet 4 (fLc listOf (fCall F_law_parts (fCons (fVar 0) fNil)) (gN 3) fYes (fIx2 oIndexD 2 (fVar 3)) [3]))
  (fSeq (fIfS (fOp (oIn false) (fOp oIx (fVar 0) (fC (.int 0))) (fApp mkL (fCons (fC (.str "name")) (fCons (fC (.str "list")) (fCons (fC (.str "unity")) (fCons (fC (.str "roots")) fNil)))))) (fSet 5 (fVar 0)) (fIfS (fOp oEq (fOp oIx (fVar 0) (fC (.int 0))) (fC (.str "map"))) (fSet 5 (fApp mkT (fCons (fOp oIx (fVar 0) (fC (.int 0))) (fCons (fOp oIx (fVar 0) (fC (.int 1))) (fCons (fOp oIx (fVar 4) (fC (.int 0))) fNil))))) (fSet 5 (fOp oAdd (fOp oAdd (fApp mkT (fCons (fOp oIx (fVar 0) (fC (.int 0))) fNil)) (fApp oTuple (fCons (fVar 4) fNil))) (fApp oTuple (fCons (fSl oSl (fVar 0) (some (fOp oAdd (fC (.int 1)) (fApp oLen (fCons (fVar 4) fNil)))) none) fNil))))))
  (fSeq (fApp1 1 (fVar 5))
  (fApp2 2 (fVar 0)))))))
def F_law_steps : Nat → Fld → List Dat → RE
  | 0 => fun _ _ => .bad
  | n + 1 => runM2 6 (B_law_steps (F_law_steps n))
theorem ok_law_steps {ec : Str → Addr} {f : Addr} {fd : FuncData} (F : L2.Fun K "_law_steps" "_law_steps" s_law_steps f fd) (g__law_steps : mg "_law_steps" = some (.ref f)) (k__law_steps : PySem.W.keepIn K (.ref f) = true) (b__law_steps : L2.Binds K fd ["_law_tree_here", "_law_steps_here", "_law_trees"] []) (mtuple : mg "tuple" = none) (mlen : mg "len" = none) {f__law_parts : Addr} {d__law_parts : FuncData} (G__law_parts : FnOk P w K mg base CX0 1 f__law_parts d__law_parts ["_law_tree_here"] (spF K ec 1 F_law_parts)) (g__law_parts : mg "_law_parts" = some (.ref f__law_parts)) (k__law_parts : PySem.W.keepIn K (.ref f__law_parts) = true) (b__law_parts : L2.Binds K d__law_parts ["_law_tree_here"] []) : ∀ n : Nat, FnOk P w K mg base CX0 (1 + n) f fd ["_law_tree_here", "_law_steps_here", "_law_trees"] (spM2 K ec (fun k => ∃ y, k = .two y) (F_law_steps n))
  | 0 => fn_badM2 rfl
  | n + 1 => by
    have nd := sc_law_steps.nd
    have ih := ok_law_steps (ec := ec) F g__law_steps k__law_steps b__law_steps mtuple mlen G__law_parts g__law_parts k__law_parts b__law_parts n
    refine fnM2 (k := 1 + n) F sc_law_steps rfl fun cdv A outer s H Hs E y kk hk hr => ?_
    have hr0 := hr
    have hkd : ∀ (x : Addr) (kd : MK), (some (y, kk) : Option (Addr × MK)) = some (x, kd) → (fun k => ∃ y, k = .two y) kd := fun _ _ z => by cases z; exact hk
    have hk1 : ∀ (x : Addr) (kd : MK), (some (y, kk) : Option (Addr × MK)) = some (x, kd) → ∃ y, kd.sub = some y := fun _ _ z => by cases z; obtain ⟨y2, e⟩ := hk; exact ⟨y2, by rw [e]; rfl⟩
    exact (sv_cons (sv_if (tv_in2 (op_inD (hu65_of hr)) rfl rfl hkd sim_inD (ev_o (ev_var (pv 0))) (pv 2))
    (sv_one sv_retN)
    sv_nil)
    (sv_cons (sv_forL rfl simG_name (ps_for PassesOwn.never rfl (pi_list (ev_callF rfl rfl (len_cons len_nil) (pe_call G__law_parts (hr.mono (by omega)) (by rfl) g__law_parts k__law_parts b__law_parts .nil passZ (av_cons (ev_var (pv 0)) av_nil)))) (pg_name (i := 3) nd rfl (.inl rfl))
    (sv_one (sv_drop (ps_expr (ev_callT (E := E0) rfl rfl hkd (pe_call ih hr0 (by rfl) g__law_steps k__law_steps b__law_steps .nil passZ (pa_cons (ev_var (pv 3)) (pa_cons (pv 1) (pa_cons (pv 2) pa_nil))))))))))
    (sv_cons (sv_setLc (ps_setLc (i := 4) (own := [("_law_part", 3)]) (te := rdE (⟨K, H, Hs, E, ec, some (y, kk), []⟩ : Me) (fIx2 oIndexD 2 (fVar 3))) (tt := rdT (⟨K, H, Hs, E, ec, some (y, kk), []⟩ : Me) fYes) (by rfl) nd rfl rfl (sw_true rfl rfl rfl (by decide +kernel)) (pi_list (tl := rdE (⟨K, H, Hs, E, ec, some (y, kk), []⟩ : Me) (fCall F_law_parts (fCons (fVar 0) fNil))) (ev_callF rfl rfl (len_cons len_nil) (pe_call G__law_parts (hr.mono (by omega)) (by rfl) g__law_parts k__law_parts b__law_parts .nil passZ (av_cons (ev_var (pv 0)) av_nil)))) (blkOk_by (N := ["_law_tree_here", "_law_steps_here", "_law_trees", "_law_part", "_law_places", "_law_step"]) (sc := defScope s_law_steps) (by decide +kernel)) (fun _ _ _ _ _ => pg_name (i := 3) nd rfl (.inl rfl) (hf := .inr rfl)) (fun _ _ _ _ _ => ptv_nil) (fun _ _ _ _ _ => (ev_ix2 rfl hkd (pe_bm PySem.F.plainAttrs_list PySem.F.slot_list_index PySem.F.type_list_index (mt_indexD (hu65_of hr)) (pv 2) (pa_cons (ev_var (pv 3)) pa_nil))))) (fun _ _ _ h => rd_lcL rfl (simW_name (by decide)) h))
    (sv_cons (sv_if (tv_cmp op_inA rfl rfl sim_in (ev_o (ev_ix ix_seq (fun _ _ => rfl) rfl sim_ix (ev_o (ev_var (pv 0))) (ev_o (ev_c pe_int fun _ => .int _)))) (ev_o (ev_lst (av_cons (ev_c pe_str fun _ => .str _) (av_cons (ev_c pe_str fun _ => .str _) (av_cons (ev_c pe_str fun _ => .str _) (av_cons (ev_c pe_str fun _ => .str _) av_nil)))))))
    (sv_one (sv_set (ps_set (i := 5) nd rfl (.inl rfl) (ev_var (pv 0)))))
    (sv_one (sv_if (tv_cmp (op_eqD hr.units) (nomark _) rfl sim_eq (ev_o (ev_ix ix_seq (fun _ _ => rfl) rfl sim_ix (ev_o (ev_var (pv 0))) (ev_o (ev_c pe_int fun _ => .int _)))) (ev_o (ev_c pe_str fun _ => .str _)))
    (sv_one (sv_set (ps_set (i := 5) nd rfl (.inl rfl) (ev_tup (av_cons (ev_ix ix_seq (fun _ _ => rfl) rfl sim_ix (ev_o (ev_var (pv 0))) (ev_o (ev_c pe_int fun _ => .int _))) (av_cons (ev_ix ix_seq (fun _ _ => rfl) rfl sim_ix (ev_o (ev_var (pv 0))) (ev_o (ev_c pe_int fun _ => .int _))) (av_cons (ev_ix ix_seq (fun _ _ => rfl) rfl sim_ix (ev_o (ev_var (pv 4))) (ev_o (ev_c pe_int fun _ => .int _))) av_nil)))))))
    (sv_one (sv_set (ps_set (i := 5) nd rfl (.inl rfl) (ev_op op_addA rfl sim_add (ev_o (ev_op op_addA rfl sim_add (ev_o (ev_tup (av_cons (ev_ix ix_seq (fun _ _ => rfl) rfl sim_ix (ev_o (ev_var (pv 0))) (ev_o (ev_c pe_int fun _ => .int _))) av_nil))) (ev_o (ev_call_ rfl sim_tuple (pe_callTy call_tuple_of (by rfl) mtuple (by decide +kernel) (aw_cons (ev_o (ev_var (pv 4))) aw_nil)))))) (ev_o (ev_call_ rfl sim_tuple (pe_callTy call_tuple_of (by rfl) mtuple (by decide +kernel) (aw_cons (ev_o (ev_sl sl_all rfl sim_sl (ev_o (ev_var (pv 0))) (.yes (ev_op op_addA rfl sim_add (ev_o (ev_c pe_int fun _ => .int _)) (ev_o (ev_call_ rfl sim_len (pe_callB call_len (by rfl) mlen PySem.boot_len (aw_cons (ev_o (ev_var (pv 4))) aw_nil)))))) .no)) aw_nil)))))))))))
    (sv_cons (sv_app1 rfl hk1 (ps_expr (pe_bm PySem.F.plainAttrs_list PySem.F.slot_list_append PySem.F.type_list_append mt_append (pv 1) (pa_cons (ev_var (pv 5)) pa_nil))))
    (sv_one (sv_app2 rfl hkd (ps_expr (pe_bm PySem.F.plainAttrs_list PySem.F.slot_list_append PySem.F.type_list_append mt_append (pv 2) (pa_cons (ev_var (pv 0)) pa_nil))))))))))
end
end RB

set_option Elab.async false
set_option linter.all false
set_option maxRecDepth 100000
set_option maxHeartbeats 4000000
namespace RB
open PySem PySem.Spec PyProof.Rows L2 PD
section
variable {P : Program} {w : World} {K : PySem.W.Frag} {mg : Str → Option Value} {base : Heap}
theorem sc_law_compiled : FnScope ["_law_some"] ["_law_some"] (defScope s_law_compiled) := ⟨rfl, rfl, rfl, by decide +kernel, rfl, by decide +kernel, by decide +kernel⟩
def B_law_compiled : FS :=
  (fSeq (fIfS (fOp oEq (fVar 0) (fApp mkL fNil)) (fRet (fCallN F_compiled fNil)) fNext)
  (fSeq (fIfS (fOp oEq (fApp oLen (fCons (fVar 0) fNil)) (fC (.int 1))) (fRet (fCallN F_compiled (fCons (fOp oIx (fVar 0) (fC (.int 0))) fNil))) fNext)
  (fRet (fIf (fOp oEq (fApp oLen (fCons (fVar 0) fNil)) (fC (.int 2))) (fCallN F_compiled (fCons (fOp oIx (fVar 0) (fC (.int 0))) (fCons (fOp oIx (fVar 0) (fC (.int 1))) fNil))) (fCallN F_compiled (fCons (fOp oIx (fVar 0) (fC (.int 0))) (fCons (fOp oIx (fVar 0) (fC (.int 1))) (fCons (fOp oIx (fVar 0) (fC (.int 2))) fNil))))))))
def F_law_compiled : List Dat → RF := runN 1 B_law_compiled
theorem ok_law_compiled {ec : Str → Addr} {f : Addr} {fd : FuncData} (F : L2.Fun K "_law_compiled" "_law_compiled" s_law_compiled f fd) {f_compiled : Addr} (G_compiled : FnR P w K mg base CX0 23 f_compiled (spFv K ec F_compiled)) (g_compiled : mg "compiled" = some (.ref f_compiled)) (k_compiled : PySem.W.keepIn K (.ref f_compiled) = true) (mlen : mg "len" = none) : FnOk P w K mg base CX0 24 f fd ["_law_some"] (spN K ec 1 F_law_compiled) := by
  have nd := sc_law_compiled.nd
  refine fnN (k := 23) F sc_law_compiled rfl fun cdv A outer s H Hs E hr => ?_
  exact (sn_if (tv_cmp (op_eqD hr.units) (nomark _) rfl sim_eq (ev_o (ev_var (pv 0))) (ev_o (ev_lst av_nil))) (sn_ret (en_callR0 rfl (RBF.pe_callFR0 G_compiled (hr.mono (by omega)) k_compiled (by rfl) g_compiled passZ))) sn_nil
    (sn_if (tv_cmp (op_eqD hr.units) (nomark _) rfl sim_eq (ev_o (ev_call_ rfl sim_len (pe_callB call_len (by rfl) mlen PySem.boot_len (aw_cons (ev_o (ev_var (pv 0))) aw_nil)))) (ev_o (ev_c pe_int fun _ => .int _))) (sn_ret (en_callR rfl rfl (RBF.pe_callFR G_compiled (hr.mono (by omega)) k_compiled (by rfl) g_compiled passZ (av_cons (ev_ix ix_seq (fun _ _ => rfl) rfl sim_ix (ev_o (ev_var (pv 0))) (ev_o (ev_c pe_int fun _ => .int _))) av_nil)))) sn_nil
    (sn_ret (en_if rfl (tv_cmp (op_eqD hr.units) (nomark _) rfl sim_eq (ev_o (ev_call_ rfl sim_len (pe_callB call_len (by rfl) mlen PySem.boot_len (aw_cons (ev_o (ev_var (pv 0))) aw_nil)))) (ev_o (ev_c pe_int fun _ => .int _))) (en_callR rfl rfl (RBF.pe_callFR G_compiled (hr.mono (by omega)) k_compiled (by rfl) g_compiled passZ (av_cons (ev_ix ix_seq (fun _ _ => rfl) rfl sim_ix (ev_o (ev_var (pv 0))) (ev_o (ev_c pe_int fun _ => .int _))) (av_cons (ev_ix ix_seq (fun _ _ => rfl) rfl sim_ix (ev_o (ev_var (pv 0))) (ev_o (ev_c pe_int fun _ => .int _))) av_nil)))) (en_callR rfl rfl (RBF.pe_callFR G_compiled (hr.mono (by omega)) k_compiled (by rfl) g_compiled passZ (av_cons (ev_ix ix_seq (fun _ _ => rfl) rfl sim_ix (ev_o (ev_var (pv 0))) (ev_o (ev_c pe_int fun _ => .int _))) (av_cons (ev_ix ix_seq (fun _ _ => rfl) rfl sim_ix (ev_o (ev_var (pv 0))) (ev_o (ev_c pe_int fun _ => .int _))) (av_cons (ev_ix ix_seq (fun _ _ => rfl) rfl sim_ix (ev_o (ev_var (pv 0))) (ev_o (ev_c pe_int fun _ => .int _))) av_nil)))))))))
end
end RB

set_option Elab.async false
set_option linter.all false
set_option maxRecDepth 100000
set_option maxHeartbeats 2000000
namespace PD
open PySem PySem.Spec PyProof.Rows L2 RB
/-! ### a list != []: whatever its items are -/
def rNeE (K : PySem.W.Frag) : R2 := fun x y H Q => ∃ a b xs, x = .ref a ∧ y = .ref b ∧ SqL K H a xs ∧ SqL K H b [] ∧ Q (.bl (!xs.isEmpty)) H
theorem isList_of {X : Cx} {pins : List (Addr × Obj)} {σ : L2.St} {H : Hp} {s : Shared} {a : Addr} {xs : List V} (I : L2.Inv X pins σ H s) (h : SqL X.K H a xs) : ∃ its : List Value, its.length = xs.length ∧ s.heap.IsList a its.toArray := by
  obtain ⟨its, hv, hp, _⟩ := I.list h
  obtain ⟨o, n, h1, h2, h3, h4⟩ := hp
  exact ⟨its, hv.length.symm, o, h1, h2, n, h4⟩
theorem op_neE {X : Cx} (hu : X.A.units + 64 < cLine) : OpR X (compareOp CmpOp.NotEq) (rNeE X.K) := by
  intro pins s σ H x y v u Q I rx ry h
  obtain ⟨a, b, xs, rfl, rfl, ha, hb, q⟩ := h
  cases xs with
  | nil => exact op_neD hu pins s σ H _ _ v u Q I rx ry ⟨.list [], .list [], .lst ha .nil, .lst hb .nil, rfl, rfl, q⟩
  | cons z zs =>
    cases rx
    cases ry
    obtain ⟨its, l1, p1⟩ := isList_of I ha
    obtain ⟨its2, l2, p2⟩ := isList_of I hb
    have ne : (its.toArray.size != its2.toArray.size) = true := by
      simp only [List.size_toArray, bne_iff_ne, ne_eq, l1, l2, List.length_cons, List.length_nil]
      omega
    exact SeqAt.RcNeAt.lists_lengths p1 p2 ne (by omega) X.prog X.w X.xe _ ⟨.bl true, H, I, rfl, q⟩
def oNeE : Dat → Dat → Option Dat
  | .lst ds, .lst [] => some (.bl (!ds.isEmpty))
  | _, _ => none
theorem sim_neE {K : PySem.W.Frag} : Sim2 K (rNeE K) oNeE := by
  intro x y H Hf dx dy z Q s hx hy e q _
  unfold oNeE at e
  split at e
  · rename_i ds
    cases e
    obtain ⟨a, xs, rfl, ha, _, ca⟩ := hx.lst s
    obtain ⟨b, ys, rfl, hb, _, cb⟩ := hy.lst s
    cases cb
    refine ⟨a, b, xs, rfl, rfl, .inl (.inl ha), .inl (.inl hb), ?_⟩
    cases ca with
    | nil => exact q _ (.bl _)
    | cons => exact q _ (.bl _)
  · cases e
end PD

set_option Elab.async false
set_option linter.all false
set_option maxRecDepth 100000
set_option maxHeartbeats 4000000
namespace RB
open PySem PySem.Spec PyProof.Rows L2 PD
section
variable {P : Program} {w : World} {K : PySem.W.Frag} {mg : Str → Option Value} {base : Heap}
theorem sc_law_wanted_tree : FnScope ["_law_rng", "_law_deep", "_law_names", "_law_tree_here"] ["_law_rng", "_law_deep", "_law_names"] (defScope s_law_wanted_tree) := ⟨rfl, rfl, rfl, by decide +kernel, rfl, by decide +kernel, by decide +kernel⟩
def B_law_wanted_tree : FS :=
  (fSeq (fSet 3 (fCallM 0 (F_law_tree 8) (fCons (fVar 1) (fCons (fVar 2) fNil))))
  (fRet (fIf (fAnd (fOp oLt (fApp oLen (fCons (fCall (GT 24).x_law_text (fCons (fVar 3) fNil)) fNil)) (fC (.int 120))) (fOp oLt (fCall (F_law_nodes 20) (fCons (fVar 3) fNil)) (fC (.int 25)))) (fVar 3) (fApp mkT (fCons (fC (.str "name")) (fCons (fOp oIx (fVar 2) (fC (.int 0))) fNil))))))
def F_law_wanted_tree : Fld → List Dat → RE := runM 4 B_law_wanted_tree
theorem ok_law_wanted_tree {ec : Str → Addr} {f : Addr} {fd : FuncData} (F : L2.Fun K "_law_wanted_tree" "_law_wanted_tree" s_law_wanted_tree f fd) {f__law_nodes : Addr} {d__law_nodes : FuncData} (G__law_nodes : FnOk P w K mg base CX0 21 f__law_nodes d__law_nodes ["_law_tree_here"] (spF K ec 1 (F_law_nodes 20))) (g__law_nodes : mg "_law_nodes" = some (.ref f__law_nodes)) (k__law_nodes : PySem.W.keepIn K (.ref f__law_nodes) = true) (b__law_nodes : L2.Binds K d__law_nodes ["_law_tree_here"] []) {f__law_text : Addr} {d__law_text : FuncData} (G__law_text : FnOk P w K mg base CX0 26 f__law_text d__law_text ["_law_tree_here"] (spF K ec 1 (GT 24).x_law_text)) (g__law_text : mg "_law_text" = some (.ref f__law_text)) (k__law_text : PySem.W.keepIn K (.ref f__law_text) = true) (b__law_text : L2.Binds K d__law_text ["_law_tree_here"] []) (mlen : mg "len" = none) {f__law_tree : Addr} {d__law_tree : FuncData} (G__law_tree : FnOk P w K mg base CX0 11 f__law_tree d__law_tree ["_law_rng", "_law_deep", "_law_names"] (spM K ec (fun k => k = .lst) 2 (F_law_tree 8))) (g__law_tree : mg "_law_tree" = some (.ref f__law_tree)) (k__law_tree : PySem.W.keepIn K (.ref f__law_tree) = true) (b__law_tree : L2.Binds K d__law_tree ["_law_rng", "_law_deep", "_law_names"] []) : FnOk P w K mg base CX0 27 f fd ["_law_rng", "_law_deep", "_law_names"] (spM K ec (fun k => k = .lst) 2 F_law_wanted_tree) := by
  have nd := sc_law_wanted_tree.nd
  refine fnM (k := 26) F sc_law_wanted_tree rfl fun cdv A outer s H Hs E y kk hk hr => ?_
  have hC : ∀ (x : Addr) (kd : MK), (some (y, kk) : Option (Addr × MK)) = some (x, kd) → kd = .lst := fun _ _ z => by cases z; exact hk
  have hkd := hC
  exact (sv_cons (sv_set (ps_set (i := 3) nd rfl (.inl rfl) (ev_callM rfl rfl hkd (len_cons (len_cons len_nil)) (pe_call G__law_tree (hr.mono (by omega)) (by rfl) g__law_tree k__law_tree b__law_tree .nil passZ (pa_cons (pv 0) (av_cons (ev_var (pv 1)) (av_cons (ev_var (pv 2)) av_nil)))))))
    (sv_one (sv_ret (ev_if (PW.pt (wv_and (tv_cmp op_lt (nomark _) rfl sim_lt (ev_o (ev_call_ rfl sim_len (pe_callB call_len (by rfl) mlen PySem.boot_len (aw_cons (ev_o (ev_callF rfl rfl (len_cons len_nil) (pe_call G__law_text (hr.mono (by omega)) (by rfl) g__law_text k__law_text b__law_text .nil passZ (av_cons (ev_var (pv 3)) av_nil)))) aw_nil)))) (ev_o (ev_c pe_int fun _ => .int _))) (wv_one (.inl rfl) (tv_cmp op_lt (nomark _) rfl sim_lt (ev_o (ev_callF rfl rfl (len_cons len_nil) (pe_call G__law_nodes (hr.mono (by omega)) (by rfl) g__law_nodes k__law_nodes b__law_nodes .nil passZ (av_cons (ev_var (pv 3)) av_nil)))) (ev_o (ev_c pe_int fun _ => .int _)))))) (ev_var (pv 3)) (ev_tup (av_cons (ev_c pe_str fun _ => .str _) (av_cons (ev_ix ix_seq (fun _ _ => rfl) rfl sim_ix (ev_o (ev_var (pv 2))) (ev_o (ev_c pe_int fun _ => .int _))) av_nil)))))))
theorem sc_law : FnScope ["_law_script", "_law_rng", "_law_turn", "_law_k", "_law_tree_here", "_law_results", "_law_plan", "_law_names", "_law_some", "_law_steps_here", "_law_trees"] ["_law_script"] (defScope sLaw) := ⟨rfl, rfl, rfl, by decide +kernel, rfl, by decide +kernel, by decide +kernel⟩
def B_law : FS :=
  (fSeq (fForR1 (fC (.int 4)) (gN 2) (fSeq (fParVO 7 8 (fCallM 1 F_law_term_names fNil))
  (fSeq (fForR1 (fCallM 1 F_law_draw (fCons (fC (.int 4)) fNil)) (gN 3) (fSeq (fSet 4 (fCallM 1 F_law_wanted_tree (fCons (fOp oAdd (fC (.int 1)) (fCallM 1 F_law_draw (fCons (fC (.int 4)) fNil))) (fCons (fSl oSl (fVar 7) none (some (fC (.int 2)))) fNil))))
  (fSeq (fIfS (fAnd (fOp oNeE (fOwn 8) (fApp mkL fNil)) (fOp oEq (fCallM 1 F_law_draw (fCons (fC (.int 2)) fNil)) (fC (.int 0)))) (fSet 4 (fApp mkT (fCons (fC (.str "sum")) (fCons (fOp oIx (fOwn 8) (fUn oNeg (fC (.int 1)))) (fCons (fApp mkT (fCons (fC (.str "join")) (fCons (fVar 4) (fCons (fOp oIx (fOwn 8) (fC (.int 0))) fNil)))) fNil))))) fNext)
  (fAppd 8 (fIf (fAnd (fOp oLt (fCall (F_law_nodes 20) (fCons (fVar 4) fNil)) (fC (.int 50))) (fOp oLt (fApp oLen (fCons (fCall (GT 24).x_law_text (fCons (fVar 4) fNil)) fNil)) (fC (.int 390)))) (fVar 4) (fApp mkT (fCons (fC (.str "name")) (fCons (fOp oIx (fVar 7) (fC (.int 0))) fNil))))))))
  (fSeq (fParOO 9 10)
  (fSeq (fFz 8 (fFor listOf (fVar 8) (gN 4) (fCallO2 9 10 (F_law_steps 20) (fVar 4))))
  (fSeq (fFz 9 (fFz 10 (fSet 5 (fLc listOf (fVar 8) (gN 4) fYes (fIxD (fVar 10) (fVar 4)) [4]))))
  (fNewT 6 F_law_compiled (fCons (fVar 8) fNil) (fOr (fNot (fCall (F_law_same 14) (fCons (fVar 6) (fCons (fApp mkT (fCons (fVar 9) (fCons (fVar 5) fNil))) fNil)))) (fNot (fCall (F_law_same 14) (fCons (fCall F_plan_trees (fCons (fVar 6) fNil)) (fCons (fVar 8) fNil))))) (fApp mkT (fCons (fC (.str "name")) (fCons (fC (.str "z")) fNil)))
  (fIfS (fNot (fCall (F_law_same 14) (fCons (fCall (noE F_law_compiled) (fCons (fVar 8) fNil)) (fCons (fApp mkT (fCons (fVar 9) (fCons (fVar 5) fNil))) fNil)))) (fRet (fC (.bl false))) fNext))))))))
  (fRet (fOp oEq (fCall F_plan_trees (fCons (fApp mkT (fCons (fApp mkL (fCons (fApp mkT (fCons (fC (.str "list")) (fCons (fApp mkT fNil) fNil))) (fCons (fApp mkT (fCons (fC (.str "sums")) (fCons (fC (.int 0)) (fCons (fC (.int 0)) fNil)))) (fCons (fApp mkT (fCons (fC (.str "map")) (fCons (fApp mkT (fCons (fApp mkT (fCons (fC (.int 0)) (fCons (fC (.int 1)) fNil))) (fCons (fApp mkT (fCons (fC (.int 1)) (fCons (fC (.int 1)) fNil))) fNil))) (fCons (fC (.int 1)) fNil)))) fNil)))) (fCons (fApp mkL (fCons (fC (.int 2)) fNil)) fNil))) fNil)) (fApp mkL (fCons (fApp mkT (fCons (fC (.str "map")) (fCons (fApp mkT (fCons (fApp mkT (fCons (fC (.int 0)) (fCons (fC (.int 1)) fNil))) (fCons (fApp mkT (fCons (fC (.int 1)) (fCons (fC (.int 1)) fNil))) fNil))) (fCons (fApp mkT (fCons (fC (.str "sums")) (fCons (fApp mkT (fCons (fC (.str "list")) (fCons (fApp mkT fNil) fNil))) (fCons (fC (.int 0)) fNil)))) fNil)))) fNil)))))
theorem ok_law {ec : Str → Addr} {f : Addr} {fd : FuncData} (F : L2.Fun K "law" "law" sLaw f fd) {f__law_draws : Addr} {d__law_draws : FuncData} (G__law_draws : FnOk P w K mg base CX0 1 f__law_draws d__law_draws ["_law_script"] (spDraws2 K)) (g__law_draws : mg "_law_draws" = some (.ref f__law_draws)) (k__law_draws : PySem.W.keepIn K (.ref f__law_draws) = true) (b__law_draws : L2.Binds K d__law_draws ["_law_script"] []) {f__law_term_names : Addr} {d__law_term_names : FuncData} (G__law_term_names : FnOk P w K mg base CX0 2 f__law_term_names d__law_term_names ["_law_rng"] (spM K ec (fun k => k = .lst) 0 F_law_term_names)) (g__law_term_names : mg "_law_term_names" = some (.ref f__law_term_names)) (k__law_term_names : PySem.W.keepIn K (.ref f__law_term_names) = true) (b__law_term_names : L2.Binds K d__law_term_names ["_law_rng"] []) {f__law_draw : Addr} {d__law_draw : FuncData} (G__law_draw : FnOk P w K mg base CX0 1 f__law_draw d__law_draw ["_law_rng", "_law_amount"] (spM K ec (fun k => k = .lst) 1 F_law_draw)) (g__law_draw : mg "_law_draw" = some (.ref f__law_draw)) (k__law_draw : PySem.W.keepIn K (.ref f__law_draw) = true) (b__law_draw : L2.Binds K d__law_draw ["_law_rng", "_law_amount"] []) {f__law_wanted_tree : Addr} {d__law_wanted_tree : FuncData} (G__law_wanted_tree : FnOk P w K mg base CX0 27 f__law_wanted_tree d__law_wanted_tree ["_law_rng", "_law_deep", "_law_names"] (spM K ec (fun k => k = .lst) 2 F_law_wanted_tree)) (g__law_wanted_tree : mg "_law_wanted_tree" = some (.ref f__law_wanted_tree)) (k__law_wanted_tree : PySem.W.keepIn K (.ref f__law_wanted_tree) = true) (b__law_wanted_tree : L2.Binds K d__law_wanted_tree ["_law_rng", "_law_deep", "_law_names"] []) {f__law_text : Addr} {d__law_text : FuncData} (G__law_text : FnOk P w K mg base CX0 26 f__law_text d__law_text ["_law_tree_here"] (spF K ec 1 (GT 24).x_law_text)) (g__law_text : mg "_law_text" = some (.ref f__law_text)) (k__law_text : PySem.W.keepIn K (.ref f__law_text) = true) (b__law_text : L2.Binds K d__law_text ["_law_tree_here"] []) (mlen : mg "len" = none) {f__law_nodes : Addr} {d__law_nodes : FuncData} (G__law_nodes : FnOk P w K mg base CX0 21 f__law_nodes d__law_nodes ["_law_tree_here"] (spF K ec 1 (F_law_nodes 20))) (g__law_nodes : mg "_law_nodes" = some (.ref f__law_nodes)) (k__law_nodes : PySem.W.keepIn K (.ref f__law_nodes) = true) (b__law_nodes : L2.Binds K d__law_nodes ["_law_tree_here"] []) (mrange : mg "range" = none) {f__law_steps : Addr} {d__law_steps : FuncData} (G__law_steps : FnOk P w K mg base CX0 21 f__law_steps d__law_steps ["_law_tree_here", "_law_steps_here", "_law_trees"] (spM2 K ec (fun k => ∃ y, k = .two y) (F_law_steps 20))) (g__law_steps : mg "_law_steps" = some (.ref f__law_steps)) (k__law_steps : PySem.W.keepIn K (.ref f__law_steps) = true) (b__law_steps : L2.Binds K d__law_steps ["_law_tree_here", "_law_steps_here", "_law_trees"] []) {f__law_compiled : Addr} {d__law_compiled : FuncData} (G__law_compiled : FnOk P w K mg base CX0 24 f__law_compiled d__law_compiled ["_law_some"] (spN K ec 1 F_law_compiled)) (g__law_compiled : mg "_law_compiled" = some (.ref f__law_compiled)) (k__law_compiled : PySem.W.keepIn K (.ref f__law_compiled) = true) (b__law_compiled : L2.Binds K d__law_compiled ["_law_some"] []) {f_plan_trees : Addr} {d_plan_trees : FuncData} (G_plan_trees : FnOk P w K mg base CX0 2 f_plan_trees d_plan_trees ["plan"] (spF K ec 1 F_plan_trees)) (g_plan_trees : mg "plan_trees" = some (.ref f_plan_trees)) (k_plan_trees : PySem.W.keepIn K (.ref f_plan_trees) = true) (b_plan_trees : L2.Binds K d_plan_trees ["plan"] []) {f__law_same : Addr} {d__law_same : FuncData} (G__law_same : FnOk P w K mg base CX0 14 f__law_same d__law_same ["_law_result", "_law_expected"] (spF K ec 2 (F_law_same 14))) (g__law_same : mg "_law_same" = some (.ref f__law_same)) (k__law_same : PySem.W.keepIn K (.ref f__law_same) = true) (b__law_same : L2.Binds K d__law_same ["_law_result", "_law_expected"] []) (hF : ∀ S, RngS S → ∃ S2, B_law (startL 11) S = .rt (.bl true) S2) : FnOk P w K mg base CX0 28 f fd ["_law_script"] (spLawN K) := by
  have nd := sc_law.nd
  refine fnLaw (ec := ec) (F := B_law) (k := 27) F sc_law rfl (by decide) (fun cdv A outer s H E hr => ?_) (fun cdv A outer s H0 E0 H Hs E y kk hk hr => ?_) hF
  · exact ps_asg (pe_call G__law_draws (hr.mono (by omega)) (by rfl) g__law_draws k__law_draws b__law_draws .nil passZ (pa_cons (pv 0) pa_nil)) (pg_name (i := 1) nd rfl (.inl rfl))
  · have hC : ∀ (x : Addr) (kd : MK), (some (y, kk) : Option (Addr × MK)) = some (x, kd) → kd = .lst := fun _ _ z => by cases z; exact hk
    have hkd := hC
    exact (sv_cons (sv_forR1 simG_name (ps_for PassesOwn.never rfl (pi_range1 (by rfl) mrange (pa_cons (ev_c pe_int fun _ => .int _) pa_nil)) (pg_name (i := 2) nd rfl (.inl rfl))
    (sv_cons (sv_parVO (ps_par (i := 7) (j := 8) (by rfl) nd rfl rfl (by decide) rfl rfl (pa_cons (ev_callM rfl rfl hkd len_nil (pe_call G__law_term_names (hr.mono (by omega)) (by rfl) g__law_term_names k__law_term_names b__law_term_names .nil passZ (pa_cons (pv 1) av_nil))) (pa_cons (pe_lst pa_nil) pa_nil)) (by rfl)))
    (sv_cons (sv_forR1 simG_name (ps_for PassesOwn.never rfl (pi_range1 (by rfl) mrange (pa_cons (ev_callM rfl rfl hkd (len_cons len_nil) (pe_call G__law_draw (hr.mono (by omega)) (by rfl) g__law_draw k__law_draw b__law_draw .nil passZ (pa_cons (pv 1) (av_cons (ev_c pe_int fun _ => .int _) av_nil)))) pa_nil)) (pg_name (i := 3) nd rfl (.inl rfl))
    (sv_cons (sv_set (ps_set (i := 4) nd rfl (.inl rfl) (ev_callM rfl rfl hkd (len_cons (len_cons len_nil)) (pe_call G__law_wanted_tree (hr.mono (by omega)) (by rfl) g__law_wanted_tree k__law_wanted_tree b__law_wanted_tree .nil passZ (pa_cons (pv 1) (av_cons (ev_op op_addA rfl sim_add (ev_o (ev_c pe_int fun _ => .int _)) (ev_o (ev_callM rfl rfl hkd (len_cons len_nil) (pe_call G__law_draw (hr.mono (by omega)) (by rfl) g__law_draw k__law_draw b__law_draw .nil passZ (pa_cons (pv 1) (av_cons (ev_c pe_int fun _ => .int _) av_nil)))))) (av_cons (ev_sl sl_all rfl sim_sl (ev_o (ev_var (pv 7))) .no (.yes (ev_c pe_int fun _ => .int _))) av_nil)))))))
    (sv_cons (sv_if (PW.pt (wv_and (tv_cmp (op_neE hr.units) (nomark _) rfl sim_neE (ev_own (pv 8)) (ev_o (ev_lst av_nil))) (wv_one (.inl rfl) (tv_cmp (op_eqD hr.units) (nomark _) rfl sim_eq (ev_o (ev_callM rfl rfl hkd (len_cons len_nil) (pe_call G__law_draw (hr.mono (by omega)) (by rfl) g__law_draw k__law_draw b__law_draw .nil passZ (pa_cons (pv 1) (av_cons (ev_c pe_int fun _ => .int _) av_nil))))) (ev_o (ev_c pe_int fun _ => .int _))))))
    (sv_one (sv_set (ps_set (i := 4) nd rfl (.inl rfl) (ev_tup (av_cons (ev_c pe_str fun _ => .str _) (av_cons (ev_ix ix_seq (fun _ _ => rfl) rfl sim_ix (ev_own (pv 8)) (ev_o (ev_un un_neg rfl sim_neg (ev_o (ev_c pe_int fun _ => .int _))))) (av_cons (ev_tup (av_cons (ev_c pe_str fun _ => .str _) (av_cons (ev_var (pv 4)) (av_cons (ev_ix ix_seq (fun _ _ => rfl) rfl sim_ix (ev_own (pv 8)) (ev_o (ev_c pe_int fun _ => .int _))) av_nil)))) av_nil)))))))
    sv_nil)
    (sv_one (sv_appd (ps_expr (pe_bm PySem.F.plainAttrs_list PySem.F.slot_list_append PySem.F.type_list_append mt_append (pv 8) (pa_cons (ev_if (PW.pt (wv_and (tv_cmp op_lt (nomark _) rfl sim_lt (ev_o (ev_callF rfl rfl (len_cons len_nil) (pe_call G__law_nodes (hr.mono (by omega)) (by rfl) g__law_nodes k__law_nodes b__law_nodes .nil passZ (av_cons (ev_var (pv 4)) av_nil)))) (ev_o (ev_c pe_int fun _ => .int _))) (wv_one (.inl rfl) (tv_cmp op_lt (nomark _) rfl sim_lt (ev_o (ev_call_ rfl sim_len (pe_callB call_len (by rfl) mlen PySem.boot_len (aw_cons (ev_o (ev_callF rfl rfl (len_cons len_nil) (pe_call G__law_text (hr.mono (by omega)) (by rfl) g__law_text k__law_text b__law_text .nil passZ (av_cons (ev_var (pv 4)) av_nil)))) aw_nil)))) (ev_o (ev_c pe_int fun _ => .int _)))))) (ev_var (pv 4)) (ev_tup (av_cons (ev_c pe_str fun _ => .str _) (av_cons (ev_ix ix_seq (fun _ _ => rfl) rfl sim_ix (ev_o (ev_var (pv 7))) (ev_o (ev_c pe_int fun _ => .int _))) av_nil)))) pa_nil)))))))))
    (sv_cons (sv_parOOc (i := 9) (j := 10) (ps_asg (pe_tup (pa_cons (pe_lst pa_nil) (pa_cons (pe_lst pa_nil) pa_nil))) (pg_tup (by rfl) (pgs_cons (pg_name (i := 9) nd rfl (.inl rfl)) (pgs_cons (pg_name (i := 10) nd rfl (.inr rfl)) pgs_nil)))))
    (sv_cons (sv_fz (i := 8) (sv_forL rfl simG_name (ps_for PassesOwn.never rfl (pi_list (ev_var (pv 8))) (pg_name (i := 4) nd rfl (.inl rfl))
    (sv_one (sv_callO2 (E := E0) rfl (fun y => ⟨y, rfl⟩) (ps_expr (pe_call G__law_steps (hr.mono (by omega)) (by rfl) g__law_steps k__law_steps b__law_steps .nil passZ (pa_cons (ev_var (pv 4)) (pa_cons (pv 9) (pa_cons (pv 10) pa_nil))))))))))
    (sv_cons (sv_fz (i := 9) (sv_fz (i := 10) (sv_setLc (ps_setLc (i := 5) (own := [("_law_tree_here", 4)]) (te := rdE (⟨K, H, Hs, E, ec, some (y, kk), []⟩ : Me) (fIxD (fVar 10) (fVar 4))) (tt := rdT (⟨K, H, Hs, E, ec, some (y, kk), []⟩ : Me) fYes) (by rfl) nd rfl rfl (sw_true rfl rfl rfl (by decide +kernel)) (pi_list (tl := rdE (⟨K, H, Hs, E, ec, some (y, kk), []⟩ : Me) (fVar 8)) (ev_var (pv 8))) (blkOk_by (N := ["_law_script", "_law_rng", "_law_turn", "_law_k", "_law_tree_here", "_law_results", "_law_plan", "_law_names", "_law_some", "_law_steps_here", "_law_trees"]) (sc := defScope sLaw) (by decide +kernel)) (fun _ _ _ _ _ => pg_name (i := 4) nd rfl (.inl rfl) (hf := .inr rfl)) (fun _ _ _ _ _ => ptv_nil) (fun _ _ _ _ _ => (ev_ixD rfl (pe_bm PySem.F.plainAttrs_list PySem.F.slot_list_index PySem.F.type_list_index (mt_indexD (hu65_of hr)) (ev_var (pv 10)) (pa_cons (ev_var (pv 4)) pa_nil))))) (fun _ _ _ h => rd_lcL rfl (simW_name (by decide)) h))))
    (sv_newT (i := 6) (E := E0) rfl rfl rfl (len_cons len_nil) (ps_set (i := 6) nd rfl (.inl rfl) (pe_call G__law_compiled (hr.mono (by omega)) (by rfl) g__law_compiled k__law_compiled b__law_compiled .nil passZ (av_cons (ev_var (pv 8)) av_nil))) (fun H0x Hsx => (PW.pt (wv_or (tv_not (tv_val (ev_callF rfl rfl (len_cons (len_cons len_nil)) (pe_call G__law_same (hr.mono (by omega)) (by rfl) g__law_same k__law_same b__law_same .nil passZ (av_cons (ev_var (pv 6)) (av_cons (ev_tup (av_cons (ev_var (pv 9)) (av_cons (ev_var (pv 5)) av_nil))) av_nil)))))) (wv_one (.inr rfl) (tv_not (tv_val (ev_callF rfl rfl (len_cons (len_cons len_nil)) (pe_call G__law_same (hr.mono (by omega)) (by rfl) g__law_same k__law_same b__law_same .nil passZ (av_cons (ev_callF rfl rfl (len_cons len_nil) (pe_call G_plan_trees (hr.mono (by omega)) (by rfl) g_plan_trees k_plan_trees b_plan_trees .nil passZ (av_cons (ev_var (pv 6)) av_nil))) (av_cons (ev_var (pv 8)) av_nil)))))))))) (pss_one (ps_ret pe_bl)) (fun H0x Hsx => (ev_tup (av_cons (ev_c pe_str fun _ => .str _) (av_cons (ev_c pe_str fun _ => .str _) av_nil)))) (fun he => ps_expr (pe_bm PySem.F.plainAttrs_list PySem.F.slot_list_append PySem.F.type_list_append mt_append (pe_ix ix_tup (pv 6) pe_int (fun _ _ => rfl)) (pa_cons he pa_nil)))
    (sv_one (sv_if (tv_not (tv_val (ev_callF rfl rfl (len_cons (len_cons len_nil)) (pe_call G__law_same (hr.mono (by omega)) (by rfl) g__law_same k__law_same b__law_same .nil passZ (av_cons (ev_callF rfl rfl (len_cons len_nil) (pe_call (ofSpN G__law_compiled) (hr.mono (by omega)) (by rfl) g__law_compiled k__law_compiled b__law_compiled .nil passZ (av_cons (ev_var (pv 8)) av_nil))) (av_cons (ev_tup (av_cons (ev_var (pv 9)) (av_cons (ev_var (pv 5)) av_nil))) av_nil))))))
    (sv_one (sv_ret (ev_c pe_bl fun _ => .bl _)))
    sv_nil))))))))))
    (sv_one (sv_ret (ev_cmp (op_eqD hr.units) (nomark _) rfl sim_eq (ev_o (ev_callF rfl rfl (len_cons len_nil) (pe_call G_plan_trees (hr.mono (by omega)) (by rfl) g_plan_trees k_plan_trees b_plan_trees .nil passZ (av_cons (ev_tup (av_cons (ev_lst (av_cons (ev_tup (av_cons (ev_c pe_str fun _ => .str _) (av_cons (ev_tup av_nil) av_nil))) (av_cons (ev_tup (av_cons (ev_c pe_str fun _ => .str _) (av_cons (ev_c pe_int fun _ => .int _) (av_cons (ev_c pe_int fun _ => .int _) av_nil)))) (av_cons (ev_tup (av_cons (ev_c pe_str fun _ => .str _) (av_cons (ev_tup (av_cons (ev_tup (av_cons (ev_c pe_int fun _ => .int _) (av_cons (ev_c pe_int fun _ => .int _) av_nil))) (av_cons (ev_tup (av_cons (ev_c pe_int fun _ => .int _) (av_cons (ev_c pe_int fun _ => .int _) av_nil))) av_nil))) (av_cons (ev_c pe_int fun _ => .int _) av_nil)))) av_nil)))) (av_cons (ev_lst (av_cons (ev_c pe_int fun _ => .int _) av_nil)) av_nil))) av_nil)))) (ev_o (ev_lst (av_cons (ev_tup (av_cons (ev_c pe_str fun _ => .str _) (av_cons (ev_tup (av_cons (ev_tup (av_cons (ev_c pe_int fun _ => .int _) (av_cons (ev_c pe_int fun _ => .int _) av_nil))) (av_cons (ev_tup (av_cons (ev_c pe_int fun _ => .int _) (av_cons (ev_c pe_int fun _ => .int _) av_nil))) av_nil))) (av_cons (ev_tup (av_cons (ev_c pe_str fun _ => .str _) (av_cons (ev_tup (av_cons (ev_c pe_str fun _ => .str _) (av_cons (ev_tup av_nil) av_nil))) (av_cons (ev_c pe_int fun _ => .int _) av_nil)))) av_nil)))) av_nil)))))))
end
end RB

set_option Elab.async false
set_option linter.all false
set_option maxRecDepth 100000
set_option maxHeartbeats 4000000
namespace RB
open PySem PySem.Spec PyProof.Rows L2 PD
section
variable {P : Program} {w : World} {K : PySem.W.Frag} {mg : Str → Option Value} {base : Heap}
theorem sc_draws : FnScope ["_law_script", "_law_salt", "_law_cell"] ["_law_script"] (defScope sDraws) := ⟨rfl, rfl, rfl, by decide +kernel, rfl, by decide +kernel, by decide +kernel⟩
theorem ok_draws {f : Addr} {fd : FuncData} {k : Nat} (F : L2.Fun K "_law_draws" "_law_draws" sDraws f fd) (mlist : mg "list" = none) : FnOk P w K mg base CX0 (k + 1) f fd ["_law_script"] (spDraws2 K) := by
  have nd := sc_draws.nd
  refine F.ok sc_draws (fun vs H Q E h => ?_) (fun cdv A outer s H vs Q E hr h => ?_)
  · obtain ⟨a, ns, rfl, _⟩ := h
    rfl
  · obtain ⟨a, ns, rfl, hS, hl, q⟩ := h
    refine ⟨_, pss_cons (ps_set (i := 1) nd rfl (.inl rfl) pe_int)
      (pss_cons (ps_for PassesOwn.never rfl (pi_list (pe_slice sl_list (pv 0) po_none (po_some pe_int))) (pg_name (i := 2) nd rfl (.inl rfl))
        (pss_one (ps_set (i := 1) nd rfl (.inl rfl) (pe_op op_mod (pe_op op_add (pe_op op_add (pe_op op_mul (pv 1) pe_int) (pe_op op_mod (pv 2) pe_int)) pe_int) pe_int))))
      (pss_one (ps_ret (pe_lst (pa_cons (pe_callTy call_list_of (by rfl) mlist (by decide +kernel) (pa_cons (pe_slice sl_list (pv 0) po_none (po_some pe_int)) pa_nil)) (pa_cons pe_int (pa_cons pe_int (pa_cons (pv 1) pa_nil)))))))), ?_⟩
    obtain ⟨ms, ecut, lms⟩ := SqL.cutInts ns none (some 63)
    refine ⟨.ref a, rfl, 63, rfl, a, _, rfl, hS, fun p np => ?_⟩
    rw [ecut]
    have s1 : Same H (upd H p (.lst (ms.map V.int))) := upd_new np
    have hp : SqL K (upd H p (.lst (ms.map V.int))) p (ms.map V.int) := .inl (.inl upd_same)
    refine ⟨p, rfl, ⟨_, hp⟩, for_list (K := K) (a := p) (xs := ms.map V.int) (fun i σ H' => ∃ (z : Int) (v : Option V), σ = [some (.ref a), some (.int z), v] ∧ 0 ≤ z ∧ z < 2147483647 ∧ H' = upd H p (.lst (ms.map V.int)))
      ⟨3810, none, rfl, by decide, by decide, rfl⟩ (fun i σ H' _ ⟨_, _, _, _, _, e⟩ => by rw [e]; exact hp) ?_ ?_⟩
    · rintro i y σ H' hi ⟨z, v, rfl, z0, z1, rfl⟩
      obtain ⟨n, hn, rfl⟩ : ∃ n, ms[i]? = some n ∧ V.int n = y := by
        rw [List.getElem?_map] at hi
        cases e : ms[i]? with
        | none =>
          rw [e] at hi
          cases hi
        | some n =>
          rw [e] at hi
          exact ⟨n, rfl, Option.some.inj hi⟩
      refine ⟨.int z, rfl, z, 40014, rfl, rfl, .inl ⟨by omega, by omega⟩, .int n, rfl, n, 2147483579, rfl, rfl, (by decide : (0 : Int) < 2147483579), _, _, rfl, rfl, _, 23, rfl, rfl, _, 2147483647, rfl, rfl, (by decide : (0 : Int) < 2147483647), ?_⟩
      exact ⟨_, _, rfl, Int.emod_nonneg _ (by decide), Int.emod_lt_of_pos _ (by decide), rfl⟩
    · rintro σ H' ⟨z, v, rfl, z0, z1, rfl⟩
      refine ⟨.ref a, rfl, 63, rfl, a, _, rfl, s1.seq hS, fun p2 np2 => ?_⟩
      rw [ecut]
      refine ⟨p2, _, rfl, .inl (.inl (.inl upd_same)), fun l nl => ?_⟩
      refine ⟨.int z, rfl, lineN (by decide : 4 ≤ 1000), fun r nr => ?_⟩
      have s2 := upd_new (o := .lst (ms.map V.int)) np2
      have s3 := upd_new (o := .lst (ms.map V.int)) nl
      have s4 := upd_new (o := .lst [.ref l, .int 0, .int 0, .int z]) nr
      exact q _ r l ms 0 0 z upd_same (s4 _ _ upd_same) (s1.trans (s2.trans (s3.trans s4))) (by omega) (by decide) (by decide) z0 z1
end
end RB

set_option Elab.async false
set_option linter.all false
set_option maxRecDepth 100000
set_option maxHeartbeats 2000000
/-! the end by facts: every function by a path, everything else by one list of Bools -/
namespace RBH
open PySem PySem.Spec PyProof.Rows L2 He
/-! ### paths -/
/-- a method read off a class -/
def fcv (K : PySem.W.Frag) (B : Addr) (m : Str) : Addr := match PySem.W.findCls K (.ref B) (.type "type") m with
  | some (.val (.ref a)) => a
  | _ => 0
def fcvB (K : PySem.W.Frag) (B : Addr) (m : Str) : Bool := match PySem.W.findCls K (.ref B) (.type "type") m with
  | some (.val (.ref _)) => true
  | _ => false
theorem fcv_ok {K : PySem.W.Frag} {B : Addr} {m : Str} (h : fcvB K B m = true) : PySem.W.findCls K (.ref B) (.type "type") m = some (.val (.ref (fcv K B m))) := by
  unfold fcvB at h
  unfold fcv
  split at h
  · rename_i a e
    rw [e]
  · cases h
/-- a class method's object -/
def fcg (K : PySem.W.Frag) (C : Addr) (m : Str) : Addr := match PySem.W.findCls K (.ref C) (.type "type") m with
  | some (.get _ (.ref a) _ _) => a
  | _ => 0
def fcgB (K : PySem.W.Frag) (C : Addr) (m : Str) : Bool := match PySem.W.findCls K (.ref C) (.type "type") m with
  | some (.get g (.ref _) o t) => decide (g = .builtin "classmethod.__get__") && (decide (o = .none) && decide (t = .ref C))
  | _ => false
theorem fcg_ok {K : PySem.W.Frag} {C : Addr} {m : Str} (h : fcgB K C m = true) : PySem.W.findCls K (.ref C) (.type "type") m = some (.get (.builtin "classmethod.__get__") (.ref (fcg K C m)) .none (.ref C)) := by
  unfold fcgB at h
  unfold fcg
  split at h
  · rename_i g a o t e
    obtain ⟨h1, h2⟩ := ba h
    obtain ⟨h3, h4⟩ := ba h2
    rw [e, of_decide_eq_true h1, of_decide_eq_true h3, of_decide_eq_true h4]
  · cases h
/-- the first of a record, the others -/
def rc0 (K : PySem.W.Frag) (p : Addr) (T : String) : Addr := match PySem.W.recIn K p T with
  | some (.ref a :: _) => a
  | _ => 0
def rcT (K : PySem.W.Frag) (p : Addr) (T : String) : List Value := match PySem.W.recIn K p T with
  | some (_ :: r) => r
  | _ => []
/-- the token of a module's int -/
def iTok (K : PySem.W.Frag) (x : Str) : Tok := match PySem.W.nsIn K mainGlobals x with
  | some (some (.int _ t)) => t
  | _ => default
/-- a def's defaults -/
def dfT (K : PySem.W.Frag) (f : Addr) : Addr := match K.lookup f with
  | some ⟨_, _, .func fd, _⟩ => (match fd.defaults with
    | .ref T => T
    | _ => 0)
  | _ => 0
/-! ### a class of errors -/
def excO (K : PySem.W.Frag) (C : Addr) : Bool := match K.lookup C with
  | some ⟨t, _, .cls cd, sl⟩ => decide (t = .type "type") && (match cd.mro, sl.toList with
    | .ref C' :: bm, [_, _, _, _, some (.builtin n), _] => C' == C && (n == "ValueError.__new__" && (!cd.hasDel && (cd.hasDict && PySem.HandSPX.refsVE bm)))
    | _, _ => false)
  | _ => false
theorem excO_ok {K : PySem.W.Frag} {C : Addr} (h : excO K C = true) : ∃ nm q N bs bm sn sub ab col dd k0 k1 k2 k3 k5, K.lookup C = some (excClassObj nm q C N bs bm true sn sub ab col dd k0 k1 k2 k3 k5 "ValueError.__new__") ∧ PySem.HandSPX.refsVE bm = true := by
  unfold excO at h
  split at h
  · rename_i t dd cd sl ho
    obtain ⟨h0, g⟩ := ba h
    clear h
    have h0 := of_decide_eq_true h0
    subst h0
    split at g
    · rename_i C' bm k0 k1 k2 k3 n k5 hm hs
      obtain ⟨h1, g⟩ := ba g
      obtain ⟨h2, g⟩ := ba g
      obtain ⟨h3, g⟩ := ba g
      obtain ⟨h4, h5⟩ := ba g
      have h1 := eq_of_beq h1
      have h2 := eq_of_beq h2
      subst h1 h2
      obtain ⟨nm, bs, mro, ns, qn, hd, sn, sub, ab, col, del⟩ := cd
      dsimp only at hm h3 h4
      have h3 : del = false := by
        cases del with
        | false => rfl
        | true => cases h3
      subst hm h3 h4
      have hsl : sl = #[k0, k1, k2, k3, some (.builtin "ValueError.__new__"), k5] := by
        obtain ⟨l⟩ := sl
        exact congrArg Array.mk hs
      subst hsl
      exact ⟨nm, qn, ns, bs, bm, sn, sub, ab, col, dd, k0, k1, k2, k3, k5, ho, h5⟩
    · cases g
  · cases h
/-! ### functions -/
def fnA (K : PySem.W.Frag) (a : Addr) : FnW := match K.lookup a with
  | some ⟨_, _, .func fd, _⟩ => some (fd.name, fd.qualname, fd.params, fd.body, fd.scope, fd.globals, fd.closure, fd.builtins)
  | _ => none
/-- one def: where it stands, what it is, whether it has defaults -/
structure DefR where
  at_ : PySem.W.Frag → Addr
  name : Str
  qual : Str
  params : Arguments
  body : List Stmt
  scope : Scope
  dfl : Bool := false
def DefR.val (d : DefR) : FnW := some (d.name, d.qual, d.params, .stmts d.body, d.scope, mainGlobals, [], builtinsNs)
def DefR.ok (K : PySem.W.Frag) (d : DefR) : Bool := PySem.W.keepIn K (.ref (d.at_ K)) && (match K.lookup (d.at_ K) with
  | some ⟨_, _, .func fd, _⟩ => PySem.W.codeIn K fd.code d.qual && (match fd.defaults with
    | .none => !d.dfl
    | .ref T => d.dfl && (match K.lookup T with
      | some ⟨_, _, .seq _ _, _⟩ => true
      | _ => false)
    | _ => false)
  | _ => false)
/-- what is known of a def -/
def DefR.Is (K : PySem.W.Frag) (d : DefR) (dV : Value) : Prop := ∃ oc od osl kV doc pm an cdv ct, K.lookup (d.at_ K) = some ⟨oc, od, .func (PySem.W.fnOf d.name d.qual d.params d.body d.scope dV kV doc pm an cdv ct), osl⟩ ∧ PySem.W.codeIn K cdv d.qual = true
theorem DefR.is {K : PySem.W.Frag} {d : DefR} (e : fnA K (d.at_ K) = d.val) (c : d.ok K = true) : PySem.W.keepIn K (.ref (d.at_ K)) = true ∧ ∃ dV, d.Is K dV ∧ (d.dfl = false → dV = .none) ∧ (d.dfl = true → ∃ oT its n, dV = .ref (dfT K (d.at_ K)) ∧ K.lookup (dfT K (d.at_ K)) = some oT ∧ oT.data = .seq its n) := by
  obtain ⟨kp, c2⟩ := ba c
  refine ⟨kp, ?_⟩
  unfold DefR.Is
  unfold dfT
  unfold fnA at e
  cases q : K.lookup (d.at_ K) with
  | none =>
    rw [q] at c2
    cases c2
  | some o =>
    obtain ⟨oc, od, dt, osl⟩ := o
    rw [q] at c2 e
    cases dt with
    | func fd =>
      obtain ⟨n1, n2, n3, n4, n5, n6, n7, n8, n9, n10, n11, n12, n13, n14, n15⟩ := fd
      have e2 : (some (n1, n2, n3, n4, n5, n6, n7, n15) : FnW) = some (d.name, d.qual, d.params, .stmts d.body, d.scope, mainGlobals, [], builtinsNs) := e
      simp only [Option.some.injEq, Prod.mk.injEq] at e2
      obtain ⟨h1, h2, h3, h4, h5, h6, h7, h8⟩ := e2
      subst h1 h2 h3 h4 h5 h6 h7 h8
      obtain ⟨k1, k2⟩ := ba c2
      refine ⟨n8, ⟨oc, od, osl, n9, n10, n11, n12, n13, n14, rfl, k1⟩, fun hd => ?_, fun hd => ?_⟩
      · cases n8 with
        | none => rfl
        | ref T =>
          have k3 : (d.dfl && _) = true := k2
          rw [hd] at k3
          cases k3
        | _ => cases k2
      · cases n8 with
        | none =>
          have k3 : (!d.dfl) = true := k2
          rw [hd] at k3
          cases k3
        | ref T =>
          obtain ⟨_, k3⟩ := ba (show (d.dfl && (match K.lookup T with
            | some ⟨_, _, .seq _ _, _⟩ => true
            | _ => false)) = true from k2)
          cases q2 : K.lookup T with
          | none =>
            rw [q2] at k3
            cases k3
          | some o2 =>
            obtain ⟨oc2, od2, dt2, osl2⟩ := o2
            rw [q2] at k3
            cases dt2 with
            | seq its n => exact ⟨_, its, n, rfl, rfl, rfl⟩
            | _ => cases k3
        | _ => cases k2
    | _ => cases c2
/-! ### the Hook -/
/-- what an object names, as far as it is looked at -/
def nx (g : Addr → Option Obj) (a : Addr) : List Addr := match g a with
  | some o => (match o.data with
    | .func fd => refV fd.code ++ refV fd.defaults
    | .cls cd => [cd.ns]
    | .dict es _ => es.toList.flatMap fun e => refV e.val
    | .seq its _ => its.toList.flatMap refV
    | .fields vs => (match o.cls with
      | .type c => (match c == "property" || c == "classmethod" with
        | true => (vs.toList.take 1).flatMap refV
        | false => [])
      | _ => [])
    | _ => [])
  | none => []
def lvl (g : Addr → Option Obj) : Nat → List Addr → List Addr
  | 0, _ => []
  | n + 1, as => as ++ lvl g n (as.flatMap (nx g))
/-- the part of the heap that is looked at -/
def frR (n : Nat) (g : Addr → Option Obj) : PySem.W.Frag := frT g (mainGlobals :: cStatics :: lvl g n (nx g mainGlobals))
abbrev AlR : Type := Bool × List FnW
def obsR (n : Nat) (fn : List DefR) (tf : List Defn) (ex : PySem.W.Frag → Bool) (g : Addr → Option Obj) : AlR := (ex (frR n g) && (tabsB g tf (frR n g) && fn.all fun d => d.ok (frR n g)), fn.map fun d => fnA (frR n g) (d.at_ (frR n g)))
def valR (fn : List DefR) : AlR := (true, fn.map DefR.val)
structure SaysR (fn : List DefR) (tf : List Defn) (ex : PySem.W.Frag → Bool) (h : Heap) (K : PySem.W.Frag) : Prop where
  more : ex K = true
  defs : ∀ d ∈ fn, d.ok K = true
  fns : fn.map (fun d => fnA K (d.at_ K)) = fn.map DefR.val
  hd : ∀ p ∈ tf, PySem.W.codeHdIn K (cT K p).1 (cT K p).2 = true
  out : ∀ p ∈ tf, K.lookup (cT K p).2 = none
  empty : ∀ p ∈ tf, h.get? (cT K p).2 = some { cls := .none, data := .fields #[] }
theorem saysR_of {n : Nat} {fn : List DefR} {tf : List Defn} {ex : PySem.W.Frag → Bool} {h : Heap} (e : obsR n fn tf ex h.get? = valR fn) : SaysR fn tf ex h (frR n h.get?) := by
  have e1 : (ex (frR n h.get?) && (tabsB h.get? tf (frR n h.get?) && fn.all fun d => d.ok (frR n h.get?))) = true := congrArg (fun z : AlR => z.1) e
  obtain ⟨h1, h2⟩ := ba e1
  obtain ⟨h2, h3⟩ := ba h2
  have key : ∀ p ∈ tf, PySem.W.codeHdIn (frR n h.get?) (cT (frR n h.get?) p).1 (cT (frR n h.get?) p).2 = true ∧ ∃ o, h.get? (cT (frR n h.get?) p).2 = some o ∧ emptyTab o = true := fun p hp => by
    obtain ⟨h3, h4⟩ := ba (List.all_eq_true.mp h2 p hp)
    refine ⟨h3, ?_⟩
    cases q : h.get? (cT (frR n h.get?) p).2 with
    | none =>
      rw [q] at h4
      cases h4
    | some o =>
      rw [q] at h4
      exact ⟨o, rfl, h4⟩
  exact ⟨h1, fun d hd => List.all_eq_true.mp h3 d hd, congrArg (fun z : AlR => z.2) e, fun p hp => (key p hp).1, fun p hp => by
    obtain ⟨_, o, q, z⟩ := key p hp
    exact frT_none q z, fun p hp => by
    obtain ⟨_, o, q, z⟩ := key p hp
    rw [q, emptyTab_eq z]⟩
def hookR (n : Nat) (fn : List DefR) (tf : List Defn) (ex : PySem.W.Frag → Bool) : PySem.W.Hook where
  α := AlR
  obs := fun s => obsR n fn tf ex s.heap.get?
  val := fun _ => valR fn
  says := fun _ h => ∃ K : PySem.W.Frag, K.In h ∧ SaysR fn tf ex h K
  of := fun _ _ e => ⟨_, frT_in, saysR_of e⟩
  keeps := fun _ _ _ ⟨K, hK, c⟩ k => ⟨K, PySem.W.Frag.In.keeps hK k, ⟨c.more, c.defs, c.fns, c.hd, c.out, fun p hp => k _ _ (c.empty p hp)⟩⟩
theorem obsR_eq {n : Nat} {fn : List DefR} {tf : List Defn} {ex : PySem.W.Frag → Bool} {g : Addr → Option Obj} {s : Shared} (h : ∀ a, g a = s.heap.get? a) : obsR n fn tf ex g = (hookR n fn tf ex).obs s := by
  have e : g = s.heap.get? := funext h
  rw [e] <;> rfl
section
variable {fn : List DefR} {tf : List Defn} {h : Heap} {K : PySem.W.Frag}
theorem SaysR.def_ {ex : PySem.W.Frag → Bool} (c : SaysR fn tf ex h K) (i : Nat) {d : DefR} (hi : fn[i]? = some d := by rfl) : PySem.W.keepIn K (.ref (d.at_ K)) = true ∧ ∃ dV, d.Is K dV ∧ (d.dfl = false → dV = .none) ∧ (d.dfl = true → ∃ oT its n, dV = .ref (dfT K (d.at_ K)) ∧ K.lookup (dfT K (d.at_ K)) = some oT ∧ oT.data = .seq its n) := by
  have e2 : (fn.map fun d => fnA K (d.at_ K))[i]? = (fn.map DefR.val)[i]? := by rw [c.fns]
  rw [List.getElem?_map, List.getElem?_map, hi] at e2
  exact DefR.is (Option.some.inj e2) (c.defs d (List.mem_of_getElem? hi))
theorem SaysR.def0 {ex : PySem.W.Frag → Bool} (c : SaysR fn tf ex h K) (i : Nat) {d : DefR} (hi : fn[i]? = some d := by rfl) (hd : d.dfl = false := by rfl) : PySem.W.keepIn K (.ref (d.at_ K)) = true ∧ d.Is K .none := by
  obtain ⟨k, dV, a, b, _⟩ := c.def_ i hi
  rw [b hd] at a
  exact ⟨k, a⟩
theorem SaysR.def1 {ex : PySem.W.Frag → Bool} (c : SaysR fn tf ex h K) (i : Nat) {d : DefR} (hi : fn[i]? = some d := by rfl) (hd : d.dfl = true := by rfl) : PySem.W.keepIn K (.ref (d.at_ K)) = true ∧ d.Is K (.ref (dfT K (d.at_ K))) ∧ ∃ oT its n, K.lookup (dfT K (d.at_ K)) = some oT ∧ oT.data = .seq its n := by
  obtain ⟨k, dV, a, _, b⟩ := c.def_ i hi
  obtain ⟨oT, its, n, e, h1, h2⟩ := b hd
  rw [e] at a
  exact ⟨k, a, oT, its, n, h1, h2⟩
theorem SaysR.get {chk : PySem.W.Frag → List Bool} (c : SaysR fn tf (fun K => (chk K).all id) h K) (i : Nat) {b : Bool} (hi : (chk K)[i]? = some b := by rfl) : b = true := List.all_eq_true.mp c.more b (List.mem_of_getElem? hi)
theorem SaysR.dec {chk : PySem.W.Frag → List Bool} (c : SaysR fn tf (fun K => (chk K).all id) h K) (i : Nat) {p : Prop} {d : Decidable p} (hi : (chk K)[i]? = some (@decide p d) := by rfl) : p := of_decide_eq_true (c.get i hi)
end
end RBH
namespace RBH
open PySem PySem.Spec PyProof.Rows L2 He
/-- a tuple of one -/
def oneB (K : PySem.W.Frag) (T : Addr) : Bool := match K.lookup T with
  | some ⟨_, _, .seq its _, _⟩ => decide (its.size = 1)
  | _ => false
theorem one_ok {K : PySem.W.Frag} {T : Addr} (h : oneB K T = true) : ∃ (oT : Obj) (z : Value) (n : Nat), K.lookup T = some oT ∧ oT.data = .seq #[z] n := by
  unfold oneB at h
  cases q : K.lookup T with
  | none =>
    rw [q] at h
    cases h
  | some o =>
    obtain ⟨oc, od, dt, osl⟩ := o
    rw [q] at h
    cases dt with
    | seq its n =>
      have h1 : its.size = 1 := of_decide_eq_true h
      obtain ⟨l⟩ := its
      match l, h1 with
      | [z], _ => exact ⟨_, z, n, rfl, rfl⟩
    | _ => cases h
end RBH

set_option Elab.async false
set_option linter.all false
set_option maxRecDepth 100000
set_option maxHeartbeats 2000000
namespace RBH
open PySem PySem.Spec PyProof.Rows L2 He RB PD
/-! ### a constant of the top as a datum -/
def allB {α β : Type} (f : α → β → Bool) : List α → List β → Bool
  | [], [] => true
  | x :: xs, y :: ys => f x y && allB f xs ys
  | _, _ => false
def datB (K : PySem.W.Frag) : Nat → Value → Dat → Bool
  | 0, _, _ => false
  | n + 1, u, d => match u, d with
    | .none, .non => true
    | .bool b, .bl c => b == c
    | .int i _, .int j => decide (i = j)
    | .str x _, .str y => decide (x = y)
    | .ref a, .tup ds => (match K.lookup a with
      | some ⟨.type c, _, .seq its _, _⟩ => decide (c = "tuple") && (decide (its.size ≤ 100000) && allB (datB K n) its.toList ds)
      | _ => false)
    | _, _ => false
theorem allB_ok {K : PySem.W.Frag} {f : Value → Dat → Bool} (hf : ∀ u d, f u d = true → ∃ v, RelV v u ∧ ∀ H, DV K H v d) : ∀ {us : List Value} {ds : List Dat}, allB f us ds = true → ∃ vs, Vals vs us ∧ ∀ H, DVs K H vs ds
  | [], [], _ => ⟨[], .nil, fun H => .nil⟩
  | u :: us, d :: ds, h => by
    obtain ⟨h1, h2⟩ := ba (show (f u d && allB f us ds) = true from h)
    obtain ⟨v, r, q⟩ := hf u d h1
    obtain ⟨vs, rs, qs⟩ := allB_ok hf h2
    exact ⟨v :: vs, .cons r rs, fun H => .cons (q H) (qs H)⟩
  | [], _ :: _, h => by cases h
  | _ :: _, [], h => by cases h
theorem datB_ok {K : PySem.W.Frag} : ∀ {n : Nat} {u : Value} {d : Dat}, datB K n u d = true → ∃ v, RelV v u ∧ ∀ H, DV K H v d
  | 0, _, _, h => by cases h
  | n + 1, u, d, h => by
    unfold datB at h
    split at h
    · exact ⟨.non, rfl, fun H => .non⟩
    · rename_i b c
      have e : b = c := eq_of_beq h
      subst e
      exact ⟨.bl b, rfl, fun H => .bl b⟩
    · rename_i i t j
      have e : i = j := of_decide_eq_true h
      subst e
      exact ⟨.int i, ⟨t, rfl⟩, fun H => .int i⟩
    · rename_i x t y
      have e : x = y := of_decide_eq_true h
      subst e
      exact ⟨.str x, ⟨t, rfl⟩, fun H => .str x⟩
    · rename_i a ds
      split at h
      · rename_i c dd its m sl e
        obtain ⟨h1, h2⟩ := ba h
        obtain ⟨h3, h4⟩ := ba h2
        have h1 : c = "tuple" := of_decide_eq_true h1
        have h3 : its.size ≤ 100000 := of_decide_eq_true h3
        subst h1
        obtain ⟨vs, rs, qs⟩ := allB_ok (fun u d h => datB_ok (n := n) h) h4
        have hl : vs.length = its.size := by rw [rs.length]; simp
        exact ⟨.ref a, rfl, fun H => .tup (.inr ⟨_, its, m, e, rfl, rfl, line5 h3, rs⟩) (by omega) (qs H)⟩
      · cases h
    · cases h
theorem dat_ref {K : PySem.W.Frag} {n : Nat} {a : Addr} {d : Dat} (h : datB K n (.ref a) d = true) : ∀ H, DV K H (.ref a) d := by
  obtain ⟨v, r, q⟩ := datB_ok h
  obtain rfl : v = .ref a := RelV.inj r rfl
  exact q
/-- the token of a module's text -/
def sTok (K : PySem.W.Frag) (x : Str) : Tok := match PySem.W.nsIn K mainGlobals x with
  | some (some (.str _ t)) => t
  | _ => default
/-! ### a table -/
def tabB (K : PySem.W.Frag) (a : Addr) (kvs : List (Str × Dat)) : Bool := kvs.all fun p => match PySem.W.nsIn K a p.1 with
  | some (some u) => datB K 8 u p.2
  | _ => false
theorem lookup_mem2 {z : Str} {r : Dat} : ∀ {kvs : List (Str × Dat)}, kvs.lookup z = some r → (z, r) ∈ kvs
  | [], e => by cases e
  | (k, x) :: rest, e => by
    rw [List.lookup_cons] at e
    cases hh : (z == k) with
    | true =>
      rw [hh] at e
      cases e
      rw [eq_of_beq hh]
      exact List.mem_cons_self
    | false =>
      rw [hh] at e
      exact List.mem_cons_of_mem _ (lookup_mem2 e)
theorem lookup_not {z : Str} : ∀ {kvs : List (Str × Dat)}, kvs.lookup z = none → ∀ p ∈ kvs, p.1 ≠ z
  | [], _, p, hp => nomatch hp
  | (k, x) :: rest, e, p, hp => by
    rw [List.lookup_cons] at e
    cases hh : (z == k) with
    | true =>
      rw [hh] at e
      cases e
    | false =>
      rw [hh] at e
      rcases List.mem_cons.mp hp with rfl | hp
      · exact fun q => by
          have q : k = z := q
          rw [q] at hh
          simp at hh
      · exact lookup_not e p hp
theorem nsIn_dict {K : PySem.W.Frag} {a : Addr} {es : Array DictEntry} {n : Nat} {x : Str} (e : K.lookup a = some ⟨.type "dict", none, .dict es n, #[]⟩) : PySem.W.nsIn K a x = (match es.toList.find? (·.key.isStr x) with
    | some e => some (some e.val)
    | none => if es.toList.any (·.refKey) then none else some none) := by
  unfold PySem.W.nsIn
  rw [e]
  rfl
theorem dic_miss {P : Params} {x : Str} : ∀ {l : List DictEntry} {ks : List Str}, l.map He.keyOf = keysIn P ks → x ∉ ks → l.find? (·.key.isStr x) = none ∧ l.any (·.refKey) = false
  | [], _, _, _ => ⟨rfl, rfl⟩
  | e :: r, [], h, _ => by cases h
  | e :: r, k :: ks, h, hx => by
    have h1 : He.keyOf e :: r.map He.keyOf = some (k, PyData.keyHash P k) :: keysIn P ks := h
    injection h1 with h2 h3
    obtain ⟨i1, i2⟩ := dic_miss h3 (fun z => hx (List.mem_cons_of_mem _ z))
    unfold He.keyOf at h2
    split at h2
    · rename_i y t q
      have h4 := Option.some.inj h2
      obtain ⟨h5, h6⟩ := Prod.mk.inj h4
      have ny : y ≠ x := fun z => hx (by rw [← z, h5]; exact List.mem_cons_self)
      have e1 : e.key.isStr x = false := by
        rw [q]
        show (y == x) = false
        exact beq_eq_false_iff_ne.mpr ny
      have e2 : e.refKey = false := by
        unfold DictEntry.refKey
        rw [q]
      refine ⟨?_, ?_⟩
      · rw [List.find?_cons, e1]
        exact i1
      · rw [List.any_cons, e2, i2]
        rfl
    · cases h2
theorem tabF_of {K : PySem.W.Frag} {w : World} {a : Addr} {kvs : List (Str × Dat)} (h : dicW K a = some (keysIn w.params (kvs.map (·.1)))) (hv : tabB K a kvs = true) : (∃ es n, KDict K w a es n) ∧ TabF K w a kvs := by
  obtain ⟨es, n, D⟩ := dicW_ok h
  refine ⟨⟨es, n, D⟩, ⟨es, n, D⟩, fun x d e => ?_, fun x e => ?_⟩
  · have h2 := List.all_eq_true.mp hv _ (lookup_mem2 e)
    have h2 : (match PySem.W.nsIn K a x with
      | some (some u) => datB K 8 u d
      | _ => false) = true := h2
    cases q : PySem.W.nsIn K a x with
    | none => rw [q] at h2; cases h2
    | some r =>
      rw [q] at h2
      cases r with
      | none => cases h2
      | some u =>
        obtain ⟨v, r, hd⟩ := datB_ok h2
        exact ⟨v, ⟨es, n, u, D.at_, D.lit, q, r⟩, hd⟩
  · have hk : es.toList.map He.keyOf = keysIn w.params (kvs.map (·.1)) := by
      unfold dicW at h
      rw [D.at_] at h
      have h1 : (match decide (("dict" : String) = "dict") && ((#[] : Array (Option Value)).isEmpty && !(a == sysModules)) with
            | true => some (es.toList.map He.keyOf)
            | false => none) = some (keysIn w.params (kvs.map (·.1))) := h
      rw [D.low] at h1
      exact Option.some.inj h1
    have hx : x ∉ kvs.map (·.1) := fun z => by
      obtain ⟨p, hp, e2⟩ := List.mem_map.mp z
      exact lookup_not e p hp e2
    obtain ⟨i1, i2⟩ := dic_miss hk hx
    rw [nsIn_dict D.at_, i1, i2]
    rfl
/-! ### the Hook, with tables -/
abbrev TabR : Type := (PySem.W.Frag → Addr) × List Str
abbrev AlRT : Type := AlR × List (Option (List (Option (Str × Int))))
def obsRT (n : Nat) (fn : List DefR) (tf : List Defn) (ts : List TabR) (ex : PySem.W.Frag → Bool) (g : Addr → Option Obj) : AlRT := (obsR n fn tf ex g, ts.map fun t => dicW (frR n g) (t.1 (frR n g)))
def valRT (fn : List DefR) (ts : List TabR) (w : World) : AlRT := (valR fn, ts.map fun t => some (keysIn w.params t.2))
def TabsR (ts : List TabR) (w : World) (K : PySem.W.Frag) : Prop := ts.map (fun t => dicW K (t.1 K)) = ts.map fun t => some (keysIn w.params t.2)
def hookRT (n : Nat) (fn : List DefR) (tf : List Defn) (ts : List TabR) (ex : PySem.W.Frag → Bool) : PySem.W.Hook where
  α := AlRT
  obs := fun s => obsRT n fn tf ts ex s.heap.get?
  val := fun w => valRT fn ts w
  says := fun w h => ∃ K : PySem.W.Frag, K.In h ∧ SaysR fn tf ex h K ∧ TabsR ts w K
  of := fun w s e => ⟨_, frT_in, saysR_of (congrArg (fun z : AlRT => z.1) e), congrArg (fun z : AlRT => z.2) e⟩
  keeps := fun _ _ _ ⟨K, hK, c, t⟩ k => ⟨K, PySem.W.Frag.In.keeps hK k, ⟨c.more, c.defs, c.fns, c.hd, c.out, fun p hp => k _ _ (c.empty p hp)⟩, t⟩
theorem obsRT_eq {n : Nat} {fn : List DefR} {tf : List Defn} {ts : List TabR} {ex : PySem.W.Frag → Bool} {g : Addr → Option Obj} {s : Shared} (h : ∀ a, g a = s.heap.get? a) : obsRT n fn tf ts ex g = (hookRT n fn tf ts ex).obs s := by
  have e : g = s.heap.get? := funext h
  rw [e] <;> rfl
theorem TabsR.get {ts : List TabR} {w : World} {K : PySem.W.Frag} (c : TabsR ts w K) (i : Nat) {t : TabR} (h : ts[i]? = some t := by rfl) : dicW K (t.1 K) = some (keysIn w.params t.2) := by
  have e2 : (ts.map fun t => dicW K (t.1 K))[i]? = (ts.map fun t => some (keysIn w.params t.2))[i]? := by rw [c]
  rw [List.getElem?_map, List.getElem?_map, h] at e2
  exact Option.some.inj e2
end RBH

set_option Elab.async false
set_option linter.all false
set_option maxRecDepth 100000
set_option maxHeartbeats 4000000
namespace RB
open PySem PySem.Spec PyProof.Rows L2 PD
def chk (K : PySem.W.Frag) : List Bool := [
  decide (PySem.W.nsIn K mainGlobals "law" = some (some (.ref (He.ga K "law")))),
  decide (PySem.W.nsIn K mainGlobals "_law_draw" = some (some (.ref (He.ga K "_law_draw")))),
  decide (PySem.W.nsIn K mainGlobals "_law_pick" = some (some (.ref (He.ga K "_law_pick")))),
  decide (PySem.W.nsIn K mainGlobals "_law_gcd" = some (some (.ref (He.ga K "_law_gcd")))),
  decide (PySem.W.nsIn K mainGlobals "_law_low" = some (some (.ref (He.ga K "_law_low")))),
  decide (PySem.W.nsIn K mainGlobals "_law_trim" = some (some (.ref (He.ga K "_law_trim")))),
  decide (PySem.W.nsIn K mainGlobals "_law_value" = some (some (.ref (He.ga K "_law_value")))),
  decide (PySem.W.nsIn K mainGlobals "_law_number_text" = some (some (.ref (He.ga K "_law_number_text")))),
  decide (PySem.W.nsIn K mainGlobals "_law_numbers_text" = some (some (.ref (He.ga K "_law_numbers_text")))),
  decide (PySem.W.nsIn K mainGlobals "_law_parts" = some (some (.ref (He.ga K "_law_parts")))),
  decide (PySem.W.nsIn K mainGlobals "_law_tree" = some (some (.ref (He.ga K "_law_tree")))),
  decide (PySem.W.nsIn K mainGlobals "_law_nodes" = some (some (.ref (He.ga K "_law_nodes")))),
  decide (PySem.W.nsIn K mainGlobals "_law_term_names" = some (some (.ref (He.ga K "_law_term_names")))),
  decide (PySem.W.nsIn K mainGlobals "_law_same" = some (some (.ref (He.ga K "_law_same")))),
  decide (PySem.W.nsIn K mainGlobals "_law_level" = some (some (.ref (He.ga K "_law_level")))),
  decide (PySem.W.nsIn K mainGlobals "_law_text" = some (some (.ref (He.ga K "_law_text")))),
  decide (PySem.W.nsIn K mainGlobals "_law_operand" = some (some (.ref (He.ga K "_law_operand")))),
  decide (PySem.W.nsIn K mainGlobals "operands" = some (some (.ref (He.ga K "operands")))),
  decide (PySem.W.nsIn K mainGlobals "with_operands" = some (some (.ref (He.ga K "with_operands")))),
  decide (PySem.W.nsIn K mainGlobals "put_step" = some (some (.ref (He.ga K "put_step")))),
  decide (PySem.W.nsIn K mainGlobals "planned" = some (some (.ref (He.ga K "planned")))),
  decide (PySem.W.nsIn K mainGlobals "compiled" = some (some (.ref (He.ga K "compiled")))),
  decide (PySem.W.nsIn K mainGlobals "plan_trees" = some (some (.ref (He.ga K "plan_trees")))),
  decide (PySem.W.nsIn K mainGlobals "_law_steps" = some (some (.ref (He.ga K "_law_steps")))),
  decide (PySem.W.nsIn K mainGlobals "_law_compiled" = some (some (.ref (He.ga K "_law_compiled")))),
  decide (PySem.W.nsIn K mainGlobals "_law_wanted_tree" = some (some (.ref (He.ga K "_law_wanted_tree")))),
  decide (PySem.W.nsIn K mainGlobals "_law_draws" = some (some (.ref (He.ga K "_law_draws")))),
  decide (PySem.W.nsIn K mainGlobals "len" = some none),
  decide (PySem.W.nsIn K mainGlobals "abs" = some none),
  decide (PySem.W.nsIn K mainGlobals "list" = some none),
  decide (PySem.W.nsIn K mainGlobals "str" = some none),
  decide (PySem.W.nsIn K mainGlobals "range" = some none),
  decide (PySem.W.nsIn K mainGlobals "tuple" = some none),
  decide (PySem.W.nsIn K mainGlobals "sum" = some none),
  decide (PySem.W.nsIn K mainGlobals "isinstance" = some none),
  decide (PySem.W.nsIn K mainGlobals "int" = some none),
  decide (PySem.W.nsIn K mainGlobals "bool" = some none),
  decide (PySem.W.nsIn K mainGlobals "zip" = some none),
  decide (PySem.W.nsIn K mainGlobals "all" = some none),
  decide (PySem.W.nsIn K mainGlobals "OPERAND_PLACES" = some (some (.ref (He.ga K "OPERAND_PLACES")))),
  RBH.tabB K (He.ga K "OPERAND_PLACES") tab_OPERAND_PLACES]
def fnR : List RBH.DefR := [
  ⟨fun K => He.ga K "law", "law", "law", defArgs sLaw, defBody sLaw, defScope sLaw, false⟩,
  ⟨fun K => He.ga K "_law_draw", "_law_draw", "_law_draw", defArgs sDraw, defBody sDraw, defScope sDraw, false⟩,
  ⟨fun K => He.ga K "_law_pick", "_law_pick", "_law_pick", defArgs sPick, defBody sPick, defScope sPick, false⟩,
  ⟨fun K => He.ga K "_law_gcd", "_law_gcd", "_law_gcd", defArgs sGcd, defBody sGcd, defScope sGcd, false⟩,
  ⟨fun K => He.ga K "_law_low", "_law_low", "_law_low", defArgs sLow, defBody sLow, defScope sLow, false⟩,
  ⟨fun K => He.ga K "_law_trim", "_law_trim", "_law_trim", defArgs s_law_trim, defBody s_law_trim, defScope s_law_trim, false⟩,
  ⟨fun K => He.ga K "_law_value", "_law_value", "_law_value", defArgs s_law_value, defBody s_law_value, defScope s_law_value, false⟩,
  ⟨fun K => He.ga K "_law_number_text", "_law_number_text", "_law_number_text", defArgs s_law_number_text, defBody s_law_number_text, defScope s_law_number_text, false⟩,
  ⟨fun K => He.ga K "_law_numbers_text", "_law_numbers_text", "_law_numbers_text", defArgs s_law_numbers_text, defBody s_law_numbers_text, defScope s_law_numbers_text, false⟩,
  ⟨fun K => He.ga K "_law_parts", "_law_parts", "_law_parts", defArgs s_law_parts, defBody s_law_parts, defScope s_law_parts, false⟩,
  ⟨fun K => He.ga K "_law_tree", "_law_tree", "_law_tree", defArgs s_law_tree, defBody s_law_tree, defScope s_law_tree, false⟩,
  ⟨fun K => He.ga K "_law_nodes", "_law_nodes", "_law_nodes", defArgs s_law_nodes, defBody s_law_nodes, defScope s_law_nodes, false⟩,
  ⟨fun K => He.ga K "_law_term_names", "_law_term_names", "_law_term_names", defArgs s_law_term_names, defBody s_law_term_names, defScope s_law_term_names, false⟩,
  ⟨fun K => He.ga K "_law_same", "_law_same", "_law_same", defArgs sSame, defBody sSame, defScope sSame, false⟩,
  ⟨fun K => He.ga K "_law_level", "_law_level", "_law_level", defArgs s_law_level, defBody s_law_level, defScope s_law_level, false⟩,
  ⟨fun K => He.ga K "_law_text", "_law_text", "_law_text", defArgs s_law_text, defBody s_law_text, defScope s_law_text, false⟩,
  ⟨fun K => He.ga K "_law_operand", "_law_operand", "_law_operand", defArgs s_law_operand, defBody s_law_operand, defScope s_law_operand, false⟩,
  ⟨fun K => He.ga K "operands", "operands", "operands", defArgs s_operands, defBody s_operands, defScope s_operands, false⟩,
  ⟨fun K => He.ga K "with_operands", "with_operands", "with_operands", defArgs s_with_operands, defBody s_with_operands, defScope s_with_operands, false⟩,
  ⟨fun K => He.ga K "put_step", "put_step", "put_step", defArgs s_put_step, defBody s_put_step, defScope s_put_step, false⟩,
  ⟨fun K => He.ga K "planned", "planned", "planned", defArgs s_planned, defBody s_planned, defScope s_planned, false⟩,
  ⟨fun K => He.ga K "compiled", "compiled", "compiled", defArgs s_compiled, defBody s_compiled, defScope s_compiled, false⟩,
  ⟨fun K => He.ga K "plan_trees", "plan_trees", "plan_trees", defArgs s_plan_trees, defBody s_plan_trees, defScope s_plan_trees, false⟩,
  ⟨fun K => He.ga K "_law_steps", "_law_steps", "_law_steps", defArgs s_law_steps, defBody s_law_steps, defScope s_law_steps, false⟩,
  ⟨fun K => He.ga K "_law_compiled", "_law_compiled", "_law_compiled", defArgs s_law_compiled, defBody s_law_compiled, defScope s_law_compiled, false⟩,
  ⟨fun K => He.ga K "_law_wanted_tree", "_law_wanted_tree", "_law_wanted_tree", defArgs s_law_wanted_tree, defBody s_law_wanted_tree, defScope s_law_wanted_tree, false⟩,
  ⟨fun K => He.ga K "_law_draws", "_law_draws", "_law_draws", defArgs sDraws, defBody sDraws, defScope sDraws, false⟩]
def tfR : List He.Defn := []
def tsR : List RBH.TabR := [
  (fun K => He.ga K "OPERAND_PLACES", tab_OPERAND_PLACES.map (·.1))]
structure ZZ (w : World) (K : PySem.W.Frag) (h : Heap) (mg : Str → Option Value) : Prop where
  X : K.In h
  G : h.Ns mainGlobals mg
  c : RBH.SaysR fnR tfR (fun K => (chk K).all id) h K
  tt : RBH.TabsR tsR w K
end RB

set_option Elab.async false
set_option linter.all false
set_option maxRecDepth 100000
set_option maxHeartbeats 4000000
namespace RB
open PySem PySem.Spec PyProof.Rows L2 PD
abbrev RR : PySem.W.OpenRow := PySem.W.OpenLaw.row PySem.Challenge.rw_rootbags_k58_plans_of_trees
abbrev hkR : PySem.W.Hook := RBH.hookRT 5 fnR tfR tsR (fun K => (chk K).all id)
def obR (s : PySem.W.SharedT) : RBH.AlRT := RBH.obsRT 5 fnR tfR tsR (fun K => (chk K).all id) (HandSHeadRun.getT s)
theorem obR_eq (s : PySem.W.SharedT) : obR s = hkR.obs s.abs := RBH.obsRT_eq (HandSHeadRun.getT_eq s)
def looseR : List PySem.Str := (["operands", "with_operands", "put_step", "planned", "compiled", "plan_trees", "_law_draws", "_law_draw", "_law_pick", "_law_same", "_law_gcd", "_law_low", "_law_trim", "_law_value", "_law_tree", "_law_number_text", "_law_numbers_text", "_law_level", "_law_operand", "_law_text", "_law_parts", "_law_nodes", "_law_term_names", "_law_wanted_tree", "_law_steps", "_law_compiled", "OPERAND_PLACES"] : List PySem.Str)
theorem runR (w : World) : HandSHeadRun.RunEq RR (PySem.W.view RR.prog [30]) hkR obR 60000 looseR w :=
  PySem.W.byRow2 "special-get-raises" (P := fun w => HandSHeadRun.RunEq RR (PySem.W.view RR.prog [30]) hkR obR 60000 looseR w) (fun w => by
    intro os
    kernel_rfl) (fun w => by
    intro os
    kernel_rfl) w
end RB

set_option Elab.async false
set_option linter.all false
set_option maxRecDepth 100000
set_option maxHeartbeats 4000000
namespace RB
open PySem PySem.Spec PyProof.Rows L2 PD
abbrev sok (a : Str) : Prop := PyData.strOk a = true
theorem ix_nat {ts : List Dat} {i : Nat} {d : Dat} (h : ts[i]? = some d) : oIx (.lst ts) (.int i) = some d := atI_nat h
abbrev S' (l : List Nat) : Str := ⟨l.toArray⟩
theorem S'_len (l : List Nat) : (S' l).length = l.length := by simp [S', Str.length]
theorem S'_of (w : Str) : S' w.cps.toList = w := TL.mk_tl w
theorem S'_tl (l : List Nat) : (S' l).cps.toList = l := by simp [S']
structure RatOk (x : Int × Nat) : Prop where
  pos : 0 < x.2
  lt : x.2 < 1000
  cop : Int.gcd x.1 x.2 = 1
  sm : x.1.natAbs < 10 ^ 9
def qD (x : Int × Nat) : Dat := .tup [.int x.1, .int x.2]
def Ended (xs : List (Int × Nat)) : Prop := ∀ x, xs.getLast? = some x → x ≠ (0, 1)
inductive Op where
  | jo | su | di | pr | qu
def Op.word : Op → Str
  | .jo => "join" | .su => "sum" | .di => "difference" | .pr => "product" | .qu => "quotient"
def Op.s : Op → Int
  | .jo => 1 | .su => 2 | .di => 2 | .pr => 3 | .qu => 3
theorem Op.s1 (o : Op) : 1 ≤ o.s ∧ o.s ≤ 3 := by cases o <;> decide
inductive Tr where
  | name (w : Str) | list (qs : List (Int × Nat)) | unity (m : Nat) | roots (qs : List (Int × Nat))
  | neg (t : Tr) | pow (t : Tr) (m : Nat) | map (qs : List (Int × Nat)) (t : Tr) | cho (b : Bool) (t : Tr) (m : Nat) | dist (t : Tr) | two (b : Bool) (x y : Tr) | bin (op : Op) (x y : Tr)
namespace Tr
def choW (b : Bool) : Str := if b then "sums" else "products"
def twoW (b : Bool) : Str := if b then "common" else "without"
def lv : Tr → Int
  | neg _ => 4
  | pow _ _ => 5
  | bin op _ _ => op.s
  | _ => 6
def dat : Tr → Dat
  | name w => .tup [.str "name", .str w]
  | list qs => .tup [.str "list", .tup (qs.map qD)]
  | unity m => .tup [.str "unity", .int m]
  | roots qs => .tup [.str "roots", .tup (qs.map qD)]
  | neg t => .tup [.str "negative", t.dat]
  | pow t m => .tup [.str "power", t.dat, .int m]
  | map qs t => .tup [.str "map", .tup (qs.map qD), t.dat]
  | cho b t m => .tup [.str (choW b), t.dat, .int m]
  | dist t => .tup [.str "distinct", t.dat]
  | two b x y => .tup [.str (twoW b), x.dat, y.dat]
  | bin op x y => .tup [.str op.word, x.dat, y.dat]
def hgt : Tr → Nat
  | neg t => t.hgt + 1
  | pow t _ => t.hgt + 1
  | map _ t => t.hgt + 1
  | cho _ t _ => t.hgt + 1
  | dist t => t.hgt + 1
  | two _ x y => max x.hgt y.hgt + 1
  | bin _ x y => max x.hgt y.hgt + 1
  | _ => 1
def size : Tr → Int
  | neg t => t.size + 1
  | pow t _ => t.size + 1
  | map _ t => t.size + 1
  | cho _ t _ => t.size + 1
  | dist t => t.size + 1
  | two _ x y => x.size + y.size + 1
  | bin _ x y => x.size + y.size + 1
  | _ => 1
def QsOk (qs : List (Int × Nat)) : Prop := (∀ x ∈ qs, RatOk x) ∧ qs.length < 900
def Ok : Tr → Prop
  | name w => RB.sok w
  | list qs => QsOk qs
  | unity m => m < 10 ^ 9
  | roots qs => QsOk qs ∧ Ended qs ∧ qs ≠ []
  | neg t => t.Ok
  | pow t m => t.Ok ∧ m < 10 ^ 9
  | map qs t => QsOk qs ∧ Ended qs ∧ t.Ok
  | cho _ t m => t.Ok ∧ m < 10 ^ 9
  | dist t => t.Ok
  | two _ x y => x.Ok ∧ y.Ok
  | bin _ x y => x.Ok ∧ y.Ok
end Tr
/-! ### how deep the data are -/
def Lay (d : Dat) (k : Nat) : Prop := PyData.canLay0 d.pd = true ∧ d.pd.depth ≤ k
theorem lay_str {a : Str} (h : sok a) (k : Nat) : Lay (.str a) k := ⟨h, Nat.zero_le _⟩
theorem lay_int (i : Int) (k : Nat) : Lay (.int i) k := ⟨rfl, Nat.zero_le _⟩
theorem lays {k : Nat} : ∀ {ds : List Dat}, (∀ d ∈ ds, Lay d k) → PyData.canLayAll0 (pds ds) = true ∧ PyData.depthAll (pds ds) ≤ k
  | [], _ => ⟨rfl, Nat.zero_le _⟩
  | d :: ds, h => by
    obtain ⟨a, b⟩ := lays (fun z hz => h z (List.mem_cons_of_mem _ hz))
    obtain ⟨e, g⟩ := h d (List.mem_cons_self ..)
    refine ⟨?_, ?_⟩
    · show (PyData.canLay0 d.pd && PyData.canLayAll0 (pds ds)) = true
      rw [e, a]
      rfl
    · show max d.pd.depth (PyData.depthAll (pds ds)) ≤ k
      omega
theorem lay_tup {k : Nat} {ds : List Dat} (h : ∀ d ∈ ds, Lay d k) : Lay (.tup ds) (k + 1) := ⟨(lays h).1, Nat.succ_le_succ (lays h).2⟩
theorem lay_lst {k : Nat} {ds : List Dat} (h : ∀ d ∈ ds, Lay d k) : Lay (.lst ds) (k + 1) := ⟨(lays h).1, Nat.succ_le_succ (lays h).2⟩
theorem Lay.mono {d : Dat} {j k : Nat} (h : Lay d j) (hk : j ≤ k) : Lay d k := ⟨h.1, Nat.le_trans h.2 hk⟩
theorem Lay.shaped {d : Dat} {k : Nat} (h : Lay d k) (hk : k ≤ 64) : SeqAt.shaped d.pd = true := by
  show (PyData.canLay0 d.pd && decide (d.pd.depth ≤ 64)) = true
  rw [h.1, decide_eq_true (Nat.le_trans h.2 hk)]
  rfl
theorem lay_qs (qs : List (Int × Nat)) : Lay (.tup (qs.map qD)) 2 := lay_tup fun d hd => by
  obtain ⟨x, _, rfl⟩ := List.mem_map.mp hd
  exact lay_tup fun e he => by
    simp only [List.mem_cons, List.not_mem_nil, or_false] at he
    rcases he with rfl | rfl <;> exact lay_int _ _
theorem lay_two {a b : Dat} {k : Nat} (ha : Lay a k) (hb : Lay b k) : Lay (.tup [a, b]) (k + 1) := lay_tup fun e he => by
  simp only [List.mem_cons, List.not_mem_nil, or_false] at he
  rcases he with rfl | rfl <;> assumption
theorem lay_three {a b c : Dat} {k : Nat} (ha : Lay a k) (hb : Lay b k) (hc : Lay c k) : Lay (.tup [a, b, c]) (k + 1) := lay_tup fun e he => by
  simp only [List.mem_cons, List.not_mem_nil, or_false] at he
  rcases he with rfl | rfl | rfl <;> assumption
theorem Tr.lay : ∀ {t : Tr}, t.Ok → Lay t.dat (t.hgt + 2)
  | .name w, h => lay_two (lay_str (by decide +kernel) _) (lay_str h _)
  | .list qs, h => lay_two (lay_str (by decide +kernel) _) (lay_qs qs)
  | .unity m, h => lay_two (lay_str (by decide +kernel) _) (lay_int _ _)
  | .roots qs, h => lay_two (lay_str (by decide +kernel) _) (lay_qs qs)
  | .neg t, h => lay_two (lay_str (by decide +kernel) _) (Tr.lay (t := t) h)
  | .pow t m, h => lay_three (lay_str (by decide +kernel) _) (Tr.lay h.1) (lay_int _ _)
  | .map qs t, h => lay_three (lay_str (by decide +kernel) _) ((lay_qs qs).mono (by show 2 ≤ t.hgt + 2; omega)) (Tr.lay h.2.2)
  | .cho b t m, h => lay_three (lay_str (by cases b <;> decide +kernel) _) (Tr.lay h.1) (lay_int _ _)
  | .dist t, h => lay_two (lay_str (by decide +kernel) _) (Tr.lay (t := t) h)
  | .two b x y, h => lay_three (lay_str (by cases b <;> decide +kernel) _) ((Tr.lay h.1).mono (by show x.hgt + 2 ≤ max x.hgt y.hgt + 2; omega)) ((Tr.lay h.2).mono (by show y.hgt + 2 ≤ max x.hgt y.hgt + 2; omega))
  | .bin op x y, h => lay_three (lay_str (by cases op <;> decide +kernel) _) ((Tr.lay h.1).mono (by show x.hgt + 2 ≤ max x.hgt y.hgt + 2; omega)) ((Tr.lay h.2).mono (by show y.hgt + 2 ≤ max x.hgt y.hgt + 2; omega))
theorem Tr.hgt_pos : ∀ (t : Tr), 1 ≤ t.hgt := fun t => by cases t <;> simp [Tr.hgt]
theorem Tr.lv_pos : ∀ (t : Tr), 1 ≤ t.lv := fun t => by
  cases t <;> first | exact (Op.s1 _).1 | simp [Tr.lv]
def Op.code : Op → Nat
  | .jo => 124 | .su => 43 | .di => 45 | .pr => 42 | .qu => 47
def Tr.Nm : Tr → Prop
  | .name w => (∀ c ∈ w.cps.toList, 97 ≤ c ∧ c ≤ 122) ∧ 1 ≤ w.cps.toList.length ∧ w.cps.toList.length ≤ 8
  | .neg t => t.Nm
  | .pow t _ => t.Nm
  | .map _ t => t.Nm
  | .cho _ t _ => t.Nm
  | .dist t => t.Nm
  | .two _ x y => x.Nm ∧ y.Nm
  | .bin _ x y => x.Nm ∧ y.Nm
  | _ => True
end RB

set_option Elab.async false
set_option linter.all false
set_option maxRecDepth 100000
set_option maxHeartbeats 4000000
namespace RB
open PySem PySem.Spec PyProof.Rows L2 PD
/-! ### codes of texts -/
theorem S'_app (a b : List Nat) : S' (a ++ b) = S' a ++ S' b := by
  show (⟨(a ++ b).toArray⟩ : Str) = ⟨a.toArray ++ b.toArray⟩
  simp
theorem S'_cons (a : Nat) (b : List Nat) : S' (a :: b) = S' [a] ++ S' b := S'_app [a] b
theorem str_assoc (a b c : Str) : a ++ b ++ c = a ++ (b ++ c) := by
  show (⟨a.cps ++ b.cps ++ c.cps⟩ : Str) = ⟨a.cps ++ (b.cps ++ c.cps)⟩
  rw [Array.append_assoc]
theorem S'_nil : S' [] = ("" : Str) := by decide +kernel
theorem str_empty (a : Str) : a ++ ("" : Str) = a := by
  show (⟨a.cps ++ ("" : Str).cps⟩ : Str) = a
  have : ("" : Str).cps = #[] := by decide +kernel
  rw [this]
  simp
theorem str_len (a b : Str) : (a ++ b).length = a.length + b.length := by
  show (a.cps ++ b.cps).size = _
  rw [Array.size_append]
  rfl
theorem e47 : S' [47] = ("/" : Str) := by decide +kernel
theorem S'_S (l : List Nat) : SX.S l = S' l := rfl
theorem oStr_ {i : Int} {Q : Dat → Prop} (h : i.natAbs < 10 ^ 300) : OW (oStr [.int i]) Q ↔ Q (.str (S' (numT i))) := by
  have e : oStr [.int i] = if i.natAbs.log2 < 1920 then some (.str (toString i)) else none := rfl
  have l : i.natAbs.log2 < 1920 := by
    by_cases z : i.natAbs = 0
    · rw [z]; decide
    · rw [Nat.log2_lt z]
      exact Nat.lt_trans h (by decide)
  rw [e, if_pos l, num_T]
  exact Iff.rfl
theorem numT_nat (v : Nat) : numT (v : Int) = TL.numL v := by
  unfold numT
  rw [if_neg (by omega)]
  simp
def ratX (x : Int × Nat) : List Nat := numT x.1 ++ (if x.2 = 1 then [] else 47 :: TL.numL x.2)
def moreX : List (Int × Nat) → List Nat
  | [] => []
  | y :: ys => 44 :: 32 :: (ratX y ++ moreX ys)
def ratsX : List (Int × Nat) → List Nat
  | [] => []
  | x :: xs => ratX x ++ moreX xs
def parX (b : Bool) (L : List Nat) : List Nat := if b then 40 :: (L ++ [41]) else L
def callX (w : Str) (L : List Nat) : List Nat := w.cps.toList ++ 40 :: (L ++ [41])
def polyX (qs : List (Int × Nat)) : List Nat := 91 :: (ratsX qs ++ [93])
def Tr.tx : Tr → List Nat
  | .name w => w.cps.toList
  | .list qs => 123 :: (ratsX qs ++ [125])
  | .unity m => callX "unity" (TL.numL m)
  | .roots qs => callX "roots" (polyX qs)
  | .neg t => 45 :: parX (decide (t.lv < 4)) t.tx
  | .pow t m => parX (decide (t.lv < 5)) t.tx ++ 32 :: 94 :: 32 :: TL.numL m
  | .map qs t => callX "map" (polyX qs ++ 44 :: 32 :: t.tx)
  | .cho b t m => callX (Tr.choW b) (t.tx ++ 44 :: 32 :: TL.numL m)
  | .dist t => callX "distinct" t.tx
  | .two b x y => callX (Tr.twoW b) (x.tx ++ 44 :: 32 :: y.tx)
  | .bin op x y => parX (decide (x.lv < op.s)) x.tx ++ 32 :: op.code :: 32 :: parX (decide (y.lv < op.s + 1)) y.tx
/-! ### texts of rationals: the law's, the program's -/
theorem numT_len' {i : Int} (h : i.natAbs < 10 ^ 9) : (numT i).length ≤ 10 := by
  have := TL.numL_len (k := 9) (by decide) h
  unfold numT
  split
  · rw [List.length_cons]; omega
  · omega
theorem numL_len' {v : Nat} (h : v < 10 ^ 9) : (TL.numL v).length ≤ 9 := TL.numL_len (k := 9) (by decide) h
theorem ratX_len {x : Int × Nat} (h : RatOk x) : (ratX x).length ≤ 20 := by
  have a := numT_len' h.sm
  have b := numL_len' (Nat.lt_trans h.lt (by decide : 1000 < 10 ^ 9))
  unfold ratX
  split <;> simp <;> omega
theorem law_number_text {x : Int × Nat} (h : RatOk x) : F_law_number_text [qD x] = .ok (.str (S' (ratX x))) := by
  have h1 : x.1.natAbs < 10 ^ 300 := Nat.lt_trans h.sm (by decide)
  have h2 : ((x.2 : Nat) : Int).natAbs < 10 ^ 300 := by rw [Int.natAbs_natCast]; exact Nat.lt_trans h.lt (by decide)
  have l1 := numT_len' h.sm
  have l2 := numL_len' (Nat.lt_trans h.lt (by decide : 1000 < 10 ^ 9))
  refine FW.eq (fw_run ?_)
  simp [B_law_number_text, startD, qD, oStr_ h1, oStr_ h2]
  by_cases g : x.2 = 1
  · have g' : ((x.2 : Nat) : Int) = 1 := by omega
    simp [g', g, S'_len]
    refine ⟨?_, ?_⟩
    · have : (("" : Str)).length = 0 := by decide +kernel
      omega
    · simp [ratX, g, str_empty]
  · have g' : ¬ ((x.2 : Nat) : Int) = 1 := by omega
    simp [g', g, S'_len, numT_nat, str_len]
    have : (("/" : Str)).length = 1 := by decide +kernel
    refine ⟨by omega, by omega, ?_⟩
    simp only [ratX, if_neg g]
    rw [S'_app, S'_cons, e47]
end RB

set_option Elab.async false
set_option linter.all false
set_option maxRecDepth 100000
set_option maxHeartbeats 4000000
namespace RB
open PySem PySem.Spec PyProof.Rows L2 PD
theorem strs_map {α : Type} (f : α → Str) : ∀ xs : List α, strsOf (xs.map fun x => Dat.str (f x)) = some (xs.map f)
  | [] => rfl
  | x :: xs => by
    show (strsOf (xs.map fun x => Dat.str (f x))).map (f x :: ·) = _
    rw [strs_map f xs]
    rfl
theorem joinL_rats : ∀ xs : List (Int × Nat), TL.joinL [44, 32] (xs.map ratX) = ratsX xs
  | [] => rfl
  | [x] => by simp [TL.joinL, ratsX, moreX]
  | x :: y :: xs => by
    have ih := joinL_rats (y :: xs)
    simp only [List.map_cons] at ih ⊢
    simp only [TL.joinL] at ih ⊢
    rw [ih]
    simp [ratsX, moreX]
theorem join_rats (xs : List (Int × Nat)) : Txt.join (", " : Str) (xs.map fun x => S' (ratX x)) = S' (ratsX xs) := by
  have e : (", " : Str) = SX.S [44, 32] := by decide +kernel
  have e2 : (xs.map fun x => S' (ratX x)) = (xs.map ratX).map SX.S := by
    rw [List.map_map]
    rfl
  rw [e, e2, SX.join_S, joinL_rats]
theorem sum_lens : ∀ xs : List (Int × Nat), (∀ x ∈ xs, RatOk x) → ((xs.map fun x => S' (ratX x)).map (·.length)).sum ≤ 20 * xs.length
  | [], _ => Nat.le_refl _
  | x :: xs, h => by
    have a := ratX_len (h x (by simp))
    have b := sum_lens xs fun z hz => h z (by simp [hz])
    simp only [List.map_cons, List.sum_cons, List.length_cons, S'_len] at b ⊢
    omega
theorem oJoin_rats {xs : List (Int × Nat)} {Q : Dat → Prop} (h : Tr.QsOk xs) (q : Q (.str (S' (ratsX xs)))) : OW (oJoin (.str ", ") [.lst (xs.map fun x => Dat.str (S' (ratX x)))]) Q := by
  have e : oJoin (.str ", ") [.lst (xs.map fun x => Dat.str (S' (ratX x)))] = (strsOf (xs.map fun x => Dat.str (S' (ratX x)))).bind fun ys => if (ys.map (·.length)).sum + ys.length * (", " : Str).length ≤ 16777216 then some (.str (Txt.join (", " : Str) ys)) else none := rfl
  rw [e, strs_map]
  have l := sum_lens xs h.1
  have c : (", " : Str).length = 2 := by decide +kernel
  have b := h.2
  simp only [Option.bind_some]
  rw [if_pos (by rw [c, List.length_map]; omega), join_rats]
  exact q
theorem law_numbers_text {xs : List (Int × Nat)} (h : Tr.QsOk xs) : F_law_numbers_text [.tup (xs.map qD)] = .ok (.str (S' (ratsX xs))) := by
  refine FW.eq (fw_run ?_)
  have hl := h.2
  simp only [B_law_numbers_text, startD, sw_ret, ew_mt, ew_c, isStr, true_and, aw_cons_, ew_lc, ew_var, List.map_cons, List.map_nil, List.cons_append, List.nil_append, List.getElem?_cons_zero, sV_v, tupOf, Option.some.injEq, exists_eq_left', ew_lc0, aw_nil_]
  refine ⟨⟨by rw [List.length_map]; omega, rfl⟩, ?_⟩
  have hm : ∀ d ∈ xs.map qD, ∃ x ∈ xs, d = qD x := fun d hd => by
    obtain ⟨x, h1, h2⟩ := List.mem_map.mp hd
    exact ⟨x, h1, h2.symm⟩
  refine aw_lc_map (fun d => match F_law_number_text [d] with | .ok s => s | _ => .non) (fun d hd => ?_) ?_
  · obtain ⟨x, hx, rfl⟩ := hm d hd
    refine ⟨_, rfl, ⟨rfl, rfl⟩, ?_⟩
    simp [gN, wipeD, law_number_text (h.1 x hx)]
  · have e : (xs.map qD).map (fun d => match F_law_number_text [d] with | .ok s => s | _ => .non) = xs.map fun x => Dat.str (S' (ratX x)) := by
      rw [List.map_map]
      refine List.map_congr_left fun x hx => ?_
      simp [law_number_text (h.1 x hx)]
    rw [e]
    exact oJoin_rats h rfl
end RB

set_option Elab.async false
set_option linter.all false
set_option maxRecDepth 100000
set_option maxHeartbeats 4000000
namespace RB
open PySem PySem.Spec PyProof.Rows L2 PD
theorem q1 : ("{" : Str) = S' [123] := by decide +kernel
theorem q2 : ("}" : Str) = S' [125] := by decide +kernel
theorem q3 : ("unity(" : Str) = S' (("unity" : Str).cps.toList ++ [40]) := by decide +kernel
theorem q4 : (")" : Str) = S' [41] := by decide +kernel
theorem q5 : ("roots([" : Str) = S' (("roots" : Str).cps.toList ++ [40, 91]) := by decide +kernel
theorem q6 : ("])" : Str) = S' [93, 41] := by decide +kernel
theorem q7 : ("-" : Str) = S' [45] := by decide +kernel
theorem q8 : (" ^ " : Str) = S' [32, 94, 32] := by decide +kernel
theorem q9 : ("map([" : Str) = S' (("map" : Str).cps.toList ++ [40, 91]) := by decide +kernel
theorem q10 : ("], " : Str) = S' [93, 44, 32] := by decide +kernel
theorem q11 : ("(" : Str) = S' [40] := by decide +kernel
theorem q12 : (", " : Str) = S' [44, 32] := by decide +kernel
theorem q13 : ("distinct(" : Str) = S' (("distinct" : Str).cps.toList ++ [40]) := by decide +kernel
theorem q14 : ("[" : Str) = S' [91] := by decide +kernel
theorem q15 : ("]" : Str) = S' [93] := by decide +kernel
theorem q16 : (" " : Str) = S' [32] := by decide +kernel
theorem parX_len (b : Bool) (L : List Nat) : (parX b L).length ≤ L.length + 2 := by
  cases b <;> simp [parX]
theorem parX_ge (b : Bool) (L : List Nat) : L.length ≤ (parX b L).length := by
  cases b <;> simp [parX]
  omega
theorem level_ok : ∀ t : Tr, F_law_level [t.dat] = .ok (.int t.lv)
  | .name w => FW.eq (fw_run (by simp [B_law_level, startD, Tr.dat, Tr.lv, List.lookup_cons]))
  | .list w => FW.eq (fw_run (by simp [B_law_level, startD, Tr.dat, Tr.lv, List.lookup_cons]))
  | .unity w => FW.eq (fw_run (by simp [B_law_level, startD, Tr.dat, Tr.lv, List.lookup_cons]))
  | .roots w => FW.eq (fw_run (by simp [B_law_level, startD, Tr.dat, Tr.lv, List.lookup_cons]))
  | .neg t => FW.eq (fw_run (by simp [B_law_level, startD, Tr.dat, Tr.lv, List.lookup_cons]))
  | .pow t m => FW.eq (fw_run (by simp [B_law_level, startD, Tr.dat, Tr.lv, List.lookup_cons]))
  | .map q t => FW.eq (fw_run (by simp [B_law_level, startD, Tr.dat, Tr.lv, List.lookup_cons]))
  | .cho b t m => FW.eq (fw_run (by cases b <;> simp [B_law_level, startD, Tr.dat, Tr.lv, List.lookup_cons, Tr.choW]))
  | .dist t => FW.eq (fw_run (by simp [B_law_level, startD, Tr.dat, Tr.lv, List.lookup_cons]))
  | .two b x y => FW.eq (fw_run (by cases b <;> simp [B_law_level, startD, Tr.dat, Tr.lv, List.lookup_cons, Tr.twoW]))
  | .bin op x y => FW.eq (fw_run (by cases op <;> simp [B_law_level, startD, Tr.dat, Tr.lv, List.lookup_cons, Op.word, Op.s]))
/-- the law's text of a tree -/
def LT (t : Tr) (n : Nat) : Prop := (GT n).x_law_text [t.dat] = .ok (.str (S' t.tx))
theorem operand_ok {t : Tr} {n : Nat} {l : Int} (h : LT t n) (hl : t.tx.length ≤ 50000) : (GT (n + 1)).x_law_operand [t.dat, .int l] = .ok (.str (S' (parX (decide (t.lv < l)) t.tx))) := by
  refine FW.eq (fw_run ?_)
  have h' : (GT n).x_law_text [t.dat] = .ok (.str (S' t.tx)) := h
  simp [B_law_operand, startD, h', level_ok]
  by_cases z : t.lv < l
  · simp only [z, if_true, decide_true, parX]
    rw [q11, q4]
    simp only [← S'_app, S'_len]
    simp
    omega
  · simp [z, parX]
theorem oIn_words {w a b : String} : oIn false (.str (Str.ofString w)) (.lst [.str (Str.ofString a), .str (Str.ofString b)]) = some (.bl (decide (w = a ∨ w = b))) := by
  have e : inD (.str (Str.ofString w)) [.str (Str.ofString a), .str (Str.ofString b)] = some (a == w || (b == w || false)) := by
    show (if flatD (.str (Str.ofString w)) = true ∧ (([.str (Str.ofString a), .str (Str.ofString b)] : List Dat).all flatD) = true then some ((Str.ofString a == Str.ofString w) || ((Str.ofString b == Str.ofString w) || false)) else none) = _
    rw [if_pos ⟨rfl, rfl⟩, ofString_beq, ofString_beq]
  show (inD (.str (Str.ofString w)) [.str (Str.ofString a), .str (Str.ofString b)]).map (fun b => Dat.bl b) = _
  rw [e]
  show some (Dat.bl (a == w || (b == w || false))) = _
  have g : (a == w || (b == w || false)) = decide (w = a ∨ w = b) := by
    by_cases h1 : w = a
    · subst h1; simp
    · by_cases h2 : w = b
      · subst h2; simp
      · have k1 : (a == w) = false := beq_eq_false_iff_ne.mpr fun z => h1 z.symm
        have k2 : (b == w) = false := beq_eq_false_iff_ne.mpr fun z => h2 z.symm
        simp [k1, k2, h1, h2]
  rw [g]
theorem small {m : Nat} (h : m < 10 ^ 9) : ((m : Nat) : Int).natAbs < 10 ^ 300 := by
  rw [Int.natAbs_natCast]
  exact Nat.lt_trans h (by decide)
theorem tx_sub_par {b : Bool} {L : List Nat} {n : Nat} (h : (parX b L).length ≤ n) : L.length ≤ n := Nat.le_trans (parX_ge b L) h
theorem law_text_ok : ∀ (t : Tr), t.Ok → t.tx.length ≤ 50000 → ∀ n, 2 * t.hgt ≤ n + 1 → LT t n
  | t, ok, hl, 0, hn => by have := t.hgt_pos; omega
  | .name w, ok, hl, n + 1, hn => FW.eq (fw_run (by simp [B_law_text, startD, Tr.dat, Tr.tx, S'_of]))
  | .list qs, ok, hl, n + 1, hn => FW.eq (fw_run (by
      simp [B_law_text, startD, Tr.dat, law_numbers_text ok, q1, q2]
      simp only [← S'_app, S'_len]
      simp [Tr.tx] at hl ⊢
      omega))
  | .unity m, ok, hl, n + 1, hn => FW.eq (fw_run (by
      simp [B_law_text, startD, Tr.dat, q3, q4, oStr_ (small ok), numT_nat]
      simp only [← S'_app, S'_len]
      simp [Tr.tx, callX] at hl ⊢
      omega))
  | .roots qs, ok, hl, n + 1, hn => FW.eq (fw_run (by
      simp [B_law_text, startD, Tr.dat, law_numbers_text ok.1, q5, q6]
      simp only [← S'_app, S'_len]
      simp [Tr.tx, callX, polyX] at hl ⊢
      omega))
  | .neg t, ok, hl, n + 1, hn => by
    have hp := t.hgt_pos
    have hn : 2 * (t.hgt + 1) ≤ n + 1 + 1 := hn
    obtain ⟨m, rfl⟩ : ∃ m, n = m + 1 := ⟨n - 1, by omega⟩
    simp only [Tr.tx, List.length_cons] at hl
    have hs : t.tx.length ≤ 50000 := tx_sub_par (b := decide (t.lv < 4)) (by omega)
    have ih := operand_ok (l := 4) (law_text_ok t ok hs m (by omega)) hs
    refine FW.eq (fw_run ?_)
    simp [B_law_text, startD, Tr.dat, ih, q7]
    simp only [← S'_app, S'_len]
    simp [Tr.tx]
    omega
  | .pow t e, ok, hl, n + 1, hn => by
    have hp := t.hgt_pos
    have hn : 2 * (t.hgt + 1) ≤ n + 1 + 1 := hn
    obtain ⟨m, rfl⟩ : ∃ m, n = m + 1 := ⟨n - 1, by omega⟩
    simp [Tr.tx] at hl
    have hs : t.tx.length ≤ 50000 := tx_sub_par (b := decide (t.lv < 5)) (by omega)
    have ih := operand_ok (l := 5) (law_text_ok t ok.1 hs m (by omega)) hs
    refine FW.eq (fw_run ?_)
    simp [B_law_text, startD, Tr.dat, ih, q8, oStr_ (small ok.2), numT_nat]
    simp only [← S'_app, S'_len]
    simp [Tr.tx]
    omega
  | .map qs t, ok, hl, n + 1, hn => by
    have hp := t.hgt_pos
    have hn : 2 * (t.hgt + 1) ≤ n + 1 + 1 := hn
    simp [Tr.tx, callX, polyX] at hl
    have ih : (GT n).x_law_text [t.dat] = .ok (.str (S' t.tx)) := law_text_ok t ok.2.2 (by omega) n (by omega)
    refine FW.eq (fw_run ?_)
    simp [B_law_text, startD, Tr.dat, ih, q9, q10, q4, law_numbers_text ok.1]
    simp only [← S'_app, S'_len]
    simp [Tr.tx, callX, polyX]
    omega
  | .cho b t e, ok, hl, n + 1, hn => by
    have hp := t.hgt_pos
    have hn : 2 * (t.hgt + 1) ≤ n + 1 + 1 := hn
    simp [Tr.tx, callX] at hl
    have ih : (GT n).x_law_text [t.dat] = .ok (.str (S' t.tx)) := law_text_ok t ok.1 (by omega) n (by omega)
    have hc : (Tr.choW b).length ≤ 10 := by cases b <;> decide +kernel
    refine FW.eq (fw_run ?_)
    have e1 : ∃ w : String, Tr.choW b = Str.ofString w ∧ (w = "sums" ∨ w = "products") := by cases b <;> exact ⟨_, rfl, by simp⟩
    obtain ⟨w, ew, hw⟩ := e1
    have ne : w ≠ "name" ∧ w ≠ "list" ∧ w ≠ "unity" ∧ w ≠ "roots" ∧ w ≠ "negative" ∧ w ≠ "power" ∧ w ≠ "map" := by rcases hw with rfl | rfl <;> simp
    simp only [Tr.dat, Tr.tx, callX, ew]
    rw [ew] at hc
    simp [B_law_text, startD, ih, q11, q12, q4, oStr_ (small ok.2), numT_nat, ne, oIn_words, hw]
    have es : Str.ofString w = S' (Str.ofString w).cps.toList := (S'_of _).symm
    have hc' : (Str.ofString w).cps.toList.length ≤ 10 := by rw [es, S'_len] at hc; exact hc
    generalize (Str.ofString w).cps.toList = W at *
    rw [es]
    simp only [← S'_app, S'_len]
    have := numL_len' ok.2
    simp
    omega
  | .dist t, ok, hl, n + 1, hn => by
    have hp := t.hgt_pos
    have hn : 2 * (t.hgt + 1) ≤ n + 1 + 1 := hn
    simp [Tr.tx, callX] at hl
    have ih : (GT n).x_law_text [t.dat] = .ok (.str (S' t.tx)) := law_text_ok t ok (by omega) n (by omega)
    refine FW.eq (fw_run ?_)
    simp [B_law_text, startD, Tr.dat, ih, q13, q4, oIn_words]
    simp only [← S'_app, S'_len]
    simp [Tr.tx, callX]
    omega
  | .two b x y, ok, hl, n + 1, hn => by
    have hp := x.hgt_pos
    have hp2 := y.hgt_pos
    have hn : 2 * (max x.hgt y.hgt + 1) ≤ n + 1 + 1 := hn
    simp [Tr.tx, callX] at hl
    have ih : (GT n).x_law_text [x.dat] = .ok (.str (S' x.tx)) := law_text_ok x ok.1 (by omega) n (by omega)
    have ih2 : (GT n).x_law_text [y.dat] = .ok (.str (S' y.tx)) := law_text_ok y ok.2 (by omega) n (by omega)
    have hc : (Tr.twoW b).length ≤ 10 := by cases b <;> decide +kernel
    refine FW.eq (fw_run ?_)
    have e1 : ∃ w : String, Tr.twoW b = Str.ofString w ∧ (w = "common" ∨ w = "without") := by cases b <;> exact ⟨_, rfl, by simp⟩
    obtain ⟨w, ew, hw⟩ := e1
    have ne : w ≠ "name" ∧ w ≠ "list" ∧ w ≠ "unity" ∧ w ≠ "roots" ∧ w ≠ "negative" ∧ w ≠ "power" ∧ w ≠ "map" ∧ w ≠ "sums" ∧ w ≠ "products" ∧ w ≠ "distinct" := by rcases hw with rfl | rfl <;> simp
    simp only [Tr.dat, Tr.tx, callX, ew]
    rw [ew] at hc
    simp [B_law_text, startD, ih, ih2, q11, q12, q4, ne, oIn_words, hw]
    have es : Str.ofString w = S' (Str.ofString w).cps.toList := (S'_of _).symm
    have hc' : (Str.ofString w).cps.toList.length ≤ 10 := by rw [es, S'_len] at hc; exact hc
    generalize (Str.ofString w).cps.toList = W at *
    rw [es]
    simp only [← S'_app, S'_len]
    simp
    omega
  | .bin op x y, ok, hl, n + 1, hn => by
    have hp := x.hgt_pos
    have hp2 := y.hgt_pos
    have hn : 2 * (max x.hgt y.hgt + 1) ≤ n + 1 + 1 := hn
    obtain ⟨m, rfl⟩ : ∃ m, n = m + 1 := ⟨n - 1, by omega⟩
    simp [Tr.tx] at hl
    have hs : x.tx.length ≤ 50000 := tx_sub_par (b := decide (x.lv < op.s)) (by omega)
    have hs2 : y.tx.length ≤ 50000 := tx_sub_par (b := decide (y.lv < op.s + 1)) (by omega)
    have ih := operand_ok (l := op.s) (law_text_ok x ok.1 hs m (by omega)) hs
    have ih2 := operand_ok (l := op.s + 1) (law_text_ok y ok.2 hs2 m (by omega)) hs2
    have lv : F_law_level [(Tr.bin op x y).dat] = .ok (.int op.s) := level_ok (.bin op x y)
    have hd : (Tr.bin op x y).dat = .tup [.str op.word, x.dat, y.dat] := rfl
    rw [hd] at lv
    have e1 : ∃ w : String, op.word = Str.ofString w ∧ (w ≠ "name" ∧ w ≠ "list" ∧ w ≠ "unity" ∧ w ≠ "roots" ∧ w ≠ "negative" ∧ w ≠ "power" ∧ w ≠ "map" ∧ w ≠ "sums" ∧ w ≠ "products" ∧ w ≠ "distinct" ∧ w ≠ "common" ∧ w ≠ "without") ∧ oTab [("join", .str " | "), ("sum", .str " + "), ("difference", .str " - "), ("product", .str " * "), ("quotient", .str " / ")] (.str (Str.ofString w)) = some (.str (S' [32, op.code, 32])) := by
      cases op <;> refine ⟨_, rfl, by simp, ?_⟩ <;> simp [oTab, List.lookup_cons] <;> decide +kernel
    obtain ⟨w, ew, ne, et⟩ := e1
    refine FW.eq (fw_run ?_)
    rw [ew] at lv
    simp only [hd, ew]
    simp [B_law_text, startD, ih, ih2, ne, oIn_words, et, lv]
    simp only [← S'_app, S'_len]
    simp [Tr.tx]
    omega
end RB

set_option Elab.async false
set_option linter.all false
set_option maxRecDepth 100000
set_option maxHeartbeats 4000000
namespace RB
open PySem PySem.Spec PyProof.Rows L2 PD
theorem oPow18 : oPow (.int 10) (.int 18) = some (.int 1000000000000000000) := by
  show (if decide ((0 : Int) ≤ 10 ∧ (10 : Int) ≤ 10 ∧ (0 : Int) ≤ 18 ∧ (18 : Int) ≤ 60) = true then some (Dat.int ((10 : Int) ^ (18 : Int).toNat)) else none) = _
  rw [if_pos (by decide)]
  rfl
theorem OW_mul {i j : Int} {Q : Dat → Prop} (h : i.natAbs.log2 + j.natAbs.log2 < 1000000) : OW (oMul (.int i) (.int j)) Q ↔ Q (.int (i * j)) := by
  show OW (if i.natAbs.log2 + j.natAbs.log2 < 1000000 then some (.int (i * j)) else none) Q ↔ _
  rw [if_pos h]
  exact Iff.rfl
theorem OW_mod {i j : Int} {Q : Dat → Prop} (h : j ≠ 0) : OW (oMod (.int i) (.int j)) Q ↔ Q (.int (i.fmod j)) := by
  show OW (if decide (j ≠ 0) = true then some (.int (i.fmod j)) else none) Q ↔ _
  rw [if_pos (by simpa using h)]
  exact Iff.rfl
theorem OW_fdiv {i j : Int} {Q : Dat → Prop} (h : j ≠ 0) (h2 : j.natAbs.log2 < 9000) : OW (oFdiv (.int i) (.int j)) Q ↔ Q (.int (i.fdiv j)) := by
  show OW (if decide (j ≠ 0 ∧ j.natAbs.log2 < 9000) = true then some (.int (i.fdiv j)) else none) Q ↔ _
  rw [if_pos (by simpa using ⟨h, h2⟩)]
  exact Iff.rfl
theorem log_sm {n : Nat} (h : n < 2 ^ 400) : n.log2 ≤ 400 := by
  by_cases z : n = 0
  · rw [z]; decide
  · exact Nat.le_of_lt ((Nat.log2_lt z).mpr h)
theorem OW_mul2 {i j : Int} {Q : Dat → Prop} (h : i.natAbs.log2 ≤ 400) (h2 : j.natAbs.log2 ≤ 400) : OW (oMul (.int i) (.int j)) Q ↔ Q (.int (i * j)) := OW_mul (by omega)
theorem draw_tail {x n : Int} (hx : 0 ≤ x) (hx2 : x < 2147483647) (hn : 0 < n) {Q : Dat → Dat → Prop} (q : ∀ v y, 0 ≤ v → v < n → 0 ≤ y → y < 2147483647 → Q (.int v) (.int y)) :
    OW (oMul (.int x) (.int 62089)) fun z => OW (oFdiv (.int x) (.int 65543)) fun z1 => OW (oMul z1 (.int 37)) fun z2 => OW (oAdd z z2) fun z3 => OW (oAdd z3 (.int 1013904223)) fun z4 => OW (oMod z4 (.int 2147483647)) fun z5 =>
      OW (oFdiv z5 (.int 89)) fun z6 => OW (oMod z5 (.int 8191)) fun z7 => OW (oMul z7 (.int 71)) fun z8 => OW (oAdd z6 z8) fun z9 => OW (oMod z9 (.int n)) fun z10 => Q z10 z5 := by
  have d1 : x.fdiv 65543 = x / 65543 := Int.fdiv_eq_ediv_of_nonneg _ (by decide)
  have l1 : x.natAbs.log2 ≤ 400 := log_sm (Nat.lt_of_lt_of_le (by omega : x.natAbs < 2147483647) (by decide))
  have l2 : (x.fdiv 65543).natAbs.log2 ≤ 400 := by
    rw [d1]
    exact log_sm (Nat.lt_of_lt_of_le (by omega : (x / 65543).natAbs < 2147483647) (by decide))
  rw [OW_mul2 l1 (by decide), OW_fdiv (by decide) (by decide), OW_mul2 l2 (by decide)]
  simp only [oAdd_i, OW_some]
  rw [OW_mod (by decide)]
  generalize ey : (x * 62089 + x.fdiv 65543 * 37 + 1013904223).fmod 2147483647 = y
  have y0 : 0 ≤ y := by rw [← ey]; exact Int.fmod_nonneg_of_pos _ (by decide)
  have y1 : y < 2147483647 := by rw [← ey]; exact Int.fmod_lt_of_pos _ (by decide)
  rw [OW_fdiv (by decide) (by decide), OW_mod (by decide)]
  have m0 : 0 ≤ y.fmod 8191 := Int.fmod_nonneg_of_pos _ (by decide)
  have m1 : y.fmod 8191 < 8191 := Int.fmod_lt_of_pos _ (by decide)
  have l3 : (y.fmod 8191).natAbs.log2 ≤ 400 := log_sm (Nat.lt_of_lt_of_le (by omega : (y.fmod 8191).natAbs < 8191) (by decide))
  rw [OW_mul2 l3 (by decide)]
  simp only [oAdd_i, OW_some]
  rw [OW_mod (by omega)]
  exact q _ _ (Int.fmod_nonneg_of_pos _ hn) (Int.fmod_lt_of_pos _ hn) y0 y1
theorem draw_big {b n : Int} (h0 : 0 < b) (hn : 0 < n) (hb : n.natAbs.log2 < 9000) {Q : Dat → Dat → Prop} (q : ∀ v y, 0 ≤ v → v < n → 0 ≤ y → Q (.int v) (.int y)) : OW (oMod (.int b) (.int n)) fun z => OW (oFdiv (.int b) (.int n)) fun z1 => Q z z1 := by
  rw [OW_mod (by omega), OW_fdiv (by omega) hb]
  have d1 : b.fdiv n = b / n := Int.fdiv_eq_ediv_of_nonneg _ (by omega)
  exact q _ _ (Int.fmod_nonneg_of_pos _ hn) (Int.fmod_lt_of_pos _ hn) (by rw [d1]; exact Int.ediv_nonneg (by omega) (by omega))
theorem draw_ok {S : Fld} {n : Int} (h : RngS S) (hn : 0 < n) (hb : n.natAbs.log2 < 9000) : EW (F_law_draw S [.int n]) fun d S' => ∃ v : Int, d = .int v ∧ 0 ≤ v ∧ v < n ∧ RngS S' := by
  obtain ⟨ns, i, b, s, rfl, hl, hi, h0, hs, hs2⟩ := h
  refine ew_run ?_
  simp [B_law_draw, startM, rngF, oPow18]
  have fin : ∀ (i b s v : Int), 0 ≤ i → 0 ≤ b → 0 ≤ s → s < 2147483647 → 0 ≤ v → v < n → ∃ v' : Int, Dat.int v = .int v' ∧ 0 ≤ v' ∧ v' < n ∧ RngS [((("" : Str)), Dat.lst (ns.map Dat.int)), (("" : Str), Dat.int i), (("" : Str), Dat.int b), (("" : Str), Dat.int s)] := fun i b s v a1 a2 a3 a4 a5 a6 => ⟨v, rfl, a5, a6, ns, i, b, s, rfl, hl, a1, a2, a3, a4⟩
  have two : ∀ (i b s : Int), 0 ≤ i → 0 ≤ b → 0 ≤ s → s < 2147483647 → if 0 < b then
      OW (oMod (Dat.int b) (Dat.int n)) fun z => OW (oFdiv (Dat.int b) (Dat.int n)) fun z1 => ∃ v : Int, z = .int v ∧ 0 ≤ v ∧ v < n ∧ RngS [((("" : Str)), Dat.lst (ns.map Dat.int)), (("" : Str), Dat.int i), (("" : Str), z1), (("" : Str), Dat.int s)]
    else OW (oMul (.int s) (.int 62089)) fun z => OW (oFdiv (.int s) (.int 65543)) fun z1 => OW (oMul z1 (.int 37)) fun z2 => OW (oAdd z z2) fun z3 => OW (oAdd z3 (.int 1013904223)) fun z4 => OW (oMod z4 (.int 2147483647)) fun z5 =>
      OW (oFdiv z5 (.int 89)) fun z6 => OW (oMod z5 (.int 8191)) fun z7 => OW (oMul z7 (.int 71)) fun z8 => OW (oAdd z6 z8) fun z9 => OW (oMod z9 (.int n)) fun z10 => ∃ v : Int, z10 = .int v ∧ 0 ≤ v ∧ v < n ∧ RngS [((("" : Str)), Dat.lst (ns.map Dat.int)), (("" : Str), Dat.int i), (("" : Str), Dat.int b), (("" : Str), z5)] := fun i b s a1 a2 a3 a4 => by
    by_cases hb0 : 0 < b
    · rw [if_pos hb0]
      exact draw_big hb0 hn hb fun v y v0 v1 y0 => fin i y s v a1 y0 a3 a4 v0 v1
    · rw [if_neg hb0]
      exact draw_tail a3 a4 hn fun v y v0 v1 y0 y1 => fin i b y v a1 a2 y0 y1 v0 v1
  by_cases hb0 : b = 0
  · rw [if_pos hb0]
    have el : oLen [.lst (ns.map Dat.int)] = some (.int (ns.length : Int)) := by
      show some (Dat.int ((ns.map Dat.int).length : Int)) = _
      rw [List.length_map]
    rw [el]
    simp only [OW_some, oLt_i, bW_dec]
    by_cases hi2 : i < (ns.length : Int)
    · rw [if_pos hi2]
      obtain ⟨k, rfl⟩ : ∃ k : Nat, i = k := ⟨i.toNat, by omega⟩
      have hk : k < ns.length := by omega
      have ei : oIx (.lst (ns.map Dat.int)) (.int (k : Int)) = some (.int ns[k]) := by
        show atI (ns.map Dat.int) (k : Int) = _
        rw [ixL, List.getElem?_map, List.getElem?_eq_getElem hk]
        rfl
      rw [ei]
      simp only [OW_some, oGe_i, bW_dec]
      by_cases hc : (1000000000000000000 : Int) ≤ ns[k]
      · rw [if_pos hc]
        simp only [oGt_i, OW_some, bW_dec]
        exact two (k + 1) ns[k] s (by omega) (by omega) hs hs2
      · rw [if_neg hc]
        have l1 : s.natAbs.log2 ≤ 400 := log_sm (Nat.lt_of_lt_of_le (by omega : s.natAbs < 2147483647) (by decide))
        rw [OW_mul2 l1 (by decide), OW_mod (by decide)]
        have m0 : 0 ≤ ns[k].fmod 2147483579 := Int.fmod_nonneg_of_pos _ (by decide)
        have m1 : ns[k].fmod 2147483579 < 2147483579 := Int.fmod_lt_of_pos _ (by decide)
        have l3 : (ns[k].fmod 2147483579).natAbs.log2 ≤ 400 := log_sm (Nat.lt_of_lt_of_le (by omega : (ns[k].fmod 2147483579).natAbs < 2147483579) (by decide))
        rw [OW_mul2 l3 (by decide)]
        simp only [oAdd_i, OW_some]
        rw [OW_mod (by decide)]
        exact two (k + 1) b _ (by omega) h0 (Int.fmod_nonneg_of_pos _ (by decide)) (Int.fmod_lt_of_pos _ (by decide))
    · rw [if_neg hi2]
      exact two i b s hi h0 hs hs2
  · rw [if_neg hb0]
    exact two i b s hi h0 hs hs2
end RB

set_option Elab.async false
set_option linter.all false
set_option maxRecDepth 100000
set_option maxHeartbeats 4000000
namespace RB
open PySem PySem.Spec PyProof.Rows L2 PD
theorem oAbs_ (i : Int) : oAbs [.int i] = some (.int i.natAbs) := by
  show some (Dat.int (if i < 0 then -i else i)) = _
  congr 2
  split <;> omega
theorem law_gcd_ok {a b : Int} (hb : b.natAbs < 99) : F_law_gcd [.int a, .int b] = .ok (.int (Int.gcd a b)) := by
  refine FW.eq (fw_run ?_)
  simp [B_law_gcd, startD, oAbs_]
  refine sw_while (fun ρ S => ∃ x y : Nat, ρ = [some (.v (.int x)), some (.v (.int y))] ∧ Nat.gcd x y = Nat.gcd a.natAbs b.natAbs) (fun ρ S => match ρ with | [_, some (.v (.int y))] => y.toNat | _ => 0) ?_ 100 ⟨_, _, rfl, rfl⟩ (by simp; omega)
  rintro ρ S ⟨x, y, rfl, e⟩
  simp
  by_cases hy : y = 0
  · subst hy
    simp at e ⊢
    rw [e]
    rfl
  · rw [if_neg hy]
    rw [OW_mod (by omega)]
    have d : (x : Int).fmod y = ((x % y : Nat) : Int) := by
      rw [Int.fmod_eq_emod_of_nonneg _ (by omega)]
      exact (Int.natCast_emod x y).symm
    rw [d]
    refine ⟨⟨y, x % y, by simp, ?_⟩, ?_⟩
    · rw [← e, Nat.gcd_comm, ← Nat.gcd_rec, Nat.gcd_comm]
    · simp
      exact Nat.mod_lt _ (by omega)
theorem draw_low {a b : Int} (hb : 0 < b) (hb2 : b < 99) (ha : a.natAbs < 10 ^ 9) : ∃ x, RatOk x ∧ F_law_low [.int a, .int b] = .ok (qD x) := by
  have g0 : 0 < Int.gcd a b := Int.gcd_pos_of_ne_zero_right _ (by omega)
  have hg := law_gcd_ok (a := a) (b := b) (by omega)
  obtain ⟨a', ea⟩ := Int.gcd_dvd_left (a := a) (b := b)
  obtain ⟨b', eb⟩ := Int.gcd_dvd_right (a := a) (b := b)
  have fa : a.fdiv (Int.gcd a b) = a' := by
    rw [Int.fdiv_eq_ediv_of_nonneg _ (by omega)]
    conv => lhs; lhs; rw [ea]
    exact Int.mul_ediv_cancel_left _ (by omega)
  have fb : b.fdiv (Int.gcd a b) = b' := by
    rw [Int.fdiv_eq_ediv_of_nonneg _ (by omega)]
    conv => lhs; lhs; rw [eb]
    exact Int.mul_ediv_cancel_left _ (by omega)
  have bp : 0 < b' := by
    rcases Int.lt_or_le 0 b' with h | h
    · exact h
    · have : (Int.gcd a b : Int) * b' ≤ 0 := Int.mul_nonpos_of_nonneg_of_nonpos (by omega) h
      omega
  have bl : b' ≤ b := by
    have : b' * 1 ≤ b' * (Int.gcd a b : Int) := Int.mul_le_mul_of_nonneg_left (by omega) (by omega)
    rw [Int.mul_comm b' (Int.gcd a b : Int)] at this
    omega
  have co : Int.gcd a' b' = 1 := by
    have h : Int.gcd ((Int.gcd a b : Int) * a') ((Int.gcd a b : Int) * b') = (Int.gcd a b : Int).natAbs * Int.gcd a' b' := Int.gcd_mul_left ..
    rw [← ea, ← eb] at h
    simp at h
    have h2 : Int.gcd a b * 1 = Int.gcd a b * Int.gcd a' b' := by rw [Nat.mul_one]; exact h
    exact (Nat.eq_of_mul_eq_mul_left g0 h2).symm
  have al : a'.natAbs ≤ a.natAbs := by
    rw [ea, Int.natAbs_mul]
    simp
    exact Nat.le_mul_of_pos_left _ g0
  refine ⟨(a', b'.toNat), ⟨by simp; omega, by simp; omega, ?_, by simp; omega⟩, FW.eq (fw_run ?_)⟩
  · show Int.gcd a' (b'.toNat : Int) = 1
    rw [Int.toNat_of_nonneg (by omega)]
    exact co
  · have nb : ¬ b < 0 := by omega
    simp [B_law_low, startD, hg, nb]
    have lg : ((Int.gcd a b : Nat) : Int).natAbs.log2 < 9000 := by
      have : Int.gcd a b ≤ b.natAbs := Int.gcd_le_natAbs_right _ (by omega)
      have := log_sm (n := ((Int.gcd a b : Nat) : Int).natAbs) (Nat.lt_of_lt_of_le (by omega : _ < 99) (by decide))
      omega
    rw [OW_fdiv (by omega) lg, OW_fdiv (by omega) lg, fa, fb]
    simp [qD]
    omega
end RB

set_option Elab.async false
set_option linter.all false
set_option maxRecDepth 100000
set_option maxHeartbeats 4000000
namespace RB
open PySem PySem.Spec PyProof.Rows L2 PD
variable {S : Fld}
theorem oLen_l (ds : List Dat) : oLen [.lst ds] = some (.int ds.length) := rfl
theorem oTuple_l (ds : List Dat) : oTuple [.lst ds] = some (.tup ds) := rfl
theorem pick_ok {ds : List Dat} (h : RngS S) (h0 : 0 < ds.length) (h1 : ds.length ≤ 1000) : EW (F_law_pick S [.lst ds]) fun d S' => d ∈ ds ∧ RngS S' := by
  refine ew_run ?_
  simp [B_law_pick, startM, oLen_l]
  refine EW_mono (draw_ok h (by omega) (by
    have := log_sm (n := ((ds.length : Nat) : Int).natAbs) (Nat.lt_of_lt_of_le (by omega : _ < 1001) (by decide))
    omega)) ?_
  rintro _ S1 ⟨v, rfl, v0, v1, hS1⟩
  obtain ⟨k, rfl⟩ : ∃ k : Nat, v = k := ⟨v.toNat, by omega⟩
  have hk : k < ds.length := by omega
  have e : oIx (.lst ds) (.int (k : Int)) = some ds[k] := by
    show atI ds (k : Int) = _
    rw [ixL, List.getElem?_eq_getElem hk]
  rw [e]
  exact ⟨List.getElem_mem _, hS1⟩
theorem d3 (n : Nat) (h : n < 100000) : ((n : Nat) : Int).natAbs.log2 < 9000 := by
  have := log_sm (n := ((n : Nat) : Int).natAbs) (Nat.lt_of_lt_of_le (by omega : _ < 100000) (by decide))
  omega
theorem value_ok (h : RngS S) : EW (F_law_value S []) fun d S' => (∃ x, RatOk x ∧ d = qD x) ∧ RngS S' := by
  refine ew_run ?_
  simp [B_law_value, startM]
  refine EW_mono (draw_ok h (by decide) (by decide)) ?_
  rintro _ S1 ⟨v, rfl, v0, v1, hS1⟩
  simp
  by_cases h5 : v < 5
  · rw [if_pos h5]
    refine EW_mono (draw_ok hS1 (by decide) (by decide)) ?_
    rintro _ S2 ⟨v, rfl, v0, v1, hS2⟩
    simp
    exact ⟨⟨v - 4, 1, ⟨Nat.one_pos, by show 1 < 1000; decide, by simp, by simp; omega⟩, by simp [qD]⟩, hS2⟩
  · rw [if_neg h5]
    have low : ∀ {a b : Int} {S' : Fld}, 0 < b → b < 99 → a.natAbs < 10 ^ 9 → RngS S' → FW (F_law_low [.int a, .int b]) fun d => (∃ a b, RatOk (a, b) ∧ d = qD (a, b)) ∧ RngS S' := fun h1 h2 h3 hS => by
      obtain ⟨⟨a', b'⟩, hx, e⟩ := draw_low h1 h2 h3
      rw [e]
      exact ⟨⟨a', b', hx, rfl⟩, hS⟩
    by_cases h7 : v < 7
    · rw [if_pos h7]
      refine EW_mono (draw_ok hS1 (by decide) (by decide)) ?_
      rintro _ S2 ⟨a, rfl, a0, a1, hS2⟩
      simp
      refine EW_mono (draw_ok hS2 (by decide) (by decide)) ?_
      rintro _ S3 ⟨b, rfl, b0, b1, hS3⟩
      simp
      exact low (by omega) (by omega) (by omega) hS3
    · rw [if_neg h7]
      refine EW_mono (draw_ok hS1 (by decide) (by decide)) ?_
      rintro _ S2 ⟨a, rfl, a0, a1, hS2⟩
      simp
      refine EW_mono (draw_ok hS2 (by decide) (by decide)) ?_
      rintro _ S3 ⟨b, rfl, b0, b1, hS3⟩
      simp
      exact low (by omega) (by omega) (by omega) hS3
theorem list_of {α : Type} {P : α → Prop} {f : α → Dat} : ∀ {ys : List Dat}, (∀ (i : Nat) (y : Dat), ys[i]? = some y → ∃ x, P x ∧ y = f x) → ∃ xs : List α, (∀ x ∈ xs, P x) ∧ ys = xs.map f
  | [], _ => ⟨[], by simp, rfl⟩
  | y :: ys, h => by
    obtain ⟨x, hx, rfl⟩ := h 0 y rfl
    obtain ⟨xs, h1, h2⟩ := list_of (ys := ys) fun i z e => h (i + 1) z (by simpa using e)
    exact ⟨x :: xs, by intro z hz; rcases List.mem_cons.mp hz with rfl | hz; exact hx; exact h1 z hz, by rw [h2]; rfl⟩
/-- a list of drawn rationals -/
theorem values_ok {ρ : DEnv} {k : Int} {i : Nat} (h : RngS S) (hk : 0 < k) (hk2 : k < 100) (hm : ρ[0]? = some (some .me)) (hi : 0 < i) (ho : ownAny ρ [i] = false) : EW (fLcR1 (fCallM 0 F_law_draw (fCons (fC (.int k)) fNil)) (gN i) fYes (fCallM 0 F_law_value fNil) [i] ρ S) fun d S' => ∃ xs : List (Int × Nat), (∀ x ∈ xs, RatOk x) ∧ (xs.length : Int) < k ∧ d = .lst (xs.map qD) ∧ RngS S' := by
  rw [ew_lcR1, ew_callM]
  refine ⟨by rw [hm]; trivial, ?_⟩
  simp only [aw_cons_, ew_c, aw_nil_]
  have hb : k.natAbs.log2 < 9000 := by
    have := log_sm (n := k.natAbs) (Nat.lt_of_lt_of_le (by omega : _ < 100) (by decide))
    omega
  refine EW_mono (draw_ok h hk hb) ?_
  rintro _ S1 ⟨v, rfl, v0, v1, hS1⟩
  simp only [iW_int, ew_lc0, rangeD_len]
  refine ⟨⟨by omega, by omega⟩, ⟨by omega, ho⟩, ?_⟩
  refine aw_lcL RngS (fun _ y => ∃ x, RatOk x ∧ y = qD x) hS1 (fun j d S' _ hS' => ⟨_, rfl, rfl, ?_⟩) fun ys S' hl hp hS' => ?_
  · rw [ew_callM]
    refine ⟨?_, ?_⟩
    · have e : ((wipeD ρ [i]).set i (some (.v d)))[0]? = ρ[0]? := by
        rw [List.getElem?_set_ne (by omega), wipeD_get ρ 0 [i] (by simp; omega)]
      rw [e, hm]
      trivial
    · simp only [aw_nil_]
      exact value_ok hS'
  · obtain ⟨xs, h1, h2⟩ := list_of hp
    subst h2
    simp at hl
    exact ⟨xs, h1, by rw [hl]; omega, rfl, hS'⟩
theorem dropLast_map (xs : List (Int × Nat)) : (xs.map qD).dropLast = xs.dropLast.map qD := by
  rw [List.map_dropLast]
theorem lay_qsl (qs : List (Int × Nat)) : Lay (.lst (qs.map qD)) 2 := lay_lst fun d hd => by
  obtain ⟨x, _, rfl⟩ := List.mem_map.mp hd
  exact lay_tup fun e he => by
    simp only [List.mem_cons, List.not_mem_nil, or_false] at he
    rcases he with rfl | rfl <;> exact lay_int _ _
theorem oNe_lnil {ds : List Dat} {k : Nat} (h : Lay (.lst ds) k) (hk : k ≤ 64) : oNe (.lst ds) (.lst []) = some (.bl (decide (ds ≠ []))) := by
  unfold oNe
  rw [if_pos ⟨h.shaped hk, rfl⟩]
  cases ds <;> rfl
theorem oIx_last (ds : List Dat) : oIx (.lst ds) (.int (-1)) = ds.getLast? := by
  show atI ds (-1) = _
  unfold atI ixN
  rw [if_neg (by decide)]
  cases ds with
  | nil => rfl
  | cons d ds =>
    rw [if_pos (by simp; omega), List.getLast?_eq_getElem?]
    have e : (-1 + ((d :: ds).length : Int)).toNat = (d :: ds).length - 1 := by simp; omega
    rw [e]
    rfl
theorem oEq_q (x : Int × Nat) : oEq (qD x) (.tup [.int 0, .int 1]) = some (.bl (decide (x = (0, 1)))) := by
  unfold oEq
  rw [if_pos ⟨rfl, rfl⟩]
  show some (Dat.bl ((x.1 == 0) && (((x.2 : Int) == 1) && true))) = _
  congr 2
  obtain ⟨a, b⟩ := x
  by_cases h1 : a = 0 <;> by_cases h2 : b = 1 <;> simp [h1, h2]
  all_goals omega
theorem trim_ok {xs : List (Int × Nat)} (h : ∀ x ∈ xs, RatOk x) (hl : xs.length < 99) : ∃ ys : List (Int × Nat), (∀ x ∈ ys, RatOk x) ∧ ys.length ≤ xs.length ∧ Ended ys ∧ F_law_trim [.lst (xs.map qD)] = .ok (.lst (ys.map qD)) := by
  have key : FW (F_law_trim [.lst (xs.map qD)]) fun d => ∃ ys : List (Int × Nat), (∀ x ∈ ys, RatOk x) ∧ ys.length ≤ xs.length ∧ Ended ys ∧ d = .lst (ys.map qD) := by
    refine fw_run ?_
    simp [B_law_trim, startD]
    refine sw_while (fun ρ S => ∃ ys : List (Int × Nat), ρ = [some (.v (.lst (xs.map qD))), some (.own (ys.map qD))] ∧ (∀ x ∈ ys, RatOk x) ∧ ys.length ≤ xs.length) (fun ρ S => match ρ with | [_, some (.own y)] => y.length | _ => 0) ?_ 100 ⟨xs, rfl, h, Nat.le_refl _⟩ (by simp; omega)
    rintro ρ S ⟨ys, rfl, hy, hl2⟩
    simp
    rw [oNe_lnil (lay_qsl ys) (by decide)]
    simp only [OW_some, bW_dec]
    have one : ∀ (P : (Int × Nat) → Prop), (∀ a b, P (a, b)) ↔ ∀ x, P x := fun P => ⟨fun h ⟨a, b⟩ => h a b, fun h a b => h _⟩
    by_cases hn : ys = []
    · subst hn
      exact ⟨[], by simp, by simp, fun x h => by simp at h, rfl⟩
    · rw [if_pos (by simpa using hn), oIx_last, List.getLast?_map]
      obtain ⟨zs, z, rfl⟩ : ∃ zs z, ys = zs ++ [z] := ⟨ys.dropLast, ys.getLast hn, (List.dropLast_concat_getLast hn).symm⟩
      simp [oEq_q]
      by_cases hz : z = (0, 1)
      · rw [if_pos hz]
        exact ⟨zs, rfl, fun a b hab => hy _ (by simp [hab]), by simp at hl2; omega⟩
      · rw [if_neg hz]
        refine ⟨zs ++ [z], fun a b hab => hy _ hab, hl2, fun x hx => ?_, by simp⟩
        simp at hx
        subst hx
        exact hz
  obtain ⟨d, e, ys, h1, h2, h3, rfl⟩ := key.ex
  exact ⟨ys, h1, h2, h3, e⟩
end RB

set_option Elab.async false
set_option linter.all false
set_option maxRecDepth 100000
set_option maxHeartbeats 4000000
namespace RB
open PySem PySem.Spec PyProof.Rows L2 PD
variable {S : Fld}
def NmL (l : List Nat) : Prop := ∀ c ∈ l, 97 ≤ c ∧ c ≤ 122
def NmW (w : Str) : Prop := NmL w.cps.toList ∧ 1 ≤ w.cps.toList.length ∧ w.cps.toList.length ≤ 8
theorem letter_ok {v : Int} (h0 : 0 ≤ v) (h1 : v < 26) : ∃ c, 97 ≤ c ∧ c ≤ 122 ∧ oIx (.str "abcdefghijklmnopqrstuvwxyz") (.int v) = some (.str (S' [c])) := by
  have key : ∀ k : Fin 26, (atI ("abcdefghijklmnopqrstuvwxyz" : Str).cps.toList ((k.val : Nat) : Int)) = some (97 + k.val) := by decide +kernel
  obtain ⟨k, rfl⟩ : ∃ k : Nat, v = k := ⟨v.toNat, by omega⟩
  have e := key ⟨k, by omega⟩
  refine ⟨97 + k, by omega, by omega, ?_⟩
  show (if ("abcdefghijklmnopqrstuvwxyz" : Str).length ≤ 100000 then (atI ("abcdefghijklmnopqrstuvwxyz" : Str).cps.toList ((k : Nat) : Int)).map fun c => Dat.str ⟨#[c]⟩ else none) = _
  rw [if_pos (by decide +kernel), e]
  rfl
theorem joinL_sing : ∀ ls : List Nat, TL.joinL [] (ls.map fun c => [c]) = ls
  | [] => rfl
  | [x] => by simp [TL.joinL]
  | x :: y :: xs => by
    have ih := joinL_sing (y :: xs)
    simp only [List.map_cons] at ih ⊢
    simp only [TL.joinL] at ih ⊢
    rw [ih]
    simp
theorem sum_ones : ∀ ls : List Nat, ((ls.map fun c => S' [c]).map (·.length)).sum = ls.length
  | [] => rfl
  | x :: xs => by
    have ih := sum_ones xs
    simp only [List.map_cons, List.sum_cons, List.length_cons] at ih ⊢
    rw [ih, S'_len]
    simp
    omega
theorem oJoin_sing {ls : List Nat} {Q : Dat → Prop} (h : ls.length ≤ 1000) : OW (oJoin (.str "") [.lst (ls.map fun c => Dat.str (S' [c]))]) Q ↔ Q (.str (S' ls)) := by
  have e : oJoin (.str "") [.lst (ls.map fun c => Dat.str (S' [c]))] = (strsOf (ls.map fun c => Dat.str (S' [c]))).bind fun ys => if (ys.map (·.length)).sum + ys.length * ("" : Str).length ≤ 16777216 then some (.str (Txt.join ("" : Str) ys)) else none := rfl
  have c0 : ("" : Str).length = 0 := by decide +kernel
  rw [e, strs_map]
  simp only [Option.bind_some]
  rw [if_pos (by rw [c0, sum_ones]; omega)]
  have e1 : ("" : Str) = SX.S [] := by decide +kernel
  have e2 : (ls.map fun c => S' [c]) = (ls.map fun c => [c]).map SX.S := by
    rw [List.map_map]
    rfl
  rw [e1, e2, SX.join_S, joinL_sing]
  exact Iff.rfl
theorem cut_to {l : List Nat} {k : Nat} : L2.cutS (S' l) none (some (k : Int)) = S' (l.take k) := by
  unfold L2.cutS
  rw [HT.sIx_nat, HT.sIx_none, S'_len, S'_tl]
  simp
theorem cut_from {l : List Nat} {k : Nat} : L2.cutS (S' l) (some (k : Int)) none = S' (l.drop k) := by
  unfold L2.cutS
  rw [HT.sIx_nat, HT.sIx_none, S'_len, S'_tl]
  rcases Nat.le_total k l.length with h | h
  · rw [Nat.min_eq_left h, List.take_of_length_le (by rw [List.length_drop]; omega)]
  · rw [Nat.min_eq_right h, List.drop_of_length_le (Nat.le_refl _), List.drop_of_length_le h]
    simp
theorem oSl_to {l : List Nat} {k : Nat} (h : l.length ≤ 1000) : oSl (.str (S' l)) none (some (k : Int)) = some (.str (S' (l.take k))) := by
  show (if (S' l).length ≤ 100000 then some (Dat.str (L2.cutS (S' l) none (some (k : Int)))) else none) = _
  rw [if_pos (by rw [S'_len]; omega), cut_to]
theorem oSl_from {l : List Nat} {k : Nat} (h : l.length ≤ 1000) : oSl (.str (S' l)) (some (k : Int)) none = some (.str (S' (l.drop k))) := by
  show (if (S' l).length ≤ 100000 then some (Dat.str (L2.cutS (S' l) (some (k : Int)) none)) else none) = _
  rw [if_pos (by rw [S'_len]; omega), cut_from]
theorem mq (n : Int) (l : Str) (h : 0 ≤ n ∧ n ≤ 1000) (e : Txt.mul "q" n = l) : oMulS (.str "q") (.int n) = some (.str l) := by
  show (if 0 ≤ n ∧ n ≤ 1000 ∧ ("q" : Str).length ≤ 100 then some (Dat.str (Txt.mul "q" n)) else none) = _
  rw [if_pos ⟨h.1, h.2, by decide +kernel⟩, e]
theorem mulq {n : Int} (h0 : 0 ≤ n) (h1 : n < 3) : ∃ l, NmL l ∧ l.length ≤ 2 ∧ oMulS (.str "q") (.int n) = some (.str (S' l)) := by
  have h : n = 0 ∨ n = 1 ∨ n = 2 := by omega
  rcases h with rfl | rfl | rfl
  · exact ⟨[], by simp [NmL], by simp, mq 0 _ (by decide) (by decide +kernel)⟩
  · exact ⟨[113], by simp [NmL], by simp, mq 1 _ (by decide) (by decide +kernel)⟩
  · exact ⟨[113, 113], by simp [NmL], by simp, mq 2 _ (by decide) (by decide +kernel)⟩
theorem term_names_ok (h : RngS S) : EW (F_law_term_names S []) fun d S' => (∃ a b c : Str, NmW a ∧ NmW b ∧ NmW c ∧ d = .lst [.str a, .str b, .str c]) ∧ RngS S' := by
  refine ew_run ?_
  simp [B_law_term_names, startM, isStr]
  refine EW_mono (draw_ok h (by decide) (by decide)) ?_
  rintro _ S1 ⟨v, rfl, v0, v1, hS1⟩
  simp only [iW_int]
  refine ⟨⟨by omega, by omega⟩, ⟨by omega, rfl⟩, ?_⟩
  refine aw_lcL RngS (fun _ y => ∃ c : Nat, (97 ≤ c ∧ c ≤ 122) ∧ y = .str (S' [c])) hS1 (fun j d S' _ hS' => ⟨_, rfl, rfl, ?_⟩) fun ys S2 hl hp hS2 => ?_
  · simp [wipeD]
    refine EW_mono (draw_ok hS' (by decide) (by decide)) ?_
    rintro _ S3 ⟨u, rfl, u0, u1, hS3⟩
    obtain ⟨c, c0, c1, e⟩ := letter_ok u0 u1
    simp [e]
    exact ⟨⟨c0, c1⟩, hS3⟩
  · obtain ⟨ls, h1, rfl⟩ := list_of hp
    simp at hl
    have hls : ls.length ≤ 5 := by omega
    rw [oJoin_sing (by omega)]
    have el : oLen [.str (S' ls)] = some (.int ls.length) := by
      show (if (S' ls).length ≤ 100000 then some (Dat.int ((S' ls).length : Int)) else none) = _
      rw [if_pos (by rw [S'_len]; omega), S'_len]
    simp only [el, OW_some, oAdd_i]
    refine EW_mono (draw_ok hS2 (by omega) (by
      have := log_sm (n := (((ls.length : Nat) : Int) + 1).natAbs) (Nat.lt_of_lt_of_le (by omega : _ < 100) (by decide))
      omega)) ?_
    rintro _ S3 ⟨k, rfl, k0, k1, hS3⟩
    obtain ⟨k, rfl⟩ : ∃ m : Nat, k = m := ⟨k.toNat, by omega⟩
    refine EW_mono (draw_ok hS3 (by decide) (by decide)) ?_
    rintro _ S4 ⟨st, rfl, s0, s1, hS4⟩
    refine ⟨_, rfl, rfl, ?_⟩
    refine aw_lcL RngS (fun _ y => ∃ l : List Nat, (NmL l ∧ l.length = ls.length + 1) ∧ y = .str (S' l)) hS4 (fun j d S' hj hS' => ⟨_, rfl, rfl, ?_⟩) fun ys S5 hl2 hp2 hS5 => ?_
    · obtain ⟨rfl, hj3⟩ := rangeD_get hj
      simp [wipeD]
      rw [oSl_to (by omega)]
      simp only [OW_some]
      rw [OW_mul2 (by decide) (by
        have := log_sm (n := ((j : Nat) : Int).natAbs) (Nat.lt_of_lt_of_le (by omega : _ < 100) (by decide))
        omega)]
      simp
      rw [OW_mod (by decide)]
      obtain ⟨c, c0, c1, e⟩ := letter_ok (v := (st + 9 * (j : Int)).fmod 26) (Int.fmod_nonneg_of_pos _ (by decide)) (Int.fmod_lt_of_pos _ (by decide))
      rw [e, oSl_from (by omega)]
      simp
      simp only [← S'_app, S'_len]
      simp
      refine ⟨by omega, by omega, ⟨?_, by omega⟩, hS'⟩
      · intro z hz
        simp at hz
        rcases hz with hz | rfl | hz
        · exact h1 z (List.mem_of_mem_take hz)
        · exact ⟨c0, c1⟩
        · exact h1 z (List.mem_of_mem_drop hz)
    · obtain ⟨lls, g1, rfl⟩ := list_of hp2
      simp at hl2
      obtain ⟨a, b, c, rfl⟩ : ∃ a b c, lls = [a, b, c] := by
        match lls, hl2 with
        | [a, b, c], _ => exact ⟨a, b, c, rfl⟩
      simp
      refine EW_mono (draw_ok hS5 (by decide) (by decide)) ?_
      rintro _ S6 ⟨q, rfl, q0, q1, hS6⟩
      obtain ⟨lq, n1, n2, eq⟩ := mulq q0 q1
      have e2 : PD.cutD [.str (S' a), .str (S' b), .str (S' c)] none (some 2) = [.str (S' a), .str (S' b)] := rfl
      have ga := g1 a (by simp)
      have gb := g1 b (by simp)
      have gc := g1 c (by simp)
      rw [e2]
      simp [eq]
      simp only [← S'_app, S'_len]
      refine ⟨by omega, ⟨_, ?_, _, ?_, _, ?_, rfl, rfl, rfl⟩, hS6⟩
      · exact ⟨by rw [S'_tl]; exact ga.1, by rw [S'_tl]; omega, by rw [S'_tl]; omega⟩
      · exact ⟨by rw [S'_tl]; exact gb.1, by rw [S'_tl]; omega, by rw [S'_tl]; omega⟩
      · refine ⟨by rw [S'_tl]; intro z hz; rcases List.mem_append.mp hz with hz | hz; exact gc.1 z hz; exact n1 z hz, by rw [S'_tl, List.length_append]; omega, by rw [S'_tl, List.length_append]; omega⟩
end RB

set_option Elab.async false
set_option linter.all false
set_option maxRecDepth 100000
set_option maxHeartbeats 4000000
namespace RB
open PySem PySem.Spec PyProof.Rows L2 PD
variable {S : Fld}
theorem moreX_len : ∀ xs : List (Int × Nat), (∀ x ∈ xs, RatOk x) → (moreX xs).length ≤ 22 * xs.length
  | [], _ => Nat.le_refl _
  | x :: xs, h => by
    have a := ratX_len (h x (by simp))
    have b := moreX_len xs fun z hz => h z (by simp [hz])
    simp [moreX]
    omega
theorem ratsX_len {xs : List (Int × Nat)} (h : ∀ x ∈ xs, RatOk x) : (ratsX xs).length ≤ 22 * xs.length := by
  cases xs with
  | nil => exact Nat.le_refl _
  | cons x xs =>
    have a := ratX_len (h x (by simp))
    have b := moreX_len xs fun z hz => h z (by simp [hz])
    simp [ratsX]
    omega
structure TOk (t : Tr) (h : Nat) : Prop where
  ok : t.Ok
  nm : t.Nm
  hg : t.hgt ≤ h
  tl : t.tx.length + 50 ≤ 100 * 2 ^ h
theorem NmW.sok {w : Str} (h : NmW w) : PyData.strOk w = true := by
  unfold PyData.strOk
  rw [Array.all_eq_true_iff_forall_mem]
  intro c hc
  have := h.1 c (by simpa using hc)
  simp
  omega
theorem pow1 (h : Nat) (h1 : 1 ≤ h) : 200 ≤ 100 * 2 ^ h := by
  have : 2 ^ 1 ≤ 2 ^ h := Nat.pow_le_pow_right (by decide) h1
  omega
theorem TOk.name {w : Str} {h : Nat} (hw : NmW w) (h1 : 1 ≤ h) : TOk (.name w) h := ⟨hw.sok, hw, h1, by
  have := pow1 h h1
  have := hw.2.2
  show w.cps.toList.length + 50 ≤ _
  omega⟩
theorem TOk.list {xs : List (Int × Nat)} {h : Nat} (hx : ∀ x ∈ xs, RatOk x) (hl : xs.length ≤ 3) (h1 : 1 ≤ h) : TOk (.list xs) h := ⟨⟨hx, by omega⟩, trivial, h1, by
  have := pow1 h h1
  have := ratsX_len hx
  simp [Tr.tx]
  omega⟩
theorem TOk.unity {m h : Nat} (hm : m < 100) (h1 : 1 ≤ h) : TOk (.unity m) h := ⟨by show m < 10 ^ 9; omega, trivial, h1, by
  have := pow1 h h1
  have := numL_len' (v := m) (by omega)
  have : ("unity" : Str).cps.toList.length = 5 := by decide +kernel
  simp [Tr.tx, callX] at this ⊢
  omega⟩
theorem TOk.roots {xs : List (Int × Nat)} {h : Nat} (hx : ∀ x ∈ xs, RatOk x) (hl : xs.length ≤ 3) (he : Ended xs) (hn : xs ≠ []) (h1 : 1 ≤ h) : TOk (.roots xs) h := ⟨⟨⟨hx, by omega⟩, he, hn⟩, trivial, h1, by
  have := pow1 h h1
  have := ratsX_len hx
  have : ("roots" : Str).cps.toList.length = 5 := by decide +kernel
  simp [Tr.tx, callX, polyX] at this ⊢
  omega⟩
theorem pow_s (h : Nat) : 100 * 2 ^ (h + 1) = 100 * 2 ^ h + 100 * 2 ^ h := by
  rw [Nat.pow_succ]
  omega
section
variable {t x y : Tr} {h m : Nat} {qs : List (Int × Nat)}
theorem TOk.hpos (a : TOk t h) : 1 ≤ h := Nat.le_trans t.hgt_pos a.hg
theorem TOk.neg (a : TOk t h) : TOk (.neg t) (h + 1) := ⟨a.ok, a.nm, Nat.succ_le_succ a.hg, by
  have := a.tl
  have := parX_len (decide (t.lv < 4)) t.tx
  have := pow1 h a.hpos
  rw [pow_s]
  simp [Tr.tx]
  omega⟩
theorem TOk.dist (a : TOk t h) : TOk (.dist t) (h + 1) := ⟨a.ok, a.nm, Nat.succ_le_succ a.hg, by
  have := a.tl
  have := pow1 h a.hpos
  have : ("distinct" : Str).cps.toList.length = 8 := by decide +kernel
  rw [pow_s]
  simp [Tr.tx, callX] at this ⊢
  omega⟩
theorem TOk.pow (a : TOk t h) (hm : m < 10 ^ 9) : TOk (.pow t m) (h + 1) := ⟨⟨a.ok, hm⟩, a.nm, Nat.succ_le_succ a.hg, by
  have := a.tl
  have := pow1 h a.hpos
  have := parX_len (decide (t.lv < 5)) t.tx
  have := numL_len' hm
  rw [pow_s]
  simp [Tr.tx]
  omega⟩
theorem TOk.cho {b : Bool} (a : TOk t h) (hm : m < 10 ^ 9) : TOk (.cho b t m) (h + 1) := ⟨⟨a.ok, hm⟩, a.nm, Nat.succ_le_succ a.hg, by
  have := a.tl
  have := pow1 h a.hpos
  have := numL_len' hm
  have : (Tr.choW b).cps.toList.length ≤ 8 := by cases b <;> decide +kernel
  rw [pow_s]
  simp [Tr.tx, callX] at this ⊢
  omega⟩
theorem TOk.map (a : TOk t h) (hx : ∀ x ∈ qs, RatOk x) (hl : qs.length ≤ 3) (he : Ended qs) : TOk (.map qs t) (h + 1) := ⟨⟨⟨hx, by omega⟩, he, a.ok⟩, a.nm, Nat.succ_le_succ a.hg, by
  have := a.tl
  have := pow1 h a.hpos
  have := ratsX_len hx
  have : ("map" : Str).cps.toList.length = 3 := by decide +kernel
  rw [pow_s]
  simp [Tr.tx, callX, polyX] at this ⊢
  omega⟩
theorem TOk.two {b : Bool} (a : TOk x h) (c : TOk y h) : TOk (.two b x y) (h + 1) := ⟨⟨a.ok, c.ok⟩, ⟨a.nm, c.nm⟩, Nat.succ_le_succ (Nat.max_le.mpr ⟨a.hg, c.hg⟩), by
  have := a.tl
  have := c.tl
  have : (Tr.twoW b).cps.toList.length ≤ 8 := by cases b <;> decide +kernel
  rw [pow_s]
  simp [Tr.tx, callX] at this ⊢
  omega⟩
theorem TOk.bin {op : Op} (a : TOk x h) (c : TOk y h) : TOk (.bin op x y) (h + 1) := ⟨⟨a.ok, c.ok⟩, ⟨a.nm, c.nm⟩, Nat.succ_le_succ (Nat.max_le.mpr ⟨a.hg, c.hg⟩), by
  have := a.tl
  have := c.tl
  have := parX_len (decide (x.lv < op.s)) x.tx
  have := parX_len (decide (y.lv < op.s + 1)) y.tx
  rw [pow_s]
  simp [Tr.tx] at this ⊢
  omega⟩
end
/-- what _law_tree gives -/
def TrD (h : Nat) (d : Dat) : Prop := ∃ t, TOk t h ∧ d = t.dat
theorem qD_in (v : Int) (h : 0 ≤ v) (h2 : v < 1000) : RatOk (v, 1) := ⟨Nat.one_pos, by show 1 < 1000; decide, by simp, by simp; omega⟩
abbrev rhoTr (h v : Nat) (ns : List Str) : DEnv := [some .me, some (.v (.int h)), some (.v (.lst (ns.map Dat.str))), some (.v (.int v)), none, none, none]
theorem tree_ok {ns : List Str} (hn : ∀ x ∈ ns, NmW x) (hz : 0 < ns.length ∧ ns.length ≤ 1000) : ∀ (n h : Nat) (S : Fld), h < n → 1 ≤ h → h ≤ 50 → RngS S → EW (F_law_tree n S [.int h, .lst (ns.map Dat.str)]) fun d S' => TrD h d ∧ RngS S'
  | 0, h, S, hh, _, _, _ => by omega
  | n + 1, h, S, hh, h1, h50, hS => by
    refine ew_run ?_
    refine sw_cut (fun ρ S1 => ∃ v : Nat, ρ = rhoTr h v ns ∧ v < 14 ∧ (h ≤ 1 → v < 4) ∧ RngS S1) ?_ ?_
    · simp [startM]
      by_cases h2 : (1 : Int) < h
      · rw [if_pos h2]
        refine EW_mono (draw_ok hS (by decide) (by decide)) ?_
        rintro _ S1 ⟨v, rfl, v0, v1, hS1⟩
        obtain ⟨k, rfl⟩ : ∃ k : Nat, v = k := ⟨v.toNat, by omega⟩
        exact ⟨k, rfl, by omega, by omega, hS1⟩
      · rw [if_neg h2]
        refine EW_mono (draw_ok hS (by decide) (by decide)) ?_
        rintro _ S1 ⟨v, rfl, v0, v1, hS1⟩
        obtain ⟨k, rfl⟩ : ∃ k : Nat, v = k := ⟨v.toNat, by omega⟩
        exact ⟨k, rfl, by omega, by omega, hS1⟩
    · clear hS S
      rintro ρ S ⟨v, rfl, v14, v4, hS⟩
      have nm : EW (F_law_pick S [.lst (ns.map Dat.str)]) fun x S' => TrD h (.tup [.str "name", x]) ∧ RngS S' := by
        refine EW_mono (pick_ok hS (by rw [List.length_map]; exact hz.1) (by rw [List.length_map]; exact hz.2)) ?_
        rintro d S2 ⟨hd, hS2⟩
        obtain ⟨x, hx, rfl⟩ := List.mem_map.mp hd
        exact ⟨⟨.name x, .name (hn x hx) h1, rfl⟩, hS2⟩
      have vs : ∀ {k : Int} {S : Fld}, RngS S → 0 < k → k < 100 → EW (fLcR1 (fCallM 0 F_law_draw (fCons (fC (.int k)) fNil)) (gN 6) fYes (fCallM 0 F_law_value fNil) [6] (rhoTr h v ns) S) fun d S' => ∃ xs : List (Int × Nat), (∀ x ∈ xs, RatOk x) ∧ (xs.length : Int) < k ∧ d = .lst (xs.map qD) ∧ RngS S' := fun hS k0 k1 => values_ok hS k0 k1 rfl (by decide) rfl
      have hv : v = 0 ∨ v = 1 ∨ v = 2 ∨ v = 3 ∨ 4 ≤ v := by omega
      rcases hv with rfl | rfl | rfl | rfl | hv
      · simpa [-ew_lcR1] using nm
      · simpa [-ew_lcR1] using nm
      · simp [-ew_lcR1]
        refine EW_mono (vs hS (by decide) (by decide)) ?_
        rintro _ S1 ⟨xs, hx, hl, rfl, hS1⟩
        simp [oTuple_l]
        exact ⟨⟨.list xs, .list hx (by omega) h1, rfl⟩, hS1⟩
      · simp [-ew_lcR1]
        refine EW_mono (draw_ok hS (by decide) (by decide)) ?_
        rintro _ S1 ⟨u, rfl, u0, u1, hS1⟩
        simp only [oEq_ii, OW_some, bW_dec]
        by_cases hu : u = 0
        · rw [if_pos hu]
          refine EW_mono (draw_ok hS1 (by decide) (by decide)) ?_
          rintro _ S2 ⟨u, rfl, u0, u1, hS2⟩
          obtain ⟨k, rfl⟩ : ∃ k : Nat, u = k := ⟨u.toNat, by omega⟩
          exact ⟨⟨.unity k, .unity (by omega) h1, rfl⟩, hS2⟩
        · rw [if_neg hu]
          refine EW_mono (vs hS1 (by decide) (by decide)) ?_
          rintro _ S2 ⟨xs, hx, hl, rfl, hS2⟩
          refine EW_mono (draw_ok hS2 (by decide) (by decide)) ?_
          rintro _ S3 ⟨w, rfl, w0, w1, hS3⟩
          simp [oTuple_l]
          have e : xs.map qD ++ [.tup [.int (1 + w), .int 1]] = (xs ++ [(1 + w, 1)]).map qD := by simp [qD]
          refine ⟨by omega, ⟨.roots (xs ++ [(1 + w, 1)]), .roots ?_ (by simp; omega) ?_ (by simp) h1, ?_⟩, hS3⟩
          · intro x hx'
            rcases List.mem_append.mp hx' with z | z
            · exact hx x z
            · rw [List.mem_singleton.mp z]
              exact qD_in _ (by omega) (by omega)
          · intro x hx'
            simp at hx'
            subst hx'
            intro z
            have := congrArg Prod.fst z
            simp at this
            omega
          · rw [e]
            rfl
      · have h2 : 2 ≤ h := by omega
        obtain ⟨g, rfl⟩ : ∃ g : Nat, h = g + 1 := ⟨h - 1, by omega⟩
        have sub : ∀ {S : Fld}, RngS S → EW (F_law_tree n S [.int (g : Int), .lst (ns.map Dat.str)]) fun d S' => TrD g d ∧ RngS S' := fun hS => by
          exact tree_ok hn hz n g _ (by omega) (by omega) (by omega) hS
        have hv : v = 4 ∨ v = 5 ∨ v = 6 ∨ v = 7 ∨ v = 8 ∨ v = 9 ∨ v = 10 ∨ v = 11 ∨ v = 12 ∨ v = 13 := by omega
        refine sw_cut (fun ρ S1 => ρ = rhoTr (g + 1) v ns ∧ RngS S1) (by simp [-ew_lcR1]; rw [if_neg (by omega)]; exact hS) ?_
        clear hS nm S
        rintro ρ S ⟨rfl, hS⟩
        refine sw_cut (fun ρ S1 => ρ = rhoTr (g + 1) v ns ∧ RngS S1) (by simp [-ew_lcR1]; rw [if_neg (by omega)]; exact hS) ?_
        clear hS S
        rintro ρ S ⟨rfl, hS⟩
        refine sw_cut (fun ρ S1 => ρ = rhoTr (g + 1) v ns ∧ RngS S1) (by simp [-ew_lcR1]; rw [if_neg (by omega)]; exact hS) ?_
        clear hS S
        rintro ρ S ⟨rfl, hS⟩
        -- the first subterm
        refine sw_cut (fun ρ S1 => ∃ t, TOk t g ∧ ρ = [some .me, some (.v (.int ((g + 1 : Nat) : Int))), some (.v (.lst (ns.map Dat.str))), some (.v (.int v)), some (.v t.dat), none, none] ∧ RngS S1) ?_ ?_
        · rw [sw_set]
          simp only [ew_callM, aw_cons_, ew_op, ew_var, ew_c, aw_nil_]
          refine ⟨trivial, ?_⟩
          simp only [rhoTr, List.getElem?_cons_succ, List.getElem?_cons_zero, sV_v, oSub_i, OW_some]
          rw [show ((g + 1 : Nat) : Int) - 1 = (g : Int) by omega]
          refine EW_mono (sub hS) ?_
          rintro _ S1 ⟨⟨t, ht, rfl⟩, hS1⟩
          exact ⟨t, ht, rfl, hS1⟩
        clear hS S
        rintro ρ S ⟨t, ht, rfl, hS⟩
        rcases hv with rfl | rfl | rfl | rfl | rfl | rfl | rfl | rfl | rfl | rfl
        all_goals simp [-ew_lcR1]
        iterate 5
          · refine EW_mono (sub hS) ?_
            rintro _ S1 ⟨⟨u, hu, rfl⟩, hS1⟩
            refine ⟨?_, hS1⟩
            first
              | exact ⟨.bin .jo t u, ht.bin hu, rfl⟩
              | exact ⟨.bin .su t u, ht.bin hu, rfl⟩
              | exact ⟨.bin .di t u, ht.bin hu, rfl⟩
              | exact ⟨.bin .pr t u, ht.bin hu, rfl⟩
              | exact ⟨.bin .qu t u, ht.bin hu, rfl⟩
        · refine EW_mono (pick_ok hS (by simp) (by simp)) ?_
          rintro d S2 ⟨hd, hS2⟩
          simp at hd
          refine ⟨?_, hS2⟩
          rcases hd with rfl | rfl
          · exact ⟨.neg t, ht.neg, rfl⟩
          · exact ⟨.dist t, ht.dist, rfl⟩
        · refine EW_mono (draw_ok hS (by decide) (by decide)) ?_
          rintro _ S1 ⟨u, rfl, u0, u1, hS1⟩
          obtain ⟨k, rfl⟩ : ∃ k : Nat, u = k := ⟨u.toNat, by omega⟩
          exact ⟨⟨.pow t k, ht.pow (by omega), rfl⟩, hS1⟩
        · refine EW_mono (values_ok hS (by decide) (by decide) rfl (by decide) rfl) ?_
          rintro _ S1 ⟨xs, hx, hl, rfl, hS1⟩
          obtain ⟨ys, y1, y2, y3, e⟩ := trim_ok hx (by omega)
          simp [e, oTuple_l]
          exact ⟨⟨.map ys t, ht.map y1 (by omega) y3, rfl⟩, hS1⟩
        · refine EW_mono (pick_ok hS (by simp) (by simp)) ?_
          rintro d S2 ⟨hd, hS2⟩
          refine EW_mono (draw_ok hS2 (by decide) (by decide)) ?_
          rintro _ S1 ⟨u, rfl, u0, u1, hS1⟩
          obtain ⟨k, rfl⟩ : ∃ k : Nat, u = k := ⟨u.toNat, by omega⟩
          simp at hd
          refine ⟨?_, hS1⟩
          rcases hd with rfl | rfl
          · exact ⟨.cho true t k, ht.cho (by omega), rfl⟩
          · exact ⟨.cho false t k, ht.cho (by omega), rfl⟩
        · refine EW_mono (pick_ok hS (by simp) (by simp)) ?_
          rintro d S2 ⟨hd, hS2⟩
          refine EW_mono (sub hS2) ?_
          rintro _ S1 ⟨⟨u, hu, rfl⟩, hS1⟩
          simp at hd
          refine ⟨?_, hS1⟩
          rcases hd with rfl | rfl
          · exact ⟨.two true t u, ht.two hu, rfl⟩
          · exact ⟨.two false t u, ht.two hu, rfl⟩
end RB

set_option Elab.async false
set_option linter.all false
set_option maxRecDepth 100000
set_option maxHeartbeats 4000000
namespace RB
open PySem PySem.Spec PyProof.Rows L2 PD
variable {S : Fld}
theorem oIn_lst (w : Str) (ds : List Dat) : oIn false (.str w) (.lst ds) = (inD (.str w) ds).map fun b => Dat.bl b := rfl
theorem inD_nil (w : Str) : inD (.str w) [] = some false := rfl
theorem inD_cons (w a : Str) (ds : List Dat) : inD (.str w) (.str a :: ds) = (inD (.str w) ds).map fun b => (a == w) || b := by
  unfold inD
  have e : ((Dat.str a :: ds).all flatD = true) ↔ (ds.all flatD = true) := by simp [flatD]
  by_cases h : ds.all flatD = true
  · rw [if_pos ⟨rfl, e.mpr h⟩, if_pos ⟨rfl, h⟩]
    rfl
  · rw [if_neg (fun z => h (e.mp z.2)), if_neg (fun z => h z.2)]
    rfl
def Tr.subs : Tr → List Tr
  | .neg t => [t]
  | .pow t _ => [t]
  | .map _ t => [t]
  | .cho _ t _ => [t]
  | .dist t => [t]
  | .two _ x y => [x, y]
  | .bin _ x y => [x, y]
  | _ => []
theorem parts_ok : ∀ t : Tr, F_law_parts [t.dat] = .ok (.lst (t.subs.map Tr.dat))
  | .name w => FW.eq (fw_run (by simp [B_law_parts, startD, Tr.dat, Tr.subs, oIn_lst, inD_cons, inD_nil]))
  | .list w => FW.eq (fw_run (by simp [B_law_parts, startD, Tr.dat, Tr.subs, oIn_lst, inD_cons, inD_nil]))
  | .unity w => FW.eq (fw_run (by simp [B_law_parts, startD, Tr.dat, Tr.subs, oIn_lst, inD_cons, inD_nil]))
  | .roots w => FW.eq (fw_run (by simp [B_law_parts, startD, Tr.dat, Tr.subs, oIn_lst, inD_cons, inD_nil]))
  | .neg t => FW.eq (fw_run (by simp [B_law_parts, startD, Tr.dat, Tr.subs, oIn_lst, inD_cons, inD_nil]))
  | .pow t m => FW.eq (fw_run (by simp [B_law_parts, startD, Tr.dat, Tr.subs, oIn_lst, inD_cons, inD_nil]))
  | .map q t => FW.eq (fw_run (by simp [B_law_parts, startD, Tr.dat, Tr.subs, oIn_lst, inD_cons, inD_nil]))
  | .cho b t m => FW.eq (fw_run (by cases b <;> simp [B_law_parts, startD, Tr.dat, Tr.subs, oIn_lst, inD_cons, inD_nil, Tr.choW]))
  | .dist t => FW.eq (fw_run (by simp [B_law_parts, startD, Tr.dat, Tr.subs, oIn_lst, inD_cons, inD_nil]))
  | .two b x y => FW.eq (fw_run (by cases b <;> simp [B_law_parts, startD, Tr.dat, Tr.subs, oIn_lst, inD_cons, inD_nil, Tr.twoW]))
  | .bin op x y => FW.eq (fw_run (by cases op <;> simp [B_law_parts, startD, Tr.dat, Tr.subs, oIn_lst, inD_cons, inD_nil, Op.word]))
theorem oSum0 : oSum [.lst []] = some (.int 0) := rfl
theorem oSum1 (a : Int) : oSum [.lst [.int a]] = some (.int a) := by
  show some (Dat.int _) = _
  simp
theorem oSum2 (a b : Int) : oSum [.lst [.int a, .int b]] = some (.int (a + b)) := by
  show some (Dat.int _) = _
  simp
theorem nodes_ok : ∀ (t : Tr) (n : Nat), t.hgt ≤ n → F_law_nodes n [t.dat] = .ok (.int t.size)
  | t, 0, h => by have := t.hgt_pos; omega
  | t, n + 1, h => by
    have p := parts_ok t
    refine FW.eq (fw_run ?_)
    have one : ∀ (u : Tr), t.subs = [u] → t.hgt = u.hgt + 1 → t.size = u.size + 1 → SW (B_law_nodes (F_law_nodes n) (startD 2 [t.dat]) []) (fun _ _ => Dat.non = .int t.size) fun d _ => d = .int t.size := fun u e1 e2 e3 => by
      rw [e1] at p
      have ih := nodes_ok u n (by omega)
      simp [B_law_nodes, startD, p, PD.listOf, ownAny, gN, wipeD, ih, oSum1, e3]
      omega
    have two : ∀ (u w : Tr), t.subs = [u, w] → t.hgt = max u.hgt w.hgt + 1 → t.size = u.size + w.size + 1 → SW (B_law_nodes (F_law_nodes n) (startD 2 [t.dat]) []) (fun _ _ => Dat.non = .int t.size) fun d _ => d = .int t.size := fun u w e1 e2 e3 => by
      rw [e1] at p
      have ih := nodes_ok u n (by omega)
      have ih2 := nodes_ok w n (by omega)
      simp [B_law_nodes, startD, p, PD.listOf, ownAny, gN, wipeD, ih, ih2, oSum2, e3]
      omega
    have zero : t.subs = [] → t.size = 1 → SW (B_law_nodes (F_law_nodes n) (startD 2 [t.dat]) []) (fun _ _ => Dat.non = .int t.size) fun d _ => d = .int t.size := fun e1 e3 => by
      rw [e1] at p
      simp [B_law_nodes, startD, p, PD.listOf, ownAny, gN, wipeD, oSum0, e3]
    cases t with
    | name w => exact zero rfl rfl
    | list w => exact zero rfl rfl
    | unity w => exact zero rfl rfl
    | roots w => exact zero rfl rfl
    | neg t => exact one t rfl rfl rfl
    | pow t m => exact one t rfl rfl rfl
    | map q t => exact one t rfl rfl rfl
    | cho b t m => exact one t rfl rfl rfl
    | dist t => exact one t rfl rfl rfl
    | two b x y => exact two x y rfl rfl rfl
    | bin op x y => exact two x y rfl rfl rfl
/-- the trees of the law -/
structure WOk (t : Tr) : Prop where
  ok : t.Ok
  nm : t.Nm
  hg : t.hgt ≤ 10
  sz : t.size ≤ 40
  tl : t.tx.length ≤ 250
theorem wanted_ok {a b : Str} {h : Nat} (ha : NmW a) (hb : NmW b) (h1 : 1 ≤ h) (h5 : h ≤ 5) (hS : RngS S) : EW (F_law_wanted_tree S [.int h, .lst [.str a, .str b]]) fun d S' => (∃ t, WOk t ∧ d = t.dat) ∧ RngS S' := by
  refine ew_run ?_
  simp [B_law_wanted_tree, startM]
  have tr := tree_ok (ns := [a, b]) (by
    intro x hx
    simp at hx
    rcases hx with rfl | rfl
    · exact ha
    · exact hb) (by simp) 8 h S (by omega) h1 (by omega) hS
  simp only [List.map_cons, List.map_nil] at tr
  refine EW_mono tr ?_
  rintro _ S1 ⟨⟨t, ht, rfl⟩, hS1⟩
  have l5 : 100 * 2 ^ h ≤ 100 * 2 ^ 5 := Nat.mul_le_mul_left _ (Nat.pow_le_pow_right (by decide) h5)
  have hl := ht.tl
  have e1 := law_text_ok t ht.ok (by omega) 24 (by have := ht.hg; omega)
  have e1 : (GT 24).x_law_text [t.dat] = .ok (.str (S' t.tx)) := e1
  have e2 := nodes_ok t 20 (by have := ht.hg; omega)
  have el : oLen [.str (S' t.tx)] = some (.int t.tx.length) := by
    show (if (S' t.tx).length ≤ 100000 then some (Dat.int ((S' t.tx).length : Int)) else none) = _
    rw [if_pos (by rw [S'_len]; omega), S'_len]
  simp [e1, e2, el]
  have nmd : (∃ t', WOk t' ∧ Dat.tup [.str "name", .str a] = t'.dat) ∧ RngS S1 := ⟨⟨.name a, ⟨ha.sok, ha, (by show 1 ≤ 10; decide), (by show (1 : Int) ≤ 40; decide), by have := ha.2.2; show a.cps.toList.length ≤ 250; omega⟩, rfl⟩, hS1⟩
  by_cases c1 : t.tx.length < 120
  · rw [if_pos (by omega)]
    by_cases c2 : t.size < 25
    · rw [if_pos c2]
      exact ⟨⟨t, ⟨ht.ok, ht.nm, by have := ht.hg; omega, by omega, by omega⟩, rfl⟩, hS1⟩
    · rw [if_neg c2]
      exact nmd
  · rw [if_neg (by omega)]
    exact nmd
end RB

set_option Elab.async false
set_option linter.all false
set_option maxRecDepth 100000
set_option maxHeartbeats 8000000
namespace RB
open PySem PySem.Spec PyProof.Rows L2 PD RBS
/-! ### trees and steps: what stands in the places of the operands -/
def Tr.put : Tr → List Dat → Dat
  | .neg _, [d] => .tup [.str "negative", d]
  | .pow _ m, [d] => .tup [.str "power", d, .int m]
  | .map qs _, [d] => .tup [.str "map", .tup (qs.map qD), d]
  | .cho b _ m, [d] => .tup [.str (Tr.choW b), d, .int m]
  | .dist _, [d] => .tup [.str "distinct", d]
  | .two b _ _, [d, e] => .tup [.str (Tr.twoW b), d, e]
  | .bin op _ _, [d, e] => .tup [.str op.word, d, e]
  | t, _ => t.dat
theorem Tr.put_self : ∀ t : Tr, t.put (t.subs.map Tr.dat) = t.dat := fun t => by cases t <;> rfl
theorem operands_put : ∀ (t : Tr) (ds : List Dat), ds.length = t.subs.length → F_operands [t.put ds] = .ok (.lst ds)
  | .name w, [], _ => by kernel_rfl
  | .list w, [], _ => by kernel_rfl
  | .unity w, [], _ => by kernel_rfl
  | .roots w, [], _ => by kernel_rfl
  | .neg t, [d], _ => by kernel_rfl
  | .pow t m, [d], _ => by kernel_rfl
  | .map q t, [d], _ => by kernel_rfl
  | .cho b t m, [d], _ => by cases b <;> kernel_rfl
  | .dist t, [d], _ => by kernel_rfl
  | .two b x y, [d, e], _ => by cases b <;> kernel_rfl
  | .bin op x y, [d, e], _ => by cases op <;> kernel_rfl
theorem with_put : ∀ (t : Tr) (ds es : List Dat), ds.length = t.subs.length → es.length = t.subs.length → F_with_operands [t.put ds, .lst es] = .ok (t.put es)
  | .name w, [], [], _, _ => by kernel_rfl
  | .list w, [], [], _, _ => by kernel_rfl
  | .unity w, [], [], _, _ => by kernel_rfl
  | .roots w, [], [], _, _ => by kernel_rfl
  | .neg t, [d], [e], _, _ => by kernel_rfl
  | .pow t m, [d], [e], _, _ => by kernel_rfl
  | .map q t, [d], [e], _, _ => by kernel_rfl
  | .cho b t m, [d], [e], _, _ => by cases b <;> kernel_rfl
  | .dist t, [d], [e], _, _ => by kernel_rfl
  | .two b x y, [d, d2], [e, e2], _, _ => by cases b <;> kernel_rfl
  | .bin op x y, [d, d2], [e, e2], _, _ => by cases op <;> kernel_rfl
theorem operands_ok (t : Tr) : F_operands [t.dat] = .ok (.lst (t.subs.map Tr.dat)) := by
  rw [← t.put_self]
  exact operands_put t _ (by rw [List.length_map])
theorem with_ok (t : Tr) (es : List Dat) (h : es.length = t.subs.length) : F_with_operands [t.dat, .lst es] = .ok (t.put es) := by
  rw [← t.put_self]
  exact with_put t _ _ (by rw [List.length_map]) h
theorem map_inj {α β : Type} {f : α → β} (h : ∀ a b, f a = f b → a = b) : ∀ {xs ys : List α}, xs.map f = ys.map f → xs = ys
  | [], [], _ => rfl
  | [], _ :: _, e => by cases e
  | _ :: _, [], e => by cases e
  | x :: xs, y :: ys, e => by
    rw [List.map_cons, List.map_cons] at e
    obtain ⟨e1, e2⟩ := List.cons.inj e
    rw [h _ _ e1, map_inj h e2]
theorem qD_inj (a b : Int × Nat) (h : qD a = qD b) : a = b := by
  have h : Dat.tup [.int a.1, .int a.2] = Dat.tup [.int b.1, .int b.2] := h
  simp at h
  exact Prod.ext h.1 (by omega)
def Tr.word : Tr → Str
  | .name _ => "name" | .list _ => "list" | .unity _ => "unity" | .roots _ => "roots" | .neg _ => "negative" | .pow _ _ => "power" | .map _ _ => "map" | .cho b _ _ => Tr.choW b | .dist _ => "distinct" | .two b _ _ => Tr.twoW b | .bin op _ _ => op.word
def Op.kc : Op → Nat
  | .jo => 12 | .su => 13 | .di => 14 | .pr => 15 | .qu => 16
def Tr.code : Tr → Nat
  | .name _ => 0 | .list _ => 1 | .unity _ => 2 | .roots _ => 3 | .neg _ => 4 | .pow _ _ => 5 | .map _ _ => 6 | .cho true _ _ => 7 | .cho false _ _ => 8 | .dist _ => 9 | .two true _ _ => 10 | .two false _ _ => 11 | .bin op _ _ => op.kc
def words : List Str := ["name", "list", "unity", "roots", "negative", "power", "map", "sums", "products", "distinct", "common", "without", "join", "sum", "difference", "product", "quotient"]
theorem word_at : ∀ t : Tr, words[t.code]? = some t.word
  | .name _ => rfl | .list _ => rfl | .unity _ => rfl | .roots _ => rfl | .neg _ => rfl | .pow _ _ => rfl | .map _ _ => rfl | .cho true _ _ => rfl | .cho false _ _ => rfl | .dist _ => rfl | .two true _ _ => rfl | .two false _ _ => rfl
  | .bin .jo _ _ => rfl | .bin .su _ _ => rfl | .bin .di _ _ => rfl | .bin .pr _ _ => rfl | .bin .qu _ _ => rfl
theorem words_nd : ∀ i j : Fin 17, words[i.val]? = words[j.val]? → i = j := by decide +kernel
theorem code_lt (t : Tr) : t.code < 17 := by
  have h := word_at t
  rcases Nat.lt_or_ge t.code 17 with z | z
  · exact z
  · rw [List.getElem?_eq_none (by exact z)] at h
    cases h
theorem code_of {t u : Tr} (h : t.word = u.word) : t.code = u.code := by
  have a := word_at t
  have b := word_at u
  rw [← h] at b
  have := words_nd ⟨t.code, code_lt t⟩ ⟨u.code, code_lt u⟩ (a.trans b.symm)
  exact congrArg Fin.val this
theorem Tr.dat_hd : ∀ t : Tr, ∃ ds, t.dat = .tup (.str t.word :: ds) := fun t => by cases t <;> exact ⟨_, rfl⟩
theorem Op.kc_inj : ∀ {a b : Op}, a.kc = b.kc → a = b := fun {a b} h => by cases a <;> cases b <;> first | rfl | cases h
theorem dat_code {t u : Tr} (h : t.dat = u.dat) : t.code = u.code := code_of (by
  obtain ⟨ds, e1⟩ := t.dat_hd
  obtain ⟨es, e2⟩ := u.dat_hd
  rw [e1, e2] at h
  simp at h
  exact h.1)
theorem op_code12 (op : Op) : 12 ≤ op.kc := by cases op <;> decide
theorem dat_inj : ∀ {t u : Tr}, t.dat = u.dat → t = u := fun {t} => by
  induction t with
  | name w => intro u h; have hc := dat_code h; cases u <;> first | (simp [Tr.code] at hc; done) | (rename_i b _ _; cases b <;> simp [Tr.code, Op.kc] at hc; done) | (simp [Tr.dat] at h; rw [h])
  | list w => intro u h; have hc := dat_code h; cases u <;> first | (simp [Tr.code] at hc; done) | (rename_i b _ _; cases b <;> simp [Tr.code, Op.kc] at hc; done) | (simp only [Tr.dat] at h; simp at h; rw [map_inj qD_inj h])
  | unity w => intro u h; have hc := dat_code h; cases u <;> first | (simp [Tr.code] at hc; done) | (rename_i b _ _; cases b <;> simp [Tr.code, Op.kc] at hc; done) | (simp [Tr.dat] at h; rw [Int.ofNat.inj h])
  | roots w => intro u h; have hc := dat_code h; cases u <;> first | (simp [Tr.code] at hc; done) | (rename_i b _ _; cases b <;> simp [Tr.code, Op.kc] at hc; done) | (simp only [Tr.dat] at h; simp at h; rw [map_inj qD_inj h])
  | neg t ih => intro u h; have hc := dat_code h; cases u <;> first | (simp [Tr.code] at hc; done) | (rename_i b _ _; cases b <;> simp [Tr.code, Op.kc] at hc; done) | (simp [Tr.dat] at h; rw [ih h])
  | pow t m ih => intro u h; have hc := dat_code h; cases u <;> first | (simp [Tr.code] at hc; done) | (rename_i b _ _; cases b <;> simp [Tr.code, Op.kc] at hc; done) | (simp [Tr.dat] at h; rw [ih h.1, Int.ofNat.inj h.2])
  | map q t ih => intro u h; have hc := dat_code h; cases u <;> first | (simp [Tr.code] at hc; done) | (rename_i b _ _; cases b <;> simp [Tr.code, Op.kc] at hc; done) | (simp only [Tr.dat] at h; simp at h; rw [map_inj qD_inj h.1, ih h.2])
  | cho b t m ih => intro u h; have hc := dat_code h; cases b <;> cases u <;> first | (simp [Tr.code] at hc; done) | (rename_i b _ _; cases b <;> first | (simp [Tr.code, Op.kc] at hc; done) | (simp [Tr.dat] at h; rw [ih h.1, Int.ofNat.inj h.2]))
  | dist t ih => intro u h; have hc := dat_code h; cases u <;> first | (simp [Tr.code] at hc; done) | (rename_i b _ _; cases b <;> simp [Tr.code, Op.kc] at hc; done) | (simp [Tr.dat] at h; rw [ih h])
  | two b x y ih1 ih2 => intro u h; have hc := dat_code h; cases b <;> cases u <;> first | (simp [Tr.code] at hc; done) | (rename_i b _ _; cases b <;> first | (simp [Tr.code, Op.kc] at hc; done) | (simp [Tr.dat] at h; rw [ih1 h.1, ih2 h.2]))
  | bin op x y ih1 ih2 => intro u h; have hc := dat_code h; cases op <;> cases u <;> first | (simp [Tr.code, Op.kc] at hc; done) | (rename_i b _ _; cases b <;> first | (simp [Tr.code, Op.kc] at hc; done) | (simp [Tr.dat] at h; rw [ih1 h.1, ih2 h.2]))
noncomputable instance instDecTr : DecidableEq Tr := fun a b => Classical.propDecidable (a = b)
end RB

set_option Elab.async false
set_option linter.all false
set_option maxRecDepth 100000
set_option maxHeartbeats 8000000
namespace RB
open PySem PySem.Spec PyProof.Rows L2 PD RBS
/-! ### the steps of some trees -/
/-- each tree once, its operands before it -/
def Cl (ts : List Tr) : Prop := ts.Nodup ∧ ∀ (i : Nat) (t : Tr), ts[i]? = some t → ∀ u ∈ t.subs, u ∈ ts.take i
theorem Cl.nil : Cl [] := ⟨.nil, fun i t h => by simp at h⟩
theorem Cl.sub {ts : List Tr} (h : Cl ts) {t u : Tr} (ht : t ∈ ts) (hu : u ∈ t.subs) : u ∈ ts := by
  obtain ⟨i, hi⟩ := List.getElem?_of_mem ht
  exact List.mem_of_mem_take (h.2 i t hi u hu)
/-- where a tree stands -/
noncomputable def pos : List Tr → Tr → Nat
  | [], _ => 0
  | t :: r, u => if t = u then 0 else pos r u + 1
theorem pos_get : ∀ {ts : List Tr} {u : Tr}, u ∈ ts → ts[pos ts u]? = some u
  | t :: r, u, h => by
    unfold pos
    by_cases e : t = u
    · rw [if_pos e, e]
      rfl
    · rw [if_neg e]
      exact pos_get ((List.mem_cons.mp h).resolve_left fun z => e z.symm)
theorem pos_lt {ts : List Tr} {u : Tr} (h : u ∈ ts) : pos ts u < ts.length := (List.getElem?_eq_some_iff.mp (pos_get h)).1
theorem pos_app : ∀ {ts : List Tr} {u : Tr}, u ∈ ts → ∀ us, pos (ts ++ us) u = pos ts u
  | t :: r, u, h, us => by
    show (if t = u then 0 else pos (r ++ us) u + 1) = if t = u then 0 else pos r u + 1
    by_cases e : t = u
    · rw [if_pos e, if_pos e]
    · rw [if_neg e, if_neg e, pos_app ((List.mem_cons.mp h).resolve_left fun z => e z.symm) us]
theorem pos_new : ∀ {ts : List Tr} {u : Tr}, u ∉ ts → pos (ts ++ [u]) u = ts.length
  | [], u, _ => by
    show (if u = u then 0 else _) = 0
    rw [if_pos rfl]
  | t :: r, u, h => by
    show (if t = u then 0 else pos (r ++ [u]) u + 1) = r.length + 1
    rw [if_neg (fun z => h (by simp [z])), pos_new (fun z => h (by simp [z]))]
theorem pos_nd {ts : List Tr} {i : Nat} {t : Tr} (n : ts.Nodup) (h : ts[i]? = some t) : pos ts t = i := by
  have g := pos_get (List.mem_of_getElem? h)
  obtain ⟨l1, e1⟩ := List.getElem?_eq_some_iff.mp g
  obtain ⟨l2, e2⟩ := List.getElem?_eq_some_iff.mp h
  exact (List.getElem_inj n).mp (e1.trans e2.symm)
noncomputable def idx (ts : List Tr) (u : Tr) : Dat := .int ((pos ts u : Nat) : Int)
noncomputable def stepOf (ts : List Tr) (t : Tr) : Dat := t.put (t.subs.map (idx ts))
noncomputable def stp (ts : List Tr) : List Dat := ts.map (stepOf ts)
def entL : List Dat → Nat → List Dat
  | [], _ => []
  | s :: r, n => .tup [s, .int (n : Int)] :: entL r (n + 1)
noncomputable def ents (ts : List Tr) : List Dat := entL (stp ts) 0
theorem idx_app {ts : List Tr} {u : Tr} (h : u ∈ ts) (us : List Tr) : idx (ts ++ us) u = idx ts u := by
  unfold idx
  rw [pos_app h]
theorem stepOf_app {ts : List Tr} {t : Tr} (h : ∀ u ∈ t.subs, u ∈ ts) (us : List Tr) : stepOf (ts ++ us) t = stepOf ts t := by
  unfold stepOf
  rw [List.map_congr_left fun u hu => idx_app (h u hu) us]
theorem stp_app {ts : List Tr} (h : Cl ts) (us : List Tr) : stp (ts ++ us) = stp ts ++ us.map (stepOf (ts ++ us)) := by
  unfold stp
  rw [List.map_append]
  congr 1
  exact List.map_congr_left fun t ht => stepOf_app (fun u hu => h.sub ht hu) us
theorem entL_app : ∀ (a b : List Dat) (n : Nat), entL (a ++ b) n = entL a n ++ entL b (n + a.length)
  | [], b, n => rfl
  | s :: r, b, n => by
    show _ :: entL (r ++ b) (n + 1) = _ :: (entL r (n + 1) ++ entL b (n + (r.length + 1)))
    rw [entL_app r b (n + 1)]
    congr 2
    congr 1
    omega
theorem entL_len : ∀ (a : List Dat) (n : Nat), (entL a n).length = a.length
  | [], _ => rfl
  | _ :: r, n => congrArg Nat.succ (entL_len r (n + 1))
theorem stp_len (ts : List Tr) : (stp ts).length = ts.length := List.length_map _
theorem Cl.snoc {ts : List Tr} (h : Cl ts) {t : Tr} (hs : ∀ u ∈ t.subs, u ∈ ts) (hn : t ∉ ts) : Cl (ts ++ [t]) := by
  refine ⟨?_, fun i x hx u hu => ?_⟩
  · rw [List.nodup_append]
    refine ⟨h.1, by simp, fun a ha b hb => ?_⟩
    rw [List.mem_singleton.mp hb]
    exact fun z => hn (z ▸ ha)
  · rw [List.getElem?_append] at hx
    split at hx
    · rename_i hi
      rw [List.take_append_of_le_length (by omega)]
      exact h.2 i x hx u hu
    · rename_i hi
      have : i - ts.length = 0 := by
        rcases Nat.eq_zero_or_pos (i - ts.length) with z | z
        · exact z
        · rw [List.getElem?_eq_none (by simp; omega)] at hx
          cases hx
      rw [this] at hx
      cases hx
      rw [show i = ts.length by omega, List.take_left]
      exact hs u hu
theorem idx_inj {ts : List Tr} {u v : Tr} (hu : u ∈ ts) (hv : v ∈ ts) (h : idx ts u = idx ts v) : u = v := by
  unfold idx at h
  simp at h
  have a := pos_get hu
  have b := pos_get hv
  rw [Int.ofNat.inj h, b] at a
  exact (Option.some.inj a).symm
theorem idxs_inj {ts : List Tr} : ∀ {us vs : List Tr}, (∀ u ∈ us, u ∈ ts) → (∀ v ∈ vs, v ∈ ts) → us.map (idx ts) = vs.map (idx ts) → us = vs
  | [], [], _, _, _ => rfl
  | [], _ :: _, _, _, e => by cases e
  | _ :: _, [], _, _, e => by cases e
  | x :: xs, y :: ys, h1, h2, e => by
    rw [List.map_cons, List.map_cons] at e
    obtain ⟨e1, e2⟩ := List.cons.inj e
    rw [idx_inj (h1 x (by simp)) (h2 y (by simp)) e1, idxs_inj (fun u hu => h1 u (by simp [hu])) (fun u hu => h2 u (by simp [hu])) e2]
theorem step_inj {ts : List Tr} {t u : Tr} (h1 : ∀ x ∈ t.subs, x ∈ ts) (h2 : ∀ x ∈ u.subs, x ∈ ts) (h : stepOf ts t = stepOf ts u) : t = u := by
  have a := operands_put t (t.subs.map (idx ts)) (by rw [List.length_map])
  have b := operands_put u (u.subs.map (idx ts)) (by rw [List.length_map])
  have h : t.put (t.subs.map (idx ts)) = u.put (u.subs.map (idx ts)) := h
  rw [h, b] at a
  simp at a
  have e := idxs_inj h2 h1 a
  have c := with_put t (t.subs.map (idx ts)) (t.subs.map Tr.dat) (by rw [List.length_map]) (by rw [List.length_map])
  have d := with_put u (u.subs.map (idx ts)) (u.subs.map Tr.dat) (by rw [List.length_map]) (by rw [List.length_map])
  rw [h, ← e, d] at c
  simp only [RF.ok.injEq] at c
  rw [u.put_self, e, t.put_self] at c
  exact (dat_inj c).symm
/-! keys: data of texts, numbers and tuples -/
mutual
inductive Pl : Dat → Prop
  | int (i : Int) : Pl (.int i)
  | str (x : Str) : Pl (.str x)
  | tup {ds : List Dat} : Pls ds → Pl (.tup ds)
inductive Pls : List Dat → Prop
  | nil : Pls []
  | cons {d : Dat} {ds : List Dat} : Pl d → Pls ds → Pls (d :: ds)
end
mutual
theorem nk_pl : ∀ {d : Dat}, Pl d → ∃ k, nk d = some k
  | _, .int i => ⟨_, rfl⟩
  | _, .str x => ⟨_, rfl⟩
  | _, .tup h => by
    obtain ⟨ks, e⟩ := nks_pl h
    exact ⟨.tup ks, by unfold nk; rw [e]; rfl⟩
theorem nks_pl : ∀ {ds : List Dat}, Pls ds → ∃ ks, nks ds = some ks
  | _, .nil => ⟨[], rfl⟩
  | _, .cons (d := d) (ds := ds) a t => by
    obtain ⟨k, e⟩ := nk_pl a
    obtain ⟨ks, e2⟩ := nks_pl t
    exact ⟨k :: ks, by unfold nks; rw [e, e2]; rfl⟩
end
mutual
theorem nk_inj : ∀ {d e : Dat}, Pl d → Pl e → nk d = nk e → d = e
  | _, _, .int i, .int j, h => by
    unfold nk at h
    simp at h
    rw [h]
  | _, _, .str x, .str y, h => by
    unfold nk at h
    simp at h
    rw [h]
  | _, _, .int i, .str y, h => by unfold nk at h; simp at h
  | _, _, .str x, .int i, h => by unfold nk at h; simp at h
  | _, _, .int i, .tup b, h => by
    obtain ⟨ks, e⟩ := nks_pl b
    unfold nk at h
    rw [e] at h
    simp at h
  | _, _, .str i, .tup b, h => by
    obtain ⟨ks, e⟩ := nks_pl b
    unfold nk at h
    rw [e] at h
    simp at h
  | _, _, .tup b, .int i, h => by
    obtain ⟨ks, e⟩ := nks_pl b
    unfold nk at h
    rw [e] at h
    simp at h
  | _, _, .tup b, .str i, h => by
    obtain ⟨ks, e⟩ := nks_pl b
    unfold nk at h
    rw [e] at h
    simp at h
  | _, _, .tup (ds := ds) a, .tup (ds := es) b, h => by
    obtain ⟨ks, e⟩ := nks_pl a
    obtain ⟨ks2, e2⟩ := nks_pl b
    have h' := h
    unfold nk at h'
    rw [e, e2] at h'
    simp at h'
    rw [nks_inj2 a b (by rw [e, e2, h'])]
theorem nks_inj2 : ∀ {ds es : List Dat}, Pls ds → Pls es → nks ds = nks es → ds = es
  | _, _, .nil, .nil, _ => rfl
  | _, _, .nil, .cons a t, h => by
    obtain ⟨k, e⟩ := nk_pl a
    obtain ⟨ks, e2⟩ := nks_pl t
    unfold nks at h
    rw [e, e2] at h
    simp at h
  | _, _, .cons a t, .nil, h => by
    obtain ⟨k, e⟩ := nk_pl a
    obtain ⟨ks, e2⟩ := nks_pl t
    unfold nks at h
    rw [e, e2] at h
    simp at h
  | _, _, .cons (d := d) (ds := ds) a t, .cons (d := d') (ds := ds') b s, h => by
    obtain ⟨k, e⟩ := nk_pl a
    obtain ⟨ks, e2⟩ := nks_pl t
    obtain ⟨k', e'⟩ := nk_pl b
    obtain ⟨ks', e2'⟩ := nks_pl s
    have h' := h
    unfold nks at h'
    rw [e, e2, e', e2'] at h'
    simp at h'
    rw [nk_inj a b (by rw [e, e', h'.1]), nks_inj2 t s (by rw [e2, e2', h'.2])]
end
theorem pls_qs (qs : List (Int × Nat)) : Pls (qs.map qD) := by
  induction qs with
  | nil => exact .nil
  | cons x r ih => exact .cons (.tup (.cons (.int _) (.cons (.int _) .nil))) ih
theorem pl_put : ∀ (t : Tr) (ds : List Dat), ds.length = t.subs.length → (∀ d ∈ ds, Pl d) → Pl (t.put ds)
  | .name w, [], _, _ => .tup (.cons (.str _) (.cons (.str _) .nil))
  | .list w, [], _, _ => .tup (.cons (.str _) (.cons (.tup (pls_qs w)) .nil))
  | .unity w, [], _, _ => .tup (.cons (.str _) (.cons (.int _) .nil))
  | .roots w, [], _, _ => .tup (.cons (.str _) (.cons (.tup (pls_qs w)) .nil))
  | .neg t, [d], _, h => .tup (.cons (.str _) (.cons (h d (by simp)) .nil))
  | .pow t m, [d], _, h => .tup (.cons (.str _) (.cons (h d (by simp)) (.cons (.int _) .nil)))
  | .map q t, [d], _, h => .tup (.cons (.str _) (.cons (.tup (pls_qs q)) (.cons (h d (by simp)) .nil)))
  | .cho b t m, [d], _, h => .tup (.cons (.str _) (.cons (h d (by simp)) (.cons (.int _) .nil)))
  | .dist t, [d], _, h => .tup (.cons (.str _) (.cons (h d (by simp)) .nil))
  | .two b x y, [d, e], _, h => .tup (.cons (.str _) (.cons (h d (by simp)) (.cons (h e (by simp)) .nil)))
  | .bin op x y, [d, e], _, h => .tup (.cons (.str _) (.cons (h d (by simp)) (.cons (h e (by simp)) .nil)))
theorem pl_step (ts : List Tr) (t : Tr) : Pl (stepOf ts t) := pl_put t _ (by rw [List.length_map]) fun d hd => by
  obtain ⟨u, _, rfl⟩ := List.mem_map.mp hd
  exact .int _
end RB

set_option Elab.async false
set_option linter.all false
set_option maxRecDepth 100000
set_option maxHeartbeats 8000000
namespace RB
open PySem PySem.Spec PyProof.Rows L2 PD
/-! ### equal data -/
def Sd : Nat → Dat → Prop
  | 0, d => (match d with
    | .int _ => True
    | .str _ => True
    | _ => False)
  | k + 1, d => (match d with
    | .int _ => True
    | .str _ => True
    | .tup ds => ∀ e ∈ ds, Sd k e
    | _ => False)
theorem sd_int (k : Nat) (i : Int) : Sd k (.int i) := by cases k <;> trivial
theorem sd_str (k : Nat) (a : Str) : Sd k (.str a) := by cases k <;> trivial
theorem Sd.mono : ∀ {k m : Nat} {d : Dat}, Sd k d → k ≤ m → Sd m d
  | 0, m, d, h, _ => by
    cases d <;> first | exact sd_int _ _ | exact sd_str _ _ | exact h.elim
  | k + 1, 0, d, h, hm => by omega
  | k + 1, m + 1, d, h, hm => by
    cases d with
    | int i => trivial
    | str a => trivial
    | tup ds => exact fun e he => (h e he).mono (by omega)
    | _ => exact h.elim
theorem sd_two {a b : Dat} {k : Nat} (ha : Sd k a) (hb : Sd k b) : Sd (k + 1) (.tup [a, b]) := fun e he => by
  simp only [List.mem_cons, List.not_mem_nil, or_false] at he
  rcases he with rfl | rfl <;> assumption
theorem sd_three {a b c : Dat} {k : Nat} (ha : Sd k a) (hb : Sd k b) (hc : Sd k c) : Sd (k + 1) (.tup [a, b, c]) := fun e he => by
  simp only [List.mem_cons, List.not_mem_nil, or_false] at he
  rcases he with rfl | rfl | rfl <;> assumption
theorem sd_qs (qs : List (Int × Nat)) : Sd 2 (.tup (qs.map qD)) := fun d hd => by
  obtain ⟨x, _, rfl⟩ := List.mem_map.mp hd
  exact fun e he => by
    simp only [List.mem_cons, List.not_mem_nil, or_false] at he
    rcases he with rfl | rfl <;> exact sd_int _ _
theorem Tr.sd : ∀ t : Tr, Sd (t.hgt + 2) t.dat
  | .name w => sd_two (sd_str _ _) (sd_str _ _)
  | .list qs => sd_two (sd_str _ _) (sd_qs qs)
  | .unity m => sd_two (sd_str _ _) (sd_int _ _)
  | .roots qs => sd_two (sd_str _ _) (sd_qs qs)
  | .neg t => sd_two (sd_str _ _) (Tr.sd t)
  | .pow t m => sd_three (sd_str _ _) (Tr.sd t) (sd_int _ _)
  | .map qs t => sd_three (sd_str _ _) ((sd_qs qs).mono (by show 2 ≤ t.hgt + 2; omega)) (Tr.sd t)
  | .cho b t m => sd_three (sd_str _ _) (Tr.sd t) (sd_int _ _)
  | .dist t => sd_two (sd_str _ _) (Tr.sd t)
  | .two b x y => sd_three (sd_str _ _) ((Tr.sd x).mono (by show x.hgt + 2 ≤ max x.hgt y.hgt + 2; omega)) ((Tr.sd y).mono (by show y.hgt + 2 ≤ max x.hgt y.hgt + 2; omega))
  | .bin op x y => sd_three (sd_str _ _) ((Tr.sd x).mono (by show x.hgt + 2 ≤ max x.hgt y.hgt + 2; omega)) ((Tr.sd y).mono (by show y.hgt + 2 ≤ max x.hgt y.hgt + 2; omega))
theorem eqv_all {k : Nat} (ih : ∀ d e : Dat, Sd k d → Sd k e → PyData.eqv d.pd e.pd = true → d = e) : ∀ (ds es : List Dat), (∀ d ∈ ds, Sd k d) → (∀ e ∈ es, Sd k e) → PyData.eqvAll (pds ds) (pds es) = true → ds = es
  | [], [], _, _, _ => rfl
  | [], e :: es, _, _, h => by cases h
  | d :: ds, [], _, _, h => by cases h
  | d :: ds, e :: es, h1, h2, h => by
    have h : (PyData.eqv d.pd e.pd && PyData.eqvAll (pds ds) (pds es)) = true := h
    rw [Bool.and_eq_true] at h
    rw [ih d e (h1 d (by simp)) (h2 e (by simp)) h.1, eqv_all ih ds es (fun x hx => h1 x (by simp [hx])) (fun x hx => h2 x (by simp [hx])) h.2]
theorem eqv_sd : ∀ (k : Nat) (d e : Dat), Sd k d → Sd k e → PyData.eqv d.pd e.pd = true → d = e
  | 0, d, e, hd, he, h => by
    cases d <;> first | exact hd.elim | skip
    all_goals cases e <;> first | exact he.elim | skip
    · have h : decide _ = true := h
      exact congrArg Dat.int (of_decide_eq_true h)
    · cases h
    · cases h
    · exact congrArg Dat.str (eq_of_beq h)
  | k + 1, d, e, hd, he, h => by
    cases d <;> first | exact hd.elim | skip
    all_goals cases e <;> first | exact he.elim | skip
    all_goals first | (cases h; done) | skip
    · have h : decide _ = true := h
      exact congrArg Dat.int (of_decide_eq_true h)
    · exact congrArg Dat.str (eq_of_beq h)
    · rename_i ds es
      have h : PyData.eqvAll (pds ds) (pds es) = true := by
        show PyData.eqvAll _ _ = true
        simpa [Dat.pd, PyData.eqv] using h
      exact congrArg Dat.tup (eqv_all (eqv_sd k) ds es hd he h)
theorem oEq_d {d e : Dat} {k : Nat} (hd : Lay d k) (he : Lay e k) (hk : k ≤ 64) (sd : Sd k d) (se : Sd k e) : ∃ b : Bool, oEq d e = some (.bl b) ∧ oNe d e = some (.bl (!b)) ∧ (b = true ↔ d = e) := by
  refine ⟨PyData.eqv d.pd e.pd, ?_, ?_, fun h => eqv_sd k d e sd se h, fun h => ?_⟩
  · unfold oEq
    rw [if_pos ⟨hd.shaped hk, he.shaped hk⟩]
  · unfold oNe
    rw [if_pos ⟨hd.shaped hk, he.shaped hk⟩]
  · subst h
    exact PySem.SeqAt.eqv_refl _ hd.1

/-! ### steps as keys -/
theorem sd_depths {k : Nat} (ih : ∀ d key, Sd k d → nk d = some key → key.depth ≤ k) : ∀ (ds : List Dat) (ks : List NestedKey), (∀ e ∈ ds, Sd k e) → nks ds = some ks → NestedKey.depthAll ks ≤ k
  | [], ks, _, h => by
    cases h
    simp [NestedKey.depthAll]
  | d :: ds, ks, hs, h => by
    unfold nks at h
    cases e : nk d with
    | none => rw [e] at h; cases h
    | some key =>
      rw [e] at h
      cases e2 : nks ds with
      | none => rw [e2] at h; cases h
      | some ks' =>
        rw [e2] at h
        cases h
        have a := ih d key (hs d (by simp)) e
        have b := sd_depths ih ds ks' (fun x hx => hs x (by simp [hx])) e2
        simp only [NestedKey.depthAll]
        omega
theorem sd_depth : ∀ (k : Nat) (d : Dat) (key : NestedKey), Sd k d → nk d = some key → key.depth ≤ k
  | 0, d, key, h, e => by
    cases d with
    | int i => unfold nk at e; cases e; simp [NestedKey.depth]
    | str x => unfold nk at e; cases e; simp [NestedKey.depth]
    | _ => exact h.elim
  | k + 1, d, key, h, e => by
    cases d with
    | int i => unfold nk at e; cases e; simp [NestedKey.depth]
    | str x => unfold nk at e; cases e; simp [NestedKey.depth]
    | tup ds =>
      unfold nk at e
      cases e2 : nks ds with
      | none => rw [e2] at e; cases e
      | some ks =>
        rw [e2] at e
        cases e
        have := sd_depths (sd_depth k) ds ks h e2
        simp only [NestedKey.depth]
        omega
    | _ => exact h.elim
theorem sd_put : ∀ (t : Tr) (ds : List Dat), ds.length = t.subs.length → (∀ d ∈ ds, Sd 2 d) → Sd 3 (t.put ds)
  | .name w, [], _, _ => sd_two (sd_str _ _) (sd_str _ _)
  | .list w, [], _, _ => sd_two (sd_str _ _) (sd_qs w)
  | .unity w, [], _, _ => sd_two (sd_str _ _) (sd_int _ _)
  | .roots w, [], _, _ => sd_two (sd_str _ _) (sd_qs w)
  | .neg t, [d], _, h => sd_two (sd_str _ _) (h d (by simp))
  | .pow t m, [d], _, h => sd_three (sd_str _ _) (h d (by simp)) (sd_int _ _)
  | .map q t, [d], _, h => sd_three (sd_str _ _) (sd_qs q) (h d (by simp))
  | .cho b t m, [d], _, h => sd_three (sd_str _ _) (h d (by simp)) (sd_int _ _)
  | .dist t, [d], _, h => sd_two (sd_str _ _) (h d (by simp))
  | .two b x y, [d, e], _, h => sd_three (sd_str _ _) (h d (by simp)) (h e (by simp))
  | .bin op x y, [d, e], _, h => sd_three (sd_str _ _) (h d (by simp)) (h e (by simp))
theorem sd_step (ts : List Tr) (t : Tr) : Sd 3 (stepOf ts t) := sd_put t _ (by rw [List.length_map]) fun d hd => by
  obtain ⟨u, _, rfl⟩ := List.mem_map.mp hd
  exact sd_int _ _
theorem put_tup : ∀ (t : Tr) (ds : List Dat), ∃ es, t.put ds = .tup es := fun t ds => by
  unfold Tr.put
  split <;> first | exact ⟨_, rfl⟩ | (obtain ⟨es, e⟩ := t.dat_hd; exact ⟨_, e⟩) | (rename_i t _ _ _ _ _ _ _ _ _; obtain ⟨es, e⟩ := Tr.dat_hd t; exact ⟨_, e⟩)
theorem tkey_step (ts : List Tr) (t : Tr) : ∃ k, nk (stepOf ts t) = some k ∧ tkey (stepOf ts t) = some k := by
  obtain ⟨k, e⟩ := nk_pl (pl_step ts t)
  have hd := sd_depth 3 _ k (sd_step ts t) e
  refine ⟨k, e, ?_⟩
  obtain ⟨es, e2⟩ : ∃ es, stepOf ts t = .tup es := put_tup t _
  rw [e2] at e ⊢
  unfold tkey
  simp only [e]
  rw [if_pos (by omega)]
theorem isKey_ent {s x : Dat} {k : NestedKey} {n : Nat} (hs : Pl s) (hx : Pl x) (e : nk s = some k) : isKey k (.tup [x, .int (n : Int)]) = true ↔ x = s := by
  have : isKey k (.tup [x, .int (n : Int)]) = decide (nk x = some k) := rfl
  rw [this, decide_eq_true_iff]
  constructor
  · intro h
    exact nk_inj hx hs (h.trans e.symm)
  · intro h
    rw [h, e]
theorem isKey_no {s x : Dat} {k : NestedKey} {n : Nat} (hs : Pl s) (hx : Pl x) (e : nk s = some k) (h : ¬ x = s) : isKey k (.tup [x, .int (n : Int)]) = false := by
  cases z : isKey k (.tup [x, .int (n : Int)]) with
  | false => rfl
  | true => exact (h ((isKey_ent hs hx e).mp z)).elim
theorem tab_no {s : Dat} {k : NestedKey} (hs : Pl s) (e : nk s = some k) : ∀ (ss : List Dat) (n : Nat), (∀ x ∈ ss, Pl x) → s ∉ ss → tabAt (entL ss n) k = none
  | [], n, _, _ => rfl
  | x :: r, n, hp, hn => by
    have ih := tab_no hs e r (n + 1) (fun y hy => hp y (by simp [hy])) (fun z => hn (by simp [z]))
    unfold tabAt at ih ⊢
    show ((Dat.tup [x, .int (n : Int)] :: entL r (n + 1)).find? (isKey k)).bind entV = none
    rw [List.find?_cons, isKey_no hs (hp x (by simp)) e (fun z => hn (by simp [z]))]
    exact ih
theorem tab_at {s : Dat} {k : NestedKey} (hs : Pl s) (e : nk s = some k) : ∀ (ss : List Dat) (n i : Nat), (∀ x ∈ ss, Pl x) → ss.Nodup → ss[i]? = some s → tabAt (entL ss n) k = some (.int ((n + i : Nat) : Int))
  | [], n, i, _, _, h => by simp at h
  | x :: r, n, i, hp, hn, h => by
    show ((Dat.tup [x, .int (n : Int)] :: entL r (n + 1)).find? (isKey k)).bind entV = _
    rw [List.find?_cons]
    by_cases hx : x = s
    · rw [(isKey_ent hs (hp x (by simp)) e).mpr hx]
      have : i = 0 := by
        cases i with
        | zero => rfl
        | succ j =>
          have h : r[j]? = some s := h
          exact ((List.nodup_cons.mp hn).1 (hx ▸ List.mem_of_getElem? h)).elim
      subst this
      rfl
    · rw [isKey_no hs (hp x (by simp)) e hx]
      cases i with
      | zero =>
        simp at h
        exact (hx h).elim
      | succ j =>
        have h : r[j]? = some s := h
        have ih := tab_at hs e r (n + 1) j (fun y hy => hp y (by simp [hy])) (List.nodup_cons.mp hn).2 h
        unfold tabAt at ih
        show ((entL r (n + 1)).find? (isKey k)).bind entV = _
        rw [ih]
        congr 2
        omega
theorem stp_pl (ts : List Tr) : ∀ x ∈ stp ts, Pl x := fun x hx => by
  obtain ⟨t, _, rfl⟩ := List.mem_map.mp hx
  exact pl_step ts t
theorem stp_nd {ts : List Tr} (h : Cl ts) : (stp ts).Nodup := by
  unfold stp
  refine List.Pairwise.map _ (fun a b hab => hab) ?_
  refine List.Pairwise.imp_of_mem (fun {a b} ha hb n z => n (step_inj (fun x hx => h.sub ha hx) (fun x hx => h.sub hb hx) z)) h.1
theorem step_mem {ts : List Tr} (h : Cl ts) {t : Tr} (hs : ∀ u ∈ t.subs, u ∈ ts) : stepOf ts t ∈ stp ts ↔ t ∈ ts := by
  constructor
  · intro z
    obtain ⟨u, hu, e⟩ := List.mem_map.mp z
    rw [← step_inj (fun x hx => h.sub hu hx) hs e]
    exact hu
  · intro z
    exact List.mem_map.mpr ⟨t, z, rfl⟩
end RB

set_option Elab.async false
set_option linter.all false
set_option maxRecDepth 100000
set_option maxHeartbeats 2000000
/-! RbW for defs that change two things -/
namespace PD
open PySem PySem.Spec PyProof.Rows L2 RB
def sM2 (s : Option (Option Slot)) : Prop := match s with
  | some (some .me2) => True
  | _ => False
def tW (S : Fld) (Q : List Dat → List Dat → Prop) : Prop := match two2 S with
  | some p => Q p.1 p.2
  | none => False
def kW (o : Option NestedKey) (Q : NestedKey → Prop) : Prop := match o with
  | some k => Q k
  | none => False
section
variable {Q : Dat → Fld → Prop} {QA : List Dat → Fld → Prop} {QF : Dat → Prop} {N : DEnv → Fld → Prop} {R : Dat → Fld → Prop} {ρ : DEnv} {S : Fld} {QQ : List Dat → List Dat → Prop}
@[simp] theorem sM2_me2 : sM2 (some (some .me2)) ↔ True := Iff.rfl
@[simp] theorem sM2_v {d : Dat} : sM2 (some (some (.v d))) ↔ False := Iff.rfl
@[simp] theorem sM_me2 : sM (some (some .me2)) ↔ False := Iff.rfl
@[simp] theorem sV_me2 : sV (some (some .me2)) QF ↔ False := Iff.rfl
@[simp] theorem tW_S2 {ds es : List Dat} : tW (S2 ds es) QQ ↔ QQ ds es := Iff.rfl
@[simp] theorem tW_S {a b : Str} {ds es : List Dat} : tW [(a, Dat.lst ds), (b, Dat.lst es)] QQ ↔ QQ ds es := Iff.rfl
@[simp] theorem kW_some {k : NestedKey} {P : NestedKey → Prop} : kW (some k) P ↔ P k := Iff.rfl
theorem isMe2_sM2 {i : Nat} : isMe2 ρ i = true ↔ sM2 ρ[i]? := by
  unfold isMe2 sM2
  cases ρ[i]? with
  | none => simp
  | some o =>
    cases o with
    | none => simp
    | some s => cases s <;> simp
theorem EW_noEr {r : RE} : EW (noEr r) Q ↔ EW r Q := by cases r <;> exact Iff.rfl
@[simp] theorem ew_callT {i j : Nat} {F : Fld → List Dat → RE} {a : FE} : EW (fCallT i j F a ρ S) Q ↔ (sM ρ[i]? ∧ sM2 ρ[j]?) ∧ EW (a ρ S) fun d S1 => EW (F S1 [d]) Q := by
  unfold fCallT
  rw [← isMe_sM, ← isMe2_sM2, ← Bool.and_eq_true]
  cases e : (isMe ρ i && isMe2 ρ j) with
  | false => simp
  | true =>
    simp only [true_and]
    cases a ρ S with
    | ok d S1 => exact EW_noEr
    | er n v => exact Iff.rfl
    | bad => exact Iff.rfl
@[simp] theorem ew_on1 {o : List Dat → Option Dat} {i : Nat} : EW (fOn1 o i ρ S) Q ↔ sM ρ[i]? ∧ tW S fun ds _ => OW (o [.lst ds]) fun d => Q d S := by
  unfold fOn1 tW
  rw [← isMe_sM]
  cases isMe ρ i with
  | false => simp
  | true =>
    cases two2 S with
    | none => simp
    | some p =>
      simp only [true_and]
      cases o [.lst p.1] <;> exact Iff.rfl
@[simp] theorem ew_inT {neg : Bool} {j : Nat} {a : FE} : EW (fInT neg j a ρ S) Q ↔ EW (a ρ S) fun d S1 => sM2 ρ[j]? ∧ tW S1 fun _ es => kW (tkey d) fun k => Q (.bl (if neg then !(tabAt es k).isSome else (tabAt es k).isSome)) S1 := by
  unfold fInT tW kW
  rw [← isMe2_sM2]
  cases a ρ S with
  | ok d S1 =>
    simp only [RE.bind, EW_ok]
    cases isMe2 ρ j with
    | false => simp
    | true =>
      cases two2 S1 with
      | none => simp
      | some p => cases tkey d <;> simp
  | er n v => exact Iff.rfl
  | bad => exact Iff.rfl
@[simp] theorem ew_getT {j : Nat} {a : FE} : EW (fGetT j a ρ S) Q ↔ sM2 ρ[j]? ∧ EW (a ρ S) fun d S1 => tW S1 fun _ es => kW (tkey d) fun k => OW (tabAt es k) fun x => Q x S1 := by
  unfold fGetT tW kW
  rw [← isMe2_sM2]
  cases isMe2 ρ j with
  | false => simp
  | true =>
    simp only [true_and]
    cases a ρ S with
    | ok d S1 =>
      simp only [RE.bind, EW_ok]
      cases two2 S1 with
      | none => simp
      | some p =>
        cases tkey d with
        | none => simp
        | some k =>
          simp only
          cases tabAt p.2 k <;> exact Iff.rfl
    | er n v => exact Iff.rfl
    | bad => exact Iff.rfl
@[simp] theorem sw_putT {j : Nat} {a c : FE} : SW (fPutT j a c ρ S) N R ↔ EW (c ρ S) fun r S1 => sM2 ρ[j]? ∧ EW (a ρ S1) fun d S' => tW S' fun ds es => kW (tkey d) fun k => ((tabAt es k).isNone ∧ es.length < 100000) ∧ N ρ (S2 ds (es ++ [.tup [d, r]])) := by
  unfold fPutT tW kW
  rw [← isMe2_sM2]
  cases c ρ S with
  | ok r S1 =>
    simp only [RE.bindS, EW_ok]
    cases isMe2 ρ j with
    | false => simp [SW]
    | true =>
      simp only [true_and]
      cases a ρ S1 with
      | ok d S' =>
        simp only [EW_ok]
        cases two2 S' with
        | none => simp [SW]
        | some p =>
          cases tkey d with
          | none => simp [SW]
          | some k =>
            simp only
            by_cases hc : (tabAt p.2 k).isNone ∧ p.2.length < 100000
            · rw [if_pos hc]
              simp only [SW, hc, true_and]
            · rw [if_neg hc]
              exact ⟨fun h => h.elim, fun h => hc h.1⟩
      | er n v => exact Iff.rfl
      | bad => exact Iff.rfl
  | er n v => exact Iff.rfl
  | bad => exact Iff.rfl
@[simp] theorem sw_app1 {i : Nat} {a : FE} : SW (fApp1 i a ρ S) N R ↔ sM ρ[i]? ∧ EW (a ρ S) fun d S1 => tW S1 fun ds es => ds.length < 100000 ∧ N ρ (S2 (ds ++ [d]) es) := by
  unfold fApp1 tW
  rw [← isMe_sM]
  cases isMe ρ i with
  | false => simp [SW]
  | true =>
    simp only [true_and]
    cases a ρ S with
    | ok d S1 =>
      simp only [RE.bindS, EW_ok]
      cases two2 S1 with
      | none => simp [SW]
      | some p =>
        simp only
        by_cases hc : p.1.length < 100000
        · rw [if_pos hc]
          simp only [SW, hc, true_and]
        · rw [if_neg hc]
          exact ⟨fun h => h.elim, fun h => hc h.1⟩
    | er n v => exact Iff.rfl
    | bad => exact Iff.rfl
@[simp] theorem sw_app2 {j : Nat} {a : FE} : SW (fApp2 j a ρ S) N R ↔ sM2 ρ[j]? ∧ EW (a ρ S) fun d S1 => tW S1 fun ds es => es.length < 100000 ∧ N ρ (S2 ds (es ++ [d])) := by
  unfold fApp2 tW
  rw [← isMe2_sM2]
  cases isMe2 ρ j with
  | false => simp [SW]
  | true =>
    simp only [true_and]
    cases a ρ S with
    | ok d S1 =>
      simp only [RE.bindS, EW_ok]
      cases two2 S1 with
      | none => simp [SW]
      | some p =>
        simp only
        by_cases hc : p.2.length < 100000
        · rw [if_pos hc]
          simp only [SW, hc, true_and]
        · rw [if_neg hc]
          exact ⟨fun h => h.elim, fun h => hc h.1⟩
    | er n v => exact Iff.rfl
    | bad => exact Iff.rfl
@[simp] theorem ew_in2 {o : Dat → Dat → Option Dat} {j : Nat} {a : FE} : EW (fIn2 o j a ρ S) Q ↔ EW (a ρ S) fun d S1 => sM2 ρ[j]? ∧ tW S1 fun _ es => OW (o d (.lst es)) fun x => Q x S1 := by
  unfold fIn2 tW
  rw [← isMe2_sM2]
  cases a ρ S with
  | ok d S1 =>
    simp only [RE.bind, EW_ok]
    cases isMe2 ρ j with
    | false => simp
    | true =>
      cases two2 S1 with
      | none => simp
      | some p =>
        simp only [true_and]
        cases o d (.lst p.2) <;> exact Iff.rfl
  | er n v => exact Iff.rfl
  | bad => exact Iff.rfl
@[simp] theorem ew_ix2 {o : List Dat → Dat → Option Dat} {j : Nat} {a : FE} : EW (fIx2 o j a ρ S) Q ↔ sM2 ρ[j]? ∧ EW (a ρ S) fun d S1 => tW S1 fun _ es => OW (o es d) fun x => Q x S1 := by
  unfold fIx2 tW
  rw [← isMe2_sM2]
  cases isMe2 ρ j with
  | false => simp
  | true =>
    simp only [true_and]
    cases a ρ S with
    | ok d S1 =>
      simp only [RE.bind, EW_ok]
      cases two2 S1 with
      | none => simp
      | some p =>
        simp only
        cases o p.2 d <;> exact Iff.rfl
    | er n v => exact Iff.rfl
    | bad => exact Iff.rfl
theorem sw_with2 {i j : Nat} {f g : FS} : SW (fWith2 i j f g ρ S) N R ↔ SW (f ((ρ.set i (some .me)).set j (some .me2)) (S2 [] [])) (fun ρ1 S1 => sM ρ1[i]? ∧ tW S1 fun ds _ => SW (g ((dropMe ρ1).set i (some (.own ds))) S) N R) fun _ _ => False := by
  unfold fWith2 tW
  cases f ((ρ.set i (some .me)).set j (some .me2)) (S2 [] []) with
  | nx ρ1 S1 =>
    simp only [SW]
    rw [← isMe_sM]
    cases isMe ρ1 i with
    | false => simp
    | true =>
      cases two2 S1 with
      | none => simp
      | some p => simp
  | _ => exact Iff.rfl
@[simp] theorem sw_fz {i : Nat} {f : FS} : SW (fFz i f ρ S) N R ↔ sO ρ[i]? fun ds => SW (f (ρ.set i (some (.v (.lst ds)))) S) N R := by
  unfold fFz sO
  split <;> simp_all [SW]
/-- a loop over a written list -/
theorem EW_mono2 {r : RE} {Q Q' : Dat → Fld → Prop} (h : EW r Q) (i : ∀ d S, Q d S → Q' d S) : EW r Q' := by
  cases r with
  | ok d S => exact i d S h
  | er n v => exact h
  | bad => exact h
end
end PD

set_option Elab.async false
set_option linter.all false
set_option maxRecDepth 100000
set_option maxHeartbeats 8000000
namespace RB
open PySem PySem.Spec PyProof.Rows L2 PD RBS
/-! ### put_step -/
noncomputable def addT : Nat → Tr → List Tr → List Tr
  | 0, _, ts => ts
  | n + 1, t, ts => (fun ts1 => if t ∈ ts1 then ts1 else ts1 ++ [t]) (t.subs.foldl (fun acc u => addT n u acc) ts)
noncomputable def addE (t : Tr) (ts : List Tr) : List Tr := if t ∈ ts then ts else ts ++ [t]
theorem addT_s (n : Nat) (t : Tr) (ts : List Tr) : addT (n + 1) t ts = addE t (t.subs.foldl (fun acc u => addT n u acc) ts) := rfl
theorem addE_ok {t : Tr} {ts : List Tr} (h : Cl ts) (hs : ∀ u ∈ t.subs, u ∈ ts) : Cl (addE t ts) ∧ t ∈ addE t ts ∧ ∃ us, addE t ts = ts ++ us ∧ us.length ≤ 1 ∧ ∀ x ∈ us, x = t := by
  unfold addE
  by_cases ht : t ∈ ts
  · rw [if_pos ht]
    exact ⟨h, ht, [], by simp, by simp, fun x hx => nomatch hx⟩
  · rw [if_neg ht]
    exact ⟨h.snoc hs ht, by simp, [t], rfl, by simp, fun x hx => List.mem_singleton.mp hx⟩
/-- the subterms -/
def Tr.all : Tr → List Tr
  | .neg t => .neg t :: t.all
  | .pow t m => .pow t m :: t.all
  | .map q t => .map q t :: t.all
  | .cho b t m => .cho b t m :: t.all
  | .dist t => .dist t :: t.all
  | .two b x y => .two b x y :: (x.all ++ y.all)
  | .bin op x y => .bin op x y :: (x.all ++ y.all)
  | t => [t]
theorem Tr.all_subs : ∀ t : Tr, t.all = t :: (t.subs.map Tr.all).flatten := fun t => by cases t <;> simp [Tr.all, Tr.subs]
theorem Tr.hgt_subs {t u : Tr} (h : u ∈ t.subs) : u.hgt < t.hgt := by
  cases t <;> simp [Tr.subs] at h <;> simp [Tr.hgt]
  all_goals first
    | (subst h; omega)
    | (rcases h with rfl | rfl <;> omega)
theorem Tr.subs_cases (t : Tr) : t.subs = [] ∨ (∃ u, t.subs = [u]) ∨ ∃ u v, t.subs = [u, v] := by
  cases t <;> first | exact .inl rfl | exact .inr (.inl ⟨_, rfl⟩) | exact .inr (.inr ⟨_, _, rfl⟩)
def sizes (us : List Tr) : Nat := (us.map fun u => u.size.toNat).sum
theorem Tr.size_pos : ∀ t : Tr, 1 ≤ t.size
  | .name _ => by simp [Tr.size] | .list _ => by simp [Tr.size] | .unity _ => by simp [Tr.size] | .roots _ => by simp [Tr.size]
  | .neg t => by have := t.size_pos; simp only [Tr.size]; omega
  | .pow t _ => by have := t.size_pos; simp only [Tr.size]; omega
  | .map _ t => by have := t.size_pos; simp only [Tr.size]; omega
  | .cho _ t _ => by have := t.size_pos; simp only [Tr.size]; omega
  | .dist t => by have := t.size_pos; simp only [Tr.size]; omega
  | .two _ x y => by have := x.size_pos; have := y.size_pos; simp only [Tr.size]; omega
  | .bin _ x y => by have := x.size_pos; have := y.size_pos; simp only [Tr.size]; omega
theorem Tr.size_subs (t : Tr) : t.size.toNat = sizes t.subs + 1 := by
  cases t <;> simp [Tr.size, Tr.subs, sizes]
  all_goals first
    | (rename_i u; have := u.size_pos; omega)
    | (rename_i u _; have := u.size_pos; omega)
    | (rename_i u v; have := u.size_pos; have := v.size_pos; omega)
theorem adds_ok {n : Nat} (ih : ∀ t ts, t.hgt ≤ n → Cl ts → Cl (addT n t ts) ∧ t ∈ addT n t ts ∧ ∃ us, addT n t ts = ts ++ us ∧ us.length ≤ t.size.toNat ∧ ∀ x ∈ us, x ∈ t.all) : ∀ (us ts : List Tr), (∀ u ∈ us, u.hgt ≤ n) → Cl ts → Cl (us.foldl (fun acc u => addT n u acc) ts) ∧ (∀ u ∈ us, u ∈ us.foldl (fun acc u => addT n u acc) ts) ∧ ∃ vs, us.foldl (fun acc u => addT n u acc) ts = ts ++ vs ∧ vs.length ≤ sizes us ∧ ∀ x ∈ vs, ∃ u ∈ us, x ∈ u.all
  | [], ts, _, h => ⟨h, (fun u hu => nomatch hu), [], by simp, by simp, (fun x hx => nomatch hx)⟩
  | u :: us, ts, hh, h => by
    obtain ⟨a1, a2, vs, a3, a4, a5⟩ := ih u ts (hh u (by simp)) h
    obtain ⟨b1, b2, ws, b3, b4, b5⟩ := adds_ok ih us (addT n u ts) (fun x hx => hh x (by simp [hx])) a1
    rw [List.foldl_cons]
    refine ⟨b1, fun x hx => ?_, vs ++ ws, ?_, ?_, fun x hx => ?_⟩
    · rcases List.mem_cons.mp hx with rfl | hx
      · rw [b3]
        exact List.mem_append_left _ a2
      · exact b2 x hx
    · rw [b3, a3, List.append_assoc]
    · rw [List.length_append]
      show _ ≤ u.size.toNat + sizes us
      omega
    · rcases List.mem_append.mp hx with hx | hx
      · exact ⟨u, by simp, a5 x hx⟩
      · obtain ⟨v, hv, q⟩ := b5 x hx
        exact ⟨v, by simp [hv], q⟩
theorem addT_ok : ∀ (n : Nat) (t : Tr) (ts : List Tr), t.hgt ≤ n → Cl ts → Cl (addT n t ts) ∧ t ∈ addT n t ts ∧ ∃ us, addT n t ts = ts ++ us ∧ us.length ≤ t.size.toNat ∧ ∀ x ∈ us, x ∈ t.all
  | 0, t, ts, h, _ => by have := t.hgt_pos; omega
  | n + 1, t, ts, h, hc => by
    obtain ⟨a1, a2, vs, a3, a4, a5⟩ := adds_ok (addT_ok n) t.subs ts (fun u hu => by have := Tr.hgt_subs hu; omega) hc
    obtain ⟨b1, b2, ws, b3, b4, b5⟩ := addE_ok a1 a2
    rw [addT_s]
    refine ⟨b1, b2, vs ++ ws, by rw [b3, a3, List.append_assoc], ?_, fun x hx => ?_⟩
    · rw [List.length_append, t.size_subs]
      omega
    · rw [t.all_subs]
      rcases List.mem_append.mp hx with hx | hx
      · obtain ⟨u, hu, q⟩ := a5 x hx
        exact List.mem_cons_of_mem _ (List.mem_flatten.mpr ⟨u.all, List.mem_map.mpr ⟨u, hu, rfl⟩, q⟩)
      · rw [b5 x hx]
        exact List.mem_cons_self
abbrev restP : FS := fSeq (fIfS (fInT true 2 (fVar 3)) (fSeq (fPutT 2 (fVar 3) (fOn1 oLen 1)) (fApp1 1 (fVar 3))) fNext) (fRet (fGetT 2 (fVar 3)))
theorem oLen_lst (ds : List Dat) : oLen [.lst ds] = some (.int (ds.length : Int)) := rfl
theorem rest_ok {t : Tr} {ts : List Tr} {x : Option Slot} (h : Cl ts) (hs : ∀ u ∈ t.subs, u ∈ ts) (hl : ts.length < 90000) : SW (restP [some (.v t.dat), some .me, some .me2, some (.v (stepOf ts t)), x] (S2 (stp ts) (ents ts))) (fun _ _ => False) fun d S => d = idx (addE t ts) t ∧ S = S2 (stp (addE t ts)) (ents (addE t ts)) := by
  obtain ⟨k, k1, k2⟩ := tkey_step ts t
  have pls := stp_pl ts
  have ps := pl_step ts t
  by_cases ht : t ∈ ts
  · have e : addE t ts = ts := if_pos ht
    have g : (stp ts)[pos ts t]? = some (stepOf ts t) := by
      unfold stp
      rw [List.getElem?_map, pos_get ht]
      rfl
    have ta : tabAt (ents ts) k = some (idx ts t) := by
      have := tab_at ps k1 (stp ts) 0 (pos ts t) pls (stp_nd h) g
      rw [Nat.zero_add] at this
      exact this
    rw [e]
    simp [restP, k2, ta, bW]
  · have e : addE t ts = ts ++ [t] := if_neg ht
    have ta : tabAt (ents ts) k = none := tab_no ps k1 (stp ts) 0 pls fun z => ht ((step_mem h hs).mp z)
    have c2 := h.snoc hs ht
    have es : stp (ts ++ [t]) = stp ts ++ [stepOf ts t] := by
      rw [stp_app h, List.map_singleton, stepOf_app hs]
    have ee : ents (ts ++ [t]) = ents ts ++ [.tup [stepOf ts t, .int (ts.length : Int)]] := by
      unfold ents
      rw [es, entL_app, Nat.zero_add, stp_len]
      rfl
    have ta2 : tabAt (ents ts ++ [.tup [stepOf ts t, .int (ts.length : Int)]]) k = some (.int (ts.length : Int)) := by
      rw [← ee]
      have g : (stp (ts ++ [t]))[ts.length]? = some (stepOf ts t) := by
        rw [es, ← stp_len ts]
        simp
      have := tab_at ps k1 (stp (ts ++ [t])) 0 ts.length (stp_pl _) (stp_nd c2) g
      rw [Nat.zero_add] at this
      exact this
    have ei : idx (ts ++ [t]) t = .int (ts.length : Int) := by
      unfold idx
      rw [pos_new ht]
    have le : (ents ts).length = ts.length := by
      unfold ents
      rw [entL_len, stp_len]
    rw [e, ei, es, ee]
    simp [restP, k2, ta, ta2, bW, oLen_lst, le, stp_len]
    omega
theorem put_ok : ∀ (n : Nat) (t : Tr) (ts : List Tr), t.hgt ≤ n → Cl ts → ts.length + t.size.toNat ≤ 80000 → F_put_step n (S2 (stp ts) (ents ts)) [t.dat] = .ok (idx (addT n t ts) t) (S2 (stp (addT n t ts)) (ents (addT n t ts)))
  | 0, t, ts, h, _, _ => by have := t.hgt_pos; omega
  | n + 1, t, ts, h, hc, hl => by
    have p := operands_ok t
    obtain ⟨a1, a2, vs, a3, a4, _⟩ := adds_ok (addT_ok n) t.subs ts (fun u hu => by have := Tr.hgt_subs hu; omega) hc
    have sz := t.size_subs
    have fin : ∀ {ts1 : List Tr}, t.subs.foldl (fun acc u => addT n u acc) ts = ts1 → SW (restP [some (.v t.dat), some .me, some .me2, some (.v (stepOf ts1 t)), none] (S2 (stp ts1) (ents ts1))) (fun _ _ => False) fun d S => d = idx (addT (n + 1) t ts) t ∧ S = S2 (stp (addT (n + 1) t ts)) (ents (addT (n + 1) t ts)) := fun {ts1} e => by
      have l1 : ts1.length < 90000 := by
        rw [← e, a3, List.length_append]
        omega
      have z := rest_ok (t := t) (x := none) (e ▸ a1) (fun u hu => e ▸ a2 u hu) l1
      rw [addT_s, e]
      exact z
    have key : SW (B_put_step (F_put_step n) (startM2 5 t.dat) (S2 (stp ts) (ents ts))) (fun _ _ => False) fun d S => d = idx (addT (n + 1) t ts) t ∧ S = S2 (stp (addT (n + 1) t ts)) (ents (addT (n + 1) t ts)) := by
      unfold B_put_step
      refine sw_cut (fun ρ S => ρ = [some (.v t.dat), some .me, some .me2, some (.v (stepOf (t.subs.foldl (fun acc u => addT n u acc) ts) t)), none] ∧ S = S2 (stp (t.subs.foldl (fun acc u => addT n u acc) ts)) (ents (t.subs.foldl (fun acc u => addT n u acc) ts))) ?_ (by rintro ρ S ⟨rfl, rfl⟩; exact fin rfl)
      rcases t.subs_cases with e | ⟨u, e⟩ | ⟨u, v, e⟩
      · rw [e] at p
        have w := with_ok t [] (by rw [e]; rfl)
        have st : stepOf ts t = t.put [] := by unfold stepOf; rw [e]; rfl
        rw [e]
        simp [startM2, p, PD.listOf, ownAny, w, st]
      · rw [e] at p sz
        have s1 : sizes [u] = u.size.toNat := by simp [sizes]
        have ih := put_ok n u ts (by have := Tr.hgt_subs (t := t) (u := u) (by rw [e]; simp); omega) hc (by omega)
        have w := with_ok t [idx (addT n u ts) u] (by rw [e]; rfl)
        have st : stepOf (addT n u ts) t = t.put [idx (addT n u ts) u] := by unfold stepOf; rw [e]; rfl
        rw [e]
        simp [startM2, p, PD.listOf, ownAny, gN, wipeD, ih, w, st]
      · rw [e] at p sz
        have s1 : sizes [u, v] = u.size.toNat + v.size.toNat := by simp [sizes]
        have h1 := Tr.hgt_subs (t := t) (u := u) (by rw [e]; simp)
        have h2 := Tr.hgt_subs (t := t) (u := v) (by rw [e]; simp)
        have ih := put_ok n u ts (by omega) hc (by omega)
        obtain ⟨c1, c2, ws, c3, c4, _⟩ := addT_ok n u ts (by omega) hc
        have ih2 := put_ok n v (addT n u ts) (by omega) c1 (by rw [c3, List.length_append]; omega)
        obtain ⟨d1, d2, xs, d3, _⟩ := addT_ok n v (addT n u ts) (by omega) c1
        have ii : idx (addT n v (addT n u ts)) u = idx (addT n u ts) u := by
          rw [d3]
          exact idx_app c2 xs
        have w := with_ok t [idx (addT n u ts) u, idx (addT n v (addT n u ts)) v] (by rw [e]; rfl)
        have st : stepOf (addT n v (addT n u ts)) t = t.put [idx (addT n u ts) u, idx (addT n v (addT n u ts)) v] := by
          unfold stepOf
          rw [e, ← ii]
          rfl
        rw [e]
        simp [startM2, p, PD.listOf, ownAny, gN, wipeD, ih, ih2, w, st]
    show runM2 5 (B_put_step (F_put_step n)) (S2 (stp ts) (ents ts)) [t.dat] = _
    simp only [runM2]
    revert key
    cases B_put_step (F_put_step n) (startM2 5 t.dat) (S2 (stp ts) (ents ts)) with
    | rt d S => exact fun h => by rw [h.1, h.2]
    | _ => exact fun h => h.elim
end RB

set_option Elab.async false
set_option linter.all false
set_option maxRecDepth 100000
set_option maxHeartbeats 8000000
namespace RB
open PySem PySem.Spec PyProof.Rows L2 PD RBS
/-! ### planned, compiled, plan_trees -/
noncomputable abbrev adds (n : Nat) (us ts : List Tr) : List Tr := us.foldl (fun acc u => addT n u acc) ts
theorem lc_put {n : Nat} {x0 x3 x4 : Option Slot} : ∀ (us ts : List Tr), (∀ u ∈ us, u.hgt ≤ n) → Cl ts → ts.length + sizes us ≤ 80000 → AW (fLcL (gN 4) fYes (fCallT 1 2 (F_put_step n) (fVar 4)) [4] [x0, some .me, some .me2, x3, x4] (us.map Tr.dat) (S2 (stp ts) (ents ts))) fun ys S => ys = us.map (idx (adds n us ts)) ∧ S = S2 (stp (adds n us ts)) (ents (adds n us ts))
  | [], ts, _, _, _ => by simp
  | u :: us, ts, hh, hc, hl => by
    have s1 : sizes (u :: us) = u.size.toNat + sizes us := rfl
    obtain ⟨c1, c2, ws, c3, c4, _⟩ := addT_ok n u ts (hh u (by simp)) hc
    have p := put_ok n u ts (hh u (by simp)) hc (by omega)
    have ih := lc_put (x0 := x0) (x3 := x3) (x4 := x4) us (addT n u ts) (fun x hx => hh x (by simp [hx])) c1 (by rw [c3, List.length_append]; omega)
    obtain ⟨d1, d2, xs, d3, _⟩ := adds_ok (addT_ok n) us (addT n u ts) (fun x hx => hh x (by simp [hx])) c1
    have ii : idx (adds n us (addT n u ts)) u = idx (addT n u ts) u := by
      show idx (us.foldl (fun acc u => addT n u acc) (addT n u ts)) u = _
      rw [d3]
      exact idx_app c2 xs
    rw [List.map_cons, aw_lc_cons]
    refine ⟨_, rfl, ?_⟩
    simp [wipeD, p, bW]
    have aw : ∀ {r : RA} {Q Q' : List Dat → Fld → Prop}, AW r Q → (∀ d S, Q d S → Q' d S) → AW r Q' := fun {r} {Q Q'} h i => by
      cases r with
      | ok d S => exact i d S h
      | er n v => exact h
      | bad => exact h
    refine aw ih ?_
    rintro ys S ⟨rfl, rfl⟩
    exact ⟨⟨ii.symm, rfl⟩, rfl⟩
theorem planned_ok (us : List Tr) (hh : ∀ u ∈ us, u.hgt ≤ 20) (hl : sizes us ≤ 80000) (hn : us.length ≤ 1000) : F_planned [.tup (us.map Tr.dat)] = .ok (.tup [.lst (stp (adds 20 us [])), .lst (us.map (idx (adds 20 us [])))]) := by
  have aw : ∀ {r : RA} {Q Q' : List Dat → Fld → Prop}, AW r Q → (∀ d S, Q d S → Q' d S) → AW r Q' := fun {r} {Q Q'} h i => by
    cases r with
    | ok d S => exact i d S h
    | er n v => exact h
    | bad => exact h
  refine FW.eq (fw_run ?_)
  unfold B_planned
  rw [sw_with2]
  simp [startD, PD.tupOf, ownAny]
  refine ⟨by omega, ?_⟩
  refine aw (lc_put (n := 20) us [] hh Cl.nil (by simpa using hl)) ?_
  rintro ys S ⟨rfl, rfl⟩
  simp [dropMe]
theorem compiled_ok (us : List Tr) (hh : ∀ u ∈ us, u.hgt ≤ 20) (hl : sizes us ≤ 80000) (hn : us.length ≤ 1000) : F_compiled (us.map Tr.dat) = .ok (.tup [.lst (stp (adds 20 us [])), .lst (us.map (idx (adds 20 us [])))]) := by
  unfold F_compiled starF
  rw [if_pos (by rw [List.length_map]; omega)]
  refine FW.eq (fw_run ?_)
  simp [B_compiled, startD, planned_ok us hh hl hn]
end RB

set_option Elab.async false
set_option linter.all false
set_option maxRecDepth 100000
set_option maxHeartbeats 8000000
namespace RB
open PySem PySem.Spec PyProof.Rows L2 PD RBS
/-! ### plan_trees -/
theorem ix_dat {ts : List Tr} {i : Nat} {u : Tr} (h : ts[i]? = some u) : oIx (.lst (ts.map Tr.dat)) (.int i) = some u.dat := ix_nat (by rw [List.getElem?_map, h]; rfl)
/-- the places of some trees are looked up -/
theorem lc_back {fe : FE} {v : Nat} {ρ : DEnv} {S : Fld} {ts us : List Tr} {QA : List Dat → Fld → Prop} (hv : v < ρ.length) (he : ∀ (d : Dat) (u : Tr), oIx (.lst (ts.map Tr.dat)) d = some u.dat → EW (fe ((wipeD ρ [v]).set v (some (.v d))) S) fun y S' => y = u.dat ∧ S' = S) (hu : ∀ u ∈ us, u ∈ ts) (q : QA (us.map Tr.dat) S) : AW (fLcL (gN v) fYes fe [v] ρ (us.map (idx ts)) S) QA := by
  induction us generalizing QA with
  | nil => simpa using q
  | cons u us ih =>
    rw [List.map_cons, aw_lc_cons]
    refine ⟨_, rfl, ?_⟩
    have e := he (idx ts u) u (ix_dat (pos_get (hu u (by simp))))
    show EW (fYes _ S) _
    simp only [ew_yes]
    refine EW_mono e ?_
    rintro y S' ⟨rfl, rfl⟩
    exact ih (fun x hx => hu x (by simp [hx])) q
theorem trees_ok {ts us : List Tr} (h : Cl ts) (hl : ts.length ≤ 1000) (hu : ∀ u ∈ us, u ∈ ts) (hn : us.length ≤ 1000) : F_plan_trees [.tup [.lst (stp ts), .lst (us.map (idx ts))]] = .ok (.lst (us.map Tr.dat)) := by
  refine FW.eq (fw_run ?_)
  unfold B_plan_trees
  refine sw_cut (fun ρ S => ρ = [some (.v (.tup [.lst (stp ts), .lst (us.map (idx ts))])), none, none, some (.v (.lst (stp ts))), some (.v (.lst (us.map (idx ts)))), none] ∧ S = []) ?_ ?_
  · simp [startD, gT, gN]
    rfl
  rintro ρ S ⟨rfl, rfl⟩
  refine sw_cut (fun ρ S => ρ = [some (.v (.tup [.lst (stp ts), .lst (us.map (idx ts))])), some (.own []), none, some (.v (.lst (stp ts))), some (.v (.lst (us.map (idx ts)))), none] ∧ S = []) ?_ ?_
  · simp
  rintro ρ S ⟨rfl, rfl⟩
  refine sw_cut (fun ρ S => (∃ x, ρ = [some (.v (.tup [.lst (stp ts), .lst (us.map (idx ts))])), some (.own (ts.map Tr.dat)), x, some (.v (.lst (stp ts))), some (.v (.lst (us.map (idx ts)))), none]) ∧ S = []) ?_ ?_
  · rw [sw_forL]
    simp [PD.listOf]
    refine sw_for (fun i ρ S => (∃ x, ρ = [some (.v (.tup [.lst (stp ts), .lst (us.map (idx ts))])), some (.own ((ts.take i).map Tr.dat)), x, some (.v (.lst (stp ts))), some (.v (.lst (us.map (idx ts)))), none]) ∧ S = []) ⟨⟨_, rfl⟩, rfl⟩ (fun i d ρ S hd hI => ?_) (fun ρ S hI => ?_)
    · obtain ⟨⟨x, rfl⟩, rfl⟩ := hI
      unfold stp at hd
      rw [List.getElem?_map] at hd
      cases et : ts[i]? with
      | none => rw [et] at hd; cases hd
      | some t =>
        rw [et] at hd
        cases hd
        have il := (List.getElem?_eq_some_iff.mp et).1
        have tk : ts.take (i + 1) = ts.take i ++ [t] := by
          rw [List.take_add_one, et]
          rfl
        have hsub := h.2 i t et
        have hp := operands_put t (t.subs.map (idx ts)) (by rw [List.length_map])
        have hw := with_put t (t.subs.map (idx ts)) (t.subs.map Tr.dat) (by rw [List.length_map]) (by rw [List.length_map])
        rw [t.put_self] at hw
        refine ⟨_, rfl, ?_⟩
        have hp : F_operands [stepOf ts t] = .ok (.lst (t.subs.map (idx ts))) := hp
        have hw : F_with_operands [stepOf ts t, .lst (t.subs.map Tr.dat)] = .ok t.dat := hw
        have sl : t.subs.length ≤ 2 := by rcases t.subs_cases with e | ⟨u, e⟩ | ⟨u, v, e⟩ <;> rw [e] <;> simp
        simp [hp, PD.listOf, ownAny]
        refine ⟨by omega, ?_⟩
        have ids : t.subs.map (idx ts) = t.subs.map (idx (ts.take i)) := List.map_congr_left fun u hu => by
          have e : ts = ts.take i ++ ts.drop i := (List.take_append_drop i ts).symm
          conv => lhs; rw [e]
          exact idx_app (hsub u hu) _
        rw [ids]
        refine lc_back (by simp) (fun d u e => ?_) hsub ?_
        · rw [List.map_take] at e
          simp [wipeD, e]
        · simp [hw]
          refine ⟨by omega, ?_⟩
          rw [← List.map_take, ← List.map_take, tk]
          simp
    · obtain ⟨⟨x, rfl⟩, rfl⟩ := hI
      refine ⟨⟨x, ?_⟩, rfl⟩
      rw [stp_len, List.take_length]
  rintro ρ S ⟨⟨x, rfl⟩, rfl⟩
  simp [PD.listOf, ownAny]
  refine ⟨by omega, ?_⟩
  refine lc_back (by simp) (fun d u e => ?_) hu rfl
  simp [wipeD, e]
end RB

set_option Elab.async false
set_option linter.all false
set_option maxRecDepth 100000
set_option maxHeartbeats 4000000
namespace RB
open PySem PySem.Spec PyProof.Rows L2 PD
/-! ### data that are the same -/
def Sm : Nat → Dat → Prop
  | _, .non => True
  | _, .bl _ => True
  | _, .int _ => True
  | _, .str s => PyData.strOk s = true
  | _, .dct _ _ => False
  | _, .ins _ _ _ => False
  | 0, _ => False
  | k + 1, .lst ds => ds.length ≤ 1000 ∧ ∀ d ∈ ds, Sm k d
  | k + 1, .tup ds => ds.length ≤ 1000 ∧ ∀ d ∈ ds, Sm k d
theorem Sm.mono {d : Dat} : ∀ {k m : Nat}, Sm k d → k ≤ m → Sm m d := by
  intro k
  induction k generalizing d with
  | zero =>
    intro m h _
    cases d <;> cases m <;> first | trivial | exact h | exact h.elim
  | succ k ih =>
    intro m h hm
    obtain ⟨m, rfl⟩ : ∃ j, m = j + 1 := ⟨m - 1, by omega⟩
    cases d with
    | lst ds => exact ⟨h.1, fun d hd => ih (h.2 d hd) (by omega)⟩
    | tup ds => exact ⟨h.1, fun d hd => ih (h.2 d hd) (by omega)⟩
    | dct _ _ => exact h.elim
    | ins _ _ _ => exact h.elim
    | _ => exact h
theorem sm_q (x : Int × Nat) : Sm 1 (qD x) := ⟨by simp, fun d hd => by
  simp only [List.mem_cons, List.not_mem_nil, or_false] at hd
  rcases hd with rfl | rfl <;> trivial⟩
theorem sm_qs {qs : List (Int × Nat)} (h : Tr.QsOk qs) : Sm 2 (.tup (qs.map qD)) := ⟨by have := h.2; rw [List.length_map]; omega, fun d hd => by
  obtain ⟨x, _, rfl⟩ := List.mem_map.mp hd
  exact sm_q x⟩
theorem sm_two {a b : Dat} {k : Nat} (ha : Sm k a) (hb : Sm k b) : Sm (k + 1) (.tup [a, b]) := ⟨by simp, fun e he => by
  simp only [List.mem_cons, List.not_mem_nil, or_false] at he
  rcases he with rfl | rfl <;> assumption⟩
theorem sm_three {a b c : Dat} {k : Nat} (ha : Sm k a) (hb : Sm k b) (hc : Sm k c) : Sm (k + 1) (.tup [a, b, c]) := ⟨by simp, fun e he => by
  simp only [List.mem_cons, List.not_mem_nil, or_false] at he
  rcases he with rfl | rfl | rfl <;> assumption⟩
theorem sm_str {s : Str} (h : PyData.strOk s = true) (k : Nat) : Sm k (.str s) := by cases k <;> exact h
theorem sm_int (i : Int) (k : Nat) : Sm k (.int i) := by cases k <;> trivial
theorem Tr.sm : ∀ {t : Tr}, t.Ok → Sm (t.hgt + 2) t.dat
  | .name w, h => sm_two (sm_str (sok_of _) _) (sm_str h _)
  | .list qs, h => sm_two (sm_str (sok_of _) _) (sm_qs h)
  | .unity m, h => sm_two (sm_str (sok_of _) _) (sm_int _ _)
  | .roots qs, h => sm_two (sm_str (sok_of _) _) (sm_qs h.1)
  | .neg t, h => sm_two (sm_str (sok_of _) _) (Tr.sm (t := t) h)
  | .pow t m, h => sm_three (sm_str (sok_of _) _) (Tr.sm h.1) (sm_int _ _)
  | .map qs t, h => sm_three (sm_str (sok_of _) _) ((sm_qs h.1).mono (by show 2 ≤ t.hgt + 2; omega)) (Tr.sm h.2.2)
  | .cho b t m, h => sm_three (sm_str (by cases b <;> exact sok_of _) _) (Tr.sm h.1) (sm_int _ _)
  | .dist t, h => sm_two (sm_str (sok_of _) _) (Tr.sm (t := t) h)
  | .two b x y, h => sm_three (sm_str (by cases b <;> exact sok_of _) _) ((Tr.sm h.1).mono (by show x.hgt + 2 ≤ max x.hgt y.hgt + 2; omega)) ((Tr.sm h.2).mono (by show y.hgt + 2 ≤ max x.hgt y.hgt + 2; omega))
  | .bin op x y, h => sm_three (sm_str (by cases op <;> exact sok_of _) _) ((Tr.sm h.1).mono (by show x.hgt + 2 ≤ max x.hgt y.hgt + 2; omega)) ((Tr.sm h.2).mono (by show y.hgt + 2 ≤ max x.hgt y.hgt + 2; omega))
theorem oEq_bb (a b : Bool) : oEq (.bl a) (.bl b) = some (.bl (a == b)) := by cases a <;> cases b <;> rfl
theorem oNe_bb (a b : Bool) : oNe (.bl a) (.bl b) = some (.bl (!(a == b))) := by cases a <;> cases b <;> rfl
theorem bls_true : ∀ ds : List Dat, blsOf (ds.map fun _ => Dat.bl true) = some (ds.map fun _ => true)
  | [] => rfl
  | d :: ds => by
    show (blsOf (ds.map fun _ => Dat.bl true)).map (true :: ·) = _
    rw [bls_true ds]
    rfl
theorem oAll_true (ds : List Dat) : oAll [.lst (ds.map fun _ => Dat.bl true)] = some (.bl true) := by
  show (blsOf (ds.map fun _ => Dat.bl true)).map _ = _
  rw [bls_true]
  simp
theorem zipD_self : ∀ ds : List Dat, zipD ds ds = ds.map fun d => .tup [d, d]
  | [] => rfl
  | d :: ds => by
    have := zipD_self ds
    unfold zipD at this ⊢
    simp only [List.zip_cons_cons, List.map_cons, this]
theorem same_ok : ∀ (n k : Nat) (d : Dat), Sm k d → k < n → F_law_same n [d, d] = .ok (.bl true)
  | 0, k, d, h, hk => by omega
  | n + 1, k, d, h, hk => by
    refine FW.eq (fw_run ?_)
    have two : ∀ (ds : List Dat), ds.length ≤ 1000 → (∀ x ∈ ds, F_law_same n [x, x] = .ok (.bl true)) → ∀ ρ : DEnv, AW (fLcL (gT [gN 2, gN 3]) fYes (fCall (F_law_same n) (fCons (fVar 2) (fCons (fVar 3) fNil))) [2, 3] [some (.v d), some (.v d), none, none] (zipD ds ds) []) fun ys S' => ys = ds.map (fun _ => Dat.bl true) ∧ S' = [] := fun ds hl hx ρ => by
      refine aw_lc_map (fun _ => .bl true) (fun e he => ?_) ⟨?_, rfl⟩
      · rw [zipD_self] at he
        obtain ⟨x, hx1, rfl⟩ := List.mem_map.mp he
        refine ⟨_, rfl, ⟨rfl, rfl⟩, ?_⟩
        simp [wipeD, hx x hx1]
      · rw [zipD_self, List.map_map]
        rfl
    cases d with
    | dct _ _ => exact (by cases k <;> exact h.elim)
    | ins _ _ _ => exact (by cases k <;> exact h.elim)
    | non => simp [B_law_same, startD, oIsi, Dat.isL, Dat.isT, oIsN]
    | bl b =>
      simp [B_law_same, startD, oIsi, Dat.isL, Dat.isT, Dat.isB, Dat.isI, Dat.isS, oIsN, oNe_bb, oEq_bb]
    | int i =>
      simp [B_law_same, startD, oIsi, Dat.isL, Dat.isT, Dat.isB, Dat.isI, Dat.isS, oIsN, oNe_bb, oEq_bb]
    | str s =>
      have hs : PyData.strOk s = true := by cases k <;> exact h
      simp [B_law_same, startD, oIsi, Dat.isL, Dat.isT, Dat.isB, Dat.isI, Dat.isS, oIsN, oNe_bb, oEq_bb, oEq_s hs hs]
    | lst ds =>
      obtain ⟨k, rfl⟩ : ∃ j, k = j + 1 := by
        cases k with
        | zero => exact h.elim
        | succ j => exact ⟨j, rfl⟩
      have tw := two ds h.1 (fun x hx => same_ok n k x (h.2 x hx) (by omega)) []
      have zl : (zipD ds ds).length ≤ 100000 := by rw [zipD_self, List.length_map]; exact Nat.le_trans h.1 (by decide)
      simp [B_law_same, startD, oIsi, Dat.isL, Dat.isT, oNe_bb, oLen_l, zipOf, ownAny, zl]
      refine AW_mono tw ?_
      rintro ys S' ⟨rfl, rfl⟩
      simp [oAll_true]
    | tup ds =>
      obtain ⟨k, rfl⟩ : ∃ j, k = j + 1 := by
        cases k with
        | zero => exact h.elim
        | succ j => exact ⟨j, rfl⟩
      have tw := two ds h.1 (fun x hx => same_ok n k x (h.2 x hx) (by omega)) []
      have zl : (zipD ds ds).length ≤ 100000 := by rw [zipD_self, List.length_map]; exact Nat.le_trans h.1 (by decide)
      have lt : oLen [.tup ds] = some (.int ds.length) := rfl
      simp [B_law_same, startD, oIsi, Dat.isL, Dat.isT, oNe_bb, lt, zipOf, ownAny, zl]
      refine AW_mono tw ?_
      rintro ys S' ⟨rfl, rfl⟩
      simp [oAll_true]
end RB

set_option Elab.async false
set_option linter.all false
set_option maxRecDepth 100000
set_option maxHeartbeats 8000000
namespace RB
open PySem PySem.Spec PyProof.Rows L2 PD RBS
/-! ### things in a list, each once -/
section
variable {α : Type} [DecidableEq α] {f : α → Dat} {xs : List α}
/-- data that stand for things: equal just where these are -/
structure EqD (f : α → Dat) (P : α → Prop) : Prop where
  eq : ∀ a b, P a → P b → (PyData.eqv (f a).pd (f b).pd = true ↔ a = b)
  lay : ∀ a, P a → Lay (f a) 60
theorem any_map {P : α → Prop} (E : EqD f P) {x : α} (hx : P x) : ∀ (ys : List α), (∀ y ∈ ys, P y) → ((pds (ys.map f)).any fun z => PyData.eqv z (f x).pd) = decide (x ∈ ys)
  | [], _ => rfl
  | y :: ys, h => by
    have ih := any_map E hx ys fun z hz => h z (by simp [hz])
    show (PyData.eqv (f y).pd (f x).pd || (pds (ys.map f)).any _) = _
    rw [ih]
    have e := E.eq y x (h y (by simp)) hx
    by_cases c : y = x
    · rw [e.mpr c]
      simp [c]
    · have : PyData.eqv (f y).pd (f x).pd = false := by
        cases z : PyData.eqv (f y).pd (f x).pd with
        | false => rfl
        | true => exact (c (e.mp z)).elim
      rw [this]
      simp [List.mem_cons, show ¬ x = y from fun z => c z.symm]
theorem lay_map {P : α → Prop} (E : EqD f P) {ys : List α} (h : ∀ y ∈ ys, P y) : Lay (.lst (ys.map f)) 61 := lay_lst fun d hd => by
  obtain ⟨y, hy, rfl⟩ := List.mem_map.mp hd
  exact E.lay y (h y hy)
theorem oInD_map {P : α → Prop} (E : EqD f P) {x : α} {ys : List α} (hx : P x) (h : ∀ y ∈ ys, P y) (neg : Bool) : oInD neg (f x) (.lst (ys.map f)) = some (.bl (if neg then !decide (x ∈ ys) else decide (x ∈ ys))) := by
  unfold oInD
  simp only
  rw [if_pos ⟨(E.lay x hx).shaped (by decide), (lay_map E h).shaped (by decide)⟩, any_map E hx ys h]
end
theorem cut_take (ds : List Dat) (k : Nat) : PD.cutD ds none (some (k : Int)) = ds.take k := by
  unfold PD.cutD
  rw [show HT.sIx ds.length ds.length (some (k : Int)) = min k ds.length from HT.sIx_nat _ _ _, HT.sIx_none, List.drop_zero, Nat.sub_zero]
  rcases Nat.le_total k ds.length with h | h
  · rw [Nat.min_eq_left h]
  · rw [Nat.min_eq_right h, List.take_length, List.take_of_length_le h]
theorem eqd_dat : EqD Tr.dat fun t => t.Ok ∧ t.hgt ≤ 50 := ⟨fun a b ha hb => ⟨fun h => dat_inj (eqv_sd 52 _ _ ((Tr.sd a).mono (by have := ha.2; omega)) ((Tr.sd b).mono (by have := hb.2; omega)) h), fun h => by
  rw [h]
  exact PySem.SeqAt.eqv_refl _ (Tr.lay hb.1).1⟩, fun a ha => (Tr.lay ha.1).mono (by have := ha.2; omega)⟩
theorem lay_put : ∀ (t : Tr) (ds : List Dat), t.Ok → ds.length = t.subs.length → (∀ d ∈ ds, Lay d 2) → Lay (t.put ds) 3
  | .name w, [], h, _, _ => lay_two (lay_str (by decide +kernel) _) (lay_str h _)
  | .list w, [], h, _, _ => lay_two (lay_str (by decide +kernel) _) (lay_qs w)
  | .unity w, [], h, _, _ => lay_two (lay_str (by decide +kernel) _) (lay_int _ _)
  | .roots w, [], h, _, _ => lay_two (lay_str (by decide +kernel) _) (lay_qs w)
  | .neg t, [d], _, _, h => lay_two (lay_str (by decide +kernel) _) (h d (by simp))
  | .pow t m, [d], _, _, h => lay_three (lay_str (by decide +kernel) _) (h d (by simp)) (lay_int _ _)
  | .map q t, [d], _, _, h => lay_three (lay_str (by decide +kernel) _) (lay_qs q) (h d (by simp))
  | .cho b t m, [d], _, _, h => lay_three (lay_str (by cases b <;> decide +kernel) _) (h d (by simp)) (lay_int _ _)
  | .dist t, [d], _, _, h => lay_two (lay_str (by decide +kernel) _) (h d (by simp))
  | .two b x y, [d, e], _, _, h => lay_three (lay_str (by cases b <;> decide +kernel) _) (h d (by simp)) (h e (by simp))
  | .bin op x y, [d, e], _, _, h => lay_three (lay_str (by cases op <;> decide +kernel) _) (h d (by simp)) (h e (by simp))
theorem lay_step {t : Tr} (ts : List Tr) (h : t.Ok) : Lay (stepOf ts t) 3 := lay_put t _ h (by rw [List.length_map]) fun d hd => by
  obtain ⟨u, _, rfl⟩ := List.mem_map.mp hd
  exact lay_int _ _
theorem eqd_step {ts : List Tr} (h : Cl ts) (ok : ∀ t ∈ ts, t.Ok) : EqD (stepOf ts) fun t => t ∈ ts := ⟨fun a b ha hb => ⟨fun z => step_inj (fun x hx => h.sub ha hx) (fun x hx => h.sub hb hx) (eqv_sd 3 _ _ (sd_step ts a) (sd_step ts b) z), fun z => by
  rw [z]
  exact PySem.SeqAt.eqv_refl _ (lay_step ts (ok b hb)).1⟩, fun a ha => (lay_step ts (ok a ha)).mono (by decide)⟩
end RB

set_option Elab.async false
set_option linter.all false
set_option maxRecDepth 100000
set_option maxHeartbeats 8000000
namespace RB
open PySem PySem.Spec PyProof.Rows L2 PD RBS
/-! ### the law's own steps -/
theorem all_hgt : ∀ (n : Nat) {t x : Tr}, t.hgt ≤ n → x ∈ t.all → x.hgt ≤ t.hgt
  | 0, t, x, h, _ => by have := t.hgt_pos; omega
  | n + 1, t, x, h, hx => by
    rw [t.all_subs] at hx
    rcases List.mem_cons.mp hx with rfl | hx
    · exact Nat.le_refl _
    · obtain ⟨l, hl, hx⟩ := List.mem_flatten.mp hx
      obtain ⟨u, hu, rfl⟩ := List.mem_map.mp hl
      have hh := Tr.hgt_subs hu
      have := all_hgt n (by omega) hx
      omega
theorem adds_mem {n : Nat} {ts : List Tr} (h : ∀ u, u ∈ ts → u.hgt ≤ n → addT n u ts = ts) : ∀ us : List Tr, (∀ u ∈ us, u ∈ ts ∧ u.hgt ≤ n) → us.foldl (fun acc u => addT n u acc) ts = ts
  | [], _ => rfl
  | u :: us, hu => by
    rw [List.foldl_cons, h u (hu u (by simp)).1 (hu u (by simp)).2]
    exact adds_mem h us fun x hx => hu x (by simp [hx])
theorem addT_mem : ∀ (n : Nat) {t : Tr} {ts : List Tr}, t.hgt ≤ n → Cl ts → t ∈ ts → addT n t ts = ts
  | 0, t, ts, h, _, _ => by have := t.hgt_pos; omega
  | n + 1, t, ts, h, hc, ht => by
    rw [addT_s, adds_mem (fun u hu hn => addT_mem n hn hc hu) t.subs fun u hu => ⟨hc.sub ht hu, by have := Tr.hgt_subs hu; omega⟩]
    exact if_pos ht
theorem adds_not {n : Nat} {t : Tr} {ts : List Tr} (h : t.hgt ≤ n + 1) (hc : Cl ts) (ht : t ∉ ts) : t ∉ t.subs.foldl (fun acc u => addT n u acc) ts := by
  obtain ⟨a1, a2, vs, a3, a4, a5⟩ := adds_ok (addT_ok n) t.subs ts (fun u hu => by have := Tr.hgt_subs hu; omega) hc
  rw [a3]
  intro z
  rcases List.mem_append.mp z with z | z
  · exact ht z
  · obtain ⟨u, hu, q⟩ := a5 t z
    have := Tr.hgt_subs hu
    have := all_hgt u.hgt (Nat.le_refl _) q
    omega
theorem find_map {α : Type} [DecidableEq α] {f : α → Dat} {P : α → Prop} (E : EqD f P) {x : α} (hx : P x) : ∀ (ys : List α), (∀ y ∈ ys, P y) → ((pds (ys.map f)).findIdx? fun z => PyData.eqv z (f x).pd) = ys.findIdx? fun y => decide (y = x)
  | [], _ => rfl
  | y :: ys, h => by
    have ih := find_map E hx ys fun z hz => h z (by simp [hz])
    show (((f y).pd :: pds (ys.map f)).findIdx? _) = _
    rw [List.findIdx?_cons, List.findIdx?_cons, ih]
    have e := E.eq y x (h y (by simp)) hx
    by_cases c : y = x
    · rw [e.mpr c, decide_eq_true c]
    · have : PyData.eqv (f y).pd (f x).pd = false := by
        cases z : PyData.eqv (f y).pd (f x).pd with
        | false => rfl
        | true => exact (c (e.mp z)).elim
      rw [this, decide_eq_false c]
theorem find_pos : ∀ {ts : List Tr} {u : Tr}, u ∈ ts → (ts.findIdx? fun y => decide (y = u)) = some (pos ts u)
  | t :: r, u, h => by
    rw [List.findIdx?_cons]
    unfold pos
    by_cases e : t = u
    · rw [decide_eq_true e, if_pos e, if_pos rfl]
    · rw [decide_eq_false e, if_neg e, find_pos ((List.mem_cons.mp h).resolve_left fun z => e z.symm)]
      rfl
theorem index_ok {ts : List Tr} {u : Tr} (h : ∀ x ∈ ts, x.Ok ∧ x.hgt ≤ 50) (hu : u ∈ ts) : oIndexD (ts.map Tr.dat) u.dat = some (idx ts u) := by
  unfold oIndexD
  rw [if_pos ⟨((eqd_dat.lay u (h u hu)).shaped (by decide)), (lay_map eqd_dat h).shaped (by decide)⟩, find_map eqd_dat (h u hu) ts h, find_pos hu]
  rfl
abbrev stepB : FS := (fIfS (fOp (oIn false) (fOp oIx (fVar 0) (fC (.int 0))) (fApp mkL (fCons (fC (.str "name")) (fCons (fC (.str "list")) (fCons (fC (.str "unity")) (fCons (fC (.str "roots")) fNil)))))) (fSet 5 (fVar 0)) (fIfS (fOp oEq (fOp oIx (fVar 0) (fC (.int 0))) (fC (.str "map"))) (fSet 5 (fApp mkT (fCons (fOp oIx (fVar 0) (fC (.int 0))) (fCons (fOp oIx (fVar 0) (fC (.int 1))) (fCons (fOp oIx (fVar 4) (fC (.int 0))) fNil))))) (fSet 5 (fOp oAdd (fOp oAdd (fApp mkT (fCons (fOp oIx (fVar 0) (fC (.int 0))) fNil)) (fApp oTuple (fCons (fVar 4) fNil))) (fApp oTuple (fCons (fSl oSl (fVar 0) (some (fOp oAdd (fC (.int 1)) (fApp oLen (fCons (fVar 4) fNil)))) none) fNil))))))
theorem stepB_ok : ∀ (t : Tr) (ps : List Dat) (x3 : Option Slot) (S : Fld), ps.length = t.subs.length → stepB [some (.v t.dat), some .me, some .me2, x3, some (.v (.lst ps)), none] S = .nx [some (.v t.dat), some .me, some .me2, x3, some (.v (.lst ps)), some (.v (t.put ps))] S
  | .name w, [], _, _, _ => by kernel_rfl
  | .list w, [], _, _, _ => by kernel_rfl
  | .unity w, [], _, _, _ => by kernel_rfl
  | .roots w, [], _, _, _ => by kernel_rfl
  | .neg t, [d], _, _, _ => by kernel_rfl
  | .pow t m, [d], _, _, _ => by kernel_rfl
  | .map q t, [d], _, _, _ => by kernel_rfl
  | .cho b t m, [d], _, _, _ => by cases b <;> kernel_rfl
  | .dist t, [d], _, _, _ => by kernel_rfl
  | .two b x y, [d, e], _, _, _ => by cases b <;> kernel_rfl
  | .bin op x y, [d, e], _, _, _ => by cases op <;> kernel_rfl
theorem lsteps_ok : ∀ (n : Nat) (t : Tr) (ts : List Tr), t.hgt ≤ n → Cl ts → (∀ x ∈ ts, x.Ok ∧ x.hgt ≤ 50) → (∀ x ∈ t.all, x.Ok ∧ x.hgt ≤ 50) → ts.length + t.size.toNat ≤ 80000 → F_law_steps n (S2 (stp ts) (ts.map Tr.dat)) [t.dat] = .ok .non (S2 (stp (addT n t ts)) ((addT n t ts).map Tr.dat))
  | 0, t, ts, h, _, _, _, _ => by have := t.hgt_pos; omega
  | n + 1, t, ts, h, hc, ho, ha, hl => by
    have p := parts_ok t
    have tt : t ∈ t.all := by rw [t.all_subs]; simp
    have sz := t.size_subs
    have key : SW (B_law_steps (F_law_steps n) (startM2 6 t.dat) (S2 (stp ts) (ts.map Tr.dat))) (fun _ S => S = S2 (stp (addT (n + 1) t ts)) ((addT (n + 1) t ts).map Tr.dat)) fun d S => d = .non ∧ S = S2 (stp (addT (n + 1) t ts)) ((addT (n + 1) t ts).map Tr.dat) := by
      unfold B_law_steps
      have it := oInD_map eqd_dat (x := t) (ys := ts) (ha t tt) ho false
      by_cases hm : t ∈ ts
      · rw [addT_mem (n + 1) h hc hm]
        rw [decide_eq_true hm] at it
        simp [startM2, it, bW]
      rw [decide_eq_false hm] at it
      refine sw_cut (fun ρ S => ρ = [some (.v t.dat), some .me, some .me2, none, none, none] ∧ S = S2 (stp ts) (ts.map Tr.dat)) ?_ ?_
      · simp [startM2, it, bW]
      rintro ρ S ⟨rfl, rfl⟩
      obtain ⟨a1, a2, vs, a3, a4, a5⟩ := adds_ok (addT_ok n) t.subs ts (fun u hu => by have := Tr.hgt_subs hu; omega) hc
      have hnot := adds_not h hc hm
      have eT : addT (n + 1) t ts = t.subs.foldl (fun acc u => addT n u acc) ts ++ [t] := by
        rw [addT_s]
        exact if_neg hnot
      have sub_all : ∀ u ∈ t.subs, ∀ x ∈ u.all, x.Ok ∧ x.hgt ≤ 50 := fun u hu x hx => ha x (by
        rw [t.all_subs]
        exact List.mem_cons_of_mem _ (List.mem_flatten.mpr ⟨u.all, List.mem_map.mpr ⟨u, hu, rfl⟩, hx⟩))
      have o1 : ∀ x ∈ t.subs.foldl (fun acc u => addT n u acc) ts, x.Ok ∧ x.hgt ≤ 50 := fun x hx => by
        rw [a3] at hx
        rcases List.mem_append.mp hx with hx | hx
        · exact ho x hx
        · obtain ⟨u, hu, q⟩ := a5 x hx
          exact sub_all u hu x q
      generalize hT : t.subs.foldl (fun acc u => addT n u acc) ts = T at *
      have lT : T.length ≤ 80000 := by
        rw [a3, List.length_append]
        omega
      refine sw_cut (fun ρ S => (∃ x3 : Option Slot, (x3 = none ∨ ∃ d, x3 = some (.v d)) ∧ ρ = [some (.v t.dat), some .me, some .me2, x3, none, none]) ∧ S = S2 (stp T) (T.map Tr.dat)) ?_ ?_
      · rw [sw_forL]
        simp [p, PD.listOf]
        rcases t.subs_cases with e | ⟨u, e⟩ | ⟨u, v, e⟩
        · rw [e] at hT ⊢
          have hT : ts = T := hT
          rw [← hT]
          exact sw_fl_nil ⟨.inl rfl, rfl⟩
        · have e1 : t.subs = [u] := e
          rw [e] at hT sz ⊢
          have hT : addT n u ts = T := hT
          have s1 : sizes [u] = u.size.toNat := by simp [sizes]
          have ih := lsteps_ok n u ts (by have := Tr.hgt_subs (t := t) (u := u) (by rw [e1]; simp); omega) hc ho (sub_all u (by rw [e1]; simp)) (by omega)
          rw [hT] at ih
          refine sw_fl_cons rfl ?_
          simp [ih]
          exact sw_fl_nil ⟨.inr ⟨_, ⟨_, rfl⟩, rfl⟩, rfl⟩
        · have e1 : t.subs = [u, v] := e
          rw [e] at hT sz ⊢
          have hT : addT n v (addT n u ts) = T := hT
          have s1 : sizes [u, v] = u.size.toNat + v.size.toNat := by simp [sizes]
          have g1 := Tr.hgt_subs (t := t) (u := u) (by rw [e1]; simp)
          have g2 := Tr.hgt_subs (t := t) (u := v) (by rw [e1]; simp)
          obtain ⟨c1, c2, ws, c3, c4, c5⟩ := addT_ok n u ts (by omega) hc
          have ih := lsteps_ok n u ts (by omega) hc ho (sub_all u (by rw [e1]; simp)) (by omega)
          have ih2 := lsteps_ok n v (addT n u ts) (by omega) c1 (fun x hx => by
            rw [c3] at hx
            rcases List.mem_append.mp hx with hx | hx
            · exact ho x hx
            · exact sub_all u (by rw [e1]; simp) x (c5 x hx)) (sub_all v (by rw [e1]; simp)) (by rw [c3, List.length_append]; omega)
          rw [hT] at ih2
          refine sw_fl_cons rfl ?_
          simp [ih]
          refine sw_fl_cons rfl ?_
          simp [ih2]
          exact sw_fl_nil ⟨.inr ⟨_, ⟨_, rfl⟩, rfl⟩, rfl⟩
      rintro ρ S ⟨⟨x3, h3, rfl⟩, rfl⟩
      refine sw_cut (fun ρ S => ρ = [some (.v t.dat), some .me, some .me2, x3, some (.v (.lst (t.subs.map (idx T)))), none] ∧ S = S2 (stp T) (T.map Tr.dat)) ?_ ?_
      · have o3 : ownAny [some (.v t.dat), some .me, some .me2, x3, none, none] [3] = false := by
          rcases h3 with rfl | ⟨d, rfl⟩ <;> rfl
        have sl : t.subs.length ≤ 2 := by rcases t.subs_cases with e | ⟨u, e⟩ | ⟨u, v, e⟩ <;> rw [e] <;> simp
        have each : ∀ us : List Tr, (∀ u ∈ us, u ∈ T) → AW (fLcL (gN 3) fYes (fIx2 oIndexD 2 (fVar 3)) [3] [some (.v t.dat), some .me, some .me2, x3, none, none] (us.map Tr.dat) (S2 (stp T) (T.map Tr.dat))) fun ys S => ys = us.map (idx T) ∧ S = S2 (stp T) (T.map Tr.dat) := by
          intro us
          induction us with
          | nil => intro _; simp
          | cons u us ih =>
            intro hu
            have ix := index_ok o1 (hu u (by simp))
            have ih := ih fun x hx => hu x (by simp [hx])
            rw [List.map_cons, aw_lc_cons]
            refine ⟨_, rfl, ?_⟩
            simp [wipeD, ix, bW]
            revert ih
            cases fLcL (gN 3) fYes (fIx2 oIndexD 2 (fVar 3)) [3] [some (.v t.dat), some .me, some .me2, x3, none, none] (us.map Tr.dat) (S2 (stp T) (T.map Tr.dat)) with
            | ok ys S' => exact fun h => h
            | er n v => exact fun h => h
            | bad => exact fun h => h
        have ea := each t.subs a2
        rw [sw_set, ew_lc]
        simp [p, PD.listOf]
        refine ⟨⟨by omega, o3⟩, ?_⟩
        revert ea
        cases fLcL (gN 3) fYes (fIx2 oIndexD 2 (fVar 3)) [3] [some (.v t.dat), some .me, some .me2, x3, none, none] (t.subs.map Tr.dat) (S2 (stp T) (T.map Tr.dat)) with
        | ok ys S' => rintro ⟨rfl, rfl⟩; exact ⟨rfl, rfl⟩
        | er n v => exact fun h => h
        | bad => exact fun h => h
      rintro ρ S ⟨rfl, rfl⟩
      have sb := stepB_ok t (t.subs.map (idx T)) x3 (S2 (stp T) (T.map Tr.dat)) (by rw [List.length_map])
      refine sw_cut (fun ρ S => ρ = [some (.v t.dat), some .me, some .me2, x3, some (.v (.lst (t.subs.map (idx T)))), some (.v (stepOf T t))] ∧ S = S2 (stp T) (T.map Tr.dat)) ?_ ?_
      · show SW (stepB _ _) _ _
        rw [sb]
        exact ⟨rfl, rfl⟩
      rintro ρ S ⟨rfl, rfl⟩
      have e1 : stp (T ++ [t]) = stp T ++ [stepOf T t] := by
        rw [stp_app a1, List.map_singleton, stepOf_app a2]
      rw [eT, e1]
      simp [stp_len]
      omega
    show runM2 6 (B_law_steps (F_law_steps n)) (S2 (stp ts) (ts.map Tr.dat)) [t.dat] = _
    simp only [runM2]
    generalize B_law_steps (F_law_steps n) (startM2 6 t.dat) (S2 (stp ts) (ts.map Tr.dat)) = z at key
    cases z with
    | rt d S =>
      obtain ⟨rfl, rfl⟩ : d = .non ∧ S = S2 (stp (addT (n + 1) t ts)) ((addT (n + 1) t ts).map Tr.dat) := key
      rfl
    | nx ρ S =>
      obtain rfl : S = S2 (stp (addT (n + 1) t ts)) ((addT (n + 1) t ts).map Tr.dat) := key
      rfl
    | bk ρ S => exact (key : False).elim
    | ct ρ S => exact (key : False).elim
    | er n v => exact (key : False).elim
    | bad => exact (key : False).elim
end RB

set_option Elab.async false
set_option linter.all false
set_option maxRecDepth 100000
set_option maxHeartbeats 8000000
namespace PD
open PySem PySem.Spec PyProof.Rows L2 RB
/-! ### readings -/
def lW (d : Dat) (Q : List Dat → Prop) : Prop := match d with
  | .lst ds => Q ds
  | _ => False
@[simp] theorem lW_l {ds : List Dat} {Q : List Dat → Prop} : lW (.lst ds) Q ↔ Q ds := Iff.rfl
section
variable {Q : Dat → Fld → Prop} {QA : List Dat → Fld → Prop} {N : DEnv → Fld → Prop} {R : Dat → Fld → Prop} {ρ : DEnv} {S : Fld}
@[simp] theorem sw_parVO {i j : Nat} {a : FE} : SW (fParVO i j a ρ S) N R ↔ EW (a ρ S) fun d S1 => N ((ρ.set i (some (.v d))).set j (some (.own []))) S1 := by
  simp only [fParVO, EW_bindS, SW_nx]
@[simp] theorem sw_parOO {i j : Nat} : SW (fParOO i j ρ S) N R ↔ N ((ρ.set i (some (.own []))).set j (some (.own []))) S := Iff.rfl
@[simp] theorem sw_callO2 {i j : Nat} {F : Fld → List Dat → RE} {a : FE} : SW (fCallO2 i j F a ρ S) N R ↔ sO ρ[i]? fun ds => sO ρ[j]? fun es => i ≠ j ∧ EW (a ρ S) fun d S1 => EW (F (S2 ds es) [d]) fun _ S' => tW S' fun ds es => N ((ρ.set i (some (.own ds))).set j (some (.own es))) S1 := by
  unfold fCallO2 sO tW
  cases ρ[i]? with
  | none => rfl
  | some s => cases s with
    | none => rfl
    | some s => cases s with
      | own ds =>
        cases ρ[j]? with
        | none => rfl
        | some t => cases t with
          | none => rfl
          | some t => cases t with
            | own es =>
              simp only
              by_cases h : i = j
              · simp [h]
              · simp only [h, if_false, ne_eq, not_false_eq_true, true_and, EW_bindS]
                refine EW_congr fun d S1 => ?_
                cases F (S2 ds es) [d] with
                | ok x S' => simp only [EW_ok]; cases two2 S' <;> rfl
                | _ => rfl
            | _ => rfl
      | _ => rfl
@[simp] theorem ew_ixD {b a : FE} : EW (fIxD b a ρ S) Q ↔ EW (b ρ S) fun x S1 => lW x fun es => EW (a ρ S1) fun d S2 => OW (oIndexD es d) fun z => Q z S2 := by
  unfold fIxD
  rw [EW_bind]
  refine EW_congr fun d S1 => ?_
  cases d <;> simp only [lW, EW_bad, EW_bind, EW_ofO]
@[simp] theorem sw_newT {i : Nat} {F : List Dat → RF} {fa : FA} {f2 f3 : FE} {g : FS} : SW (fNewT i F fa f2 f3 g ρ S) N R ↔ i < ρ.length ∧ AW (fa ρ S) fun ds S1 => FW (F ds) fun d => EW (f2 ((onlyD ρ).set i (some (.v d))) []) fun t S2 => bW t (R (.bl false) S1) (EW (f3 ((onlyD ρ).set i (some (.v d))) S2) fun _ _ => SW (g (ρ.set i none) S1) N R) := by
  unfold fNewT
  by_cases h : i < ρ.length
  · rw [if_pos h]
    simp only [h, true_and]
    cases fa ρ S with
    | ok ds S1 =>
      simp only [AW_ok]
      cases F ds with
      | ok d =>
        simp only [FW_ok]
        cases f2 ((onlyD ρ).set i (some (.v d))) [] with
        | ok t S2 =>
          simp only [EW_ok]
          cases t with
          | bl b =>
            cases b with
            | true => rfl
            | false =>
              simp only [bW_f]
              cases f3 ((onlyD ρ).set i (some (.v d))) S2 <;> rfl
          | _ => rfl
        | _ => rfl
      | _ => rfl
    | _ => rfl
  · rw [if_neg h]
    simp [h]
theorem ew_callN {F : List Dat → RF} {a : FA} {xs r : List Dat} {ds : List Dat} (ha : AW (a ρ S) fun ds' S1 => ds' = ds ∧ S1 = S) (hn : noLs ds = true) (hF : F ds = .ok (.tup (.lst xs :: r))) (hx : xs.length < 100000) (q : Q (.tup (.lst xs :: r)) S) : EW (fCallN F a ρ S) Q := by
  unfold fCallN
  cases e : a ρ S with
  | ok ds' S1 =>
    rw [e] at ha
    obtain ⟨rfl, rfl⟩ := ha
    simp only [hn, hF, if_true, if_pos hx]
    exact q
  | er n v => rw [e] at ha; exact ha.elim
  | bad => rw [e] at ha; exact ha.elim
end
end PD
namespace RB
open PySem PySem.Spec PyProof.Rows L2 PD RBS
/-! ### the law -/
structure W4 (t : Tr) : Prop where
  ok : t.Ok
  hg : t.hgt ≤ 4
  sz : t.size < 25
  tl : t.tx.length < 120
theorem wanted4 {a b : Str} {h : Nat} {S : Fld} (ha : NmW a) (hb : NmW b) (h1 : 1 ≤ h) (h4 : h ≤ 4) (hS : RngS S) : EW (F_law_wanted_tree S [.int h, .lst [.str a, .str b]]) fun d S' => (∃ t, W4 t ∧ d = t.dat) ∧ RngS S' := by
  refine ew_run ?_
  simp [B_law_wanted_tree, startM]
  have tr := tree_ok (ns := [a, b]) (by
    intro x hx
    simp at hx
    rcases hx with rfl | rfl
    · exact ha
    · exact hb) (by simp) 8 h S (by omega) h1 (by omega) hS
  simp only [List.map_cons, List.map_nil] at tr
  refine EW_mono tr ?_
  rintro _ S1 ⟨⟨t, ht, rfl⟩, hS1⟩
  have l5 : 100 * 2 ^ h ≤ 100 * 2 ^ 4 := Nat.mul_le_mul_left _ (Nat.pow_le_pow_right (by decide) h4)
  have hl := ht.tl
  have e1 := law_text_ok t ht.ok (by omega) 24 (by have := ht.hg; omega)
  have e1 : (GT 24).x_law_text [t.dat] = .ok (.str (S' t.tx)) := e1
  have e2 := nodes_ok t 20 (by have := ht.hg; omega)
  have el : oLen [.str (S' t.tx)] = some (.int t.tx.length) := by
    show (if (S' t.tx).length ≤ 100000 then some (Dat.int ((S' t.tx).length : Int)) else none) = _
    rw [if_pos (by rw [S'_len]; omega), S'_len]
  simp [e1, e2, el]
  have nmd : (∃ t', W4 t' ∧ Dat.tup [.str "name", .str a] = t'.dat) ∧ RngS S1 := ⟨⟨.name a, ⟨ha.sok, (by show 1 ≤ 4; decide), (by show (1 : Int) < 25; decide), by have := ha.2.2; show a.cps.toList.length < 120; omega⟩, rfl⟩, hS1⟩
  by_cases c1 : t.tx.length < 120
  · rw [if_pos (by omega)]
    by_cases c2 : t.size < 25
    · rw [if_pos c2]
      exact ⟨⟨t, ⟨ht.ok, by have := ht.hg; omega, c2, c1⟩, rfl⟩, hS1⟩
    · rw [if_neg c2]
      exact nmd
  · rw [if_neg (by omega)]
    exact nmd
/-- the trees that are compiled -/
structure KOk (h : Nat) (t : Tr) : Prop where
  ok : t.Ok
  hg : t.hgt ≤ h
  sz : t.size < 50
  tl : t.tx.length < 390
theorem KOk.mono {h k : Nat} {t : Tr} (a : KOk h t) (hk : h ≤ k) : KOk k t := ⟨a.ok, by have := a.hg; omega, a.sz, a.tl⟩
/-- the choice at the end of the inner loop -/
theorem pick_k {x : Tr} {n : Nat} {c : Str} {S : Fld} {ρ : DEnv} {v7 : List Dat} {Q : Dat → Fld → Prop} (hx : x.Ok) (hh : x.hgt ≤ n) (hn : n ≤ 10) (n1 : 1 ≤ n) (hl : x.tx.length ≤ 2000) (hc : NmW c) (r4 : ρ[4]? = some (some (.v x.dat))) (r7 : ρ[7]? = some (some (.v (.lst (.str c :: v7)))))
    (q : ∀ t, KOk n t → Q t.dat S) : EW (fIf (fAnd (fOp oLt (fCall (F_law_nodes 20) (fCons (fVar 4) fNil)) (fC (.int 50))) (fOp oLt (fApp oLen (fCons (fCall (GT 24).x_law_text (fCons (fVar 4) fNil)) fNil)) (fC (.int 390)))) (fVar 4) (fApp mkT (fCons (fC (.str "name")) (fCons (fOp oIx (fVar 7) (fC (.int 0))) fNil))) ρ S) Q := by
  have e1 : (GT 24).x_law_text [x.dat] = .ok (.str (S' x.tx)) := law_text_ok x hx (by omega) 24 (by omega)
  have e2 := nodes_ok x 20 (by omega)
  have el : oLen [.str (S' x.tx)] = some (.int x.tx.length) := by
    show (if (S' x.tx).length ≤ 100000 then some (Dat.int ((S' x.tx).length : Int)) else none) = _
    rw [if_pos (by rw [S'_len]; omega), S'_len]
  have ix : oIx (.lst (.str c :: v7)) (.int 0) = some (.str c) := ix_nat (i := 0) rfl
  have nmd : Q (.tup [.str "name", .str c]) S := q (.name c) ⟨hc.sok, n1, (by show (1 : Int) < 50; decide), by have := hc.2.2; show c.cps.toList.length < 390; omega⟩
  simp [r4, r7, e1, e2, el, ix]
  by_cases c1 : x.size < 50
  · rw [if_pos c1]
    by_cases c2 : x.tx.length < 390
    · rw [if_pos (by omega)]
      exact q x ⟨hx, hh, c1, c2⟩
    · rw [if_neg (by omega)]
      exact nmd
  · rw [if_neg c1]
    exact nmd
/-! ### data without lists -/
theorem noLs_qs : ∀ qs : List (Int × Nat), noLs (qs.map qD) = true
  | [] => rfl
  | x :: qs => noLs_qs qs
theorem Tr.noL : ∀ t : Tr, PD.noL t.dat = true
  | .name w => rfl
  | .list qs => by show (true && (noLs (qs.map qD) && true)) = true; rw [noLs_qs]; rfl
  | .unity m => rfl
  | .roots qs => by show (true && (noLs (qs.map qD) && true)) = true; rw [noLs_qs]; rfl
  | .neg t => by show (true && (PD.noL t.dat && true)) = true; rw [t.noL]; rfl
  | .pow t m => by show (true && (PD.noL t.dat && true)) = true; rw [t.noL]; rfl
  | .map qs t => by show (true && (noLs (qs.map qD) && (PD.noL t.dat && true))) = true; rw [t.noL, noLs_qs]; rfl
  | .cho b t m => by show (true && (PD.noL t.dat && true)) = true; rw [t.noL]; rfl
  | .dist t => by show (true && (PD.noL t.dat && true)) = true; rw [t.noL]; rfl
  | .two b x y => by show (true && (PD.noL x.dat && (PD.noL y.dat && true))) = true; rw [x.noL, y.noL]; rfl
  | .bin op x y => by show (true && (PD.noL x.dat && (PD.noL y.dat && true))) = true; rw [x.noL, y.noL]; rfl
theorem trs_noLs : ∀ us : List Tr, noLs (us.map Tr.dat) = true
  | [] => rfl
  | u :: us => by show (PD.noL u.dat && noLs (us.map Tr.dat)) = true; rw [u.noL, trs_noLs us]; rfl
/-! ### the law's call of compiled -/
theorem oEq_lnil (ds : List Dat) (k : Nat) (h : Lay (.lst ds) k) (hk : k ≤ 64) : oEq (.lst ds) (.lst []) = some (.bl (decide (ds = []))) := by
  unfold oEq
  rw [if_pos ⟨h.shaped hk, by decide +kernel⟩]
  cases ds <;> rfl
theorem adds_len {us : List Tr} {h : Nat} (hh : ∀ u ∈ us, KOk 10 u) (hn : us.length ≤ 3) : sizes us ≤ 147 ∧ (adds 20 us []).length ≤ 147 ∧ Cl (adds 20 us []) ∧ (∀ u ∈ us, u ∈ adds 20 us []) ∧ ∀ x ∈ adds 20 us [], ∃ u ∈ us, x ∈ u.all := by
  have sz : ∀ vs : List Tr, (∀ u ∈ vs, KOk 10 u) → sizes vs ≤ 49 * vs.length := by
    intro vs
    induction vs with
    | nil => intro _; simp [sizes]
    | cons v vs ih =>
      intro h
      have a := ih fun x hx => h x (by simp [hx])
      have b := (h v (by simp)).sz
      have c := v.size_pos
      show v.size.toNat + sizes vs ≤ 49 * (vs.length + 1)
      omega
  have s := sz us hh
  obtain ⟨c1, c2, vs, c3, c4, c5⟩ := adds_ok (addT_ok 20) us [] (fun u hu => by have := (hh u hu).hg; omega) Cl.nil
  have e : adds 20 us [] = vs := by
    show us.foldl (fun acc u => addT 20 u acc) [] = vs
    rw [c3, List.nil_append]
  refine ⟨by omega, by rw [e]; omega, c1, c2, fun x hx => c5 x (by rw [← e]; exact hx)⟩
theorem lawc_ok {us : List Tr} (hh : ∀ u ∈ us, KOk 10 u) (hn : us.length ≤ 3) : F_law_compiled [.lst (us.map Tr.dat)] = .ok (.tup [.lst (stp (adds 20 us [])), .lst (us.map (idx (adds 20 us [])))]) := by
  obtain ⟨s1, s2, _⟩ := adds_len (h := 0) hh hn
  have cm := compiled_ok us (fun u hu => by have := (hh u hu).hg; omega) (by omega) (by omega)
  have lay : Lay (.lst (us.map Tr.dat)) 61 := lay_map eqd_dat fun y hy => ⟨(hh y hy).ok, by have := (hh y hy).hg; omega⟩
  have e := oEq_lnil _ _ lay (by decide)
  have ls : (stp (adds 20 us [])).length < 100000 := by rw [stp_len]; omega
  have nl := trs_noLs us
  generalize stp (adds 20 us []) = Z at cm ls ⊢
  generalize us.map (idx (adds 20 us [])) = Y at cm ⊢
  have key : SW (B_law_compiled (startD 1 [.lst (us.map Tr.dat)]) []) (fun _ _ => False) fun d _ => d = .tup [.lst Z, .lst Y] := by
    match us, hn with
    | [], _ =>
      have e : oEq (.lst []) (.lst []) = some (.bl true) := e
      simp [B_law_compiled, startD, e]
      exact ew_callN (ds := []) (by simp) rfl cm ls rfl
    | [u], _ =>
      have e : oEq (.lst [u.dat]) (.lst []) = some (.bl false) := e
      simp [B_law_compiled, startD, e, oLen_lst]
      exact ew_callN (ds := [u.dat]) (by simp) nl cm ls rfl
    | [u, v], _ =>
      have e : oEq (.lst [u.dat, v.dat]) (.lst []) = some (.bl false) := e
      simp [B_law_compiled, startD, e, oLen_lst]
      exact ew_callN (ds := [u.dat, v.dat]) (by simp) nl cm ls rfl
    | [u, v, x], _ =>
      have e : oEq (.lst [u.dat, v.dat, x.dat]) (.lst []) = some (.bl false) := e
      simp [B_law_compiled, startD, e, oLen_lst]
      exact ew_callN (ds := [u.dat, v.dat, x.dat]) (by simp) nl cm ls rfl
  unfold F_law_compiled PD.runN
  cases eB : B_law_compiled (startD 1 [.lst (us.map Tr.dat)]) [] with
  | rt d S => rw [eB] at key; exact congrArg RF.ok key
  | nx ρ S => rw [eB] at key; exact key.elim
  | bk ρ S => rw [eB] at key; exact (key : False).elim
  | ct ρ S => rw [eB] at key; exact (key : False).elim
  | er n v => rw [eB] at key; exact (key : False).elim
  | bad => rw [eB] at key; exact (key : False).elim
end RB

set_option Elab.async false
set_option linter.all false
set_option maxRecDepth 100000
set_option maxHeartbeats 8000000
namespace RB
open PySem PySem.Spec PyProof.Rows L2 PD RBS
theorem sm_put : ∀ (t : Tr) (ds : List Dat), t.Ok → ds.length = t.subs.length → (∀ d ∈ ds, Sm 2 d) → Sm 3 (t.put ds)
  | .name w, [], h, _, _ => sm_two (sm_str (sok_of _) _) (sm_str h _)
  | .list w, [], h, _, _ => sm_two (sm_str (sok_of _) _) (sm_qs h)
  | .unity w, [], h, _, _ => sm_two (sm_str (sok_of _) _) (sm_int _ _)
  | .roots w, [], h, _, _ => sm_two (sm_str (sok_of _) _) (sm_qs h.1)
  | .neg t, [d], _, _, h => sm_two (sm_str (sok_of _) _) (h d (by simp))
  | .pow t m, [d], _, _, h => sm_three (sm_str (sok_of _) _) (h d (by simp)) (sm_int _ _)
  | .map q t, [d], h0, _, h => sm_three (sm_str (sok_of _) _) (sm_qs h0.1) (h d (by simp))
  | .cho b t m, [d], _, _, h => sm_three (sm_str (by cases b <;> exact sok_of _) _) (h d (by simp)) (sm_int _ _)
  | .dist t, [d], _, _, h => sm_two (sm_str (sok_of _) _) (h d (by simp))
  | .two b x y, [d, e], _, _, h => sm_three (sm_str (by cases b <;> exact sok_of _) _) (h d (by simp)) (h e (by simp))
  | .bin op x y, [d, e], _, _, h => sm_three (sm_str (by cases op <;> exact sok_of _) _) (h d (by simp)) (h e (by simp))
theorem sm_lst {ds : List Dat} {k : Nat} (hl : ds.length ≤ 1000) (h : ∀ d ∈ ds, Sm k d) : Sm (k + 1) (.lst ds) := ⟨hl, h⟩
theorem sm_tup {ds : List Dat} {k : Nat} (hl : ds.length ≤ 1000) (h : ∀ d ∈ ds, Sm k d) : Sm (k + 1) (.tup ds) := ⟨hl, h⟩
theorem okS {t u : Tr} (h : u ∈ t.subs) (ok : t.Ok) : u.Ok := by
  cases t with
  | name w => cases h
  | list w => cases h
  | unity w => cases h
  | roots w => cases h
  | neg t => rw [List.mem_singleton.mp h]; exact ok
  | pow t m => rw [List.mem_singleton.mp h]; exact ok.1
  | map q t => rw [List.mem_singleton.mp h]; exact ok.2.2
  | cho b t m => rw [List.mem_singleton.mp h]; exact ok.1
  | dist t => rw [List.mem_singleton.mp h]; exact ok
  | two b x y =>
    rcases List.mem_cons.mp h with rfl | h
    · exact ok.1
    · rw [List.mem_singleton.mp h]; exact ok.2
  | bin op x y =>
    rcases List.mem_cons.mp h with rfl | h
    · exact ok.1
    · rw [List.mem_singleton.mp h]; exact ok.2
theorem okT : ∀ (n : Nat) {t x : Tr}, t.hgt ≤ n → x ∈ t.all → t.Ok → x.Ok
  | 0, t, x, h, _, _ => by have := t.hgt_pos; omega
  | n + 1, t, x, h, hx, ok => by
    rw [t.all_subs] at hx
    rcases List.mem_cons.mp hx with rfl | hx
    · exact ok
    · obtain ⟨l, hl, hx⟩ := List.mem_flatten.mp hx
      obtain ⟨u, hu, rfl⟩ := List.mem_map.mp hl
      have hh := Tr.hgt_subs hu
      exact okT n (by omega) hx (okS hu ok)
/-- all that the law asks of its trees -/
theorem trees_facts {us : List Tr} (hh : ∀ u ∈ us, KOk 10 u) (hn : us.length ≤ 3) : ∃ T : List Tr, T = adds 20 us [] ∧
    F_law_compiled [.lst (us.map Tr.dat)] = .ok (.tup [.lst (stp T), .lst (us.map (idx T))]) ∧
    F_plan_trees [.tup [.lst (stp T), .lst (us.map (idx T))]] = .ok (.lst (us.map Tr.dat)) ∧
    F_law_same 14 [.tup [.lst (stp T), .lst (us.map (idx T))], .tup [.lst (stp T), .lst (us.map (idx T))]] = .ok (.bl true) ∧
    F_law_same 14 [.lst (us.map Tr.dat), .lst (us.map Tr.dat)] = .ok (.bl true) ∧
    T.length ≤ 147 ∧ (∀ u ∈ us, u ∈ T) ∧ (∀ x ∈ T, x.Ok ∧ x.hgt ≤ 50) := by
  obtain ⟨s1, s2, c, m, al⟩ := adds_len (h := 0) hh hn
  have s2' : (us.foldl (fun acc u => addT 20 u acc) []).length ≤ 147 := s2
  have good : ∀ x ∈ adds 20 us [], x.Ok ∧ x.hgt ≤ 50 := fun x hx => by
    obtain ⟨u, hu, q⟩ := al x hx
    have k := hh u hu
    have := all_hgt u.hgt (Nat.le_refl _) q
    exact ⟨okT 20 (by have := k.hg; omega) q k.ok, by have := k.hg; omega⟩
  refine ⟨_, rfl, lawc_ok hh hn, trees_ok c (by omega) m (by omega), ?_, ?_, s2, m, good⟩
  · refine same_ok 14 5 _ (sm_tup (k := 4) (by simp) fun d hd => ?_) (by decide)
    simp only [List.mem_cons, List.not_mem_nil, or_false] at hd
    rcases hd with rfl | rfl
    · refine sm_lst (by rw [stp_len]; omega) fun d hd => ?_
      obtain ⟨t, ht, rfl⟩ := List.mem_map.mp hd
      exact sm_put t _ (good t ht).1 (by rw [List.length_map]) fun d hd => by
        obtain ⟨u, _, rfl⟩ := List.mem_map.mp hd
        exact sm_int _ _
    · refine sm_lst (by rw [List.length_map]; omega) fun d hd => ?_
      obtain ⟨u, _, rfl⟩ := List.mem_map.mp hd
      exact sm_int _ _
  · refine same_ok 14 13 _ (sm_lst (by rw [List.length_map]; omega) fun d hd => ?_) (by decide)
    obtain ⟨u, hu, rfl⟩ := List.mem_map.mp hd
    exact (Tr.sm (hh u hu).ok).mono (by have := (hh u hu).hg; omega)
abbrev innerB : FS := (fSeq (fSet 4 (fCallM 1 F_law_wanted_tree (fCons (fOp oAdd (fC (.int 1)) (fCallM 1 F_law_draw (fCons (fC (.int 4)) fNil))) (fCons (fSl oSl (fVar 7) none (some (fC (.int 2)))) fNil))))
  (fSeq (fIfS (fAnd (fOp oNeE (fOwn 8) (fApp mkL fNil)) (fOp oEq (fCallM 1 F_law_draw (fCons (fC (.int 2)) fNil)) (fC (.int 0)))) (fSet 4 (fApp mkT (fCons (fC (.str "sum")) (fCons (fOp oIx (fOwn 8) (fUn oNeg (fC (.int 1)))) (fCons (fApp mkT (fCons (fC (.str "join")) (fCons (fVar 4) (fCons (fOp oIx (fOwn 8) (fC (.int 0))) fNil)))) fNil))))) fNext)
  (fAppd 8 (fIf (fAnd (fOp oLt (fCall (F_law_nodes 20) (fCons (fVar 4) fNil)) (fC (.int 50))) (fOp oLt (fApp oLen (fCons (fCall (GT 24).x_law_text (fCons (fVar 4) fNil)) fNil)) (fC (.int 390)))) (fVar 4) (fApp mkT (fCons (fC (.str "name")) (fCons (fOp oIx (fVar 7) (fC (.int 0))) fNil)))))))
abbrev restB : FS := (fSeq (fParOO 9 10)
  (fSeq (fFz 8 (fFor listOf (fVar 8) (gN 4) (fCallO2 9 10 (F_law_steps 20) (fVar 4))))
  (fSeq (fFz 9 (fFz 10 (fSet 5 (fLc listOf (fVar 8) (gN 4) fYes (fIxD (fVar 10) (fVar 4)) [4]))))
  (fNewT 6 F_law_compiled (fCons (fVar 8) fNil) (fOr (fNot (fCall (F_law_same 14) (fCons (fVar 6) (fCons (fApp mkT (fCons (fVar 9) (fCons (fVar 5) fNil))) fNil)))) (fNot (fCall (F_law_same 14) (fCons (fCall F_plan_trees (fCons (fVar 6) fNil)) (fCons (fVar 8) fNil))))) (fApp mkT (fCons (fC (.str "name")) (fCons (fC (.str "z")) fNil)))
  (fIfS (fNot (fCall (F_law_same 14) (fCons (fCall (noE F_law_compiled) (fCons (fVar 8) fNil)) (fCons (fApp mkT (fCons (fVar 9) (fCons (fVar 5) fNil))) fNil)))) (fRet (fC (.bl false))) fNext)))))
abbrev turnB : FS := (fSeq (fParVO 7 8 (fCallM 1 F_law_term_names fNil))
  (fSeq (fForR1 (fCallM 1 F_law_draw (fCons (fC (.int 4)) fNil)) (gN 3) innerB) restB))
abbrev lastB : FS := (fRet (fOp oEq (fCall F_plan_trees (fCons (fApp mkT (fCons (fApp mkL (fCons (fApp mkT (fCons (fC (.str "list")) (fCons (fApp mkT fNil) fNil))) (fCons (fApp mkT (fCons (fC (.str "sums")) (fCons (fC (.int 0)) (fCons (fC (.int 0)) fNil)))) (fCons (fApp mkT (fCons (fC (.str "map")) (fCons (fApp mkT (fCons (fApp mkT (fCons (fC (.int 0)) (fCons (fC (.int 1)) fNil))) (fCons (fApp mkT (fCons (fC (.int 1)) (fCons (fC (.int 1)) fNil))) fNil))) (fCons (fC (.int 1)) fNil)))) fNil)))) (fCons (fApp mkL (fCons (fC (.int 2)) fNil)) fNil))) fNil)) (fApp mkL (fCons (fApp mkT (fCons (fC (.str "map")) (fCons (fApp mkT (fCons (fApp mkT (fCons (fC (.int 0)) (fCons (fC (.int 1)) fNil))) (fCons (fApp mkT (fCons (fC (.int 1)) (fCons (fC (.int 1)) fNil))) fNil))) (fCons (fApp mkT (fCons (fC (.str "sums")) (fCons (fApp mkT (fCons (fC (.str "list")) (fCons (fApp mkT fNil) fNil))) (fCons (fC (.int 0)) fNil)))) fNil)))) fNil))))
theorem law_body : B_law = fSeq (fForR1 (fC (.int 4)) (gN 2) turnB) lastB := rfl
theorem last_ok {ρ : DEnv} {S : Fld} : lastB ρ S = .rt (.bl true) S := by kernel_rfl
theorem inner_ok {a b c : Str} {us : List Tr} {x2 x3 x4 x5 x6 x9 x10 : Option Slot} {S : Fld} {R : Dat → Fld → Prop} (ha : NmW a) (hb : NmW b) (hu : ∀ u ∈ us, KOk (4 + 2 * us.length) u) (hl : us.length < 3) (hS : RngS S) : SW (innerB [none, some .me, x2, x3, x4, x5, x6, some (.v (.lst [.str a, .str b, .str c])), some (.own (us.map Tr.dat)), x9, x10] S) (fun ρ S => (∃ t x4, KOk (4 + 2 * (us.length + 1)) t ∧ ρ = [none, some .me, x2, x3, some (.v x4), x5, x6, some (.v (.lst [.str a, .str b, .str c])), some (.own ((us ++ [t]).map Tr.dat)), x9, x10]) ∧ RngS S) R := by
  unfold innerB
  refine sw_cut (fun ρ S => (∃ t, W4 t ∧ ρ = [none, some .me, x2, x3, some (.v t.dat), x5, x6, some (.v (.lst [.str a, .str b, .str c])), some (.own (us.map Tr.dat)), x9, x10]) ∧ RngS S) ?_ ?_
  · simp
    refine EW_mono (draw_ok hS (by decide) (by decide)) ?_
    rintro _ S0 ⟨v, rfl, v0, v1, hS0⟩
    obtain ⟨k, rfl⟩ : ∃ k : Nat, v = k := ⟨v.toNat, by omega⟩
    simp only [oAdd_i, OW_some]
    rw [show (1 : Int) + (k : Int) = ((k + 1 : Nat) : Int) by omega]
    refine EW_mono (wanted4 ha hb (by omega) (by omega) hS0) ?_
    rintro _ S1 ⟨⟨t, ht, rfl⟩, hS1⟩
    exact ⟨⟨t, ht, rfl⟩, hS1⟩
  rintro ρ S1 ⟨⟨t, ht, rfl⟩, hS1⟩
  refine sw_cut (fun ρ S => (∃ t : Tr, t.Ok ∧ t.hgt ≤ 4 + 2 * (us.length + 1) ∧ t.tx.length ≤ 2000 ∧ ρ = [none, some .me, x2, x3, some (.v t.dat), x5, x6, some (.v (.lst [.str a, .str b, .str c])), some (.own (us.map Tr.dat)), x9, x10]) ∧ RngS S) ?_ ?_
  · have keep : ∀ S : Fld, RngS S → ∃ t' : Tr, t'.Ok ∧ t'.hgt ≤ 4 + 2 * (us.length + 1) ∧ t'.tx.length ≤ 2000 ∧ t.dat = t'.dat := fun S _ => ⟨t, ht.ok, by have := ht.hg; omega, by have := ht.tl; omega, rfl⟩
    have sum : ∀ l f : Tr, l ∈ us → f ∈ us → ∃ t' : Tr, t'.Ok ∧ t'.hgt ≤ 4 + 2 * (us.length + 1) ∧ t'.tx.length ≤ 2000 ∧ Dat.tup [.str "sum", l.dat, .tup [.str "join", t.dat, f.dat]] = t'.dat := fun l f hl hf => by
      have kl := hu l hl
      have kf := hu f hf
      refine ⟨.bin .su l (.bin .jo t f), ⟨kl.ok, ht.ok, kf.ok⟩, ?_, ?_, rfl⟩
      · have := kl.hg
        have := kf.hg
        have := ht.hg
        simp only [Tr.hgt]
        omega
      · have := kl.tl
        have := kf.tl
        have := ht.tl
        have q1 := parX_len (decide (l.lv < 2)) l.tx
        have q2 := parX_len (decide ((Tr.bin .jo t f).lv < 2 + 1)) (Tr.bin .jo t f).tx
        have q3 := parX_len (decide (t.lv < 1)) t.tx
        have q4 := parX_len (decide (f.lv < 1 + 1)) f.tx
        have h2 : (Tr.bin .jo t f).tx.length ≤ 700 := by
          show (parX (decide (t.lv < 1)) t.tx ++ 32 :: Op.jo.code :: 32 :: parX (decide (f.lv < 1 + 1)) f.tx).length ≤ 700
          rw [List.length_append, List.length_cons, List.length_cons, List.length_cons]
          omega
        show (parX (decide (l.lv < 2)) l.tx ++ 32 :: Op.su.code :: 32 :: parX (decide ((Tr.bin .jo t f).lv < 2 + 1)) (Tr.bin .jo t f).tx).length ≤ 2000
        rw [List.length_append, List.length_cons, List.length_cons, List.length_cons]
        omega
    match us, hl with
    | [], _ =>
      obtain ⟨t', a1, a2, a3, a4⟩ := keep S1 hS1
      have e : oNeE (.lst []) (.lst []) = some (.bl false) := rfl
      simp [e]
      exact ⟨⟨t', a1, a2, a3, by rw [a4]⟩, hS1⟩
    | [u], _ =>
      have e : oNeE (.lst [u.dat]) (.lst []) = some (.bl true) := rfl
      simp [e]
      refine EW_mono (draw_ok hS1 (by decide) (by decide)) ?_
      rintro _ S2 ⟨v, rfl, v0, v1, hS2⟩
      simp
      by_cases c : v = 0
      · rw [if_pos c]
        obtain ⟨t', a1, a2, a3, a4⟩ := sum u u (by simp) (by simp)
        exact ⟨⟨t', a1, a2, a3, by rw [← a4]⟩, hS2⟩
      · rw [if_neg c]
        obtain ⟨t', a1, a2, a3, a4⟩ := keep S2 hS2
        exact ⟨⟨t', a1, a2, a3, by rw [a4]⟩, hS2⟩
    | [u, w], _ =>
      have e : oNeE (.lst [u.dat, w.dat]) (.lst []) = some (.bl true) := rfl
      simp [e]
      refine EW_mono (draw_ok hS1 (by decide) (by decide)) ?_
      rintro _ S2 ⟨v, rfl, v0, v1, hS2⟩
      simp
      by_cases c : v = 0
      · rw [if_pos c]
        obtain ⟨t', a1, a2, a3, a4⟩ := sum w u (by simp) (by simp)
        exact ⟨⟨t', a1, a2, a3, by rw [← a4]⟩, hS2⟩
      · rw [if_neg c]
        obtain ⟨t', a1, a2, a3, a4⟩ := keep S2 hS2
        exact ⟨⟨t', a1, a2, a3, by rw [a4]⟩, hS2⟩
  rintro ρ S2 ⟨⟨x, okx, hx, lx, rfl⟩, hS2⟩
  rw [sw_appd]
  show EW (fIf _ _ _ _ _) _
  refine pick_k (x := x) (n := 4 + 2 * (us.length + 1)) (c := a) okx hx (by omega) (by omega) lx ha rfl rfl fun t' ht' => ?_
  refine ⟨by rw [List.length_map]; omega, ⟨t', x.dat, ht', ?_⟩, hS2⟩
  rw [List.map_append]
  rfl
theorem rest_k {us : List Tr} {v7 : Dat} {x2 x3 x4 x5 x6 x9 x10 : Option Slot} {S : Fld} {R : Dat → Fld → Prop} (hu : ∀ u ∈ us, KOk 10 u) (hl : us.length ≤ 3) (h4 : x4 = none ∨ ∃ d, x4 = some (.v d)) (hS : RngS S) : SW (restB [none, some .me, x2, x3, x4, x5, x6, some (.v v7), some (.own (us.map Tr.dat)), x9, x10] S) (fun ρ S => (∃ x2 x3 x4 x5 x6 x7 x8 x9 x10 : Option Slot, (x4 = none ∨ ∃ d, x4 = some (.v d)) ∧ ρ = [none, some .me, x2, x3, x4, x5, x6, x7, x8, x9, x10]) ∧ RngS S) R := by
  obtain ⟨T, eT, f1, f2, f3, f4, f5, f6, f7⟩ := trees_facts hu hl
  have hc : ∀ i, Cl (adds 20 (us.take i) []) ∧ (adds 20 (us.take i) []).length + 49 * (us.length - i) ≤ 49 * us.length ∧ ∀ x ∈ adds 20 (us.take i) [], ∃ u ∈ us.take i, x ∈ u.all := fun i => by
    have hi : ∀ u ∈ us.take i, KOk 10 u := fun u z => hu u (List.mem_of_mem_take z)
    have sz : ∀ vs : List Tr, (∀ u ∈ vs, KOk 10 u) → sizes vs ≤ 49 * vs.length := by
      intro vs
      induction vs with
      | nil => intro _; simp [sizes]
      | cons v vs ih =>
        intro h
        have a := ih fun x hx => h x (by simp [hx])
        have b := (h v (by simp)).sz
        have c := v.size_pos
        show v.size.toNat + sizes vs ≤ 49 * (vs.length + 1)
        omega
    have s := sz _ hi
    obtain ⟨c1, c2, vs, c3, c4, c5⟩ := adds_ok (addT_ok 20) (us.take i) [] (fun u hu => by have := (hi u hu).hg; omega) Cl.nil
    have e : adds 20 (us.take i) [] = vs := by
      show (us.take i).foldl (fun acc u => addT 20 u acc) [] = vs
      rw [c3, List.nil_append]
    refine ⟨c1, ?_, fun x hx => c5 x (by rw [← e]; exact hx)⟩
    rw [e]
    rw [List.length_take] at s
    omega
  unfold restB
  refine sw_cut (fun ρ S => ρ = [none, some .me, x2, x3, x4, x5, x6, some (.v v7), some (.own (us.map Tr.dat)), some (.own []), some (.own [])] ∧ RngS S) ?_ ?_
  · simp
    exact hS
  clear hS
  rintro ρ S ⟨rfl, hS⟩
  refine sw_cut (fun ρ S => (∃ x4 : Option Slot, (x4 = none ∨ ∃ d, x4 = some (.v d)) ∧ ρ = [none, some .me, x2, x3, x4, x5, x6, some (.v v7), some (.v (.lst (us.map Tr.dat))), some (.own (stp T)), some (.own (T.map Tr.dat))]) ∧ RngS S) ?_ ?_
  · rw [sw_fz]
    simp only [List.getElem?_cons_succ, List.getElem?_cons_zero, sO_own, List.set_cons_succ, List.set_cons_zero, sw_forL, ew_var, sV_v]
    refine ⟨_, rfl, ?_⟩
    refine sw_for (fun i ρ S => (∃ x4 : Option Slot, (x4 = none ∨ ∃ d, x4 = some (.v d)) ∧ ρ = [none, some .me, x2, x3, x4, x5, x6, some (.v v7), some (.v (.lst (us.map Tr.dat))), some (.own (stp (adds 20 (us.take i) []))), some (.own ((adds 20 (us.take i) []).map Tr.dat))]) ∧ RngS S) ⟨⟨x4, h4, rfl⟩, hS⟩ (fun i d ρ S hd hI => ?_) (fun ρ S hI => ?_)
    · obtain ⟨⟨y4, hy4, rfl⟩, hS⟩ := hI
      rw [List.getElem?_map] at hd
      cases et : us[i]? with
      | none => rw [et] at hd; cases hd
      | some t =>
        rw [et] at hd
        cases hd
        have hi := (List.getElem?_eq_some_iff.mp et).1
        have kt := hu t (List.mem_of_getElem? et)
        obtain ⟨c1, c2, c3⟩ := hc i
        have tk : us.take (i + 1) = us.take i ++ [t] := by
          rw [List.take_add_one, et]
          rfl
        have ea : adds 20 (us.take (i + 1)) [] = addT 20 t (adds 20 (us.take i) []) := by
          show (us.take (i + 1)).foldl (fun acc u => addT 20 u acc) [] = _
          rw [tk, List.foldl_append]
          rfl
        have ls := lsteps_ok 20 t (adds 20 (us.take i) []) (by have := kt.hg; omega) c1 (fun x hx => by
          obtain ⟨u, hu', q⟩ := c3 x hx
          have k := hu u (List.mem_of_mem_take hu')
          have := all_hgt u.hgt (Nat.le_refl _) q
          exact ⟨okT 20 (by have := k.hg; omega) q k.ok, by have := k.hg; omega⟩) (fun x hx => by
          have := all_hgt t.hgt (Nat.le_refl _) hx
          exact ⟨okT 20 (by have := kt.hg; omega) hx kt.ok, by have := kt.hg; omega⟩) (by
          have h1 := kt.sz
          have h2 := t.size_pos
          have h3 : (List.foldl (fun acc u => addT 20 u acc) [] (List.take i us)).length + 49 * (us.length - i) ≤ 49 * us.length := c2
          show (List.foldl (fun acc u => addT 20 u acc) [] (List.take i us)).length + t.size.toNat ≤ 80000
          omega)
        rw [← ea] at ls
        refine ⟨[none, some .me, x2, x3, some (.v t.dat), x5, x6, some (.v v7), some (.v (.lst (us.map Tr.dat))), some (.own (stp (adds 20 (us.take i) []))), some (.own ((adds 20 (us.take i) []).map Tr.dat))], rfl, ?_⟩
        rw [sw_callO2]
        simp only [List.getElem?_cons_succ, List.getElem?_cons_zero, sO_own, ew_var, sV_v]
        refine ⟨by decide, ?_⟩
        rw [ls]
        simp only [EW_ok, tW_S2, List.set_cons_succ, List.set_cons_zero]
        exact ⟨⟨_, .inr ⟨_, rfl⟩, rfl⟩, hS⟩
    · obtain ⟨⟨y4, hy4, rfl⟩, hS⟩ := hI
      rw [List.length_map, List.take_length, ← eT]
      exact ⟨⟨y4, hy4, rfl⟩, hS⟩
  clear hS
  rintro ρ S ⟨⟨y4, hy4, rfl⟩, hS⟩
  refine sw_cut (fun ρ S => ρ = [none, some .me, x2, x3, y4, some (.v (.lst (us.map (idx T)))), x6, some (.v v7), some (.v (.lst (us.map Tr.dat))), some (.v (.lst (stp T))), some (.v (.lst (T.map Tr.dat)))] ∧ RngS S) ?_ ?_
  · rw [sw_fz]
    simp only [List.getElem?_cons_succ, List.getElem?_cons_zero, sO_own, List.set_cons_succ, List.set_cons_zero, sw_fz, sw_set, ew_lc, ew_var, sV_v]
    refine ⟨_, rfl, ?_⟩
    rw [ew_lc0]
    refine ⟨⟨by rw [List.length_map]; omega, by rcases hy4 with rfl | ⟨d, rfl⟩ <;> rfl⟩, ?_⟩
    have each : ∀ vs : List Tr, (∀ u ∈ vs, u ∈ T) → AW (fLcL (gN 4) fYes (fIxD (fVar 10) (fVar 4)) [4] [none, some .me, x2, x3, y4, x5, x6, some (.v v7), some (.v (.lst (us.map Tr.dat))), some (.v (.lst (stp T))), some (.v (.lst (T.map Tr.dat)))] (vs.map Tr.dat) S) fun ys S1 => ys = vs.map (idx T) ∧ S1 = S := by
      intro vs
      induction vs with
      | nil => intro _; simp
      | cons u vs ih =>
        intro hv
        have ix := index_ok f7 (hv u (by simp))
        have ih := ih fun x hx => hv x (by simp [hx])
        rw [List.map_cons, aw_lc_cons]
        refine ⟨_, rfl, ?_⟩
        simp [wipeD, ix]
        refine AW_mono ih ?_
        rintro ys S1 ⟨rfl, rfl⟩
        exact ⟨rfl, rfl⟩
    refine AW_mono (each us f6) ?_
    rintro ys S1 ⟨rfl, rfl⟩
    exact ⟨rfl, hS⟩
  clear hS
  rintro ρ S ⟨rfl, hS⟩
  rw [sw_newT]
  have f1' : noE F_law_compiled [.lst (us.map Tr.dat)] = .ok (.tup [.lst (stp T), .lst (us.map (idx T))]) := by
    unfold noE
    rw [f1]
  have on : onlyD [none, some .me, x2, x3, y4, some (.v (.lst (us.map (idx T)))), x6, some (.v v7), some (.v (.lst (us.map Tr.dat))), some (.v (.lst (stp T))), some (.v (.lst (T.map Tr.dat)))] = onlyD [none, some .me, x2, x3, y4] ++ [some (.v (.lst (us.map (idx T))))] ++ onlyD [x6] ++ [some (.v v7), some (.v (.lst (us.map Tr.dat))), some (.v (.lst (stp T))), some (.v (.lst (T.map Tr.dat)))] := rfl
  obtain ⟨z0, z1, z2, z3, z4, ez⟩ : ∃ z0 z1 z2 z3 z4, onlyD [none, some .me, x2, x3, y4] = [z0, z1, z2, z3, z4] := ⟨_, _, _, _, _, rfl⟩
  obtain ⟨z6, ez6⟩ : ∃ z6, onlyD [x6] = [z6] := ⟨_, rfl⟩
  rw [on, ez, ez6]
  generalize stp T = P1 at *
  generalize us.map (idx T) = P2 at *
  generalize us.map Tr.dat = P3 at *
  generalize T.map Tr.dat = P4 at *
  simp [f1, f2, f3, f4, f1']
  refine ⟨⟨x2, x3, ?_⟩, hS⟩
  rcases hy4 with h | ⟨d, h⟩
  · exact .inl ⟨rfl, rfl, h⟩
  · exact .inr ⟨_, ⟨d, rfl⟩, rfl, rfl, h⟩
theorem law_ok : ∀ S, RngS S → ∃ S2, B_law (startL 11) S = .rt (.bl true) S2 := fun S hS => by
  have key : SW (B_law (startL 11) S) (fun _ _ => False) fun d _ => d = .bl true := by
    rw [law_body]
    refine sw_cut (fun ρ S => RngS S) ?_ ?_
    · rw [sw_forR1, ew_c, iW_int]
      refine ⟨by decide, ?_⟩
      refine sw_for (fun i ρ S => (∃ x2 x3 x4 x5 x6 x7 x8 x9 x10 : Option Slot, (x4 = none ∨ ∃ d, x4 = some (.v d)) ∧ ρ = [none, some .me, x2, x3, x4, x5, x6, x7, x8, x9, x10]) ∧ RngS S) ⟨⟨none, none, none, none, none, none, none, none, none, .inl rfl, rfl⟩, hS⟩ (fun i d ρ S hd h => ?_) fun ρ S h => h.2
      obtain ⟨⟨x2, x3, x4, x5, x6, x7, x8, x9, x10, h4, rfl⟩, hS⟩ := h
      refine ⟨[none, some .me, some (.v d), x3, x4, x5, x6, x7, x8, x9, x10], rfl, ?_⟩
      unfold turnB
      refine sw_cut (fun ρ S => (∃ a b c : Str, (NmW a ∧ NmW b ∧ NmW c) ∧ ρ = [none, some .me, some (.v d), x3, x4, x5, x6, some (.v (.lst [.str a, .str b, .str c])), some (.own []), x9, x10]) ∧ RngS S) ?_ ?_
      · simp
        refine EW_mono (term_names_ok hS) ?_
        rintro d S2 ⟨⟨a, b, c, ha, hb, hc, rfl⟩, hS2⟩
        exact ⟨⟨a, b, c, ⟨ha, hb, hc⟩, rfl⟩, hS2⟩
      clear hS
      rintro ρ S ⟨⟨a, b, c, ⟨ha, hb, hc⟩, rfl⟩, hS⟩
      refine sw_cut (fun ρ S => (∃ (us : List Tr) (x3 x4 : Option Slot), (∀ u ∈ us, KOk 10 u) ∧ us.length ≤ 3 ∧ (x4 = none ∨ ∃ d, x4 = some (.v d)) ∧ ρ = [none, some .me, some (.v d), x3, x4, x5, x6, some (.v (.lst [.str a, .str b, .str c])), some (.own (us.map Tr.dat)), x9, x10]) ∧ RngS S) ?_ ?_
      · rw [sw_forR1]
        simp only [ew_callM, aw_cons_, ew_c, aw_nil_, List.getElem?_cons_succ, List.getElem?_cons_zero, sM_me, true_and]
        refine EW_mono (draw_ok hS (by decide) (by decide)) ?_
        rintro _ S0 ⟨v, rfl, v0, v1, hS0⟩
        obtain ⟨k, rfl⟩ : ∃ k : Nat, v = k := ⟨v.toNat, by omega⟩
        rw [iW_int]
        refine ⟨by omega, ?_⟩
        rw [Int.toNat_natCast]
        refine sw_for (fun i ρ S => (∃ (us : List Tr) (x3 x4 : Option Slot), us.length = i ∧ (∀ u ∈ us, KOk (4 + 2 * us.length) u) ∧ (x4 = none ∨ ∃ d, x4 = some (.v d)) ∧ ρ = [none, some .me, some (.v d), x3, x4, x5, x6, some (.v (.lst [.str a, .str b, .str c])), some (.own (us.map Tr.dat)), x9, x10]) ∧ RngS S) ⟨⟨[], x3, x4, rfl, (fun u z => nomatch z), h4, rfl⟩, hS0⟩ (fun i e ρ S he hI => ?_) (fun ρ S hI => ?_)
        · obtain ⟨⟨us, y3, y4, rfl, hu, hy4, rfl⟩, hS⟩ := hI
          obtain ⟨rfl, hi⟩ := rangeD_get he
          refine ⟨_, rfl, SW_mono (inner_ok (c := c) ha hb hu (by omega) hS) ?_ fun _ _ h => h⟩
          rintro ρ S ⟨⟨t, y4, ht, rfl⟩, hS⟩
          refine ⟨⟨us ++ [t], _, some (.v y4), by simp, fun u hm => ?_, .inr ⟨_, rfl⟩, rfl⟩, hS⟩
          rw [List.length_append]
          rcases List.mem_append.mp hm with z | z
          · exact (hu u z).mono (by omega)
          · rw [List.mem_singleton.mp z]
            exact ht
        · obtain ⟨⟨us, y3, y4, hl, hu, hy4, rfl⟩, hS⟩ := hI
          have hl : us.length = k := by rw [hl]; unfold rangeD; simp
          exact ⟨⟨us, y3, y4, fun u z => (hu u z).mono (by omega), by omega, hy4, rfl⟩, hS⟩
      clear hS
      rintro ρ S ⟨⟨us, y3, y4, hu, hl, hy4, rfl⟩, hS⟩
      exact rest_k hu hl hy4 hS
    · intro ρ S hS
      rw [last_ok]
      rfl
  revert key
  cases B_law (startL 11) S <;> first | exact fun h => h.elim | skip
  rename_i d S2
  intro h
  have h : d = .bl true := h
  exact ⟨S2, by rw [h]⟩
end RB

set_option Elab.async false
set_option linter.all false
set_option maxRecDepth 100000
set_option maxHeartbeats 4000000
namespace RB
open PySem PySem.Spec PyProof.Rows L2 PD
section
variable {w : World} {K : PySem.W.Frag} {h : Heap} {mg : Str → Option Value}
theorem g_law (Z : ZZ w K h mg) : mg "law" = some (.ref (He.ga K "law")) := PySem.W.mg_of Z.X Z.G (show PySem.W.nsIn K mainGlobals "law" = some (some (.ref (He.ga K "law"))) from Z.c.dec 0)
theorem k_law (Z : ZZ w K h mg) : PySem.W.keepIn K (.ref (He.ga K "law")) = true := by
  have q := Z.c.def_ 0
  exact q.1
theorem lk_law (Z : ZZ w K h mg) : ∃ (oc : Value) (od : Option Addr) (osl : Array (Option Value)) (kV doc pm : Value) (an : Option Addr) (cdv ct : Value), K.lookup (He.ga K "law") = some ⟨oc, od, .func (PySem.W.fnOf "law" "law" (defArgs sLaw) (defBody sLaw) (defScope sLaw) .none kV doc pm an cdv ct), osl⟩ ∧ PySem.W.codeIn K cdv "law" = true := by
  have q := Z.c.def0 0
  exact q.2
theorem k__law_draw (Z : ZZ w K h mg) : PySem.W.keepIn K (.ref (He.ga K "_law_draw")) = true := by
  have q := Z.c.def_ 1
  exact q.1
theorem lk__law_draw (Z : ZZ w K h mg) : ∃ (oc : Value) (od : Option Addr) (osl : Array (Option Value)) (kV doc pm : Value) (an : Option Addr) (cdv ct : Value), K.lookup (He.ga K "_law_draw") = some ⟨oc, od, .func (PySem.W.fnOf "_law_draw" "_law_draw" (defArgs sDraw) (defBody sDraw) (defScope sDraw) .none kV doc pm an cdv ct), osl⟩ ∧ PySem.W.codeIn K cdv "_law_draw" = true := by
  have q := Z.c.def0 1
  exact q.2
theorem g__law_draw (Z : ZZ w K h mg) : mg "_law_draw" = some (.ref (He.ga K "_law_draw")) := PySem.W.mg_of Z.X Z.G (show PySem.W.nsIn K mainGlobals "_law_draw" = some (some (.ref (He.ga K "_law_draw"))) from Z.c.dec 1)
theorem k__law_pick (Z : ZZ w K h mg) : PySem.W.keepIn K (.ref (He.ga K "_law_pick")) = true := by
  have q := Z.c.def_ 2
  exact q.1
theorem lk__law_pick (Z : ZZ w K h mg) : ∃ (oc : Value) (od : Option Addr) (osl : Array (Option Value)) (kV doc pm : Value) (an : Option Addr) (cdv ct : Value), K.lookup (He.ga K "_law_pick") = some ⟨oc, od, .func (PySem.W.fnOf "_law_pick" "_law_pick" (defArgs sPick) (defBody sPick) (defScope sPick) .none kV doc pm an cdv ct), osl⟩ ∧ PySem.W.codeIn K cdv "_law_pick" = true := by
  have q := Z.c.def0 2
  exact q.2
theorem g__law_pick (Z : ZZ w K h mg) : mg "_law_pick" = some (.ref (He.ga K "_law_pick")) := PySem.W.mg_of Z.X Z.G (show PySem.W.nsIn K mainGlobals "_law_pick" = some (some (.ref (He.ga K "_law_pick"))) from Z.c.dec 2)
theorem k__law_gcd (Z : ZZ w K h mg) : PySem.W.keepIn K (.ref (He.ga K "_law_gcd")) = true := by
  have q := Z.c.def_ 3
  exact q.1
theorem lk__law_gcd (Z : ZZ w K h mg) : ∃ (oc : Value) (od : Option Addr) (osl : Array (Option Value)) (kV doc pm : Value) (an : Option Addr) (cdv ct : Value), K.lookup (He.ga K "_law_gcd") = some ⟨oc, od, .func (PySem.W.fnOf "_law_gcd" "_law_gcd" (defArgs sGcd) (defBody sGcd) (defScope sGcd) .none kV doc pm an cdv ct), osl⟩ ∧ PySem.W.codeIn K cdv "_law_gcd" = true := by
  have q := Z.c.def0 3
  exact q.2
theorem g__law_gcd (Z : ZZ w K h mg) : mg "_law_gcd" = some (.ref (He.ga K "_law_gcd")) := PySem.W.mg_of Z.X Z.G (show PySem.W.nsIn K mainGlobals "_law_gcd" = some (some (.ref (He.ga K "_law_gcd"))) from Z.c.dec 3)
theorem k__law_low (Z : ZZ w K h mg) : PySem.W.keepIn K (.ref (He.ga K "_law_low")) = true := by
  have q := Z.c.def_ 4
  exact q.1
theorem lk__law_low (Z : ZZ w K h mg) : ∃ (oc : Value) (od : Option Addr) (osl : Array (Option Value)) (kV doc pm : Value) (an : Option Addr) (cdv ct : Value), K.lookup (He.ga K "_law_low") = some ⟨oc, od, .func (PySem.W.fnOf "_law_low" "_law_low" (defArgs sLow) (defBody sLow) (defScope sLow) .none kV doc pm an cdv ct), osl⟩ ∧ PySem.W.codeIn K cdv "_law_low" = true := by
  have q := Z.c.def0 4
  exact q.2
theorem g__law_low (Z : ZZ w K h mg) : mg "_law_low" = some (.ref (He.ga K "_law_low")) := PySem.W.mg_of Z.X Z.G (show PySem.W.nsIn K mainGlobals "_law_low" = some (some (.ref (He.ga K "_law_low"))) from Z.c.dec 4)
theorem k__law_trim (Z : ZZ w K h mg) : PySem.W.keepIn K (.ref (He.ga K "_law_trim")) = true := by
  have q := Z.c.def_ 5
  exact q.1
theorem lk__law_trim (Z : ZZ w K h mg) : ∃ (oc : Value) (od : Option Addr) (osl : Array (Option Value)) (kV doc pm : Value) (an : Option Addr) (cdv ct : Value), K.lookup (He.ga K "_law_trim") = some ⟨oc, od, .func (PySem.W.fnOf "_law_trim" "_law_trim" (defArgs s_law_trim) (defBody s_law_trim) (defScope s_law_trim) .none kV doc pm an cdv ct), osl⟩ ∧ PySem.W.codeIn K cdv "_law_trim" = true := by
  have q := Z.c.def0 5
  exact q.2
theorem g__law_trim (Z : ZZ w K h mg) : mg "_law_trim" = some (.ref (He.ga K "_law_trim")) := PySem.W.mg_of Z.X Z.G (show PySem.W.nsIn K mainGlobals "_law_trim" = some (some (.ref (He.ga K "_law_trim"))) from Z.c.dec 5)
theorem k__law_value (Z : ZZ w K h mg) : PySem.W.keepIn K (.ref (He.ga K "_law_value")) = true := by
  have q := Z.c.def_ 6
  exact q.1
theorem lk__law_value (Z : ZZ w K h mg) : ∃ (oc : Value) (od : Option Addr) (osl : Array (Option Value)) (kV doc pm : Value) (an : Option Addr) (cdv ct : Value), K.lookup (He.ga K "_law_value") = some ⟨oc, od, .func (PySem.W.fnOf "_law_value" "_law_value" (defArgs s_law_value) (defBody s_law_value) (defScope s_law_value) .none kV doc pm an cdv ct), osl⟩ ∧ PySem.W.codeIn K cdv "_law_value" = true := by
  have q := Z.c.def0 6
  exact q.2
theorem g__law_value (Z : ZZ w K h mg) : mg "_law_value" = some (.ref (He.ga K "_law_value")) := PySem.W.mg_of Z.X Z.G (show PySem.W.nsIn K mainGlobals "_law_value" = some (some (.ref (He.ga K "_law_value"))) from Z.c.dec 6)
theorem k__law_number_text (Z : ZZ w K h mg) : PySem.W.keepIn K (.ref (He.ga K "_law_number_text")) = true := by
  have q := Z.c.def_ 7
  exact q.1
theorem lk__law_number_text (Z : ZZ w K h mg) : ∃ (oc : Value) (od : Option Addr) (osl : Array (Option Value)) (kV doc pm : Value) (an : Option Addr) (cdv ct : Value), K.lookup (He.ga K "_law_number_text") = some ⟨oc, od, .func (PySem.W.fnOf "_law_number_text" "_law_number_text" (defArgs s_law_number_text) (defBody s_law_number_text) (defScope s_law_number_text) .none kV doc pm an cdv ct), osl⟩ ∧ PySem.W.codeIn K cdv "_law_number_text" = true := by
  have q := Z.c.def0 7
  exact q.2
theorem g__law_number_text (Z : ZZ w K h mg) : mg "_law_number_text" = some (.ref (He.ga K "_law_number_text")) := PySem.W.mg_of Z.X Z.G (show PySem.W.nsIn K mainGlobals "_law_number_text" = some (some (.ref (He.ga K "_law_number_text"))) from Z.c.dec 7)
theorem k__law_numbers_text (Z : ZZ w K h mg) : PySem.W.keepIn K (.ref (He.ga K "_law_numbers_text")) = true := by
  have q := Z.c.def_ 8
  exact q.1
theorem lk__law_numbers_text (Z : ZZ w K h mg) : ∃ (oc : Value) (od : Option Addr) (osl : Array (Option Value)) (kV doc pm : Value) (an : Option Addr) (cdv ct : Value), K.lookup (He.ga K "_law_numbers_text") = some ⟨oc, od, .func (PySem.W.fnOf "_law_numbers_text" "_law_numbers_text" (defArgs s_law_numbers_text) (defBody s_law_numbers_text) (defScope s_law_numbers_text) .none kV doc pm an cdv ct), osl⟩ ∧ PySem.W.codeIn K cdv "_law_numbers_text" = true := by
  have q := Z.c.def0 8
  exact q.2
theorem g__law_numbers_text (Z : ZZ w K h mg) : mg "_law_numbers_text" = some (.ref (He.ga K "_law_numbers_text")) := PySem.W.mg_of Z.X Z.G (show PySem.W.nsIn K mainGlobals "_law_numbers_text" = some (some (.ref (He.ga K "_law_numbers_text"))) from Z.c.dec 8)
theorem k__law_parts (Z : ZZ w K h mg) : PySem.W.keepIn K (.ref (He.ga K "_law_parts")) = true := by
  have q := Z.c.def_ 9
  exact q.1
theorem lk__law_parts (Z : ZZ w K h mg) : ∃ (oc : Value) (od : Option Addr) (osl : Array (Option Value)) (kV doc pm : Value) (an : Option Addr) (cdv ct : Value), K.lookup (He.ga K "_law_parts") = some ⟨oc, od, .func (PySem.W.fnOf "_law_parts" "_law_parts" (defArgs s_law_parts) (defBody s_law_parts) (defScope s_law_parts) .none kV doc pm an cdv ct), osl⟩ ∧ PySem.W.codeIn K cdv "_law_parts" = true := by
  have q := Z.c.def0 9
  exact q.2
theorem g__law_parts (Z : ZZ w K h mg) : mg "_law_parts" = some (.ref (He.ga K "_law_parts")) := PySem.W.mg_of Z.X Z.G (show PySem.W.nsIn K mainGlobals "_law_parts" = some (some (.ref (He.ga K "_law_parts"))) from Z.c.dec 9)
theorem k__law_tree (Z : ZZ w K h mg) : PySem.W.keepIn K (.ref (He.ga K "_law_tree")) = true := by
  have q := Z.c.def_ 10
  exact q.1
theorem lk__law_tree (Z : ZZ w K h mg) : ∃ (oc : Value) (od : Option Addr) (osl : Array (Option Value)) (kV doc pm : Value) (an : Option Addr) (cdv ct : Value), K.lookup (He.ga K "_law_tree") = some ⟨oc, od, .func (PySem.W.fnOf "_law_tree" "_law_tree" (defArgs s_law_tree) (defBody s_law_tree) (defScope s_law_tree) .none kV doc pm an cdv ct), osl⟩ ∧ PySem.W.codeIn K cdv "_law_tree" = true := by
  have q := Z.c.def0 10
  exact q.2
theorem g__law_tree (Z : ZZ w K h mg) : mg "_law_tree" = some (.ref (He.ga K "_law_tree")) := PySem.W.mg_of Z.X Z.G (show PySem.W.nsIn K mainGlobals "_law_tree" = some (some (.ref (He.ga K "_law_tree"))) from Z.c.dec 10)
theorem k__law_nodes (Z : ZZ w K h mg) : PySem.W.keepIn K (.ref (He.ga K "_law_nodes")) = true := by
  have q := Z.c.def_ 11
  exact q.1
theorem lk__law_nodes (Z : ZZ w K h mg) : ∃ (oc : Value) (od : Option Addr) (osl : Array (Option Value)) (kV doc pm : Value) (an : Option Addr) (cdv ct : Value), K.lookup (He.ga K "_law_nodes") = some ⟨oc, od, .func (PySem.W.fnOf "_law_nodes" "_law_nodes" (defArgs s_law_nodes) (defBody s_law_nodes) (defScope s_law_nodes) .none kV doc pm an cdv ct), osl⟩ ∧ PySem.W.codeIn K cdv "_law_nodes" = true := by
  have q := Z.c.def0 11
  exact q.2
theorem g__law_nodes (Z : ZZ w K h mg) : mg "_law_nodes" = some (.ref (He.ga K "_law_nodes")) := PySem.W.mg_of Z.X Z.G (show PySem.W.nsIn K mainGlobals "_law_nodes" = some (some (.ref (He.ga K "_law_nodes"))) from Z.c.dec 11)
theorem k__law_term_names (Z : ZZ w K h mg) : PySem.W.keepIn K (.ref (He.ga K "_law_term_names")) = true := by
  have q := Z.c.def_ 12
  exact q.1
theorem lk__law_term_names (Z : ZZ w K h mg) : ∃ (oc : Value) (od : Option Addr) (osl : Array (Option Value)) (kV doc pm : Value) (an : Option Addr) (cdv ct : Value), K.lookup (He.ga K "_law_term_names") = some ⟨oc, od, .func (PySem.W.fnOf "_law_term_names" "_law_term_names" (defArgs s_law_term_names) (defBody s_law_term_names) (defScope s_law_term_names) .none kV doc pm an cdv ct), osl⟩ ∧ PySem.W.codeIn K cdv "_law_term_names" = true := by
  have q := Z.c.def0 12
  exact q.2
theorem g__law_term_names (Z : ZZ w K h mg) : mg "_law_term_names" = some (.ref (He.ga K "_law_term_names")) := PySem.W.mg_of Z.X Z.G (show PySem.W.nsIn K mainGlobals "_law_term_names" = some (some (.ref (He.ga K "_law_term_names"))) from Z.c.dec 12)
theorem k__law_same (Z : ZZ w K h mg) : PySem.W.keepIn K (.ref (He.ga K "_law_same")) = true := by
  have q := Z.c.def_ 13
  exact q.1
theorem lk__law_same (Z : ZZ w K h mg) : ∃ (oc : Value) (od : Option Addr) (osl : Array (Option Value)) (kV doc pm : Value) (an : Option Addr) (cdv ct : Value), K.lookup (He.ga K "_law_same") = some ⟨oc, od, .func (PySem.W.fnOf "_law_same" "_law_same" (defArgs sSame) (defBody sSame) (defScope sSame) .none kV doc pm an cdv ct), osl⟩ ∧ PySem.W.codeIn K cdv "_law_same" = true := by
  have q := Z.c.def0 13
  exact q.2
theorem g__law_same (Z : ZZ w K h mg) : mg "_law_same" = some (.ref (He.ga K "_law_same")) := PySem.W.mg_of Z.X Z.G (show PySem.W.nsIn K mainGlobals "_law_same" = some (some (.ref (He.ga K "_law_same"))) from Z.c.dec 13)
theorem k__law_level (Z : ZZ w K h mg) : PySem.W.keepIn K (.ref (He.ga K "_law_level")) = true := by
  have q := Z.c.def_ 14
  exact q.1
theorem lk__law_level (Z : ZZ w K h mg) : ∃ (oc : Value) (od : Option Addr) (osl : Array (Option Value)) (kV doc pm : Value) (an : Option Addr) (cdv ct : Value), K.lookup (He.ga K "_law_level") = some ⟨oc, od, .func (PySem.W.fnOf "_law_level" "_law_level" (defArgs s_law_level) (defBody s_law_level) (defScope s_law_level) .none kV doc pm an cdv ct), osl⟩ ∧ PySem.W.codeIn K cdv "_law_level" = true := by
  have q := Z.c.def0 14
  exact q.2
theorem g__law_level (Z : ZZ w K h mg) : mg "_law_level" = some (.ref (He.ga K "_law_level")) := PySem.W.mg_of Z.X Z.G (show PySem.W.nsIn K mainGlobals "_law_level" = some (some (.ref (He.ga K "_law_level"))) from Z.c.dec 14)
theorem k__law_text (Z : ZZ w K h mg) : PySem.W.keepIn K (.ref (He.ga K "_law_text")) = true := by
  have q := Z.c.def_ 15
  exact q.1
theorem lk__law_text (Z : ZZ w K h mg) : ∃ (oc : Value) (od : Option Addr) (osl : Array (Option Value)) (kV doc pm : Value) (an : Option Addr) (cdv ct : Value), K.lookup (He.ga K "_law_text") = some ⟨oc, od, .func (PySem.W.fnOf "_law_text" "_law_text" (defArgs s_law_text) (defBody s_law_text) (defScope s_law_text) .none kV doc pm an cdv ct), osl⟩ ∧ PySem.W.codeIn K cdv "_law_text" = true := by
  have q := Z.c.def0 15
  exact q.2
theorem g__law_text (Z : ZZ w K h mg) : mg "_law_text" = some (.ref (He.ga K "_law_text")) := PySem.W.mg_of Z.X Z.G (show PySem.W.nsIn K mainGlobals "_law_text" = some (some (.ref (He.ga K "_law_text"))) from Z.c.dec 15)
theorem k__law_operand (Z : ZZ w K h mg) : PySem.W.keepIn K (.ref (He.ga K "_law_operand")) = true := by
  have q := Z.c.def_ 16
  exact q.1
theorem lk__law_operand (Z : ZZ w K h mg) : ∃ (oc : Value) (od : Option Addr) (osl : Array (Option Value)) (kV doc pm : Value) (an : Option Addr) (cdv ct : Value), K.lookup (He.ga K "_law_operand") = some ⟨oc, od, .func (PySem.W.fnOf "_law_operand" "_law_operand" (defArgs s_law_operand) (defBody s_law_operand) (defScope s_law_operand) .none kV doc pm an cdv ct), osl⟩ ∧ PySem.W.codeIn K cdv "_law_operand" = true := by
  have q := Z.c.def0 16
  exact q.2
theorem g__law_operand (Z : ZZ w K h mg) : mg "_law_operand" = some (.ref (He.ga K "_law_operand")) := PySem.W.mg_of Z.X Z.G (show PySem.W.nsIn K mainGlobals "_law_operand" = some (some (.ref (He.ga K "_law_operand"))) from Z.c.dec 16)
theorem k_operands (Z : ZZ w K h mg) : PySem.W.keepIn K (.ref (He.ga K "operands")) = true := by
  have q := Z.c.def_ 17
  exact q.1
theorem lk_operands (Z : ZZ w K h mg) : ∃ (oc : Value) (od : Option Addr) (osl : Array (Option Value)) (kV doc pm : Value) (an : Option Addr) (cdv ct : Value), K.lookup (He.ga K "operands") = some ⟨oc, od, .func (PySem.W.fnOf "operands" "operands" (defArgs s_operands) (defBody s_operands) (defScope s_operands) .none kV doc pm an cdv ct), osl⟩ ∧ PySem.W.codeIn K cdv "operands" = true := by
  have q := Z.c.def0 17
  exact q.2
theorem g_operands (Z : ZZ w K h mg) : mg "operands" = some (.ref (He.ga K "operands")) := PySem.W.mg_of Z.X Z.G (show PySem.W.nsIn K mainGlobals "operands" = some (some (.ref (He.ga K "operands"))) from Z.c.dec 17)
theorem k_with_operands (Z : ZZ w K h mg) : PySem.W.keepIn K (.ref (He.ga K "with_operands")) = true := by
  have q := Z.c.def_ 18
  exact q.1
theorem lk_with_operands (Z : ZZ w K h mg) : ∃ (oc : Value) (od : Option Addr) (osl : Array (Option Value)) (kV doc pm : Value) (an : Option Addr) (cdv ct : Value), K.lookup (He.ga K "with_operands") = some ⟨oc, od, .func (PySem.W.fnOf "with_operands" "with_operands" (defArgs s_with_operands) (defBody s_with_operands) (defScope s_with_operands) .none kV doc pm an cdv ct), osl⟩ ∧ PySem.W.codeIn K cdv "with_operands" = true := by
  have q := Z.c.def0 18
  exact q.2
theorem g_with_operands (Z : ZZ w K h mg) : mg "with_operands" = some (.ref (He.ga K "with_operands")) := PySem.W.mg_of Z.X Z.G (show PySem.W.nsIn K mainGlobals "with_operands" = some (some (.ref (He.ga K "with_operands"))) from Z.c.dec 18)
theorem k_put_step (Z : ZZ w K h mg) : PySem.W.keepIn K (.ref (He.ga K "put_step")) = true := by
  have q := Z.c.def_ 19
  exact q.1
theorem lk_put_step (Z : ZZ w K h mg) : ∃ (oc : Value) (od : Option Addr) (osl : Array (Option Value)) (kV doc pm : Value) (an : Option Addr) (cdv ct : Value), K.lookup (He.ga K "put_step") = some ⟨oc, od, .func (PySem.W.fnOf "put_step" "put_step" (defArgs s_put_step) (defBody s_put_step) (defScope s_put_step) .none kV doc pm an cdv ct), osl⟩ ∧ PySem.W.codeIn K cdv "put_step" = true := by
  have q := Z.c.def0 19
  exact q.2
theorem g_put_step (Z : ZZ w K h mg) : mg "put_step" = some (.ref (He.ga K "put_step")) := PySem.W.mg_of Z.X Z.G (show PySem.W.nsIn K mainGlobals "put_step" = some (some (.ref (He.ga K "put_step"))) from Z.c.dec 19)
theorem k_planned (Z : ZZ w K h mg) : PySem.W.keepIn K (.ref (He.ga K "planned")) = true := by
  have q := Z.c.def_ 20
  exact q.1
theorem lk_planned (Z : ZZ w K h mg) : ∃ (oc : Value) (od : Option Addr) (osl : Array (Option Value)) (kV doc pm : Value) (an : Option Addr) (cdv ct : Value), K.lookup (He.ga K "planned") = some ⟨oc, od, .func (PySem.W.fnOf "planned" "planned" (defArgs s_planned) (defBody s_planned) (defScope s_planned) .none kV doc pm an cdv ct), osl⟩ ∧ PySem.W.codeIn K cdv "planned" = true := by
  have q := Z.c.def0 20
  exact q.2
theorem g_planned (Z : ZZ w K h mg) : mg "planned" = some (.ref (He.ga K "planned")) := PySem.W.mg_of Z.X Z.G (show PySem.W.nsIn K mainGlobals "planned" = some (some (.ref (He.ga K "planned"))) from Z.c.dec 20)
theorem k_compiled (Z : ZZ w K h mg) : PySem.W.keepIn K (.ref (He.ga K "compiled")) = true := by
  have q := Z.c.def_ 21
  exact q.1
theorem lk_compiled (Z : ZZ w K h mg) : ∃ (oc : Value) (od : Option Addr) (osl : Array (Option Value)) (kV doc pm : Value) (an : Option Addr) (cdv ct : Value), K.lookup (He.ga K "compiled") = some ⟨oc, od, .func (PySem.W.fnOf "compiled" "compiled" (defArgs s_compiled) (defBody s_compiled) (defScope s_compiled) .none kV doc pm an cdv ct), osl⟩ ∧ PySem.W.codeIn K cdv "compiled" = true := by
  have q := Z.c.def0 21
  exact q.2
theorem g_compiled (Z : ZZ w K h mg) : mg "compiled" = some (.ref (He.ga K "compiled")) := PySem.W.mg_of Z.X Z.G (show PySem.W.nsIn K mainGlobals "compiled" = some (some (.ref (He.ga K "compiled"))) from Z.c.dec 21)
theorem k_plan_trees (Z : ZZ w K h mg) : PySem.W.keepIn K (.ref (He.ga K "plan_trees")) = true := by
  have q := Z.c.def_ 22
  exact q.1
theorem lk_plan_trees (Z : ZZ w K h mg) : ∃ (oc : Value) (od : Option Addr) (osl : Array (Option Value)) (kV doc pm : Value) (an : Option Addr) (cdv ct : Value), K.lookup (He.ga K "plan_trees") = some ⟨oc, od, .func (PySem.W.fnOf "plan_trees" "plan_trees" (defArgs s_plan_trees) (defBody s_plan_trees) (defScope s_plan_trees) .none kV doc pm an cdv ct), osl⟩ ∧ PySem.W.codeIn K cdv "plan_trees" = true := by
  have q := Z.c.def0 22
  exact q.2
theorem g_plan_trees (Z : ZZ w K h mg) : mg "plan_trees" = some (.ref (He.ga K "plan_trees")) := PySem.W.mg_of Z.X Z.G (show PySem.W.nsIn K mainGlobals "plan_trees" = some (some (.ref (He.ga K "plan_trees"))) from Z.c.dec 22)
theorem k__law_steps (Z : ZZ w K h mg) : PySem.W.keepIn K (.ref (He.ga K "_law_steps")) = true := by
  have q := Z.c.def_ 23
  exact q.1
theorem lk__law_steps (Z : ZZ w K h mg) : ∃ (oc : Value) (od : Option Addr) (osl : Array (Option Value)) (kV doc pm : Value) (an : Option Addr) (cdv ct : Value), K.lookup (He.ga K "_law_steps") = some ⟨oc, od, .func (PySem.W.fnOf "_law_steps" "_law_steps" (defArgs s_law_steps) (defBody s_law_steps) (defScope s_law_steps) .none kV doc pm an cdv ct), osl⟩ ∧ PySem.W.codeIn K cdv "_law_steps" = true := by
  have q := Z.c.def0 23
  exact q.2
theorem g__law_steps (Z : ZZ w K h mg) : mg "_law_steps" = some (.ref (He.ga K "_law_steps")) := PySem.W.mg_of Z.X Z.G (show PySem.W.nsIn K mainGlobals "_law_steps" = some (some (.ref (He.ga K "_law_steps"))) from Z.c.dec 23)
theorem k__law_compiled (Z : ZZ w K h mg) : PySem.W.keepIn K (.ref (He.ga K "_law_compiled")) = true := by
  have q := Z.c.def_ 24
  exact q.1
theorem lk__law_compiled (Z : ZZ w K h mg) : ∃ (oc : Value) (od : Option Addr) (osl : Array (Option Value)) (kV doc pm : Value) (an : Option Addr) (cdv ct : Value), K.lookup (He.ga K "_law_compiled") = some ⟨oc, od, .func (PySem.W.fnOf "_law_compiled" "_law_compiled" (defArgs s_law_compiled) (defBody s_law_compiled) (defScope s_law_compiled) .none kV doc pm an cdv ct), osl⟩ ∧ PySem.W.codeIn K cdv "_law_compiled" = true := by
  have q := Z.c.def0 24
  exact q.2
theorem g__law_compiled (Z : ZZ w K h mg) : mg "_law_compiled" = some (.ref (He.ga K "_law_compiled")) := PySem.W.mg_of Z.X Z.G (show PySem.W.nsIn K mainGlobals "_law_compiled" = some (some (.ref (He.ga K "_law_compiled"))) from Z.c.dec 24)
theorem k__law_wanted_tree (Z : ZZ w K h mg) : PySem.W.keepIn K (.ref (He.ga K "_law_wanted_tree")) = true := by
  have q := Z.c.def_ 25
  exact q.1
theorem lk__law_wanted_tree (Z : ZZ w K h mg) : ∃ (oc : Value) (od : Option Addr) (osl : Array (Option Value)) (kV doc pm : Value) (an : Option Addr) (cdv ct : Value), K.lookup (He.ga K "_law_wanted_tree") = some ⟨oc, od, .func (PySem.W.fnOf "_law_wanted_tree" "_law_wanted_tree" (defArgs s_law_wanted_tree) (defBody s_law_wanted_tree) (defScope s_law_wanted_tree) .none kV doc pm an cdv ct), osl⟩ ∧ PySem.W.codeIn K cdv "_law_wanted_tree" = true := by
  have q := Z.c.def0 25
  exact q.2
theorem g__law_wanted_tree (Z : ZZ w K h mg) : mg "_law_wanted_tree" = some (.ref (He.ga K "_law_wanted_tree")) := PySem.W.mg_of Z.X Z.G (show PySem.W.nsIn K mainGlobals "_law_wanted_tree" = some (some (.ref (He.ga K "_law_wanted_tree"))) from Z.c.dec 25)
theorem k__law_draws (Z : ZZ w K h mg) : PySem.W.keepIn K (.ref (He.ga K "_law_draws")) = true := by
  have q := Z.c.def_ 26
  exact q.1
theorem lk__law_draws (Z : ZZ w K h mg) : ∃ (oc : Value) (od : Option Addr) (osl : Array (Option Value)) (kV doc pm : Value) (an : Option Addr) (cdv ct : Value), K.lookup (He.ga K "_law_draws") = some ⟨oc, od, .func (PySem.W.fnOf "_law_draws" "_law_draws" (defArgs sDraws) (defBody sDraws) (defScope sDraws) .none kV doc pm an cdv ct), osl⟩ ∧ PySem.W.codeIn K cdv "_law_draws" = true := by
  have q := Z.c.def0 26
  exact q.2
theorem g__law_draws (Z : ZZ w K h mg) : mg "_law_draws" = some (.ref (He.ga K "_law_draws")) := PySem.W.mg_of Z.X Z.G (show PySem.W.nsIn K mainGlobals "_law_draws" = some (some (.ref (He.ga K "_law_draws"))) from Z.c.dec 26)
theorem mlen (Z : ZZ w K h mg) : mg "len" = none := PySem.W.mg_none_of Z.X Z.G (show PySem.W.nsIn K mainGlobals "len" = some none from Z.c.dec 27)
theorem mabs (Z : ZZ w K h mg) : mg "abs" = none := PySem.W.mg_none_of Z.X Z.G (show PySem.W.nsIn K mainGlobals "abs" = some none from Z.c.dec 28)
theorem mlist (Z : ZZ w K h mg) : mg "list" = none := PySem.W.mg_none_of Z.X Z.G (show PySem.W.nsIn K mainGlobals "list" = some none from Z.c.dec 29)
theorem mstr (Z : ZZ w K h mg) : mg "str" = none := PySem.W.mg_none_of Z.X Z.G (show PySem.W.nsIn K mainGlobals "str" = some none from Z.c.dec 30)
theorem mrange (Z : ZZ w K h mg) : mg "range" = none := PySem.W.mg_none_of Z.X Z.G (show PySem.W.nsIn K mainGlobals "range" = some none from Z.c.dec 31)
theorem mtuple (Z : ZZ w K h mg) : mg "tuple" = none := PySem.W.mg_none_of Z.X Z.G (show PySem.W.nsIn K mainGlobals "tuple" = some none from Z.c.dec 32)
theorem msum (Z : ZZ w K h mg) : mg "sum" = none := PySem.W.mg_none_of Z.X Z.G (show PySem.W.nsIn K mainGlobals "sum" = some none from Z.c.dec 33)
theorem misinstance (Z : ZZ w K h mg) : mg "isinstance" = none := PySem.W.mg_none_of Z.X Z.G (show PySem.W.nsIn K mainGlobals "isinstance" = some none from Z.c.dec 34)
theorem mint (Z : ZZ w K h mg) : mg "int" = none := PySem.W.mg_none_of Z.X Z.G (show PySem.W.nsIn K mainGlobals "int" = some none from Z.c.dec 35)
theorem mbool (Z : ZZ w K h mg) : mg "bool" = none := PySem.W.mg_none_of Z.X Z.G (show PySem.W.nsIn K mainGlobals "bool" = some none from Z.c.dec 36)
theorem mzip (Z : ZZ w K h mg) : mg "zip" = none := PySem.W.mg_none_of Z.X Z.G (show PySem.W.nsIn K mainGlobals "zip" = some none from Z.c.dec 37)
theorem mall (Z : ZZ w K h mg) : mg "all" = none := PySem.W.mg_none_of Z.X Z.G (show PySem.W.nsIn K mainGlobals "all" = some none from Z.c.dec 38)
theorem g_OPERAND_PLACES (Z : ZZ w K h mg) : mg "OPERAND_PLACES" = some (.ref (He.ga K "OPERAND_PLACES")) := PySem.W.mg_of Z.X Z.G (show PySem.W.nsIn K mainGlobals "OPERAND_PLACES" = some (some (.ref (He.ga K "OPERAND_PLACES"))) from Z.c.dec 39)
theorem tf_OPERAND_PLACES (Z : ZZ w K h mg) : (∃ es n, KDict K w (He.ga K "OPERAND_PLACES") es n) ∧ TabF K w (He.ga K "OPERAND_PLACES") tab_OPERAND_PLACES := RBH.tabF_of (kvs := tab_OPERAND_PLACES) (Z.tt.get 0) (Z.c.get 40)
theorem t_OPERAND_PLACES (Z : ZZ w K h mg) : TabF K w (He.ga K "OPERAND_PLACES") tab_OPERAND_PLACES := (tf_OPERAND_PLACES Z).2
theorem D_OPERAND_PLACES (Z : ZZ w K h mg) : KDict K w (He.ga K "OPERAND_PLACES") (tf_OPERAND_PLACES Z).1.choose (tf_OPERAND_PLACES Z).1.choose_spec.choose := (tf_OPERAND_PLACES Z).1.choose_spec.choose_spec
def ecK (K : PySem.W.Frag) : Str → Addr := fun s => 0
theorem D__law_draws {l : PySem.W.OpenLaw} {base : Heap} (Z : ZZ w K h mg) : ∃ fd, FnOk l.prog w K mg base CX0 1 (He.ga K "_law_draws") fd ["_law_script"] (spDraws2 K) ∧ L2.Binds K fd ["_law_script"] [] := by
  obtain ⟨oc, od, osl, kV, doc, pm, an, cdv, ct, lk, cc⟩ := lk__law_draws Z
  have F := fun_mk (st := sDraws) lk cc (k__law_draws Z)
  have b := F.binds (ps := ["_law_script"]) fun _ _ _ _ _ _ us hl => match us, hl with | [_], _ => rfl
  exact ⟨_, ok_draws (k := 0) F (mlist Z), b⟩
theorem D__law_draw {l : PySem.W.OpenLaw} {base : Heap} (Z : ZZ w K h mg) : ∃ fd, FnOk l.prog w K mg base CX0 1 (He.ga K "_law_draw") fd ["_law_rng", "_law_amount"] (spM K (ecK K) (fun k => k = .lst) 1 F_law_draw) ∧ L2.Binds K fd ["_law_rng", "_law_amount"] [] := by
  obtain ⟨oc, od, osl, kV, doc, pm, an, cdv, ct, lk, cc⟩ := lk__law_draw Z
  have F := fun_mk (st := sDraw) lk cc (k__law_draw Z)
  have b := F.binds (ps := ["_law_rng", "_law_amount"]) fun _ _ _ _ _ _ us hl => match us, hl with | [_, _], _ => rfl
  exact ⟨_, ok_law_draw (P := l.prog) (w := w) (base := base) (mg := mg) (ec := ecK K) F (mlen Z), b⟩
theorem D__law_pick {l : PySem.W.OpenLaw} {base : Heap} (Z : ZZ w K h mg) : ∃ fd, FnOk l.prog w K mg base CX0 2 (He.ga K "_law_pick") fd ["_law_rng", "_law_things"] (spM K (ecK K) (fun k => k = .lst) 1 F_law_pick) ∧ L2.Binds K fd ["_law_rng", "_law_things"] [] := by
  obtain ⟨oc, od, osl, kV, doc, pm, an, cdv, ct, lk, cc⟩ := lk__law_pick Z
  have F := fun_mk (st := sPick) lk cc (k__law_pick Z)
  have b := F.binds (ps := ["_law_rng", "_law_things"]) fun _ _ _ _ _ _ us hl => match us, hl with | [_, _], _ => rfl
  obtain ⟨d__law_draw, G__law_draw, b__law_draw⟩ := D__law_draw (l := l) (base := base) Z
  exact ⟨_, ok_law_pick (P := l.prog) (w := w) (base := base) (mg := mg) (ec := ecK K) F (mlen Z) G__law_draw (g__law_draw Z) (k__law_draw Z) b__law_draw, b⟩
theorem D__law_gcd {l : PySem.W.OpenLaw} {base : Heap} (Z : ZZ w K h mg) : ∃ fd, FnOk l.prog w K mg base CX0 1 (He.ga K "_law_gcd") fd ["_law_one", "_law_other"] (spF K (ecK K) 2 F_law_gcd) ∧ L2.Binds K fd ["_law_one", "_law_other"] [] := by
  obtain ⟨oc, od, osl, kV, doc, pm, an, cdv, ct, lk, cc⟩ := lk__law_gcd Z
  have F := fun_mk (st := sGcd) lk cc (k__law_gcd Z)
  have b := F.binds (ps := ["_law_one", "_law_other"]) fun _ _ _ _ _ _ us hl => match us, hl with | [_, _], _ => rfl
  exact ⟨_, ok_law_gcd (P := l.prog) (w := w) (base := base) (mg := mg) (ec := ecK K) F (mabs Z), b⟩
theorem D__law_low {l : PySem.W.OpenLaw} {base : Heap} (Z : ZZ w K h mg) : ∃ fd, FnOk l.prog w K mg base CX0 2 (He.ga K "_law_low") fd ["_law_top", "_law_bottom"] (spF K (ecK K) 2 F_law_low) ∧ L2.Binds K fd ["_law_top", "_law_bottom"] [] := by
  obtain ⟨oc, od, osl, kV, doc, pm, an, cdv, ct, lk, cc⟩ := lk__law_low Z
  have F := fun_mk (st := sLow) lk cc (k__law_low Z)
  have b := F.binds (ps := ["_law_top", "_law_bottom"]) fun _ _ _ _ _ _ us hl => match us, hl with | [_, _], _ => rfl
  obtain ⟨d__law_gcd, G__law_gcd, b__law_gcd⟩ := D__law_gcd (l := l) (base := base) Z
  exact ⟨_, ok_law_low (P := l.prog) (w := w) (base := base) (mg := mg) (ec := ecK K) F G__law_gcd (g__law_gcd Z) (k__law_gcd Z) b__law_gcd, b⟩
theorem D__law_trim {l : PySem.W.OpenLaw} {base : Heap} (Z : ZZ w K h mg) : ∃ fd, FnOk l.prog w K mg base CX0 1 (He.ga K "_law_trim") fd ["_law_parts_here"] (spF K (ecK K) 1 F_law_trim) ∧ L2.Binds K fd ["_law_parts_here"] [] := by
  obtain ⟨oc, od, osl, kV, doc, pm, an, cdv, ct, lk, cc⟩ := lk__law_trim Z
  have F := fun_mk (st := s_law_trim) lk cc (k__law_trim Z)
  have b := F.binds (ps := ["_law_parts_here"]) fun _ _ _ _ _ _ us hl => match us, hl with | [_], _ => rfl
  exact ⟨_, ok_law_trim (P := l.prog) (w := w) (base := base) (mg := mg) (ec := ecK K) F (mlist Z), b⟩
theorem D__law_value {l : PySem.W.OpenLaw} {base : Heap} (Z : ZZ w K h mg) : ∃ fd, FnOk l.prog w K mg base CX0 3 (He.ga K "_law_value") fd ["_law_rng"] (spM K (ecK K) (fun k => k = .lst) 0 F_law_value) ∧ L2.Binds K fd ["_law_rng"] [] := by
  obtain ⟨oc, od, osl, kV, doc, pm, an, cdv, ct, lk, cc⟩ := lk__law_value Z
  have F := fun_mk (st := s_law_value) lk cc (k__law_value Z)
  have b := F.binds (ps := ["_law_rng"]) fun _ _ _ _ _ _ us hl => match us, hl with | [_], _ => rfl
  obtain ⟨d__law_draw, G__law_draw, b__law_draw⟩ := D__law_draw (l := l) (base := base) Z
  obtain ⟨d__law_low, G__law_low, b__law_low⟩ := D__law_low (l := l) (base := base) Z
  exact ⟨_, ok_law_value (P := l.prog) (w := w) (base := base) (mg := mg) (ec := ecK K) F G__law_draw (g__law_draw Z) (k__law_draw Z) b__law_draw G__law_low (g__law_low Z) (k__law_low Z) b__law_low, b⟩
theorem D__law_number_text {l : PySem.W.OpenLaw} {base : Heap} (Z : ZZ w K h mg) : ∃ fd, FnOk l.prog w K mg base CX0 1 (He.ga K "_law_number_text") fd ["_law_part"] (spF K (ecK K) 1 F_law_number_text) ∧ L2.Binds K fd ["_law_part"] [] := by
  obtain ⟨oc, od, osl, kV, doc, pm, an, cdv, ct, lk, cc⟩ := lk__law_number_text Z
  have F := fun_mk (st := s_law_number_text) lk cc (k__law_number_text Z)
  have b := F.binds (ps := ["_law_part"]) fun _ _ _ _ _ _ us hl => match us, hl with | [_], _ => rfl
  exact ⟨_, ok_law_number_text (P := l.prog) (w := w) (base := base) (mg := mg) (ec := ecK K) F (mstr Z), b⟩
theorem D__law_numbers_text {l : PySem.W.OpenLaw} {base : Heap} (Z : ZZ w K h mg) : ∃ fd, FnOk l.prog w K mg base CX0 2 (He.ga K "_law_numbers_text") fd ["_law_parts_here"] (spF K (ecK K) 1 F_law_numbers_text) ∧ L2.Binds K fd ["_law_parts_here"] [] := by
  obtain ⟨oc, od, osl, kV, doc, pm, an, cdv, ct, lk, cc⟩ := lk__law_numbers_text Z
  have F := fun_mk (st := s_law_numbers_text) lk cc (k__law_numbers_text Z)
  have b := F.binds (ps := ["_law_parts_here"]) fun _ _ _ _ _ _ us hl => match us, hl with | [_], _ => rfl
  obtain ⟨d__law_number_text, G__law_number_text, b__law_number_text⟩ := D__law_number_text (l := l) (base := base) Z
  exact ⟨_, ok_law_numbers_text (P := l.prog) (w := w) (base := base) (mg := mg) (ec := ecK K) F G__law_number_text (g__law_number_text Z) (k__law_number_text Z) b__law_number_text, b⟩
theorem D__law_parts {l : PySem.W.OpenLaw} {base : Heap} (Z : ZZ w K h mg) : ∃ fd, FnOk l.prog w K mg base CX0 1 (He.ga K "_law_parts") fd ["_law_tree_here"] (spF K (ecK K) 1 F_law_parts) ∧ L2.Binds K fd ["_law_tree_here"] [] := by
  obtain ⟨oc, od, osl, kV, doc, pm, an, cdv, ct, lk, cc⟩ := lk__law_parts Z
  have F := fun_mk (st := s_law_parts) lk cc (k__law_parts Z)
  have b := F.binds (ps := ["_law_tree_here"]) fun _ _ _ _ _ _ us hl => match us, hl with | [_], _ => rfl
  exact ⟨_, ok_law_parts (P := l.prog) (w := w) (base := base) (mg := mg) (ec := ecK K) F , b⟩
theorem D__law_tree {l : PySem.W.OpenLaw} {base : Heap} (Z : ZZ w K h mg) : ∃ fd, FnOk l.prog w K mg base CX0 11 (He.ga K "_law_tree") fd ["_law_rng", "_law_deep", "_law_names"] (spM K (ecK K) (fun k => k = .lst) 2 (F_law_tree 8)) ∧ L2.Binds K fd ["_law_rng", "_law_deep", "_law_names"] [] := by
  obtain ⟨oc, od, osl, kV, doc, pm, an, cdv, ct, lk, cc⟩ := lk__law_tree Z
  have F := fun_mk (st := s_law_tree) lk cc (k__law_tree Z)
  have b := F.binds (ps := ["_law_rng", "_law_deep", "_law_names"]) fun _ _ _ _ _ _ us hl => match us, hl with | [_, _, _], _ => rfl
  obtain ⟨d__law_draw, G__law_draw, b__law_draw⟩ := D__law_draw (l := l) (base := base) Z
  obtain ⟨d__law_pick, G__law_pick, b__law_pick⟩ := D__law_pick (l := l) (base := base) Z
  obtain ⟨d__law_trim, G__law_trim, b__law_trim⟩ := D__law_trim (l := l) (base := base) Z
  obtain ⟨d__law_value, G__law_value, b__law_value⟩ := D__law_value (l := l) (base := base) Z
  exact ⟨_, ok_law_tree (P := l.prog) (w := w) (base := base) (mg := mg) (ec := ecK K) F (g__law_tree Z) (k__law_tree Z) b G__law_pick (g__law_pick Z) (k__law_pick Z) b__law_pick G__law_draw (g__law_draw Z) (k__law_draw Z) b__law_draw G__law_value (g__law_value Z) (k__law_value Z) b__law_value (mrange Z) G__law_trim (g__law_trim Z) (k__law_trim Z) b__law_trim (mtuple Z) 8, b⟩
theorem D__law_nodes {l : PySem.W.OpenLaw} {base : Heap} (Z : ZZ w K h mg) : ∃ fd, FnOk l.prog w K mg base CX0 21 (He.ga K "_law_nodes") fd ["_law_tree_here"] (spF K (ecK K) 1 (F_law_nodes 20)) ∧ L2.Binds K fd ["_law_tree_here"] [] := by
  obtain ⟨oc, od, osl, kV, doc, pm, an, cdv, ct, lk, cc⟩ := lk__law_nodes Z
  have F := fun_mk (st := s_law_nodes) lk cc (k__law_nodes Z)
  have b := F.binds (ps := ["_law_tree_here"]) fun _ _ _ _ _ _ us hl => match us, hl with | [_], _ => rfl
  obtain ⟨d__law_parts, G__law_parts, b__law_parts⟩ := D__law_parts (l := l) (base := base) Z
  exact ⟨_, ok_law_nodes (P := l.prog) (w := w) (base := base) (mg := mg) (ec := ecK K) F (g__law_nodes Z) (k__law_nodes Z) b G__law_parts (g__law_parts Z) (k__law_parts Z) b__law_parts (msum Z) 20, b⟩
theorem D__law_term_names {l : PySem.W.OpenLaw} {base : Heap} (Z : ZZ w K h mg) : ∃ fd, FnOk l.prog w K mg base CX0 2 (He.ga K "_law_term_names") fd ["_law_rng"] (spM K (ecK K) (fun k => k = .lst) 0 F_law_term_names) ∧ L2.Binds K fd ["_law_rng"] [] := by
  obtain ⟨oc, od, osl, kV, doc, pm, an, cdv, ct, lk, cc⟩ := lk__law_term_names Z
  have F := fun_mk (st := s_law_term_names) lk cc (k__law_term_names Z)
  have b := F.binds (ps := ["_law_rng"]) fun _ _ _ _ _ _ us hl => match us, hl with | [_], _ => rfl
  obtain ⟨d__law_draw, G__law_draw, b__law_draw⟩ := D__law_draw (l := l) (base := base) Z
  exact ⟨_, ok_law_term_names (P := l.prog) (w := w) (base := base) (mg := mg) (ec := ecK K) F G__law_draw (g__law_draw Z) (k__law_draw Z) b__law_draw (mrange Z) (mlen Z), b⟩
theorem D__law_same {l : PySem.W.OpenLaw} {base : Heap} (Z : ZZ w K h mg) : ∃ fd, FnOk l.prog w K mg base CX0 14 (He.ga K "_law_same") fd ["_law_result", "_law_expected"] (spF K (ecK K) 2 (F_law_same 14)) ∧ L2.Binds K fd ["_law_result", "_law_expected"] [] := by
  obtain ⟨oc, od, osl, kV, doc, pm, an, cdv, ct, lk, cc⟩ := lk__law_same Z
  have F := fun_mk (st := sSame) lk cc (k__law_same Z)
  have b := F.binds (ps := ["_law_result", "_law_expected"]) fun _ _ _ _ _ _ us hl => match us, hl with | [_, _], _ => rfl
  exact ⟨_, ok_law_same (P := l.prog) (w := w) (base := base) (mg := mg) (ec := ecK K) F (g__law_same Z) (k__law_same Z) b (misinstance Z) (mstr Z) (mint Z) (mbool Z) (mtuple Z) (mlist Z) (mzip Z) (mall Z) (mlen Z) 14, b⟩
theorem D__law_level {l : PySem.W.OpenLaw} {base : Heap} (Z : ZZ w K h mg) : ∃ fd, FnOk l.prog w K mg base CX0 1 (He.ga K "_law_level") fd ["_law_tree_here"] (spF K (ecK K) 1 F_law_level) ∧ L2.Binds K fd ["_law_tree_here"] [] := by
  obtain ⟨oc, od, osl, kV, doc, pm, an, cdv, ct, lk, cc⟩ := lk__law_level Z
  have F := fun_mk (st := s_law_level) lk cc (k__law_level Z)
  have b := F.binds (ps := ["_law_tree_here"]) fun _ _ _ _ _ _ us hl => match us, hl with | [_], _ => rfl
  exact ⟨_, ok_law_level (P := l.prog) (w := w) (base := base) (mg := mg) (ec := ecK K) F , b⟩
theorem DG_GT {l : PySem.W.OpenLaw} {base : Heap} (Z : ZZ w K h mg) : ∃ fd__law_text fd__law_operand, (FnOk l.prog w K mg base CX0 26 (He.ga K "_law_text") fd__law_text ["_law_tree_here"] (spF K (ecK K) 1 (GT 24).x_law_text) ∧ L2.Binds K fd__law_text ["_law_tree_here"] []) ∧ (FnOk l.prog w K mg base CX0 26 (He.ga K "_law_operand") fd__law_operand ["_law_tree_here", "_law_level_here"] (spF K (ecK K) 2 (GT 24).x_law_operand) ∧ L2.Binds K fd__law_operand ["_law_tree_here", "_law_level_here"] []) := by
  obtain ⟨oc, od, osl, kV, doc, pm, an, cdv, ct, lk_, cc_⟩ := lk__law_text Z
  have F__law_text := fun_mk (st := s_law_text) lk_ cc_ (k__law_text Z)
  have b__law_text := F__law_text.binds (ps := ["_law_tree_here"]) fun _ _ _ _ _ _ us hl => match us, hl with | [_], _ => rfl
  obtain ⟨oc, od, osl, kV, doc, pm, an, cdv, ct, lk_, cc_⟩ := lk__law_operand Z
  have F__law_operand := fun_mk (st := s_law_operand) lk_ cc_ (k__law_operand Z)
  have b__law_operand := F__law_operand.binds (ps := ["_law_tree_here", "_law_level_here"]) fun _ _ _ _ _ _ us hl => match us, hl with | [_, _], _ => rfl
  obtain ⟨d__law_level, G__law_level, b__law_level⟩ := D__law_level (l := l) (base := base) Z
  obtain ⟨d__law_numbers_text, G__law_numbers_text, b__law_numbers_text⟩ := D__law_numbers_text (l := l) (base := base) Z
  obtain ⟨G__law_text, G__law_operand⟩ := ok_GT (P := l.prog) (w := w) (base := base) (mg := mg) (ec := ecK K) F__law_text (g__law_text Z) (k__law_text Z) b__law_text F__law_operand (g__law_operand Z) (k__law_operand Z) b__law_operand G__law_level (g__law_level Z) (k__law_level Z) b__law_level (mstr Z) G__law_numbers_text (g__law_numbers_text Z) (k__law_numbers_text Z) b__law_numbers_text 24
  exact ⟨_, _, ⟨G__law_text, b__law_text⟩, ⟨G__law_operand, b__law_operand⟩⟩
theorem D__law_text {l : PySem.W.OpenLaw} {base : Heap} (Z : ZZ w K h mg) : ∃ fd, FnOk l.prog w K mg base CX0 26 (He.ga K "_law_text") fd ["_law_tree_here"] (spF K (ecK K) 1 (GT 24).x_law_text) ∧ L2.Binds K fd ["_law_tree_here"] [] := by
  obtain ⟨fd__law_text, fd__law_operand, r__law_text, r__law_operand⟩ := DG_GT (l := l) (base := base) Z
  exact ⟨_, r__law_text⟩
theorem D__law_operand {l : PySem.W.OpenLaw} {base : Heap} (Z : ZZ w K h mg) : ∃ fd, FnOk l.prog w K mg base CX0 26 (He.ga K "_law_operand") fd ["_law_tree_here", "_law_level_here"] (spF K (ecK K) 2 (GT 24).x_law_operand) ∧ L2.Binds K fd ["_law_tree_here", "_law_level_here"] [] := by
  obtain ⟨fd__law_text, fd__law_operand, r__law_text, r__law_operand⟩ := DG_GT (l := l) (base := base) Z
  exact ⟨_, r__law_operand⟩
theorem D_operands {l : PySem.W.OpenLaw} {base : Heap} (Z : ZZ w K h mg) : ∃ fd, FnOk l.prog w K mg base CX0 1 (He.ga K "operands") fd ["tree"] (spF K (ecK K) 1 F_operands) ∧ L2.Binds K fd ["tree"] [] := by
  obtain ⟨oc, od, osl, kV, doc, pm, an, cdv, ct, lk, cc⟩ := lk_operands Z
  have F := fun_mk (st := s_operands) lk cc (k_operands Z)
  have b := F.binds (ps := ["tree"]) fun _ _ _ _ _ _ us hl => match us, hl with | [_], _ => rfl
  exact ⟨_, ok_operands (P := l.prog) (w := w) (base := base) (mg := mg) (ec := ecK K) F (g_OPERAND_PLACES Z) (D_OPERAND_PLACES Z) (t_OPERAND_PLACES Z), b⟩
theorem D_with_operands {l : PySem.W.OpenLaw} {base : Heap} (Z : ZZ w K h mg) : ∃ fd, FnOk l.prog w K mg base CX0 1 (He.ga K "with_operands") fd ["tree", "found"] (spF K (ecK K) 2 F_with_operands) ∧ L2.Binds K fd ["tree", "found"] [] := by
  obtain ⟨oc, od, osl, kV, doc, pm, an, cdv, ct, lk, cc⟩ := lk_with_operands Z
  have F := fun_mk (st := s_with_operands) lk cc (k_with_operands Z)
  have b := F.binds (ps := ["tree", "found"]) fun _ _ _ _ _ _ us hl => match us, hl with | [_, _], _ => rfl
  exact ⟨_, ok_with_operands (P := l.prog) (w := w) (base := base) (mg := mg) (ec := ecK K) F (mtuple Z) (g_OPERAND_PLACES Z) (D_OPERAND_PLACES Z) (t_OPERAND_PLACES Z) (mzip Z) (mlist Z), b⟩
theorem D_put_step {l : PySem.W.OpenLaw} {base : Heap} (Z : ZZ w K h mg) : ∃ fd, FnOk l.prog w K mg base CX0 21 (He.ga K "put_step") fd ["tree", "steps", "indexes"] (spM2 K (ecK K) (kTab P w) (F_put_step 20)) ∧ L2.Binds K fd ["tree", "steps", "indexes"] [] := by
  obtain ⟨oc, od, osl, kV, doc, pm, an, cdv, ct, lk, cc⟩ := lk_put_step Z
  have F := fun_mk (st := s_put_step) lk cc (k_put_step Z)
  have b := F.binds (ps := ["tree", "steps", "indexes"]) fun _ _ _ _ _ _ us hl => match us, hl with | [_, _, _], _ => rfl
  obtain ⟨d_operands, G_operands, b_operands⟩ := D_operands (l := l) (base := base) Z
  obtain ⟨d_with_operands, G_with_operands, b_with_operands⟩ := D_with_operands (l := l) (base := base) Z
  exact ⟨_, ok_put_step (P := l.prog) (w := w) (base := base) (mg := mg) (ec := ecK K) F (g_put_step Z) (k_put_step Z) b (mlen Z) G_operands (g_operands Z) (k_operands Z) b_operands G_with_operands (g_with_operands Z) (k_with_operands Z) b_with_operands 20, b⟩
theorem D_planned {l : PySem.W.OpenLaw} {base : Heap} (Z : ZZ w K h mg) : ∃ fd, FnOk l.prog w K mg base CX0 22 (He.ga K "planned") fd ["trees"] (spF K (ecK K) 1 F_planned) ∧ L2.Binds K fd ["trees"] [] := by
  obtain ⟨oc, od, osl, kV, doc, pm, an, cdv, ct, lk, cc⟩ := lk_planned Z
  have F := fun_mk (st := s_planned) lk cc (k_planned Z)
  have b := F.binds (ps := ["trees"]) fun _ _ _ _ _ _ us hl => match us, hl with | [_], _ => rfl
  obtain ⟨d_put_step, G_put_step, b_put_step⟩ := D_put_step (l := l) (base := base) Z
  exact ⟨_, ok_planned (P := l.prog) (w := w) (base := base) (mg := mg) (ec := ecK K) F G_put_step (g_put_step Z) (k_put_step Z) b_put_step, b⟩
theorem D_compiled {l : PySem.W.OpenLaw} {base : Heap} (Z : ZZ w K h mg) : FnR l.prog w K mg base CX0 23 (He.ga K "compiled") (spFv K (ecK K) F_compiled) := by
  obtain ⟨oc, od, osl, kV, doc, pm, an, cdv, ct, lk, cc⟩ := lk_compiled Z
  obtain ⟨d_planned, G_planned, b_planned⟩ := D_planned (l := l) (base := base) Z
  exact ok_compiled (P := l.prog) (w := w) (base := base) (mg := mg) (ec := ecK K) lk cc G_planned (g_planned Z) (k_planned Z) b_planned
theorem D_plan_trees {l : PySem.W.OpenLaw} {base : Heap} (Z : ZZ w K h mg) : ∃ fd, FnOk l.prog w K mg base CX0 2 (He.ga K "plan_trees") fd ["plan"] (spF K (ecK K) 1 F_plan_trees) ∧ L2.Binds K fd ["plan"] [] := by
  obtain ⟨oc, od, osl, kV, doc, pm, an, cdv, ct, lk, cc⟩ := lk_plan_trees Z
  have F := fun_mk (st := s_plan_trees) lk cc (k_plan_trees Z)
  have b := F.binds (ps := ["plan"]) fun _ _ _ _ _ _ us hl => match us, hl with | [_], _ => rfl
  obtain ⟨d_operands, G_operands, b_operands⟩ := D_operands (l := l) (base := base) Z
  obtain ⟨d_with_operands, G_with_operands, b_with_operands⟩ := D_with_operands (l := l) (base := base) Z
  exact ⟨_, ok_plan_trees (P := l.prog) (w := w) (base := base) (mg := mg) (ec := ecK K) F G_operands (g_operands Z) (k_operands Z) b_operands G_with_operands (g_with_operands Z) (k_with_operands Z) b_with_operands, b⟩
theorem D__law_steps {l : PySem.W.OpenLaw} {base : Heap} (Z : ZZ w K h mg) : ∃ fd, FnOk l.prog w K mg base CX0 21 (He.ga K "_law_steps") fd ["_law_tree_here", "_law_steps_here", "_law_trees"] (spM2 K (ecK K) (fun k => ∃ y, k = .two y) (F_law_steps 20)) ∧ L2.Binds K fd ["_law_tree_here", "_law_steps_here", "_law_trees"] [] := by
  obtain ⟨oc, od, osl, kV, doc, pm, an, cdv, ct, lk, cc⟩ := lk__law_steps Z
  have F := fun_mk (st := s_law_steps) lk cc (k__law_steps Z)
  have b := F.binds (ps := ["_law_tree_here", "_law_steps_here", "_law_trees"]) fun _ _ _ _ _ _ us hl => match us, hl with | [_, _, _], _ => rfl
  obtain ⟨d__law_parts, G__law_parts, b__law_parts⟩ := D__law_parts (l := l) (base := base) Z
  exact ⟨_, ok_law_steps (P := l.prog) (w := w) (base := base) (mg := mg) (ec := ecK K) F (g__law_steps Z) (k__law_steps Z) b (mtuple Z) (mlen Z) G__law_parts (g__law_parts Z) (k__law_parts Z) b__law_parts 20, b⟩
theorem D__law_compiled {l : PySem.W.OpenLaw} {base : Heap} (Z : ZZ w K h mg) : ∃ fd, FnOk l.prog w K mg base CX0 24 (He.ga K "_law_compiled") fd ["_law_some"] (spN K (ecK K) 1 F_law_compiled) ∧ L2.Binds K fd ["_law_some"] [] := by
  obtain ⟨oc, od, osl, kV, doc, pm, an, cdv, ct, lk, cc⟩ := lk__law_compiled Z
  have F := fun_mk (st := s_law_compiled) lk cc (k__law_compiled Z)
  have b := F.binds (ps := ["_law_some"]) fun _ _ _ _ _ _ us hl => match us, hl with | [_], _ => rfl
  exact ⟨_, ok_law_compiled (P := l.prog) (w := w) (base := base) (mg := mg) (ec := ecK K) F (D_compiled (l := l) (base := base) Z) (g_compiled Z) (k_compiled Z) (mlen Z), b⟩
theorem D__law_wanted_tree {l : PySem.W.OpenLaw} {base : Heap} (Z : ZZ w K h mg) : ∃ fd, FnOk l.prog w K mg base CX0 27 (He.ga K "_law_wanted_tree") fd ["_law_rng", "_law_deep", "_law_names"] (spM K (ecK K) (fun k => k = .lst) 2 F_law_wanted_tree) ∧ L2.Binds K fd ["_law_rng", "_law_deep", "_law_names"] [] := by
  obtain ⟨oc, od, osl, kV, doc, pm, an, cdv, ct, lk, cc⟩ := lk__law_wanted_tree Z
  have F := fun_mk (st := s_law_wanted_tree) lk cc (k__law_wanted_tree Z)
  have b := F.binds (ps := ["_law_rng", "_law_deep", "_law_names"]) fun _ _ _ _ _ _ us hl => match us, hl with | [_, _, _], _ => rfl
  obtain ⟨d__law_nodes, G__law_nodes, b__law_nodes⟩ := D__law_nodes (l := l) (base := base) Z
  obtain ⟨d__law_text, G__law_text, b__law_text⟩ := D__law_text (l := l) (base := base) Z
  obtain ⟨d__law_tree, G__law_tree, b__law_tree⟩ := D__law_tree (l := l) (base := base) Z
  exact ⟨_, ok_law_wanted_tree (P := l.prog) (w := w) (base := base) (mg := mg) (ec := ecK K) F G__law_nodes (g__law_nodes Z) (k__law_nodes Z) b__law_nodes G__law_text (g__law_text Z) (k__law_text Z) b__law_text (mlen Z) G__law_tree (g__law_tree Z) (k__law_tree Z) b__law_tree, b⟩
theorem factsR {l : PySem.W.OpenLaw} {f0 : Addr} (hmg : mg ("law" : Str) = some (.ref f0)) (Z : ZZ w K h mg) : LamX.LawAtS l w K CX0 28 63 "_law_script" mg f0 h := by
  have e0 := hmg.symm.trans (g_law Z)
  cases e0
  obtain ⟨oc, od, osl, kV, doc, pm, an, cdv, ct, lk, cc⟩ := lk_law Z
  refine ⟨PySem.W.fnOf "law" "law" (defArgs sLaw) (defBody sLaw) (defScope sLaw) .none kV doc pm an cdv ct, [], spLawN K, fun p hp => (nomatch hp), fun p hp => (nomatch hp), fun p hp => (nomatch hp), fun s v => .of_eq rfl, fun H a ns hl _ hH hS => ⟨a, ns, rfl, hS, hl, fun _ => rfl⟩, fun base _ _ hTB => ?_⟩
  have F := fun_mk (st := sLaw) lk cc (k_law Z)
  obtain ⟨d__law_compiled, G__law_compiled, b__law_compiled⟩ := D__law_compiled (l := l) (base := base) Z
  obtain ⟨d__law_draw, G__law_draw, b__law_draw⟩ := D__law_draw (l := l) (base := base) Z
  obtain ⟨d__law_draws, G__law_draws, b__law_draws⟩ := D__law_draws (l := l) (base := base) Z
  obtain ⟨d__law_nodes, G__law_nodes, b__law_nodes⟩ := D__law_nodes (l := l) (base := base) Z
  obtain ⟨d__law_same, G__law_same, b__law_same⟩ := D__law_same (l := l) (base := base) Z
  obtain ⟨d__law_steps, G__law_steps, b__law_steps⟩ := D__law_steps (l := l) (base := base) Z
  obtain ⟨d__law_term_names, G__law_term_names, b__law_term_names⟩ := D__law_term_names (l := l) (base := base) Z
  obtain ⟨d__law_text, G__law_text, b__law_text⟩ := D__law_text (l := l) (base := base) Z
  obtain ⟨d__law_wanted_tree, G__law_wanted_tree, b__law_wanted_tree⟩ := D__law_wanted_tree (l := l) (base := base) Z
  obtain ⟨d_plan_trees, G_plan_trees, b_plan_trees⟩ := D_plan_trees (l := l) (base := base) Z
  exact ok_law (P := l.prog) (w := w) (base := base) (mg := mg) (ec := ecK K) F G__law_draws (g__law_draws Z) (k__law_draws Z) b__law_draws G__law_term_names (g__law_term_names Z) (k__law_term_names Z) b__law_term_names G__law_draw (g__law_draw Z) (k__law_draw Z) b__law_draw G__law_wanted_tree (g__law_wanted_tree Z) (k__law_wanted_tree Z) b__law_wanted_tree G__law_text (g__law_text Z) (k__law_text Z) b__law_text (mlen Z) G__law_nodes (g__law_nodes Z) (k__law_nodes Z) b__law_nodes (mrange Z) G__law_steps (g__law_steps Z) (k__law_steps Z) b__law_steps G__law_compiled (g__law_compiled Z) (k__law_compiled Z) b__law_compiled G_plan_trees (g_plan_trees Z) (k_plan_trees Z) b_plan_trees G__law_same (g__law_same Z) (k__law_same Z) b__law_same law_ok
end
end RB

set_option Elab.async false
set_option linter.all false
set_option maxRecDepth 100000
set_option maxHeartbeats 4000000
open PySem PySem.W PySem.Calls PyProof.Rows
set_option maxHeartbeats 0 in
theorem PySem.Challenge.cw_rootbags_k58_plans_of_trees_holds : PySem.Challenge.rw_rootbags_k58_plans_of_trees.Holds := by
  w_on; o_law
  refine HandSHeadRun.head_any (r := OpenLaw.row PySem.Challenge.rw_rootbags_k58_plans_of_trees) (q := view (OpenLaw.row PySem.Challenge.rw_rootbags_k58_plans_of_trees).prog [30]) (H := RB.hkR) (ob := RB.obR) (M := 60000) (loose := RB.looseR) (d := HandSHeadRun.topDef (OpenLaw.row PySem.Challenge.rw_rootbags_k58_plans_of_trees).prog 30) (kwd := []) RB.obR_eq
    (by kernel_rfl) (fun s => by kernel_rfl) RB.runR (by kernel_rfl) (by kernel_rfl) (by kernel_rfl) (by rfl) (by first | assumption | decide +kernel) (by decide +kernel) ⟨rfl, rfl, rfl, rfl, rfl, by decide +kernel⟩ ?hw ?hc
  case hw => w_witness2
  case hc =>
    refine LamX.walk_ofTsE (l := PySem.Challenge.rw_rootbags_k58_plans_of_trees) (n := 63) (k := 28) (x := "_law_script") (CX := fun _ => L2.CX0) rfl (by decide) (by kernel_rfl) ⟨rfl, by decide, by decide⟩ ?F (fun _ _ _ _ _ z => z)
    intro w mg fa h Y G hmg0
    obtain ⟨K, KX, c, tt⟩ := Y
    have hmg : mg ("law" : PySem.Str) = some (.ref fa) := by
      have e : (HandSHeadRun.topDef (OpenLaw.row PySem.Challenge.rw_rootbags_k58_plans_of_trees).prog 30).name = ("law" : PySem.Str) := by kernel_rfl
      rw [← e]
      exact hmg0
    exact ⟨K, KX, RB.factsR hmg ⟨KX, G, c, tt⟩⟩

