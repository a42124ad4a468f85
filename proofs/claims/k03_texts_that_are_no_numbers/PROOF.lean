import PyProof.Rows.All
import Wide.All
import OpenK.AllK
import Wide.FinOn
import PySem.Challenge.RW_rootbags_k03_texts_that_are_no_numbers
import HandS.ExcInit
import HandS.ExcOwn
import HandS.HotCalls
import HandS.Lambda
import HandS.ClsMeth
import HandS.Defaults
import HandS.Words
import HandS.ExcField
import HandS.Iter
import HandS.Zip
import HandS.IsInst
import HandS.Wide
import HandS.WordsExc
import HandS.EndTab
import HandS.Codes
import HandS.StrMore
import HandS.WideBits
import HandS.Style
set_option Elab.async false
set_option linter.all false
set_option maxRecDepth 100000
set_option maxHeartbeats 2000000
namespace RB
open PySem PySem.Spec PyProof.Rows L2

/-! ## errors of the program: made without arguments -/
section
variable {X : Cx}
/-- the class at C is called: its instance is made, its own __init__ runs -/
theorem exc_call {CX : CXT} {C fI : Addr} {k : Nat} {fd : FuncData} {ps : List Str} {sp : Sp} {pins : List (Addr × Obj)} {σ : L2.St} {H : Hp} {s : Shared} {Q : XK} (T : OexC X.K C)
    (iC : PySem.W.findIn X.K (.ref C) "__init__" = some (some (.ref fI))) (tI : PySem.W.typeIn X.K (.ref fI) = some (.type "function"))
    (F1 : FnOk X.prog X.w X.K X.mg X.base CX k fI fd ps sp) (hr : Room (k + 1) X.A) (hb : L2.Binds X.K fd ps []) (hx : Passes CX X (fun _ _ _ => False)) (I : Inv X pins σ H s)
    (h : ∀ a, H a = none → sp [.ref a] (upd H a (exo a C none)) (fun v H2 => v = .non ∧ ∃ (d : Addr) (fs : List (Str × V)), H2 a = some (exo a C (some d)) ∧ H2 d = some (exd d fs) ∧ H d = none ∧ Q (.ref C) (some d) (upd (del H2 a) d (.xd fs))) (fun _ _ _ => False)) :
    wpAny (model X.prog X.w) X.A (call (.ref C) []) (MkP X pins σ Q) X.xe s := by
  obtain ⟨nm, q, N, bs, bm, sn, sub, ab, col, dd, k0, k1, k2, k3, k5, hC, hbm⟩ := T.cls
  obtain ⟨hp, g, dr, tk, os⟩ := s
  let e : Addr := hp.objs.size + 1
  have he : hp.objs.size ≤ e := Nat.le_succ _
  have hp2 := h e (I.hok.fresh he)
  let h2 : Heap := (hp.push (PySem.W.kdv_tup [])).push (PySem.HandSPX.excO C hp.objs.size)
  have kk : ∀ b o, hp.get? b = some o → h2.get? b = some o := fun b o z => Heap.get?_push_of_some _ (Heap.get?_push_of_some _ z)
  have hget : h2.get? e = some (PySem.HandSPX.excO C hp.objs.size) := by
    show ((hp.push (PySem.W.kdv_tup [])).push (PySem.HandSPX.excO C hp.objs.size)).get? (hp.objs.size + 1) = _
    heap_get
  have J : Inv X pins σ (upd H e (exo e C none)) ⟨h2, g, dr, tk, os⟩ := I.laid (t' := tk) (a := e) (o := exo e C none) (h' := h2) kk he (exo_ok hget)
  have rv : Vals [V.ref e] [Value.ref e] := .cons rfl .nil
  have hl : ([Value.ref e] ++ []).length = ps.length := F1.len _ _ _ _ hp2
  refine wpAny_call (PySem.HandSPX.call_own F.excBase_ValueError (fun Y => PySem.HandSPX.refsVE_contains Y bm hbm) (I.kIn _ _ hC) (PySem.W.looks_findIn I.kIn iC) (fun self => PySem.W.bind_fn I.kIn self tI) (Nat.zero_le _) ?_)
  have b0 := hb ⟨h2, g, dr, tk, os⟩ [Value.ref e] J.kIn hl
  rw [List.append_nil] at b0
  refine codeAny_mono (F1.run _ X.stack _ _ ⟨[Value.ref e], []⟩ [Value.ref e] _ _ (fun _ _ _ => False) (hr.make C [] []) (J.env0.make C [] []) b0 rv hp2) fun r s' hq => ?_
  cases r with
  | error er => exact hx pins σ _ _ er s' J hq
  | ok fl =>
    cases fl with
    | ret u =>
      obtain ⟨v, H2, os2, bare2, un2, hok2, rv2, ev, d, fs, ea, ed, hd1, q2⟩ := hq
      subst ev
      obtain ⟨hh, g2, d2, t2, os'⟩ := s'
      exact ⟨rv2, mk_end (raises_own T.exC T.tyC) I he kk un2 hok2 os2 bare2 ea ed hd1 q2⟩
    | next => exact hq.elim
    | brk => exact hq.elim
    | cont => exact hq.elim
/-- an error of the program that takes no argument: what its class and its __init__ must have -/
structure Err0 (P : Program) (w : World) (K : PySem.W.Frag) (mg : Str → Option Value) (base : Heap) (k : Nat) (x code : Str) (C : Addr) : Prop where
  oex : OexC K C
  gC : mg x = some (.ref C)
  ini : ∃ (fI : Addr) (fd : FuncData) (ps : List Str), PySem.W.findIn K (.ref C) "__init__" = some (some (.ref fI)) ∧ PySem.W.typeIn K (.ref fI) = some (.type "function") ∧ L2.Binds K fd ps [] ∧
    FnOk P w K mg base CX0 k fI fd ps (fun vs H Q _ => ∃ a, vs = [.ref a] ∧ H a = some (exo a C none) ∧ ∀ dx, H dx = none → dx ≠ a → Q .non (upd (upd H dx (exd dx [("code", .str code)])) a (exo a C (some dx))))
/-- its reading: the error's own dict is new -/
def tErr0 (C : Addr) (code : Str) : L2.St → Hp → XK → Prop := fun _ H Q => ∀ d, H d = none → Q (.ref C) (some d) (upd H d (.xd [("code", .str code)]))
theorem pmk0 {k : Nat} {x code : Str} {C : Addr} {p pos : Pos} (T : Err0 X.prog X.w X.K X.mg X.base k x code C) (hr : Room (k + 1) X.A) (hg : Gl X x) (hdb : (x == ("__debug__" : Str)) = false := by decide) :
    PMk X (.Call (.Name x p) [] [] pos) (tErr0 C code) := by
  intro pins s σ H Q I h
  obtain ⟨fI, fd, ps, iC, tI, hb, F1⟩ := T.ini
  refine wpAny_Call_Name_kw (ld_glob I hg T.gC ?_ hdb)
  refine PySem.W.callWith_K0 I.kIn T.oex.kC (exc_call T.oex iC tI F1 hr hb pass0 I fun a na => ?_)
  refine ⟨a, rfl, upd_same, fun dx ndx dne => ⟨rfl, dx, [("code", .str code)], upd_same, ?_, ?_, ?_⟩⟩
  · rw [upd_ne dne, upd_same]
  · rw [upd_ne dne] at ndx
    exact ndx
  · have hd : H dx = none := by
      rw [upd_ne dne] at ndx
      exact ndx
    have e : upd (del (upd (upd (upd H a (exo a C none)) dx (exd dx [("code", .str code)])) a (exo a C (some dx))) a) dx (.xd [("code", .str code)]) = upd H dx (.xd [("code", .str code)]) := by
      funext b
      by_cases hb1 : b = dx
      · rw [hb1, upd_same, upd_same]
      · rw [upd_ne hb1, upd_ne hb1]
        by_cases hb2 : b = a
        · rw [hb2, del_same, na]
        · rw [del_ne hb2, upd_ne hb2, upd_ne hb1, upd_ne hb2]
    rw [e]
    exact h dx hd
end

/-! ## Base.__init__(self, ..) -/
section
variable {X : Cx}
theorem pe_bcall {CX : CXT} {k : Nat} {f B : Addr} {fd : FuncData} {ps : List Str} {sp : Sp} {E : XK} {x m : Str} {q apos pos : Pos} {e : Expr} {es : List Expr} {t : TA} {mc : Value} {pl : Sem Bool}
    (hg : Gl X x) (hm : X.mg x = some (.ref B)) (r : ClX.CRead X.K B mc) (at_ : PySem.W.findCls X.K (.ref B) mc m = some (.val (.ref f))) (kp : PySem.W.keepIn X.K (.ref f) = true)
    (F : FnOk X.prog X.w X.K X.mg X.base CX k f fd ps sp) (hr : Room k X.A) (hb : L2.Binds X.K fd ps []) (hx : Passes CX X E) (ha : PA X (e :: es) t) (hdb : (x == ("__debug__" : Str)) = false := by decide)
    (hst : starEach (e :: es) X.env = (false, eval e X.env) :: starEach es X.env := by rfl) (hpl : (backTo pos (starEach es X.env)).any (·.1) = false := by rfl)
    (ht : eval (.Call (.Attribute (.Name x q) m apos) (e :: es) [] pos) X.env = (do
      let ov ← eval (.Name x q) X.env
      standAt apos.atName
      let (f, first) ← holding [ov] (getMethod ov m pl)
      callWith pos f first (backTo pos (starEach (e :: es) X.env)) (backToKw pos (keywordEach [] X.env))) := by rfl) :
    PE X (.Call (.Attribute (.Name x q) m apos) (e :: es) [] pos) (tCall sp [] E t) := by
  refine ⟨fun pins s σ H Q I h => ?_⟩
  refine PySem.W.methodCall_KW (pl := pl) (ld_glob I hg hm ?_ hdb) ht
  refine PySem.W.method_cls I.kIn r.ga (PySem.W.cls_value I.kIn r.rd at_ rfl ?_)
  refine PySem.W.callWith_K (first := []) (h₀ := X.base) I.ok.mod.kin kp (thn (ha.run pos pins _ σ H _ (I.tok _) h) fun us s2 ⟨vs, H2, I2, r2, q2⟩ => ⟨I2.kIn, ?_⟩) hst hpl
  exact run_fn F hr hb .nil hx I2 r2 q2
end

/-! ## a def that is called while an error is handled: p is the error's object, kept where it stands -/
structure FnP (P : Program) (w : World) (K : PySem.W.Frag) (mg : Str → Option Value) (base : Heap) (k : Nat) (f : Addr) (fd : FuncData) (ps : List Str) (sp : Addr × Obj → Sp) : Prop where
  len : ∀ p vs H Q E, sp p vs H Q E → vs.length = ps.length
  run : ∀ (A : Around) (outer : List Env) (s : Shared) (H : Hp) (us : List Value) (vs : List V) (Q : VK) (p : Addr × Obj), L2H.RoomH k A → L2H.PinOk outer H s p → Env0 P w K mg base A outer s H → BindsTo s fd ⟨us, []⟩ (ps.zip us) → Vals vs us → sp p vs H Q E0 →
    codeAny (model P w) A (.call (.ref f) ⟨us, []⟩) (CR CX0 outer P w H s Q E0) s
theorem fnP_of {P : Program} {w : World} {K : PySem.W.Frag} {mg : Str → Option Value} {base : Heap} {k : Nat} {x : Str} {st : Stmt} {f : Addr} {fd : FuncData} {N ps : List Str} {sp : Addr × Obj → Sp} (F : L2.Fun K x x st f fd) (S : FnScope N ps (defScope st))
    (len : ∀ p vs H Q E, sp p vs H Q E → vs.length = ps.length)
    (hbody : ∀ (cdv : Value) (A : Around) (outer : List Env) (s : Shared) (H : Hp) (vs : List V) (Q : VK) (p : Addr × Obj), sp p vs H Q E0 →
      ∃ t, PSs (L2H.cxH CX0 P w K mg base N x (defScope st) f cdv A outer s H E0 p) (defBody st) t ∧ t { nx := fun _ H' => Q .non H', rt := Q } (L2.start N vs) H) :
    FnP P w K mg base (k + 1) f fd ps sp := by
  obtain ⟨oc, od, kV, doc, pm, an, cdv, ct, osl, rfl, lk, hcd⟩ := F.ex
  refine ⟨len, fun A outer s H us vs Q p hr hpin e0 hb r hsp => ?_⟩
  have hl := len _ _ _ _ _ hsp
  have KX : K.In s.heap := e0.mod.kin.keeps fun b o e => (e0.bs b o e).1
  have lim : s.heap.NoLimit := e0.mod.nolimit.keeps fun b o e => (e0.bs b o e).1
  refine codeAny_call_function hr.depth (KX _ _ lk) rfl S.co S.gen rfl (PySem.W.codeRec_of KX hcd) (hb _ _ _ _ ?_)
  have hkind : ∀ y ∈ ps.zip us, (defScope st).names.lookup y.1 = some .local ∨ ((defScope st).names.lookup y.1 = some .cell ∧ ((cellsFrom (s.heap.objs.size + 1) (defScope st).names []).lookup y.1).isSome = true) := by
    intro y hy
    have hm := (List.of_mem_zip (show (y.1, y.2) ∈ ps.zip us from hy)).1
    exact (S.par y.1 hm).imp (fun q => q) fun q => ⟨q, PySem.W.cellsFrom_some _ _ _ (.inl q)⟩
  refine wpAny_newFunctionEnv_cells S.kind hkind fun env he s1 ic => ?_
  subst he
  refine ⟨lim.keeps ic.toInCall.keep, codeAny_func ?_⟩
  obtain ⟨t, ht, hq⟩ := hbody cdv A outer s H vs Q p hsp
  have J := L2H.inv_startH (CX := CX0) (E := E0) S hpin e0 hl r ic
  refine wpAny_mono (ht.run [] s1 (L2.start N vs) H _ J hq) (fun fl s' hs => ?_) fun e s' hs => hs
  cases fl with
  | ret u => exact let ⟨v, _, H', J', rv, q⟩ := hs; ⟨v, H', J'.os, J'.bare, J'.base, J'.hok, rv, q⟩
  | next => exact let ⟨_, H', J', q⟩ := hs; ⟨V.non, H', J'.os, J'.bare, J'.base, J'.hok, rfl, q⟩
  | brk => exact let ⟨_, _, _, q⟩ := hs; q.elim
  | cont => exact let ⟨_, _, _, q⟩ := hs; q.elim
section
variable {X : Cx}
def tCallP (sp : Addr × Obj → Sp) (p : Addr × Obj) (t : TA) : TE := fun σ H Q => t σ H fun vs H1 => sp p vs H1 Q E0
theorem pe_callP {k : Nat} {f : Addr} {fd : FuncData} {ps : List Str} {sp : Addr × Obj → Sp} {p : Addr × Obj} {x : Str} {q pos : Pos} {e : Expr} {es : List Expr} {t : TA} (F : FnP X.prog X.w X.K X.mg X.base k f fd ps sp) (hr : L2H.RoomH k X.A) (hp : p ∈ X.pn)
    (hg : Gl X x) (hm : X.mg x = some (.ref f)) (hk : PySem.W.keepIn X.K (.ref f) = true) (hb : L2.Binds X.K fd ps []) (ha : PA X (e :: es) t) (hdb : (x == ("__debug__" : Str)) = false := by decide)
    (he : starEach (e :: es) X.env = (false, eval e X.env) :: starEach es X.env := by rfl) (hpl : (backTo pos (starEach es X.env)).any (·.1) = false := by rfl) :
    PE X (.Call (.Name x q) (e :: es) [] pos) (tCallP sp p t) := by
  refine ⟨fun pins s σ H Q I h => ?_⟩
  refine wpAny_Call_Name_kw (ld_glob I hg hm ?_ hdb)
  refine PySem.W.callWith_K (h₀ := X.base) I.ok.mod.kin hk (thn (ha.run pos pins s σ H _ I h) fun us s1 ⟨vs, H1, I1, r, q⟩ => ⟨I1.kIn, ?_⟩) he hpl
  have hl : (us ++ []).length = ps.length := by
    rw [List.append_nil, ← r.length]
    exact F.len _ _ _ _ _ q
  have b := hb s1 us I1.kIn hl
  rw [List.append_nil] at b
  obtain ⟨p1, p2, p3, p4, p5⟩ := I1.pin p (List.mem_append_left _ hp)
  have pin : L2H.PinOk X.stack H1 s1 p := ⟨p1, p2, fun z => (List.mem_cons.mp (I1.stkSub p.1 z)).elim p3 p4, p5⟩
  refine wpAny_call (codeAny_mono (F.run X.A X.stack s1 H1 us vs Q p hr pin I1.env0 b r q) fun r s' hq => ?_)
  cases r with
  | error e => exact (show False from hq).elim
  | ok fl =>
    cases fl with
    | ret u => exact I1.after hq
    | next => exact False.elim hq
    | brk => exact False.elim hq
    | cont => exact False.elim hq
/-- err.n, err the handled error p -/
def tXP (p : Addr × Obj) (n : Str) (te : TE) : TE := fun σ H Q => te σ H fun x H1 => x = .ref p.1 ∧ ∃ (dd : Addr) (fs : List (Str × V)) (v : V), p.2.dict = some dd ∧ H1 dd = some (.xd fs) ∧ fs.lookup n = some v ∧ Q v H1
theorem pe_xp {p : Addr × Obj} {C : Addr} {n : Str} {e : Expr} {te : TE} {pos : Pos} (T : XfC X.K C) (hno : PySem.W.findIn X.K (.ref C) n = some none) (hp : p ∈ X.pn) (hc : p.2.cls = .ref C) (hf : ∃ vs, p.2.data = .fields vs) (he : PE X e te)
    (hb : attributeBase e n X.env (eval e X.env) = eval e X.env := by rfl) : PE X (.Attribute e n pos) (tXP p n te) := by
  refine ⟨fun pins s σ H Q I h => ?_⟩
  refine attr_of hb (thn (he.run pins s σ H _ I h) fun u s1 ⟨x, H1, I1, rx, ex, dd, fs, v, ed, hx, l, q⟩ => ?_)
  subst ex
  cases (show u = Value.ref p.1 from rx)
  obtain ⟨mA, hns, rel⟩ := (show ObjOk X.prog X.w H1 s1.heap dd (.xd fs) from I1.hok dd _ hx)
  obtain ⟨od, ho, hl⟩ := lookIn_ns hns
  have rv := rel n
  rw [l] at rv
  obtain ⟨u, hu, ru⟩ := RelO.some_of rv
  obtain ⟨vs, hd⟩ := hf
  have at_ : PySem.W.InstAt s1.heap p.1 p.2 C (some od) := ⟨(I1.pin p (List.mem_append_left _ hp)).1, hc, by unfold PySem.W.notCls; rw [hd] <;> rfl, by rw [ed]; exact ho⟩
  exact HandSPX.exc_get I1.kIn at_ T.ga T.gg T.exC (PySem.W.findObj_own T.hdC hno rfl (by rw [hl, hu])) (handed_of ru) ⟨v, H1, I1.tok _, ru, q⟩
end

/-! ## try .. with several clauses that name the error, all by one name -/
abbrev Suites := List (Value × (Addr → Value → Option Addr → TS))
/-- what is wanted behind a suite, once the name is gone again -/
def gone (i : Nat) (D : Ends) : Ends := { nx := fun σ H => D.nx (σ.set i none) H, rt := D.rt, bk := fun σ H => D.bk (σ.set i none) H, ct := fun σ H => D.ct (σ.set i none) H }
def wNamed (K : PySem.W.Frag) (m i : Nat) (D : Ends) : Suites → WX
  | [] => fun _ _ _ _ => False
  | (c, ts) :: r => fun cls d σ H => ∃ b, PySem.W.exmOne K cls c = some b ∧ (b = true → ∀ a, H a = none → σ.length = m → ts a cls d (gone i D) (σ.set i (some (.ref a))) H) ∧ (b = false → wNamed K m i D r cls d σ H)
inductive Named (X : Cx) (n : Str) : List ExceptHandler → Suites → Prop
  | nil : Named X n [] []
  | cons {x : Str} {c : Value} {ts : Addr → Value → Option Addr → TS} {b₀ : Stmt} {su : List Stmt} {np pos' : Pos} {hds : List ExceptHandler} {l : Suites} (hc : Names X x c)
      (hsu : ∀ (a : Addr) (oe : Obj) (cls : Value) (d : Option Addr) (pn : List (Addr × Obj)), Zc cls d oe → (∃ vs, oe.data = .fields vs) → PSs (X.suite a ((a, oe) :: pn)) (b₀ :: su) (ts a cls d)) (r : Named X n hds l) :
      Named X n (.ExceptHandler (some (.Name x np)) (some n) (b₀ :: su) pos' :: hds) ((c, ts) :: l)
section
variable {X : Cx} {n : Str} {i : Nat} {pins : List (Addr × Obj)} {D : Ends}
/-- a suite has run: the name is gone, the error is let go -/
theorem suite_end {a : Addr} {q : Addr × Obj} {pos' : Pos} {f : Flow} {s6 : Shared} (ok : X.Ok) (hN : X.N.Nodup) (hi : X.N[i]? = some n) (hln : X.env.kindOf n = some .local) (h : SP (X.suite a (q :: (X.pn ++ pins))) [] (gone i D) f s6) :
    wpAny (model X.prog X.w) X.A (do bindName X.env n .none; unbindBehindTheSuite X.env n pos') (fun _ s7 => SP X pins D f s7) X.xe s6 := by
  cases f with
  | next => exact let ⟨σ6, H6, S6, q6⟩ := h; gone_ok (S6.unsuite ok) hN hi hln fun s7 J7 => ⟨_, _, J7, q6⟩
  | brk => exact let ⟨σ6, H6, S6, q6⟩ := h; gone_ok (S6.unsuite ok) hN hi hln fun s7 J7 => ⟨_, _, J7, q6⟩
  | cont => exact let ⟨σ6, H6, S6, q6⟩ := h; gone_ok (S6.unsuite ok) hN hi hln fun s7 J7 => ⟨_, _, J7, q6⟩
  | ret u => exact let ⟨v6, σ6, H6, S6, r6, q6⟩ := h; gone_ok (S6.unsuite ok) hN hi hln fun s7 J7 => ⟨_, _, _, J7, r6, q6⟩
/-- the clauses are asked, one after another; the error at a stands on the ground -/
theorem clauses {B : Heap} {a : Addr} {cls : Value} {d : Option Addr} {σ : L2.St} {H : Hp} {sI s' : Shared} (ok : X.Ok) (hs : X.stack = X.env :: X.outer) (hf : X.env.frame = some X.env.locals) (hN : X.N.Nodup) (hi : X.N[i]? = some n) (hln : X.env.kindOf n = some .local)
    (J : Inv X pins σ H sI) (nb : ∀ b o, sI.heap.get? b = some o → b ∉ frs X.stack → B.get? b = some o) (up : sI.heap.UpToSlots s'.heap) (os : s'.os = sI.os) (ag : AllBare s'.gens) (na : H a = none) (fl : HandSPX.FlyingZ B (X.env :: X.outer) a (Zc cls d) s'.heap) :
    ∀ {hds : List ExceptHandler} {l : Suites}, Named X n hds l → wNamed X.K X.N.length i D l cls d σ H → wpAny (model X.prog X.w) X.A (handleBy (.ref a) X.env hds) (SP X pins D) X.xe s' := by
  have ground : ∀ h, HandSPX.FlyingZ B (X.env :: X.outer) a (Zc cls d) h → s'.heap.UpToSlots h → ∃ oe : Obj, Inv (X.suite a ((a, oe) :: (X.pn ++ pins))) [] σ H { s' with heap := h } ∧ Inv X pins σ H { s' with heap := h } ∧ h.get? a = some oe ∧ Zc cls d oe ∧ ∃ vs, oe.data = .fields vs := by
    intro h fl1 up1
    have J1 : Inv X pins σ H { s' with heap := h } := J.landed nb fl1.1 (up.trans up1) os ag
    obtain ⟨oe, vs, he, hz, hd⟩ := fl1.there
    have nfr : a ∉ frs (X.env :: X.outer) := fun hm => by
      obtain ⟨_, o', e', hnf⟩ := fl1.2.2.1.mem hm
      rw [he] at e'
      cases e'
      exact hnf _ hd
    have nL : a ≠ X.env.locals := fun z => nfr (List.mem_filterMap.mpr ⟨X.env, List.mem_cons_self, by rw [hf, z]⟩)
    have nF : a ∉ X.fs := fun hm => by
      obtain ⟨e, he, q⟩ := List.mem_filterMap.mp hm
      exact nfr (List.mem_filterMap.mpr ⟨e, List.mem_cons_of_mem _ he, q⟩)
    exact ⟨oe, J1.suite he hd na nL nF, J1, he, hz, vs, hd⟩
  intro hds l hk
  induction hk with
  | nil => exact fun z => z.elim
  | @cons x c ts b₀ su np pos' hds2 l2 hc hsu r ih =>
    intro w
    obtain ⟨b, hb1, hyes, hno⟩ := w
    obtain ⟨oe3, S3, J3, he3, hz3, _⟩ := ground s'.heap fl (Heap.UpToSlots.refl _)
    refine wpAny_handleBy_cons (codeAny_handlers_test ?_) (by intro q; cases q)
    have LT : PySem.W.Looks (model X.prog X.w) s'.heap (typeOf (.ref a)) cls := fun A Q E s k q => wpAny_typeOf_ref (k _ _ he3) (by rw [hz3.1]; exact q)
    have LM := PySem.W.exm_one (M := model X.prog X.w) J3.kIn LT hb1
    have test : ∀ {Q : Value → Shared → Prop} {E : Value → Shared → Prop}, Q c s' → wpAny (model X.prog X.w) (X.A.mark (some (.ref a))) (eval (.Name x np) X.env) Q E s' := fun {Q E} q => by
      obtain ⟨hg, hdbg, hm | ⟨hm, hv, hnn⟩⟩ := hc
      · exact ld_glob (X := X.suite a ((a, oe3) :: (X.pn ++ pins))) S3 hg hm q hdbg
      · exact ld_blt (X := X.suite a ((a, oe3) :: (X.pn ++ pins))) S3 hg hm hv q hnn hdbg
    refine test (LM.here ?_)
    cases b with
    | true =>
      refine codeAny_handlers_suite_as ?_
      refine HandSPX.lands_againZ fl fun h4 fl4 up4 => ?_
      obtain ⟨oe4, S4, _, _, hz4, hd4⟩ := ground h4 fl4 up4
      refine store_ok (X := X.suite a ((a, oe4) :: (X.pn ++ pins))) (v := .ref a) S4 hN hi (.inl hln) rfl (fun s5 S5 => ?_) (.inr hln)
      exact wpAny_mono ((hsu a oe4 cls d (X.pn ++ pins) hz4 hd4).run [] s5 _ H _ S5 (hyes rfl a na J.len)) (fun f s6 hsp => suite_end ok hN hi hln hsp) (fun _ _ z => z.elim)
    | false => exact ih (hno rfl)
theorem ps_named {body : List Stmt} {h₀ : ExceptHandler} {hds : List ExceptHandler} {l : Suites} {pos : Pos} {tb : WX → TS} (hs : X.stack = X.env :: X.outer) (hf : X.env.frame = some X.env.locals) (hN : X.N.Nodup) (hi : X.N[i]? = some n) (hln : X.env.kindOf n = some .local)
    (hb : ∀ (W : WX) (pn : List (Addr × Obj)) (xe : Value → Shared → Prop), Takes (X.tr pn xe) W → PSs (X.tr pn xe) body (tb W)) (hh : Named X n (h₀ :: hds) l) :
    PS X (.Try body (h₀ :: hds) [] [] pos) (fun D σ H => tb (wNamed X.K X.N.length i D l) D σ H) := by
  refine ⟨fun pins s σ H D I h => ?_⟩
  have ok := I.ok
  refine wpAny_Try_except ?_
  refine wpAny_mono ((hb (wNamed X.K X.N.length i D l) (X.pn ++ pins) _ (fun u s' xx => ?_)).run [] s σ H D (I.toTry _) h) (fun f s1 hsp => ?_) (fun e s1 he => he)
  · obtain ⟨a, B, sI, pins', σ', H', cls, d, rfl, J', nb, up, sky, na, os, ag, w⟩ := xx
    have sky' : Sky B (X.env :: X.outer) a (Zc cls d) X.env.locals s'.heap := hs ▸ sky
    have hfr : X.A.frames = some (X.env :: X.outer) := ok.frames.trans (congrArg some hs)
    refine Sky.land Zc.steady hfr hf sky' fun h3 fl3 up3 => ?_
    exact clauses (s' := { s' with heap := h3 }) ok hs hf hN hi hln (J'.ofTry ok) nb (up.trans up3) os ag na fl3 hh w
  · cases f with
    | next => exact let ⟨σ', H', J', q⟩ := hsp; wpAny_execs_nil ⟨σ', H', J'.ofTry ok, q⟩
    | brk => exact let ⟨σ', H', J', q⟩ := hsp; ⟨σ', H', J'.ofTry ok, q⟩
    | cont => exact let ⟨σ', H', J', q⟩ := hsp; ⟨σ', H', J'.ofTry ok, q⟩
    | ret u => exact let ⟨v, σ', H', J', r, q⟩ := hsp; ⟨v, σ', H', J'.ofTry ok, r, q⟩
end

/-! ## numbers -/
/-- the greatest common divisor stays over a step of Euclid, whatever the rest is -/
theorem gcd_step (a b q : Int) : Int.gcd b (a - b * q) = Int.gcd a b := by
  rw [Int.gcd_comm a b]
  exact Int.gcd_sub_mul_left_right ..
theorem fmod_sub (a b : Int) : a.fmod b = a - b * a.fdiv b := by
  have h := Int.mul_fdiv_add_fmod a b
  omega
theorem gcd_fmod (a b : Int) : Int.gcd b (a.fmod b) = Int.gcd a b := by
  rw [fmod_sub]
  exact gcd_step a b _
theorem natAbs_fmod_lt (a b : Int) (h : b ≠ 0) : (a.fmod b).natAbs < b.natAbs := by
  by_cases hb : 0 < b
  · have h1 := Int.fmod_nonneg_of_pos a hb
    have h2 := Int.fmod_lt_of_pos a hb
    omega
  · have hn : 0 < -b := by omega
    have e : a.fmod b = -((-a).fmod (-b)) := by
      have := Int.neg_fmod_neg a b
      omega
    have h1 := Int.fmod_nonneg_of_pos (-a) hn
    have h2 := Int.fmod_lt_of_pos (-a) hn
    omega
theorem log2_mono {a b : Nat} (h : a ≤ b) : a.log2 ≤ b.log2 := by
  by_cases ha : a = 0
  · subst ha
    simp [Nat.log2_zero]
  · exact (Nat.le_log2 (by omega)).mpr (Nat.le_trans (Nat.log2_self_le ha) h)
theorem log2_lt {n k : Nat} (h : n < 2 ^ k) (hk : 0 < k) : n.log2 < k := PySem.Flt.log2_lt_of hk h
section
variable {X : Cx}
/-- // by a divisor of any sign, below 2 ^ 9000 -/
def CDivX (_ j : Int) : Prop := j ≠ 0 ∧ j.natAbs.log2 < 9000
theorem op_fdivX : OpR X (binaryOp .FloorDiv) (rI CDivX fun i j => .int (i.fdiv j)) := opI fun _ _ _ _ _ _ _ hc q => floordiv_int hc.1 q (.inl (PyProof.noPylong_of_log2 hc.2))
end

theorem lineN {n : Nat} (h : n ≤ 1000) : n ≤ sizeLine := Nat.le_of_lt (small1000 h)
/-! ## heaps -/
/-- all but r is as it was -/
def Fst (r : Addr) (H H' : Hp) : Prop := ∀ c rest, H r = some (.lst (c :: rest)) → ∃ rest', H' r = some (.lst (c :: rest'))
structure But (r : Addr) (H H' : Hp) : Prop where
  fn : ∀ b, b ≠ r → H' b = H b
  fst : Fst r H H'
instance {r : Addr} {H H' : Hp} : CoeFun (But r H H') fun _ => ∀ b, b ≠ r → H' b = H b := ⟨But.fn⟩
theorem Fst.trans {r : Addr} {H H1 H2 : Hp} (a : Fst r H H1) (b : Fst r H1 H2) : Fst r H H2 := fun c rest e => by
  obtain ⟨r1, e1⟩ := a c rest e
  exact b c r1 e1
theorem But.refl (r : Addr) (H : Hp) : But r H H := ⟨fun _ _ => rfl, fun c rest e => ⟨rest, e⟩⟩
theorem But.trans {r : Addr} {H H1 H2 : Hp} (a : But r H H1) (b : But r H1 H2) : But r H H2 := ⟨fun c hc => (b.fn c hc).trans (a.fn c hc), a.fst.trans b.fst⟩
theorem But.upd {r : Addr} {H : Hp} {c : V} {l l' : List V} (h : H r = some (.lst (c :: l))) : But r H (upd H r (.lst (c :: l'))) := ⟨fun _ hb => upd_ne hb, fun c2 rest e => by
  rw [h] at e
  cases e
  exact ⟨l', upd_same⟩⟩
theorem upd_new {H : Hp} {p : Addr} {o : HO} (h : H p = none) : Same H (upd H p o) := fun b x e => by
  rw [upd_ne (ne_of_none e h)]
  exact e
theorem SqL.cutInts (ns : List Int) (lo hi : Option Int) : ∃ ms : List Int, cutV (ns.map V.int) lo hi = ms.map V.int ∧ ms.length ≤ ns.length := by
  refine ⟨(ns.drop (HT.sIx (ns.map V.int).length 0 lo)).take (HT.sIx (ns.map V.int).length (ns.map V.int).length hi - HT.sIx (ns.map V.int).length 0 lo), ?_, ?_⟩
  · unfold cutV
    rw [← List.map_drop, ← List.map_take]
  · rw [List.length_take, List.length_drop]
    omega

/-! ## the law's draws: a list of four, the script's numbers, a place, what is left of a great number, a seed -/
def RngAt (H : Hp) (r c : Addr) (i b s : Int) : Prop := H r = some (.lst [.ref c, .int i, .int b, .int s]) ∧ (∃ cells : List Int, H c = some (.lst (cells.map V.int)) ∧ cells.length ≤ sizeLine) ∧ 0 ≤ i ∧ 0 ≤ b ∧ 0 ≤ s ∧ s < 2147483647
def RngOk (H : Hp) (r : Addr) : Prop := ∃ c i b s, RngAt H r c i b s
theorem RngAt.ne {H : Hp} {r c : Addr} {i b s : Int} (h : RngAt H r c i b s) : c ≠ r := by
  obtain ⟨h1, ⟨cells, h2, _⟩, _⟩ := h
  refine ne_of h2 h1 fun z => ?_
  have z2 : cells.map V.int = [.ref c, .int i, .int b, .int s] := HO.lst.inj z
  cases cells with
  | nil => cases z2
  | cons y l =>
    have z3 := (List.cons.inj z2).1
    cases z3
theorem RngAt.put {H : Hp} {r c : Addr} {i b s : Int} (h : RngAt H r c i b s) {i' b' s' : Int} (h1 : 0 ≤ i') (h2 : 0 ≤ b') (h3 : 0 ≤ s') (h4 : s' < 2147483647) : RngAt (upd H r (.lst [.ref c, .int i', .int b', .int s'])) r c i' b' s' := by
  obtain ⟨cells, e, l⟩ := h.2.1
  refine ⟨upd_same, ⟨cells, ?_, l⟩, h1, h2, h3, h4⟩
  rw [upd_ne h.ne]
  exact e
theorem RngOk.keep {H H' : Hp} {r : Addr} (h : RngOk H r) (k : ∀ b o, H b = some o → (∀ ps, o ≠ .tbl ps) → H' b = some o) : RngOk H' r := by
  obtain ⟨c, i, b, s, h1, ⟨cells, h2, l⟩, hh⟩ := h
  exact ⟨c, i, b, s, k _ _ h1 (fun _ z => nomatch z), ⟨cells, k _ _ h2 (fun _ z => nomatch z), l⟩, hh⟩
theorem RngOk.same {H H' : Hp} {r : Addr} (h : RngOk H r) (k : Same H H') : RngOk H' r := h.keep fun b o e _ => k b o e
section
variable {P : Program} {w : World} {K : PySem.W.Frag} {mg : Str → Option Value} {base : Heap}
/-! ### shared_factor, and the law's own -/
def spGcd : Sp := fun vs H Q _ => ∃ a b : Int, vs = [.int a, .int b] ∧ Q (.int (Int.gcd a b)) H
def spDraws (K : PySem.W.Frag) : Sp := fun vs H Q _ => ∃ (a : Addr) (ns : List Int), vs = [.ref a] ∧ SqL K H a (ns.map V.int) ∧ ns.length ≤ 1000 ∧ ∀ H' r, Same H H' → H r = none → RngOk H' r → Q (.ref r) H'
def spDraw : Sp := fun vs H Q _ => ∃ (r : Addr) (n : Int), vs = [.ref r, .int n] ∧ RngOk H r ∧ 0 < n ∧ n.natAbs.log2 < 9000 ∧ ∀ v H', 0 ≤ v → v < n → RngOk H' r → But r H H' → Q (.int v) H'
def spPick (K : PySem.W.Frag) : Sp := fun vs H Q _ => ∃ (r t : Addr) (xs : List V), vs = [.ref r, .ref t] ∧ RngOk H r ∧ SqL K H t xs ∧ t ≠ r ∧ 0 < xs.length ∧ xs.length ≤ 1000 ∧ ∀ (v : V) (i : Nat) (H' : Hp), xs[i]? = some v → RngOk H' r → But r H H' → Q v H'
end
/-! ## _law_same: data of the same kinds and values -/
/-- data as the law compares it -/
inductive Dat where
  | non | bl (b : Bool) | int (i : Int) | str (x : Str) | lst (ds : List Dat) | tup (ds : List Dat)
/-- how deep it is -/
def Dat.deep : Dat → Nat
  | .lst ds => 1 + deeps ds
  | .tup ds => 1 + deeps ds
  | _ => 0
where deeps : List Dat → Nat
  | [] => 0
  | d :: r => max d.deep (deeps r)
mutual
/-- at v stands the datum d -/
inductive At (K : PySem.W.Frag) (H : Hp) : V → Dat → Prop
  | non : At K H .non .non
  | bl (b : Bool) : At K H (.bl b) (.bl b)
  | int (i : Int) : At K H (.int i) (.int i)
  | str (x : Str) : At K H (.str x) (.str x)
  | lst {a : Addr} {xs : List V} {ds : List Dat} : H a = some (.lst xs) → xs.length ≤ 100000 → AtAll K H xs ds → At K H (.ref a) (.lst ds)
  | tup {a : Addr} {xs : List V} {ds : List Dat} : H a = some (.tup xs) → xs.length ≤ 100000 → AtAll K H xs ds → At K H (.ref a) (.tup ds)
inductive AtAll (K : PySem.W.Frag) (H : Hp) : List V → List Dat → Prop
  | nil : AtAll K H [] []
  | cons {v : V} {vs : List V} {d : Dat} {ds : List Dat} : At K H v d → AtAll K H vs ds → AtAll K H (v :: vs) (d :: ds)
end
theorem AtAll.length {K : PySem.W.Frag} {H : Hp} : ∀ {xs : List V} {ds : List Dat}, AtAll K H xs ds → xs.length = ds.length
  | _, _, .nil => rfl
  | _, _, .cons _ t => congrArg Nat.succ (AtAll.length t)
theorem AtAll.get {K : PySem.W.Frag} {H : Hp} : ∀ {xs : List V} {ds : List Dat} {i : Nat} {x : V} {d : Dat}, AtAll K H xs ds → xs[i]? = some x → ds[i]? = some d → At K H x d
  | _, _, _, _, _, .nil, e, _ => by simp at e
  | _, _, 0, _, _, .cons a _, e, e2 => by
    simp at e e2
    subst e
    subst e2
    exact a
  | _, _, i + 1, _, _, .cons _ t, e, e2 => AtAll.get (i := i) t (by simpa using e) (by simpa using e2)
mutual
theorem At.same {K : PySem.W.Frag} {H H' : Hp} (s : Same H H') : ∀ {v : V} {d : Dat}, At K H v d → At K H' v d
  | _, _, .non => .non
  | _, _, .bl b => .bl b
  | _, _, .int i => .int i
  | _, _, .str x => .str x
  | _, _, .lst e l a => .lst (s _ _ e) l (AtAll.same s a)
  | _, _, .tup e l a => .tup (s _ _ e) l (AtAll.same s a)
theorem AtAll.same {K : PySem.W.Frag} {H H' : Hp} (s : Same H H') : ∀ {xs : List V} {ds : List Dat}, AtAll K H xs ds → AtAll K H' xs ds
  | _, _, .nil => .nil
  | _, _, .cons a t => .cons (At.same s a) (AtAll.same s t)
end
theorem deeps_mem {ds : List Dat} {d : Dat} (h : d ∈ ds) : d.deep ≤ Dat.deep.deeps ds := by
  induction ds with
  | nil => cases h
  | cons x r ih =>
    show d.deep ≤ max x.deep (Dat.deep.deeps r)
    rcases List.mem_cons.mp h with e | e
    · subst e
      exact Nat.le_max_left _ _
    · exact Nat.le_trans (ih e) (Nat.le_max_right _ _)

/-- the built-in class of a datum -/
def Dat.ty : Dat → String
  | .non => "NoneType" | .bl _ => "bool" | .int _ => "int" | .str _ => "str" | .lst _ => "list" | .tup _ => "tuple"
theorem At.ty {K : PySem.W.Frag} {H : Hp} {v : V} {d : Dat} (h : At K H v d) : TyX K H v (.type d.ty) := by
  cases h with
  | non => exact .base .non
  | bl b => exact .base (.bl b)
  | int i => exact .base (.int i)
  | str x => exact .base (.str x)
  | lst e _ _ => exact .base (.lst e)
  | tup e _ _ => exact .base (.tup e)
def Dat.isL : Dat → Bool
  | .lst _ => true
  | _ => false
theorem kit_list {K : PySem.W.Frag} (d : Dat) : PySem.W.kitOne K (.type d.ty) (.type "list") = some d.isL := by
  cases d with
  | non => exact kit_ty (a := "NoneType") (b := "list") (r := false) (by decide +kernel)
  | bl b => exact kit_ty (a := "bool") (b := "list") (r := false) (by decide +kernel)
  | int i => exact kit_ty (a := "int") (b := "list") (r := false) (by decide +kernel)
  | str x => exact kit_ty (a := "str") (b := "list") (r := false) (by decide +kernel)
  | lst ds => exact kit_ty (a := "list") (b := "list") (r := true) (by decide +kernel)
  | tup ds => exact kit_ty (a := "tuple") (b := "list") (r := false) (by decide +kernel)
def Dat.isT : Dat → Bool
  | .tup _ => true
  | _ => false
theorem kit_tuple {K : PySem.W.Frag} (d : Dat) : PySem.W.kitOne K (.type d.ty) (.type "tuple") = some d.isT := by
  cases d with
  | non => exact kit_ty (a := "NoneType") (b := "tuple") (r := false) (by decide +kernel)
  | bl b => exact kit_ty (a := "bool") (b := "tuple") (r := false) (by decide +kernel)
  | int i => exact kit_ty (a := "int") (b := "tuple") (r := false) (by decide +kernel)
  | str x => exact kit_ty (a := "str") (b := "tuple") (r := false) (by decide +kernel)
  | lst ds => exact kit_ty (a := "list") (b := "tuple") (r := false) (by decide +kernel)
  | tup ds => exact kit_ty (a := "tuple") (b := "tuple") (r := true) (by decide +kernel)
def Dat.isB : Dat → Bool
  | .bl _ => true
  | _ => false
theorem kit_bool {K : PySem.W.Frag} (d : Dat) : PySem.W.kitOne K (.type d.ty) (.type "bool") = some d.isB := by
  cases d with
  | non => exact kit_ty (a := "NoneType") (b := "bool") (r := false) (by decide +kernel)
  | bl b => exact kit_ty (a := "bool") (b := "bool") (r := true) (by decide +kernel)
  | int i => exact kit_ty (a := "int") (b := "bool") (r := false) (by decide +kernel)
  | str x => exact kit_ty (a := "str") (b := "bool") (r := false) (by decide +kernel)
  | lst ds => exact kit_ty (a := "list") (b := "bool") (r := false) (by decide +kernel)
  | tup ds => exact kit_ty (a := "tuple") (b := "bool") (r := false) (by decide +kernel)
def Dat.isI : Dat → Bool
  | .bl _ => true
  | .int _ => true
  | _ => false
theorem kit_int {K : PySem.W.Frag} (d : Dat) : PySem.W.kitOne K (.type d.ty) (.type "int") = some d.isI := by
  cases d with
  | non => exact kit_ty (a := "NoneType") (b := "int") (r := false) (by decide +kernel)
  | bl b => exact kit_ty (a := "bool") (b := "int") (r := true) (by decide +kernel)
  | int i => exact kit_ty (a := "int") (b := "int") (r := true) (by decide +kernel)
  | str x => exact kit_ty (a := "str") (b := "int") (r := false) (by decide +kernel)
  | lst ds => exact kit_ty (a := "list") (b := "int") (r := false) (by decide +kernel)
  | tup ds => exact kit_ty (a := "tuple") (b := "int") (r := false) (by decide +kernel)
def Dat.isS : Dat → Bool
  | .str _ => true
  | _ => false
theorem kit_str {K : PySem.W.Frag} (d : Dat) : PySem.W.kitOne K (.type d.ty) (.type "str") = some d.isS := by
  cases d with
  | non => exact kit_ty (a := "NoneType") (b := "str") (r := false) (by decide +kernel)
  | bl b => exact kit_ty (a := "bool") (b := "str") (r := false) (by decide +kernel)
  | int i => exact kit_ty (a := "int") (b := "str") (r := false) (by decide +kernel)
  | str x => exact kit_ty (a := "str") (b := "str") (r := true) (by decide +kernel)
  | lst ds => exact kit_ty (a := "list") (b := "str") (r := false) (by decide +kernel)
  | tup ds => exact kit_ty (a := "tuple") (b := "str") (r := false) (by decide +kernel)
theorem yesI {σ : L2.St} {H : Hp} {A B : Hp → Prop} (h : A H) : tYes σ H (fun b H3 => if b = true then A H3 else B H3) := by
  show (if true = true then A H else B H)
  exact iteT h
/-- two walks side by side, in a comprehension -/
theorem lc_pairs {J : It} {xs ys : List V} {g : TG} {tt : L2.TT} {te : TE} {vs : List Nat} {σ : L2.St} {H1 : Hp} {D : Addr} {Qd : Hp → Prop} (hl : xs.length = ys.length) (Pv : Nat → Hp → Prop) (h0 : Pv 0 (upd H1 D (.lst [])))
    (hgo : ∀ i H, Pv i H → i < xs.length → J.go i H) (hst : ∀ H, Pv xs.length H → J.stop xs.length H)
    (hy : ∀ i H v H', Pv i H → i < xs.length → J.yld i H v H' → ∃ T x y, v = .ref T ∧ H T = none ∧ H' = upd H T (.tup [x, y]) ∧ xs[i]? = some x ∧ ys[i]? = some y)
    (hs : ∀ (i : Nat) (x y : V) (T : Addr) (H : Hp), xs[i]? = some x → ys[i]? = some y → Pv i H → H T = none → g (.ref T) (wipe σ vs) (upd H T (.tup [x, y])) fun σ2 H2 => wipe σ2 vs = wipe σ vs ∧ tt σ2 H2 fun b H3 =>
      if b = true then te σ2 H3 fun z H4 => ∃ acc, H4 D = some (.lst acc) ∧ acc.length < sizeLine ∧ Pv (i + 1) (upd H4 D (.lst (acc ++ [z]))) else Pv (i + 1) H3) (hd : ∀ H, Pv xs.length H → Qd H) :
    ∃ W : Nat → Nat → Hp → Prop, (∃ m, W 0 m (upd H1 D (.lst []))) ∧ ∀ i m H, W i m H →
      (J.stop i H ∧ Qd H) ∨ (J.go i H ∧ ∃ Nx : Hp → Prop, (∀ H', Nx H' → ∃ m', m' < m ∧ W (i + 1) m' H') ∧ ∀ x H', J.yld i H x H' → g x (wipe σ vs) H' fun σ2 H2 => wipe σ2 vs = wipe σ vs ∧ tt σ2 H2 fun b H3 =>
        if b = true then te σ2 H3 fun y H4 => ∃ acc, H4 D = some (.lst acc) ∧ acc.length < sizeLine ∧ Nx (upd H4 D (.lst (acc ++ [y]))) else Nx H3) := by
  refine ⟨fun i m H => m = xs.length - i ∧ i ≤ xs.length ∧ Pv i H, ⟨_, rfl, Nat.zero_le _, h0⟩, fun i m H hW => ?_⟩
  obtain ⟨em, hi, p⟩ := hW
  rcases Nat.lt_or_ge i xs.length with hlt | hge
  · refine .inr ⟨hgo i H p hlt, Pv (i + 1), fun H' p' => ⟨xs.length - (i + 1), by omega, rfl, hlt, p'⟩, fun v H' yl => ?_⟩
    obtain ⟨T, x, y, rfl, hT, rfl, hx, hy'⟩ := hy i H v H' p hlt yl
    exact hs i x y T H hx hy' p hT
  · have e : i = xs.length := by omega
    rw [e] at p ⊢
    exact .inl ⟨hst H p, hd H p⟩
def spSame (K : PySem.W.Frag) (n : Nat) : Sp := fun vs H Q _ => ∃ (v u : V) (d e : Dat), vs = [v, u] ∧ At K H v d ∧ At K H u e ∧ e.deep < n ∧ ∀ (b : Bool) (H' : Hp), (b = true ↔ d = e) → Same H H' → Q (.bl b) H'
theorem all_iff {ds es : List Dat} {bs : List Bool} (h1 : bs.length = ds.length) (h2 : ds.length = es.length) (h : ∀ (j : Nat) (b : Bool), bs[j]? = some b → (b = true ↔ ds[j]? = es[j]?)) : bs.all id = true ↔ ds = es := by
  constructor
  · intro ha
    refine List.ext_getElem? fun j => ?_
    cases e : bs[j]? with
    | none =>
      have := List.getElem?_eq_none_iff.mp e
      rw [List.getElem?_eq_none (by omega), List.getElem?_eq_none (by omega)]
    | some b =>
      refine (h j b e).mp ?_
      have hm : b ∈ bs := List.mem_of_getElem? e
      exact List.all_eq_true.mp ha b hm
  · intro e
    refine List.all_eq_true.mpr fun b hb => ?_
    obtain ⟨j, hj⟩ := List.getElem?_of_mem hb
    exact (h j b hj).mpr (by rw [e])
/-- what a comprehension of such comparisons leaves behind i turns -/
def SameInv (H : Hp) (D : Addr) (ds es : List Dat) (i : Nat) (H' : Hp) : Prop := Same H H' ∧ ∃ bs : List Bool, H' D = some (.lst (bs.map V.bl)) ∧ bs.length = i ∧ ∀ (j : Nat) (b : Bool), bs[j]? = some b → (b = true ↔ ds[j]? = es[j]?)
theorem SameInv.start {H : Hp} {D : Addr} {ds es : List Dat} (h : H D = none) : SameInv H D ds es 0 (upd H D (.lst [])) := ⟨upd_new h, [], upd_same, rfl, fun j b e => by simp at e⟩
theorem SameInv.step {H H1 H2 : Hp} {D T : Addr} {ds es : List Dat} {i : Nat} {x y : V} {b : Bool} (p : SameInv H D ds es i H1) (nD : H D = none) (nT : H1 T = none) (s : Same (upd H1 T (.tup [x, y])) H2) (hb : b = true ↔ ds[i]? = es[i]?) (hi : i < 1000000) :
    ∃ acc, H2 D = some (.lst acc) ∧ acc.length < sizeLine ∧ SameInv H D ds es (i + 1) (upd H2 D (.lst (acc ++ [.bl b]))) := by
  obtain ⟨s0, bs, hD, hl, hbs⟩ := p
  have s1 := (upd_new (o := .tup [x, y]) nT).trans s
  refine ⟨bs.map V.bl, s1 _ _ hD, ?_, fun c o e => ?_, bs ++ [b], ?_, ?_, fun j b' e => ?_⟩
  · rw [List.length_map, hl, sizeLine_eq]
    omega
  · rw [upd_ne (ne_of_none e nD)]
    exact s1 _ _ (s0 _ _ e)
  · rw [upd_same, List.map_append]
    rfl
  · rw [List.length_append, hl]
    rfl
  · rcases Nat.lt_or_ge j bs.length with h | h
    · rw [List.getElem?_append_left h] at e
      exact hbs j b' e
    · rw [List.getElem?_append_right h] at e
      have hj : j - bs.length = 0 := by
        rcases Nat.eq_zero_or_pos (j - bs.length) with z | z
        · exact z
        · rw [List.getElem?_eq_none (by simp; omega)] at e
          cases e
      rw [hj] at e
      have ej : j = i := by omega
      have eb : b = b' := Option.some.inj e
      rw [ej, ← eb]
      exact hb
structure TSame (mg : Str → Option Value) : Prop where
  isi : mg "isinstance" = none
  list : mg "list" = none
  tuple : mg "tuple" = none
  bool : mg "bool" = none
  int : mg "int" = none
  str : mg "str" = none
  len : mg "len" = none
  all : mg "all" = none
  zip : mg "zip" = none
theorem pe_isi {X : Cx} {i : Nat} {x y : Str} {T : String} {p1 p2 p3 p4 : Pos} (hN : X.N[i]? = some x) (hv : Vis X.env.scope x) (g1 : Gl X "isinstance") (m1 : X.mg "isinstance" = none) (g2 : Gl X y) (m2 : X.mg y = none) (hb : bootBuiltins y = some (.type T))
    (hn : y ≠ "__name__" := by decide) (hd : (y == ("__debug__" : Str)) = false := by decide) (hd1 : (x == ("__debug__" : Str)) = false := by decide) (hcd : (x == ("__classdict__" : Str)) = false := by decide)
    (h1 : starEach [.Name x p2, .Name y p3] X.env = (false, eval (.Name x p2) X.env) :: starEach [.Name y p3] X.env := by rfl) (h2 : starEach [.Name y p3] X.env = (false, eval (.Name y p3) X.env) :: starEach [] X.env := by rfl) (h3 : (backTo p4 (starEach [.Name y p3] X.env)).any (·.1) = false := by rfl) :
    PE X (.Call (.Name "isinstance" p1) [.Name x p2, .Name y p3] [] p4) (fun σ H Q => ∃ v d b, σ[i]? = some (some v) ∧ At X.K H v d ∧ PySem.W.kitOne X.K (.type d.ty) (.type T) = some b ∧ Q (.bl b) H) := by
  have hp := pe_callB (pos := p4) (p := p1) call_isi g1 m1 PyProof.Rows.boot_isinstance (pa_cons (pe_var (pos := p2) hN hv hd1 hcd) (pa_cons (pe_bltn (pos := p3) (v := .ty T) g2 m2 hb rfl hn hd) pa_nil h2) h1) (by decide) (by decide) h1 h3
  refine ⟨fun pins s σ H Q I h => ?_⟩
  obtain ⟨v, d, b, hs, a, k, q⟩ := h
  exact hp.run pins s σ H Q I ⟨v, hs, v, .ty T, .type d.ty, .type T, b, rfl, .ty T, a.ty, k, q⟩
/-- an error of the class at C, asked against the class at B -/
theorem exm_by {K : PySem.W.Frag} {C B : Addr} {b : Bool} (h1 : PySem.W.subIn K (.ref B) (.type "BaseException") = some true) (h2 : PySem.W.isClsIn K B = true) (h3 : PySem.W.typeIn K (.ref B) = some (.type "type")) (h4 : PySem.W.subIn K (.ref C) (.ref B) = some b) : PySem.W.exmOne K (.ref C) (.ref B) = some b := by
  have e1 : (PySem.W.subIn K (.ref B) (.type "BaseException") == some true) = true := by rw [h1] <;> rfl
  have e2 : ((PySem.W.clsIn K B).isSome && PySem.W.typeIn K (.ref B) == some (.type "type")) = true := by
    rw [show (PySem.W.clsIn K B).isSome = true from h2, h3] <;> rfl
  show (if _ then (if _ then PySem.W.subIn K (.ref C) (.ref B) else none) else none) = some b
  rw [if_pos e1, if_pos e2]
  exact h4
def spBag (K : PySem.W.Frag) : Sp := fun vs H Q _ => ∃ (a C : Addr) (c : Str), vs = [.ref a, .str c] ∧ OexC K C ∧ PySem.W.findIn K (.ref C) "code" = some none ∧ H a = some (exo a C none) ∧ ∀ dx, H dx = none → dx ≠ a → Q .non (upd (upd H dx (exd dx [("code", .str c)])) a (exo a C (some dx)))
/-- the pair in lowest terms -/
def lowS (n d : Int) : Int := if d < 0 then -(Int.gcd n d : Int) else Int.gcd n d
def spLowest (C : Addr) : Sp := fun vs H Q E => ∃ n d : Int, vs = [.int n, .int d] ∧ d.natAbs.log2 < 9000 ∧ (d = 0 → ∀ x, H x = none → E (.ref C) (some x) (upd H x (.xd [("code", .str "InvalidNumber")]))) ∧
  (d ≠ 0 → ∀ p, H p = none → Q (.ref p) (upd H p (.tup [.int (n.fdiv (lowS n d)), .int (d.fdiv (lowS n d))])))
theorem lowS_ok {n d : Int} (h : d ≠ 0) (hd : d.natAbs.log2 < 9000) : CDivX n (lowS n d) ∧ (lowS n d).natAbs ≤ d.natAbs := by
  have g0 : 0 < Int.gcd n d := Int.gcd_pos_of_ne_zero_right _ h
  have gl : Int.gcd n d ≤ d.natAbs := Nat.le_of_dvd (by omega) (Int.gcd_dvd_natAbs_right n d)
  have e : (lowS n d).natAbs = Int.gcd n d := by
    unfold lowS
    split <;> simp
  refine ⟨⟨?_, ?_⟩, ?_⟩
  · intro z
    rw [z] at e
    simp at e
    omega
  · rw [e]
    exact Nat.lt_of_le_of_lt (log2_mono gl) hd
  · omega
def spLow : Sp := fun vs H Q _ => ∃ n d : Int, vs = [.int n, .int d] ∧ d.natAbs.log2 < 9000 ∧ d ≠ 0 ∧ ∀ p, H p = none → Q (.ref p) (upd H p (.tup [.int (n.fdiv (lowS n d)), .int (d.fdiv (lowS n d))]))
/-! ## what the law reads off an error -/
def errNames : List Str := ["code", "limit", "name", "position", "modulus", "many", "exponent", "road", "order", "place", "line"]
structure XErr (K : PySem.W.Frag) (C : Addr) : Prop where
  xf : XfC K C
  no : ∀ n ∈ errNames, PySem.W.findIn K (.ref C) n = some none
def xerrB (K : PySem.W.Frag) (C : Addr) : Bool := xfB K C && errNames.all fun n => decide (PySem.W.findIn K (.ref C) n = some none)
theorem xerr_by {K : PySem.W.Frag} {C : Addr} (h : xerrB K C = true) : XErr K C := by
  obtain ⟨h1, h2⟩ := Bool.and_eq_true_iff.mp h
  exact ⟨xfB_ok h1, fun n hn => of_decide_eq_true (List.all_eq_true.mp h2 n hn)⟩
def cLimit : List V := [.str "SizeExceeded", .str "DigitsExceeded", .str "NestingTooDeep", .str "TermTooLarge", .str "LimitReached", .str "InvalidLimit"]
def cName : List V := [.str "InvalidName", .str "DuplicateName", .str "NameInUse", .str "CircularName", .str "UnknownName"]
def cPos : List V := [.str "InvalidText", .str "InvalidCommand"]
def cMod : List V := [.str "InvalidModulus", .str "SharedDivisor"]
def cMany : List V := [.str "InvalidChoice", .str "InvalidCount"]
/-- the attribute that goes with a code -/
def fieldOf (c : Str) : Option Str :=
  if inV (.str c) cLimit = true then some "limit" else if inV (.str c) cName = true then some "name" else if inV (.str c) cPos = true then some "position" else if inV (.str c) cMod = true then some "modulus" else if inV (.str c) cMany = true then some "many"
  else if decide (V.str c = V.str "InvalidExponent") = true then some "exponent" else if decide (V.str c = V.str "InvalidRoad") = true then some "road" else if decide (V.str c = V.str "InvalidOrder") = true then some "order" else if decide (V.str c = V.str "InvalidPlace") = true then some "place"
  else if decide (V.str c = V.str "InvalidSnapshot") = true then some "line" else none
def fieldVal (c : Str) (fs : List (Str × V)) : Option V := match fieldOf c with | some f => fs.lookup f | none => some .non
/-- the error p as the law sees it: its class, its attributes fs, its code c, the value v that goes with it -/
structure ErrAt (K : PySem.W.Frag) (H : Hp) (p : Addr × Obj) (C : Addr) (fs : List (Str × V)) (c : Str) (v : V) : Prop where
  x : XErr K C
  cls : p.2.cls = .ref C
  flds : ∃ us, p.2.data = .fields us
  at_ : ∃ dd, p.2.dict = some dd ∧ H dd = some (.xd fs)
  code : fs.lookup ("code" : Str) = some (V.str c)
  val : fieldVal c fs = some v
def spField (K : PySem.W.Frag) : Addr × Obj → Sp := fun p vs H Q _ => ∃ (C : Addr) (fs : List (Str × V)) (c : Str) (v : V), vs = [.ref p.1] ∧ ErrAt K H p C fs c v ∧ ∀ H', Same H H' → Q v H'
/-- an error of the class at C is caught by the law's two clauses -/
def Caught (K : PySem.W.Frag) (B M C : Addr) : Prop := ∃ b, PySem.W.exmOne K (.ref C) (.ref B) = some b ∧ (b = false → PySem.W.exmOne K (.ref C) (.ref M) = some true)
/-- what the law makes of an error of the class cls with the dict d -/
def ErrTo (K : PySem.W.Frag) (B M : Addr) (Q : VK) : XK := fun cls d H => ∃ (C dd : Addr) (fs : List (Str × V)) (c : Str) (v : V), cls = .ref C ∧ d = some dd ∧ H dd = some (.xd fs) ∧ XErr K C ∧ Caught K B M C ∧ fs.lookup ("code" : Str) = some (V.str c) ∧ fieldVal c fs = some v ∧
  ∀ H2 p, Same H H2 → H2 p = none → Q (.ref p) (upd H2 p (.tup [.str c, v]))
def TTry (K : PySem.W.Frag) (B M : Addr) : (XK → Hp → VK → Prop) → Hp → VK → Prop := fun tl H Q => tl (ErrTo K B M Q) H fun v H1 => 2 ≤ sizeLine ∧ ∀ p, H1 p = none → Q (.ref p) (upd H1 p (.tup [.str "value", v]))
/-- the suite: return (e.code, field(e)) -/
def tCaught (K : PySem.W.Frag) (a : Addr) (cls : Value) (d : Option Addr) : TS := fun D σ H => σ[1]? = some (some (.ref a)) ∧ ∃ (C dd : Addr) (fs : List (Str × V)) (c : Str) (v : V), cls = .ref C ∧ d = some dd ∧ H dd = some (.xd fs) ∧ XErr K C ∧ fs.lookup ("code" : Str) = some (V.str c) ∧ fieldVal c fs = some v ∧
  ∀ H2 p, Same H H2 → H2 p = none → D.rt (.ref p) (upd H2 p (.tup [.str c, v]))
theorem suite_caught {X : Cx} {f : Addr} {fd : FuncData} {k : Nat} {p1 p2 p3 p4 p5 p7 p8 : Pos} {k1 : Nat} (FF : FnP X.prog X.w X.K X.mg X.base k f fd ["_law_e"] (spField X.K)) (gF : X.mg "_law_field" = some (.ref f)) (kF : PySem.W.keepIn X.K (.ref f) = true) (bF : L2.Binds X.K fd ["_law_e"] []) (hr : L2H.RoomH k X.A)
    (hN : X.N[1]? = some ("_law_e" : Str)) (hV : Vis X.env.scope "_law_e") (hG : Gl X "_law_field") (hb : attributeBase (.Name "_law_e" p1) "code" X.env (eval (.Name "_law_e" p1) X.env) = eval (.Name "_law_e" p1) X.env)
    (h1 : starEach [.Attribute (.Name "_law_e" p1) "code" p2, .Call (.Name "_law_field" p3) [.Name "_law_e" p4] [] p5] X.env = (false, eval (.Attribute (.Name "_law_e" p1) "code" p2) X.env) :: starEach [.Call (.Name "_law_field" p3) [.Name "_law_e" p4] [] p5] X.env)
    (h2 : starEach [.Call (.Name "_law_field" p3) [.Name "_law_e" p4] [] p5] X.env = (false, eval (.Call (.Name "_law_field" p3) [.Name "_law_e" p4] [] p5) X.env) :: starEach [] X.env) (h3 : starEach [.Name "_law_e" p4] X.env = (false, eval (.Name "_law_e" p4) X.env) :: starEach [] X.env)
    (h4 : (backTo p5 (starEach [] X.env)).any (·.1) = false)
    (a : Addr) (oe : Obj) (cls : Value) (d : Option Addr) (pn : List (Addr × Obj)) (hz : Zc cls d oe) (hf : ∃ vs, oe.data = .fields vs) :
    PSs (X.suite a ((a, oe) :: pn)) [.Return (some (.Tuple [.Attribute (.Name "_law_e" p1) "code" p2, .Call (.Name "_law_field" p3) [.Name "_law_e" p4] [] p5] k1 p7)) p8] (tCaught X.K a cls d) := by
  refine ⟨fun pins s σ H D I h => ?_⟩
  obtain ⟨hs, C, dd, fs, c, v, rfl, rfl, hx, T, hc, hv, q⟩ := h
  have E1 : PE (X.suite a ((a, oe) :: pn)) (.Attribute (.Name "_law_e" p1) "code" p2) (tXP (a, oe) "code" (tVar 1)) := pe_xp T.xf (T.no "code" (by decide +kernel)) List.mem_cons_self hz.1 hf (pe_var (i := 1) hN hV) hb
  have E2 : PE (X.suite a ((a, oe) :: pn)) (.Call (.Name "_law_field" p3) [.Name "_law_e" p4] [] p5) (tCallP (spField X.K) (a, oe) (tCons (tVar 1) tNil)) := pe_callP FF ⟨hr.dp, hr.un⟩ List.mem_cons_self hG gF kF bF (pa_cons (pe_var (i := 1) hN hV) pa_nil h3) (by decide) h3 h4
  have hq := pss_one (ps_ret (pos := p8) (pe_tup (x1 := k1) (pos := p7) (pa_cons E1 (pa_cons E2 pa_nil h2) h1)))
  refine hq.run pins s σ H D I ⟨.ref a, hs, rfl, dd, fs, .str c, hz.2, hx, hc, .ref a, hs, C, fs, c, v, rfl, ⟨T, hz.1, hf, ⟨dd, hz.2, hx⟩, hc, hv⟩, fun H' sm => ⟨lineN (by decide : 2 ≤ 1000), fun p np => q H' p sm np⟩⟩
/-! ## lowest terms -/
theorem lowS_abs (n d : Int) : (lowS n d).natAbs = Int.gcd n d := by
  unfold lowS
  split <;> simp
theorem fdiv_is {x y s : Int} (h : s ≠ 0) (e : x = s * y) : x.fdiv s = y := by
  rw [e]
  exact Int.mul_fdiv_cancel_left _ h
theorem low_all {n d : Int} (h : d ≠ 0) : ∃ k m : Int, n = lowS n d * k ∧ d = lowS n d * m ∧ n.fdiv (lowS n d) = k ∧ d.fdiv (lowS n d) = m ∧ 1 ≤ m ∧ Int.gcd k m = 1 ∧ lowS n d ≠ 0 := by
  have g0 : 0 < Int.gcd n d := Int.gcd_pos_of_ne_zero_right _ h
  have ea := lowS_abs n d
  have s0 : lowS n d ≠ 0 := fun z => by
    rw [z] at ea
    simp at ea
    omega
  have d1 : lowS n d ∣ n := by
    refine Int.natAbs_dvd.mp ?_
    rw [ea]
    exact Int.gcd_dvd_left ..
  have d2 : lowS n d ∣ d := by
    refine Int.natAbs_dvd.mp ?_
    rw [ea]
    exact Int.gcd_dvd_right ..
  obtain ⟨k, hk⟩ := d1
  obtain ⟨m, hm⟩ := d2
  refine ⟨k, m, hk, hm, ?_, ?_, ?_, ?_, s0⟩
  · exact fdiv_is s0 hk
  · exact fdiv_is s0 hm
  · by_cases c : d < 0
    · have es : lowS n d = -(Int.gcd n d : Int) := if_pos c
      have : lowS n d < 0 := by omega
      have hm0 : 0 < m := by
        by_cases z : 0 < m
        · exact z
        · have := Int.mul_nonneg_of_nonpos_of_nonpos (Int.le_of_lt this) (Int.not_lt.mp z)
          omega
      omega
    · have es : lowS n d = (Int.gcd n d : Int) := if_neg c
      have : 0 < lowS n d := by omega
      have hm0 : 0 < m := by
        by_cases z : 0 < m
        · exact z
        · have := Int.mul_nonpos_of_nonneg_of_nonpos (Int.le_of_lt this) (Int.not_lt.mp z)
          omega
      omega
  · have e1 : Int.gcd n d = (lowS n d).natAbs * Int.gcd k m := by
      conv => lhs; rw [hk]; arg 2; rw [hm]
      exact Int.gcd_mul_left ..
    rw [ea] at e1
    exact Nat.eq_of_mul_eq_mul_left g0 (by omega)
theorem lowS_neg {n d : Int} (h : d ≠ 0) : lowS n (-d) = -lowS n d := by
  unfold lowS
  rw [Int.gcd_neg]
  split <;> split <;> omega
theorem low_neg {n d : Int} (h : d ≠ 0) : n.fdiv (lowS n (-d)) = -(n.fdiv (lowS n d)) ∧ (-d).fdiv (lowS n (-d)) = d.fdiv (lowS n d) := by
  obtain ⟨k, m, hk, hm, e1, e2, _, _, s0⟩ := low_all (n := n) h
  rw [lowS_neg h, e1, e2]
  have n0 : -lowS n d ≠ 0 := by omega
  refine ⟨?_, ?_⟩
  · have : n = -lowS n d * -k := by
      rw [Int.neg_mul_neg]
      exact hk
    exact fdiv_is n0 this
  · have : -d = -lowS n d * m := by
      rw [Int.neg_mul, ← hm]
    exact fdiv_is n0 this
theorem low_prod {n d : Int} (h : d ≠ 0) : n.fdiv (lowS n d) * d = n * d.fdiv (lowS n d) := by
  obtain ⟨k, m, hk, hm, e1, e2, _⟩ := low_all (n := n) h
  rw [e1, e2]
  conv => lhs; rw [hm]
  conv => rhs; rw [hk]
  rw [Int.mul_left_comm, Int.mul_assoc]
theorem low_le {n d : Int} (h : d ≠ 0) : (n.fdiv (lowS n d)).natAbs ≤ n.natAbs ∧ (d.fdiv (lowS n d)).natAbs ≤ d.natAbs := by
  obtain ⟨k, m, hk, hm, e1, e2, _, _, s0⟩ := low_all (n := n) h
  rw [e1, e2]
  have hs : 1 ≤ (lowS n d).natAbs := by omega
  refine ⟨?_, ?_⟩
  · conv => rhs; rw [hk]
    rw [Int.natAbs_mul]
    exact Nat.le_mul_of_pos_left _ hs
  · conv => rhs; rw [hm]
    rw [Int.natAbs_mul]
    exact Nat.le_mul_of_pos_left _ hs
theorem ten40 : (10 : Int) ^ (40 : Int).toNat = 10000000000000000000000000000000000000000 := by decide +kernel
theorem ten18 : (10 : Int) ^ (18 : Int).toNat = 1000000000000000000 := by decide +kernel
theorem great_of {v : V} {i : Nat} (h : ([.int 1, .int 1, .int 7, .int 60, .int ((10 : Int) ^ (40 : Int).toNat)] : List V)[i]? = some v) : ∃ g : Int, v = .int g ∧ 1 ≤ g ∧ g ≤ 10000000000000000000000000000000000000000 := by
  rw [ten40] at h
  match i, h with
  | 0, h => exact ⟨1, (Option.some.inj h).symm, by decide, by decide⟩
  | 1, h => exact ⟨1, (Option.some.inj h).symm, by decide, by decide⟩
  | 2, h => exact ⟨7, (Option.some.inj h).symm, by decide, by decide⟩
  | 3, h => exact ⟨60, (Option.some.inj h).symm, by decide, by decide⟩
  | 4, h => exact ⟨_, (Option.some.inj h).symm, by decide, by decide⟩
  | n + 5, h => simp at h
/-- a product stays small -/
theorem mul_small {a g : Int} {k : Nat} (ha : a.natAbs ≤ k) (h1 : 1 ≤ g) (h2 : g ≤ 10000000000000000000000000000000000000000) : (a * g).natAbs ≤ k * 10000000000000000000000000000000000000000 := by
  rw [Int.natAbs_mul]
  exact Nat.mul_le_mul ha (by omega)
theorem log_small {a : Nat} (h : a ≤ 100000000000000000000000000000000000000000000) : a.log2 < 200 := log2_lt (Nat.lt_of_le_of_lt h (by decide)) (by decide)
theorem mul_wide {a b : Int} (ha : a.natAbs.log2 < 200) (hb : b.natAbs.log2 < 200) : CMulW a b := by
  unfold CMulW
  omega
/-! ## tables of code objects beside the draws -/
theorem tabs_but {T : List (Addr × Str)} {H H' : Hp} {r : Addr} (t : LamX.Tabs T H) (R : RngOk H r) (b : But r H H') : LamX.Tabs T H' := fun p hp => by
  obtain ⟨ps, h1, h2, h3⟩ := t p hp
  obtain ⟨c, i, bb, s, hr, _⟩ := R
  have ne1 : p.1 ≠ r := ne_of h1 hr fun z => nomatch z
  refine ⟨ps, (b _ ne1).trans h1, h2, fun pos cv hc => ?_⟩
  obtain ⟨c', e1, e2⟩ := h3 pos cv hc
  refine ⟨c', e1, (b _ (ne_of e2 hr fun z => ?_)).trans e2⟩
  unfold LamX.CodeO at z
  cases z
theorem tabs_same {T : List (Addr × Str)} {H H' : Hp} (t : LamX.Tabs T H) (s : Same H H') : LamX.Tabs T H' := t.ext s
theorem rng_ext {H H' : Hp} {r : Addr} (h : RngOk H r) (e : LamX.ExtN H H') : RngOk H' r := h.keep e

end RB

set_option Elab.async false
set_option linter.all false
set_option maxRecDepth 100000
set_option maxHeartbeats 2000000
namespace RB
open PySem PySem.Spec PyProof.Rows L2 SX
/-! ## texts of whole numbers -/
/-- the signs of a whole number -/
def numT (i : Int) : List Nat := if i < 0 then 45 :: TL.numL i.natAbs else TL.numL i.natAbs
/-- the signs of a rational -/
def ratT (n d : Int) : List Nat := if d = 1 then numT n else numT n ++ 47 :: numT d
/-- the last k digits of l -/
def dig : Nat → Nat → List Nat
  | 0, _ => []
  | k + 1, l => dig k (l / 10) ++ [48 + l % 10]
theorem dig_len : ∀ k l : Nat, (dig k l).length = k
  | 0, _ => rfl
  | k + 1, l => by
    show (dig k (l / 10) ++ [48 + l % 10]).length = k + 1
    rw [List.length_append, dig_len k]
    rfl
theorem numL_dig : ∀ (k : Nat) (h l : Nat), 1 ≤ h → l < 10 ^ k → TL.numL (h * 10 ^ k + l) = TL.numL h ++ dig k l
  | 0, h, l, _, hl => by
    have : l = 0 := by simpa using hl
    subst this
    show TL.numL (h * 1 + 0) = TL.numL h ++ []
    rw [List.append_nil]
    congr 1
    omega
  | k + 1, h, l, h1, hl => by
    have p : 10 ^ (k + 1) = 10 ^ k * 10 := Nat.pow_succ ..
    have p0 : 1 ≤ 10 ^ k := Nat.one_le_pow _ _ (by decide)
    have hp : h * 10 ^ (k + 1) = h * 10 ^ k * 10 := by rw [p, Nat.mul_assoc]
    have ge : 1 ≤ h * 10 ^ k := Nat.mul_le_mul h1 p0
    rw [TL.numL_step (n := h * 10 ^ (k + 1) + l) (by omega)]
    have e1 : (h * 10 ^ (k + 1) + l) / 10 = h * 10 ^ k + l / 10 := by omega
    have e2 : (h * 10 ^ (k + 1) + l) % 10 = l % 10 := by omega
    rw [e1, e2, numL_dig k h (l / 10) h1 (by omega), List.append_assoc]
    rfl
theorem dig_pad : ∀ (k : Nat) (l : Nat), 0 < k → l < 10 ^ k → dig k l = List.replicate (k - (TL.numL l).length) 48 ++ TL.numL l
  | 0, _, h, _ => absurd h (by decide)
  | 1, l, _, hl => by
    have h10 : l < 10 := by simpa using hl
    rw [TL.numL_lt h10]
    show [] ++ [48 + l % 10] = List.replicate (1 - 1) 48 ++ [48 + l]
    rw [Nat.mod_eq_of_lt h10]
    rfl
  | k + 2, l, _, hl => by
    have p : 10 ^ (k + 2) = 10 ^ (k + 1) * 10 := Nat.pow_succ ..
    have ih := dig_pad (k + 1) (l / 10) (by omega) (by omega)
    show dig (k + 1) (l / 10) ++ [48 + l % 10] = _
    rw [ih]
    by_cases h10 : l < 10
    · have e0 : l / 10 = 0 := by omega
      rw [e0, TL.numL_lt h10, TL.numL_lt (by decide : 0 < 10), Nat.mod_eq_of_lt h10]
      show List.replicate (k + 1 - 1) 48 ++ [48 + 0] ++ [48 + l] = List.replicate (k + 2 - 1) 48 ++ [48 + l]
      rw [show k + 1 - 1 = k by omega, show k + 2 - 1 = k + 1 by omega, List.replicate_succ']
    · rw [TL.numL_step (n := l) (by omega), List.append_assoc, List.length_append]
      congr 2
      show k + 1 - (TL.numL (l / 10)).length = k + 2 - ((TL.numL (l / 10)).length + 1)
      omega
theorem zfill_dig {k l : Nat} (hk : 0 < k) (hl : l < 10 ^ k) (h64 : k ≤ 1000) : Txt.zfill (S (TL.numL l)) (k : Int) = S (dig k l) := by
  have hlen := TL.numL_len hk hl
  rw [dig_pad k l hk hl]
  unfold Txt.zfill
  rw [S_len]
  by_cases c : (k : Int) ≤ ((TL.numL l).length : Int)
  · rw [if_pos c]
    have : k - (TL.numL l).length = 0 := by omega
    rw [this]
    rfl
  · rw [if_neg c]
    have hd : ∀ c0, (S (TL.numL l)).cps[0]? = some c0 → 48 ≤ c0 ∧ c0 ≤ 57 := fun c0 e => by
      have : c0 ∈ TL.numL l := by
        have e' : (TL.numL l)[0]? = some c0 := by simpa [S] using e
        exact List.mem_of_getElem? e'
      exact TL.numL_digits l c0 this
    have pad : zfilled (S (TL.numL l)) ((k : Int).toNat - (TL.numL l).length) = Builtin.Str.padded (S (TL.numL l)) ((k : Int).toNat - (TL.numL l).length) 0 48 := by
      unfold zfilled
      split
      · rename_i e
        have := hd _ e
        omega
      · rename_i e
        have := hd _ e
        omega
      · rfl
    rw [pad]
    refine TL.ext_tl ?_
    show (Array.replicate ((k : Int).toNat - (TL.numL l).length) 48 ++ (S (TL.numL l)).cps ++ Array.replicate 0 48).toList = List.replicate (k - (TL.numL l).length) 48 ++ TL.numL l
    rw [Int.toNat_natCast]
    simp [S]
theorem toString_neg (n : Nat) (h : 0 < n) : Str.ofString (toString (-(n : Int))) = S (45 :: TL.numL n) := by
  refine TL.ext_tl ?_
  show (Str.ofString (toString (-(n : Int)))).cps.toList = 45 :: TL.numL n
  rw [PyProof.Rows.signs_ofString, Int.toString_eq_repr, Int.repr_eq_if, if_neg (by omega), String.toList_append, List.map_append]
  have e : (-(-(n : Int))).toNat = n := by omega
  rw [e, Nat.toList_repr]
  rfl
theorem num_T (i : Int) : Str.ofString (toString i) = S (numT i) := by
  unfold numT
  by_cases h : i < 0
  · rw [if_pos h]
    have e : i = -((i.natAbs : Nat) : Int) := by omega
    conv => lhs; rw [e]
    exact toString_neg _ (by omega)
  · rw [if_neg h]
    have e : i = ((i.natAbs : Nat) : Int) := by omega
    conv => lhs; rw [e]
    exact num_S _
section
variable {X : Cx}
theorem op_mul_str : OpR X (binaryOp .Mult) (fun x y H Q => ∃ (a : Str) (n : Int), x = .str a ∧ y = .int n ∧ MulOk a n ∧ Q (.str (Txt.mul a n)) H) := by
  intro pins s σ H x y v u Q I rx ry h
  obtain ⟨a, n, rfl, rfl, ok, q⟩ := h
  obtain ⟨t, rfl⟩ := rx
  obtain ⟨t', rfl⟩ := ry
  exact SB.mul ok fun t' k => ⟨.str (Txt.mul a n), H, I.tok _, ⟨_, rfl⟩, q⟩
end
/-! ## reading numbers -/
def isDig (c : Nat) : Bool := decide (48 ≤ c) && decide (c ≤ 57)
def numeralB (l : List Nat) : Bool := decide (1 ≤ l.length ∧ l.length ≤ 100) && l.all isDig
theorem numeral_int {l : List Nat} (h : numeralB l = true) : intText? (S l) = some ((NumText.digitsVal l : Nat) : Int) ∧ l.length ≤ 100 := by
  obtain ⟨h1, h2⟩ := Bool.and_eq_true_iff.mp h
  obtain ⟨h3, h4⟩ := of_decide_eq_true h1
  refine ⟨int_S h2 (fun z => ?_) (by omega), h4⟩
  rw [z] at h3
  simp at h3
theorem digits_lt : ∀ (l : List Nat) (a k : Nat), l.all isDig = true → a < 10 ^ k → l.foldl (fun acc c => acc * 10 + (c - 48)) a < 10 ^ (k + l.length)
  | [], a, k, _, h => h
  | c :: r, a, k, hd, h => by
    obtain ⟨h1, h2⟩ := Bool.and_eq_true_iff.mp (show (isDig c && r.all isDig) = true from hd)
    obtain ⟨c1, c2⟩ := Bool.and_eq_true_iff.mp h1
    have c1 := of_decide_eq_true c1
    have c2 := of_decide_eq_true c2
    have p : 10 ^ (k + 1) = 10 ^ k * 10 := Nat.pow_succ ..
    have := digits_lt r (a * 10 + (c - 48)) (k + 1) h2 (by omega)
    rw [show k + (c :: r).length = k + 1 + r.length by rw [List.length_cons]; omega]
    exact this
theorem digitsVal_lt (l : List Nat) (h : l.all isDig = true) : NumText.digitsVal l < 10 ^ l.length := by
  have := digits_lt l 0 0 h (by decide)
  rw [Nat.zero_add] at this
  exact this
end RB

set_option Elab.async false
set_option linter.all false
set_option maxRecDepth 100000
set_option maxHeartbeats 2000000
namespace RB
open PySem PySem.Spec PyProof.Rows L2 SX
/-! ## rationals as they are passed, their texts, the reader -/
def RatV (H : Hp) (v : V) (n d : Int) : Prop := (v = .int n ∧ d = 1) ∨ ∃ a, v = .ref a ∧ H a = some (.tup [.int n, .int d])
theorem RatV.same {H H' : Hp} {v : V} {n d : Int} (h : RatV H v n d) (s : Same H H') : RatV H' v n d := by
  rcases h with h | ⟨a, e, h⟩
  · exact .inl h
  · exact .inr ⟨a, e, s _ _ h⟩
def Bad (C : Addr) (H : Hp) (E : XK) : Prop := ∀ x, H x = none → E (.ref C) (some x) (upd H x (.xd [("code", .str "InvalidNumber")]))
def spPair (C : Addr) : Sp := fun vs H Q E => ∃ (v : V) (n d : Int), vs = [v] ∧ RatV H v n d ∧ (d = 0 → Bad C H E) ∧ (d ≠ 0 → ∀ p, H p = none → Q (.ref p) (upd H p (.tup [.int n, .int d])))
def big : Nat := 10 ^ 1280
def spWhole : Sp := fun vs H Q _ => ∃ n : Int, vs = [.int n] ∧ n.natAbs < big ∧ ∀ H', Same H H' → Q (.str (S (numT n))) H'
def lowN (n d : Int) : Int := n.fdiv (lowS n d)
def lowD (n d : Int) : Int := d.fdiv (lowS n d)
def spNText (C : Addr) : Sp := fun vs H Q E => ∃ (v : V) (n d : Int), vs = [v] ∧ RatV H v n d ∧ n.natAbs < big ∧ d.natAbs < big ∧ (d = 0 → ∀ H', Same H H' → Bad C H' E) ∧ (d ≠ 0 → ∀ H', Same H H' → Q (.str (S (ratT (lowN n d) (lowD n d)))) H')
def spNumeral : Sp := fun vs H Q _ => ∃ l : List Nat, vs = [.str (S l)] ∧ l.length ≤ 100000 ∧ ∀ H', Same H H' → Q (.bl (numeralB l)) H'
/-- the reader -/
def minusB (t : List Nat) : Bool := decide (t.head? = some 45)
def bare (t : List Nat) : List Nat := if minusB t then t.tail else t
def above (t : List Nat) : List Nat := match TL.par [47] [] (bare t) with | some (p, _) => p | none => bare t
def below (t : List Nat) : List Nat := match TL.par [47] [] (bare t) with | some (_, q) => q | none => [49]
def rdN (t : List Nat) : Int := NumText.digitsVal (above t)
def rdD (t : List Nat) : Int := NumText.digitsVal (below t)
def rdS (t : List Nat) : Int := if minusB t then -(lowN (rdN t) (rdD t)) else lowN (rdN t) (rdD t)
def readsB (t : List Nat) : Bool := numeralB (above t) && numeralB (below t) && !decide (rdD t = 0) && decide (ratT (rdS t) (lowD (rdN t) (rdD t)) = t)
def spParse (C : Addr) : Sp := fun vs H Q E => ∃ t : List Nat, vs = [.str (S t)] ∧ t.length ≤ 99999 ∧ (readsB t = true → ∀ H' p, Same H H' → H' p = some (.tup [.int (rdS t), .int (lowD (rdN t) (rdD t))]) → Q (.ref p) H') ∧ (readsB t = false → ∀ H', Same H H' → Bad C H' E)
theorem big_log {a : Nat} (h : a < big) : a.log2 < 9000 := by
  have h2 : big < 2 ^ 4300 := by decide +kernel
  have := log2_lt (Nat.lt_trans h h2) (by decide)
  omega
theorem joinL_nil : ∀ ys : List (List Nat), TL.joinL [] ys = ys.flatten
  | [] => rfl
  | [y] => by
    show y = [y].flatten
    simp
  | y :: z :: r => by
    show y ++ ([] ++ TL.joinL [] (z :: r)) = (y :: z :: r).flatten
    rw [joinL_nil (z :: r)]
    simp
theorem flat_len {ys : List (List Nat)} (h : ∀ y ∈ ys, y.length = 64) : ys.flatten.length = 64 * ys.length := by
  induction ys with
  | nil => rfl
  | cons y r ih =>
    rw [List.flatten_cons, List.length_append, h y (List.mem_cons_self ..), ih fun z hz => h z (List.mem_cons_of_mem _ hz), List.length_cons]
    omega
theorem pre_one (s c : Nat) (r : List Nat) : TL.pre [s] (c :: r) = decide (c = s) := by
  show ([c] == [s]) = decide (c = s)
  by_cases h : c = s
  · subst h
    simp
  · rw [decide_eq_false h]
    exact beq_eq_false_iff_ne.mpr fun z => h (List.cons.inj z).1
theorem par_inv {s : Nat} : ∀ {u acc p q : List Nat}, TL.par [s] acc u = some (p, q) → ∃ p', p = acc ++ p' ∧ u = p' ++ s :: q ∧ s ∉ p'
  | [], _, _, _, h => by cases h
  | c :: r, acc, p, q, h => by
    by_cases hc : c = s
    · rw [TL.par_hit (by rw [pre_one]; exact decide_eq_true hc)] at h
      have e := Option.some.inj h
      have e1 : acc = p := congrArg Prod.fst e
      have e2 : r = q := congrArg Prod.snd e
      exact ⟨[], by rw [e1, List.append_nil], by rw [hc, e2]; rfl, by simp⟩
    · rw [TL.par_miss (by rw [pre_one]; exact decide_eq_false hc)] at h
      obtain ⟨p', e1, e2, e3⟩ := par_inv h
      refine ⟨c :: p', by rw [e1, List.append_assoc]; rfl, by rw [e2]; rfl, ?_⟩
      intro z
      rcases List.mem_cons.mp z with z | z
      · exact hc z.symm
      · exact e3 z
theorem par_none_inv {s : Nat} : ∀ {u acc : List Nat}, TL.par [s] acc u = none → s ∉ u
  | [], _, _ => by simp
  | c :: r, acc, h => by
    by_cases hc : c = s
    · rw [TL.par_hit (by rw [pre_one]; exact decide_eq_true hc)] at h
      cases h
    · rw [TL.par_miss (by rw [pre_one]; exact decide_eq_false hc)] at h
      intro z
      rcases List.mem_cons.mp z with z | z
      · exact hc z.symm
      · exact par_none_inv h z
theorem subAt_minus (t : List Nat) : Builtin.Str.subAt (S t) (S [45]) 0 = minusB t := by
  rw [StrLaws.subAt_eq]
  show ((t.drop 0).take 1 == [45]) = decide (t.head? = some 45)
  cases t with
  | nil => rfl
  | cons c r =>
    show ([c] == [45]) = decide (some c = some 45)
    by_cases h : c = 45
    · subst h
      rfl
    · rw [decide_eq_false (fun z => h (Option.some.inj z))]
      exact beq_eq_false_iff_ne.mpr fun z => h (List.cons.inj z).1
theorem minus_len {t : List Nat} (h : minusB t = true) : 1 ≤ t.length := by
  cases t with
  | nil => exact absurd (of_decide_eq_true h) (by simp)
  | cons c r => simp
theorem removeprefix_minus (t : List Nat) : Txt.removeprefix (S t) (S [45]) = S (bare t) := by
  rw [StrLaws.removeprefix_eq, subAt_minus, S_len, S_len]
  unfold bare
  cases h : minusB t with
  | false =>
    rw [Bool.and_false]
    rfl
  | true =>
    have := minus_len h
    rw [decide_eq_true (by simpa using this)]
    show (⟨((t.drop 1).take (t.length - 1)).toArray⟩ : Str) = S t.tail
    rw [List.drop_one, List.take_of_length_le (by simp)]
theorem startswith_minus (t : List Nat) : Txt.startswith (S t) (S [45]) = minusB t := by
  unfold Txt.startswith
  rw [subAt_minus, S_len, S_len]
  cases h : minusB t with
  | false => rw [Bool.and_false]
  | true =>
    have := minus_len h
    rw [decide_eq_true (by simpa using this)]
    rfl
end RB

set_option Elab.async false
set_option linter.all false
set_option maxRecDepth 100000
set_option maxHeartbeats 2000000
namespace RB
open PySem PySem.Spec PyProof.Rows L2 SX
/-! ## values that a law draws -/
/-- what was tracked stays, but for r -/
structure Keeps (r : Addr) (H H' : Hp) : Prop where
  fn : ∀ b o, H b = some o → b ≠ r → H' b = some o
  fst : Fst r H H'
instance {r : Addr} {H H' : Hp} : CoeFun (Keeps r H H') fun _ => ∀ b o, H b = some o → b ≠ r → H' b = some o := ⟨Keeps.fn⟩
theorem Keeps.refl (r : Addr) (H : Hp) : Keeps r H H := ⟨fun _ _ e _ => e, fun c rest e => ⟨rest, e⟩⟩
theorem Keeps.trans {r : Addr} {H H1 H2 : Hp} (a : Keeps r H H1) (b : Keeps r H1 H2) : Keeps r H H2 := ⟨fun c o e n => b.fn c o (a.fn c o e n) n, a.fst.trans b.fst⟩
theorem Keeps.same {r : Addr} {H H' : Hp} (s : Same H H') : Keeps r H H' := ⟨fun b o e _ => s b o e, fun c rest e => ⟨rest, s _ _ e⟩⟩
theorem Keeps.but {r : Addr} {H H' : Hp} (s : But r H H') : Keeps r H H' := ⟨fun b o e n => (s.fn b n).trans e, s.fst⟩
/-- the generator's cells stay where they are -/
theorem rng_cells {r D : Addr} {H H1 : Hp} {l : List V} (R : RngOk H r) (k : Keeps r H H1) (R1 : RngOk H1 r) (nD : H D = none) : RngOk (upd H1 D (.lst l)) r := by
  obtain ⟨c, i, b, s, hr, ⟨cells, hc, _⟩, _⟩ := R
  obtain ⟨rest, e⟩ := k.fst _ _ hr
  obtain ⟨c1, i1, b1, s1, hr1, ⟨cells1, hc1, l1⟩, h4⟩ := R1
  rw [hr1] at e
  have e1 : c1 = c := by
    have := HO.lst.inj (Option.some.inj e)
    have := (List.cons.inj this).1
    exact V.ref.inj this
  subst e1
  refine ⟨c1, i1, b1, s1, ?_, ⟨cells1, ?_, l1⟩, h4⟩
  · rw [upd_ne (ne_of_none hr nD)]
    exact hr1
  · rw [upd_ne (ne_of_none hc nD)]
    exact hc1
theorem rng_ne_tup {H : Hp} {r p : Addr} {xs : List V} (R : RngOk H r) (h : H p = some (.tup xs)) : p ≠ r := by
  obtain ⟨c, i, b, s, hr, _⟩ := R
  exact ne_of h hr fun z => nomatch z
theorem rng_ne_new {H : Hp} {r p : Addr} (R : RngOk H r) (h : H p = none) : p ≠ r := by
  obtain ⟨c, i, b, s, hr, _⟩ := R
  exact (ne_of_none hr h).symm
theorem tabs_keep {T : List (Addr × Str)} {H H' : Hp} {r : Addr} (t : LamX.Tabs T H) (R : RngOk H r) (b : Keeps r H H') : LamX.Tabs T H' := fun p hp => by
  obtain ⟨ps, h1, h2, h3⟩ := t p hp
  obtain ⟨c, i, bb, s, hr, _⟩ := R
  refine ⟨ps, b _ _ h1 (ne_of h1 hr fun z => nomatch z), h2, fun pos cv hc => ?_⟩
  obtain ⟨c', e1, e2⟩ := h3 pos cv hc
  refine ⟨c', e1, b _ _ e2 (ne_of e2 hr fun z => ?_)⟩
  unfold LamX.CodeO at z
  cases z
/-- a rational in lowest terms -/
def Low (n d : Int) : Prop := 1 ≤ d ∧ Int.gcd n d = 1
theorem low_Low {n d : Int} (h : d ≠ 0) : Low (n.fdiv (lowS n d)) (d.fdiv (lowS n d)) := by
  obtain ⟨k, m, _, _, e1, e2, m1, g, _⟩ := low_all (n := n) h
  rw [e1, e2]
  exact ⟨m1, g⟩
theorem low_scale {n d f : Int} (h : Low n d) (hf : f ≠ 0) : lowN (n * f) (d * f) = n ∧ lowD (n * f) (d * f) = d := by
  obtain ⟨h1, h2⟩ := h
  have g : Int.gcd (n * f) (d * f) = f.natAbs := by
    rw [Int.gcd_mul_right, h2, Nat.one_mul]
  have hs : lowS (n * f) (d * f) = f := by
    unfold lowS
    rw [g]
    by_cases c : 0 < f
    · have : 0 < d * f := Int.mul_pos (by omega) c
      rw [if_neg (by omega)]
      omega
    · have : d * f < 0 := Int.mul_neg_of_pos_of_neg (by omega) (by omega)
      rw [if_pos this]
      omega
  unfold lowN lowD
  rw [hs]
  exact ⟨fdiv_is hf (Int.mul_comm _ _), fdiv_is hf (Int.mul_comm _ _)⟩
def spValue : Sp := fun vs H Q _ => ∃ r : Addr, vs = [.ref r] ∧ RngOk H r ∧ ∀ n d p H', Low n d → n.natAbs ≤ 1000 → d.natAbs ≤ 12 → Keeps r H H' → RngOk H' r → H p = none → H' p = some (.tup [.int n, .int d]) → Q (.ref p) H'
def spGiven : Sp := fun vs H Q _ => ∃ (r p : Addr) (n d : Int), vs = [.ref r, .ref p] ∧ RngOk H r ∧ H p = some (.tup [.int n, .int d]) ∧ ∀ v f H', RatV H' v (n * f) (d * f) → f ≠ 0 → f.natAbs ≤ 7 → Keeps r H H' → RngOk H' r → Q v H'
def spRatText : Sp := fun vs H Q _ => ∃ (p : Addr) (n d : Int), vs = [.ref p] ∧ H p = some (.tup [.int n, .int d]) ∧ n.natAbs.log2 < 1920 ∧ d.natAbs.log2 < 1920 ∧ Q (.str (S (ratT n d))) H
theorem fac_of {v : V} {i : Nat} (h : ([.int 1, .int (-1), .int 2, .int (-3), .int 7] : List V)[i]? = some v) : ∃ f : Int, v = .int f ∧ f ≠ 0 ∧ f.natAbs ≤ 7 := by
  match i, h with
  | 0, h => exact ⟨1, (Option.some.inj h).symm, by decide, by decide⟩
  | 1, h => exact ⟨-1, (Option.some.inj h).symm, by decide, by decide⟩
  | 2, h => exact ⟨2, (Option.some.inj h).symm, by decide, by decide⟩
  | 3, h => exact ⟨-3, (Option.some.inj h).symm, by decide, by decide⟩
  | 4, h => exact ⟨7, (Option.some.inj h).symm, by decide, by decide⟩
  | n + 5, h => simp at h
/-! ## the reader reads what the writer writes -/
theorem numL_numeral {n : Nat} (h : n < 10 ^ 100) : numeralB (TL.numL n) = true := by
  have l1 := TL.numL_len (k := 100) (by decide) h
  have l2 : 1 ≤ (TL.numL n).length := by
    have := TL.numL_ne n
    cases e : TL.numL n with
    | nil => exact absurd e this
    | cons a b => simp
  unfold numeralB
  rw [decide_eq_true ⟨l2, l1⟩, Bool.true_and]
  refine List.all_eq_true.mpr fun c hc => ?_
  obtain ⟨c1, c2⟩ := TL.numL_digits n c hc
  unfold isDig
  rw [decide_eq_true c1, decide_eq_true c2]
  rfl
theorem numL_no {n s : Nat} (h : s < 48 ∨ 57 < s) : s ∉ TL.numL n := TL.numL_free h
theorem minus_num (n : Int) (r : List Nat) : minusB (numT n ++ r) = decide (n < 0) := by
  unfold numT
  by_cases h : n < 0
  · rw [if_pos h, decide_eq_true h]
    rfl
  · rw [if_neg h, decide_eq_false h]
    unfold minusB
    refine decide_eq_false fun z => ?_
    have hne := TL.numL_ne n.natAbs
    cases e : TL.numL n.natAbs with
    | nil => exact absurd e hne
    | cons a b =>
      rw [e] at z
      have z2 : a = 45 := Option.some.inj z
      have : (45 : Nat) ∈ TL.numL n.natAbs := by rw [e, z2]; exact List.mem_cons_self
      exact numL_no (by decide) this
theorem bare_num (n : Int) (r : List Nat) : bare (numT n ++ r) = TL.numL n.natAbs ++ r := by
  unfold bare
  rw [minus_num]
  unfold numT
  by_cases h : n < 0
  · rw [if_pos h, decide_eq_true h]
    rfl
  · rw [if_neg h, decide_eq_false h]
    rfl
theorem parse_rat {n d : Int} (h : Low n d) (h1 : n.natAbs < 10 ^ 100) (h2 : d.natAbs < 10 ^ 100) : readsB (ratT n d) = true ∧ rdS (ratT n d) = n ∧ lowD (rdN (ratT n d)) (rdD (ratT n d)) = d := by
  have hd1 := h.1
  have ed : numT d = TL.numL d.natAbs := if_neg (by omega)
  have key : ∃ r, ratT n d = numT n ++ r ∧ above (ratT n d) = TL.numL n.natAbs ∧ rdD (ratT n d) = d ∧ numeralB (below (ratT n d)) = true := by
    unfold ratT
    by_cases c : d = 1
    · rw [if_pos c]
      have eb := bare_num n []
      rw [List.append_nil] at eb
      have ep : TL.par [47] [] (bare (numT n)) = none := by
        rw [eb]
        rw [List.append_nil]
        exact TL.par_none1 (numL_no (s := 47) (by decide))
      refine ⟨[], by rw [List.append_nil], ?_, ?_, ?_⟩
      · unfold above
        rw [ep, eb, List.append_nil]
      · unfold rdD below
        rw [ep, c]
        rfl
      · unfold below
        rw [ep]
        decide
    · rw [if_neg c]
      have eb := bare_num n (47 :: numT d)
      have ep : TL.par [47] [] (bare (numT n ++ 47 :: numT d)) = some (TL.numL n.natAbs, TL.numL d.natAbs) := by
        rw [eb, ed]
        have := TL.par_part1 (s := 47) (S := []) (p := TL.numL n.natAbs) (rest := TL.numL d.natAbs) (acc := []) (numL_no (by decide))
        exact this
      refine ⟨47 :: numT d, rfl, ?_, ?_, ?_⟩
      · unfold above
        rw [ep]
      · unfold rdD below
        rw [ep]
        show ((NumText.digitsVal (TL.numL d.natAbs) : Nat) : Int) = d
        rw [TL.numL_val]
        omega
      · unfold below
        rw [ep]
        exact numL_numeral h2
  obtain ⟨r, er, ea, eD, eB⟩ := key
  have eN : rdN (ratT n d) = (n.natAbs : Int) := by
    unfold rdN
    rw [ea, TL.numL_val]
  have g : Int.gcd (n.natAbs : Int) d = 1 := by
    have := h.2
    simpa [Int.gcd] using this
  have hid : lowN (n.natAbs : Int) d = n.natAbs ∧ lowD (n.natAbs : Int) d = d := by
    have := low_scale (n := (n.natAbs : Int)) (d := d) (f := 1) ⟨hd1, g⟩ (by decide)
    rw [Int.mul_one, Int.mul_one] at this
    exact this
  have eS : rdS (ratT n d) = n := by
    unfold rdS
    rw [eN, eD, hid.1, er, minus_num]
    by_cases c : n < 0
    · rw [decide_eq_true c, if_pos rfl]
      omega
    · rw [decide_eq_false c, if_neg (by decide)]
      omega
  have eL : lowD (rdN (ratT n d)) (rdD (ratT n d)) = d := by
    rw [eN, eD]
    exact hid.2
  refine ⟨?_, eS, eL⟩
  unfold readsB
  rw [eL, eS, ea, numL_numeral h1, eB, eD, decide_eq_false (by omega : ¬ d = 0), decide_eq_true rfl]
  rfl
end RB

set_option Elab.async false
set_option linter.all false
set_option maxRecDepth 100000
set_option maxHeartbeats 2000000
namespace RB
open PySem PySem.Spec PyProof.Rows L2 SX
/-! ## another reader: by the parts between the slashes -/
def digitsB (l : List Nat) : Bool := numeralB l && (decide (l = [48]) || !decide (l.head? = some 48))
def partsL (t : List Nat) : List (List Nat) := TL.spl [47] 0 [] t
def vNat (l : List Nat) : Int := ((NumText.digitsVal l : Nat) : Int)
def topOf (p : List Nat) : Int := if minusB p then -(vNat (bare p)) else vNat (bare p)
def dueP : List (List Nat) → Option (Int × Int)
  | [] => none
  | [p] => if digitsB (bare p) then (if bare p ≠ [48] ∨ p = [48] then some (topOf p, 1) else none) else none
  | [p, q] => if digitsB (bare p) && digitsB q then (if 1 < vNat q ∧ Int.gcd (topOf p) (vNat q) = 1 then some (topOf p, vNat q) else none) else none
  | _ => none
theorem due1 (p : List Nat) : dueP [p] = if digitsB (bare p) then (if bare p ≠ [48] ∨ p = [48] then some (topOf p, 1) else none) else none := rfl
theorem due2 (p q : List Nat) : dueP [p, q] = if digitsB (bare p) && digitsB q then (if 1 < vNat q ∧ Int.gcd (topOf p) (vNat q) = 1 then some (topOf p, vNat q) else none) else none := rfl
theorem due3 (p q r : List Nat) (l : List (List Nat)) : dueP (p :: q :: r :: l) = none := rfl
def dueOf (t : List Nat) : Option (Int × Int) := dueP (partsL t)
theorem fold_ge : ∀ (l : List Nat) (a : Nat), a ≤ l.foldl (fun acc c => acc * 10 + (c - 48)) a
  | [], a => Nat.le_refl _
  | c :: r, a => Nat.le_trans (by omega : a ≤ a * 10 + (c - 48)) (fold_ge r _)
theorem dv_snoc (l : List Nat) (c : Nat) : NumText.digitsVal (l ++ [c]) = NumText.digitsVal l * 10 + (c - 48) := by
  show (l ++ [c]).foldl (fun acc c => acc * 10 + (c - 48)) 0 = _
  rw [List.foldl_append]
  rfl
theorem isDig_of {c : Nat} (h : isDig c = true) : 48 ≤ c ∧ c ≤ 57 := by
  obtain ⟨c1, c2⟩ := Bool.and_eq_true_iff.mp h
  exact ⟨of_decide_eq_true c1, of_decide_eq_true c2⟩
theorem dv_pos {c : Nat} {r : List Nat} (h : isDig c = true) (h0 : c ≠ 48) : 1 ≤ NumText.digitsVal (c :: r) := by
  have := isDig_of h
  have g := fold_ge r (0 * 10 + (c - 48))
  exact Nat.le_trans (by omega) g
theorem numL_back : ∀ (n : Nat) (l : List Nat), l.length = n → l ≠ [] → l.all isDig = true → (l = [48] ∨ l.head? ≠ some 48) → TL.numL (NumText.digitsVal l) = l
  | 0, l, hn, hne, _, _ => absurd (List.length_eq_zero_iff.mp hn) hne
  | n + 1, l, hn, hne, hd, hh => by
    obtain ⟨l', c, rfl⟩ : ∃ l' c, l = l' ++ [c] := ⟨l.dropLast, l.getLast hne, (List.dropLast_concat_getLast hne).symm⟩
    rw [List.all_append] at hd
    obtain ⟨d1, d2⟩ := Bool.and_eq_true_iff.mp hd
    have dc : isDig c = true := by simpa using d2
    have cc := isDig_of dc
    rw [dv_snoc]
    cases l' with
    | nil =>
      show TL.numL (0 * 10 + (c - 48)) = [c]
      rw [TL.numL_lt (by omega)]
      congr 1
      omega
    | cons a r =>
      have ha : a ≠ 48 := by
        rcases hh with z | z
        · exact absurd (congrArg List.length z) (by simp)
        · exact fun e => z (by rw [e]; rfl)
      have da : isDig a = true := by
        have : (isDig a && r.all isDig) = true := d1
        exact (Bool.and_eq_true_iff.mp this).1
      have p1 := dv_pos (r := r) da ha
      rw [TL.numL_step (by omega)]
      have e1 : (NumText.digitsVal (a :: r) * 10 + (c - 48)) / 10 = NumText.digitsVal (a :: r) := by omega
      have e2 : 48 + (NumText.digitsVal (a :: r) * 10 + (c - 48)) % 10 = c := by omega
      rw [e1, e2, numL_back n (a :: r) (by simpa using hn) (by simp) d1 (.inr fun z => ha (Option.some.inj z))]
theorem numL_head : ∀ (n : Nat), 0 < n → (TL.numL n).head? ≠ some 48 := by
  intro n
  induction n using Nat.strongRecOn with
  | ind n ih =>
    intro h
    by_cases c : n < 10
    · rw [TL.numL_lt c]
      intro z
      have : 48 + n = 48 := Option.some.inj z
      omega
    · rw [TL.numL_step (by omega)]
      have hne := TL.numL_ne (n / 10)
      have := ih (n / 10) (by omega) (by omega)
      cases e : TL.numL (n / 10) with
      | nil => exact absurd e hne
      | cons a r =>
        rw [e] at this
        exact this
theorem digits_num {n : Nat} (h : n < 10 ^ 100) : digitsB (TL.numL n) = true := by
  unfold digitsB
  rw [numL_numeral h, Bool.true_and]
  by_cases c : n = 0
  · subst c
    rfl
  · rw [decide_eq_false (numL_head n (by omega))]
    simp
theorem digits_back {l : List Nat} (h : digitsB l = true) : TL.numL (NumText.digitsVal l) = l ∧ NumText.digitsVal l < 10 ^ 100 := by
  obtain ⟨h1, h2⟩ := Bool.and_eq_true_iff.mp h
  obtain ⟨h3, h4⟩ := Bool.and_eq_true_iff.mp h1
  obtain ⟨h5, h6⟩ := of_decide_eq_true h3
  refine ⟨numL_back _ l rfl (fun z => by rw [z] at h5; simp at h5) h4 ?_, ?_⟩
  · rcases Bool.or_eq_true_iff.mp h2 with z | z
    · exact .inl (of_decide_eq_true z)
    · exact .inr (by simpa using z)
  · exact Nat.lt_of_lt_of_le (digitsVal_lt l h4) (Nat.pow_le_pow_right (by decide) h6)
theorem bare_cases (p : List Nat) : (minusB p = true ∧ p = 45 :: bare p) ∨ (minusB p = false ∧ bare p = p) := by
  unfold bare
  cases h : minusB p with
  | false => exact .inr ⟨rfl, if_neg (by simp)⟩
  | true =>
    left
    refine ⟨rfl, ?_⟩
    rw [if_pos rfl]
    cases p with
    | nil => exact absurd (of_decide_eq_true h) (by simp)
    | cons c r =>
      have : c = 45 := Option.some.inj (of_decide_eq_true h)
      rw [this]
      rfl
/-- a numeral with or without a minus is the text of its number, unless it is -0 -/
theorem num_back {p : List Nat} (h : digitsB (bare p) = true) (h0 : minusB p = true → vNat (bare p) ≠ 0) : numT (topOf p) = p ∧ (topOf p).natAbs = NumText.digitsVal (bare p) := by
  obtain ⟨h1, h2⟩ := digits_back h
  unfold topOf vNat
  unfold vNat at h0
  rcases bare_cases p with ⟨m, e⟩ | ⟨m, e⟩
  · rw [m, if_pos rfl]
    have z := h0 m
    refine ⟨?_, by omega⟩
    unfold numT
    rw [if_pos (by omega), Int.natAbs_neg, Int.natAbs_natCast, h1]
    exact e.symm
  · rw [m, if_neg (by simp)]
    refine ⟨?_, by omega⟩
    unfold numT
    rw [if_neg (by omega), Int.natAbs_natCast, h1, e]
theorem spl_cases (t : List Nat) : (47 ∉ t ∧ partsL t = [t]) ∨ ∃ p r, t = p ++ 47 :: r ∧ 47 ∉ p ∧ partsL t = p :: partsL r := by
  unfold partsL
  cases h : TL.par [47] [] t with
  | none =>
    have n := par_none_inv h
    left
    refine ⟨n, ?_⟩
    rw [TL.spl_last1 n, List.nil_append]
  | some pq =>
    obtain ⟨p, q⟩ := pq
    obtain ⟨p', e1, e2, e3⟩ := par_inv h
    right
    refine ⟨p', q, e2, e3, ?_⟩
    have := TL.spl_part1 (s := 47) (S := []) (p := p') (rest := q) (acc := []) e3
    rw [List.nil_append] at this
    rw [e2]
    exact this
theorem parts_ne (t : List Nat) : ∃ p r, partsL t = p :: r := by
  rcases spl_cases t with ⟨_, e⟩ | ⟨p, r, _, _, e⟩
  · exact ⟨t, [], e⟩
  · exact ⟨p, _, e⟩
/-- what the reader by parts gives is a number in lowest terms, and the text is its text -/
theorem due_some {t : List Nat} {n d : Int} (h : dueOf t = some (n, d)) : Low n d ∧ n.natAbs < 10 ^ 100 ∧ d.natAbs < 10 ^ 100 ∧ t = ratT n d := by
  unfold dueOf at h
  rcases spl_cases t with ⟨_, e⟩ | ⟨p, r, et, _, e⟩
  · rw [e, due1] at h
    split at h
    · rename_i hd
      split at h
      · rename_i hc
        have e2 := Option.some.inj h
        have en : topOf t = n := congrArg Prod.fst e2
        have ed : (1 : Int) = d := congrArg Prod.snd e2
        have nb := num_back hd (fun m z => by
          rcases hc with hc | hc
          · have := (digits_back hd).1
            unfold vNat at z
            rw [(by omega : NumText.digitsVal (bare t) = 0)] at this
            exact hc this.symm
          · rw [hc] at m
            exact absurd m (by decide))
        rw [en] at nb
        subst ed
        refine ⟨⟨by decide, by simp⟩, by rw [nb.2]; exact (digits_back hd).2, by decide, ?_⟩
        unfold ratT
        rw [if_pos rfl, nb.1]
      · cases h
    · cases h
  · rcases spl_cases r with ⟨_, e3⟩ | ⟨p2, r2, _, _, e3⟩
    · rw [e, e3, due2] at h
      split at h
      · rename_i hd
        obtain ⟨hd1, hd2⟩ := Bool.and_eq_true_iff.mp hd
        split at h
        · rename_i hc
          have e2 := Option.some.inj h
          have en : topOf p = n := congrArg Prod.fst e2
          have ed : vNat r = d := congrArg Prod.snd e2
          have nb := num_back hd1 (fun m z => by
            have : topOf p = 0 := by
              unfold topOf
              rw [m, if_pos rfl, z]
              rfl
            rw [this] at hc
            have h2 := hc.2
            rw [Int.gcd_zero_left] at h2
            omega)
          obtain ⟨b1, b2⟩ := digits_back hd2
          rw [en] at nb hc
          rw [ed] at hc
          have edn : d.natAbs = NumText.digitsVal r := by
            unfold vNat at ed
            omega
          refine ⟨⟨by omega, hc.2⟩, by rw [nb.2]; exact (digits_back hd1).2, by rw [edn]; exact b2, ?_⟩
          unfold ratT
          rw [if_neg (by omega), nb.1, et]
          congr 2
          unfold numT
          rw [if_neg (by omega), edn, b1]
        · cases h
      · cases h
    · rw [e, e3] at h
      obtain ⟨p3, r3, e4⟩ := parts_ne r2
      rw [e4, due3] at h
      cases h
theorem numT_free (n : Int) : 47 ∉ numT n := by
  unfold numT
  split
  · intro z
    rcases List.mem_cons.mp z with z | z
    · cases z
    · exact numL_no (by decide) z
  · exact numL_no (by decide)
theorem due_rat {n d : Int} (h : Low n d) (h1 : n.natAbs < 10 ^ 100) (h2 : d.natAbs < 10 ^ 100) : dueOf (ratT n d) = some (n, d) := by
  have hd1 := h.1
  have ed : numT d = TL.numL d.natAbs := if_neg (by omega)
  have mn : minusB (numT n) = decide (n < 0) := by
    have := minus_num n []
    rwa [List.append_nil] at this
  have bn : bare (numT n) = TL.numL n.natAbs := by
    have := bare_num n []
    rwa [List.append_nil, List.append_nil] at this
  have et : topOf (numT n) = n := by
    unfold topOf vNat
    rw [mn, bn, TL.numL_val]
    by_cases c : n < 0
    · rw [decide_eq_true c, if_pos rfl]
      omega
    · rw [decide_eq_false c, if_neg (by simp)]
      omega
  unfold dueOf ratT
  by_cases c : d = 1
  · rw [if_pos c]
    have e : partsL (numT n) = [numT n] := by
      unfold partsL
      rw [TL.spl_last1 (numT_free n), List.nil_append]
    rw [e, due1]
    rw [bn, digits_num h1, if_pos rfl, et, c, if_pos]
    by_cases z : TL.numL n.natAbs = [48]
    · right
      have hz : n.natAbs = 0 := TL.numL_inj (z.trans (by decide : [48] = TL.numL 0))
      have : n = 0 := by omega
      rw [this]
      decide
    · exact .inl z
  · rw [if_neg c]
    have e : partsL (numT n ++ 47 :: numT d) = [numT n, numT d] := by
      unfold partsL
      have := TL.spl_part1 (s := 47) (S := []) (p := numT n) (rest := numT d) (acc := []) (numT_free n)
      rw [TL.spl_last1 (numT_free d), List.nil_append, List.nil_append] at this
      exact this
    rw [e]
    have ev : vNat (numT d) = d := by
      unfold vNat
      rw [ed, TL.numL_val]
      omega
    rw [due2]
    rw [bn, digits_num h1, ev, ed, digits_num h2, et, Bool.and_self, if_pos rfl, if_pos]
    exact ⟨by omega, h.2⟩
end RB

set_option Elab.async false
set_option linter.all false
set_option maxRecDepth 100000
set_option maxHeartbeats 4000000
namespace RB
open PySem PySem.Spec PyProof.Rows L2
def topS (i : Nat) : Stmt := PySem.Challenge.pw_rootbags_k03_texts_that_are_no_numbers.main.body.getD i (.Pass ⟨0, 0, 0, 0⟩)
abbrev sShared : Stmt := topS 9
abbrev sLowest : Stmt := topS 10
abbrev s_as_pair : Stmt := topS 11
abbrev s_rational : Stmt := topS 12
abbrev s_whole_text : Stmt := topS 13
abbrev s_number_text : Stmt := topS 14
abbrev s_is_numeral : Stmt := topS 15
abbrev s_parse_number : Stmt := topS 16
abbrev sDraws : Stmt := topS 18
abbrev sDraw : Stmt := topS 19
abbrev sPick : Stmt := topS 20
abbrev sSame : Stmt := topS 21
abbrev sField : Stmt := topS 22
abbrev sTry : Stmt := topS 23
abbrev sGcd : Stmt := topS 24
abbrev sLow : Stmt := topS 25
abbrev s_law_value : Stmt := topS 26
abbrev s_law_bent_text : Stmt := topS 27
abbrev s_law_digits : Stmt := topS 28
abbrev s_law_number_of : Stmt := topS 29
abbrev sLaw : Stmt := topS 30
abbrev sBagInit : Stmt := inClass (topS 1) 0
abbrev sInvInit : Stmt := inClass (topS 2) 0
abbrev c_Missing_init : Stmt := inClass (topS 3) 0
end RB

set_option Elab.async false
set_option linter.all false
set_option maxRecDepth 100000
set_option maxHeartbeats 4000000
namespace RB
open PySem PySem.Spec PyProof.Rows L2
section
variable {P : Program} {w : World} {K : PySem.W.Frag} {mg : Str → Option Value} {base : Heap}
theorem sc_bag : FnScope ["self", "code"] ["self", "code"] (defScope sBagInit) := ⟨rfl, rfl, rfl, by decide +kernel, rfl, by decide +kernel, by decide +kernel⟩
theorem ok_bag {f : Addr} {oc dV kV doc pm cdv ct : Value} {od an : Option Addr} {osl : Array (Option Value)} {k : Nat} (lk : K.lookup f = some ⟨oc, od, .func (PySem.W.fnOf "__init__" "BagError.__init__" (defArgs sBagInit) (defBody sBagInit) (defScope sBagInit) dV kV doc pm an cdv ct), osl⟩) (hcd : PySem.W.codeIn K cdv "BagError.__init__" = true) :
    FnOk P w K mg base CX0 (k + 1) f (PySem.W.fnOf "__init__" "BagError.__init__" (defArgs sBagInit) (defBody sBagInit) (defScope sBagInit) dV kV doc pm an cdv ct) ["self", "code"] (spBag K) := by
  refine fn_of lk hcd sc_bag (fun vs H Q E h => ?_) fun A outer s H vs Q E hr h => ?_
  · obtain ⟨a, C, c, rfl, _⟩ := h
    rfl
  · obtain ⟨a, C, c, rfl, T, hno, ha, q⟩ := h
    exact ⟨_, pss_one (ps_ost (pv 0) (pv 1)), .str c, rfl, .ref a, rfl, a, C, rfl, T, hno, .inl ⟨ha, fun dx n ne => q dx n ne⟩⟩
theorem binds_bag {T : Addr} {kV doc pm cdv ct : Value} {an : Option Addr} {o : Obj} {z : Value} {n : Nat} (lT : K.lookup T = some o) (oT : o.data = .seq #[z] n) : L2.Binds K (PySem.W.fnOf "__init__" "BagError.__init__" (defArgs sBagInit) (defBody sBagInit) (defScope sBagInit) (.ref T) kV doc pm an cdv ct) ["self", "code"] [] := by
  intro s us X hl
  match us, hl with
  | [x, y], _ =>
    obtain ⟨k, e1, e2⟩ : ∃ k, bindArgs (PySem.W.fnOf "__init__" "BagError.__init__" (defArgs sBagInit) (defBody sBagInit) (defScope sBagInit) (.ref T) kV doc pm an cdv ct) ⟨[x, y], []⟩ = seqItems? (.ref T) >>= k ∧ k (some #[z]) = pure ((["self", "code"] : List Str).zip ([x, y] ++ [])) := ⟨_, rfl, rfl⟩
    refine BindsTo.of_looks fun M => ?_
    rw [e1]
    exact looks_items X lT oT (.of_pure e2)
theorem sc_inv : FnScope ["self"] ["self"] (defScope sInvInit) := ⟨rfl, rfl, rfl, by decide +kernel, rfl, by decide +kernel, by decide +kernel⟩
/-- raise InvalidNumber(): what the written part says of the two classes -/
structure TInv (K : PySem.W.Frag) (mg : Str → Option Value) (B C fB fC : Addr) (fdB fdC : FuncData) : Prop where
  oex : OexC K C
  gC : mg "InvalidNumber" = some (.ref C)
  gB : mg "BagError" = some (.ref B)
  no : PySem.W.findIn K (.ref C) "code" = some none
  iC : PySem.W.findIn K (.ref C) "__init__" = some (some (.ref fC))
  tC : PySem.W.typeIn K (.ref fC) = some (.type "function")
  rd : ClX.CRead K B (.type "type")
  at_ : PySem.W.findCls K (.ref B) (.type "type") "__init__" = some (.val (.ref fB))
  kB : PySem.W.keepIn K (.ref fB) = true
  bB : L2.Binds K fdB ["self", "code"] []
  FC : L2.Fun K "__init__" "InvalidNumber.__init__" sInvInit fC fdC
  bC : L2.Binds K fdC ["self"] []
theorem err_inv {B C fB fC : Addr} {fdB fdC : FuncData} (T : TInv K mg B C fB fC fdB fdC) (GB : FnOk P w K mg base CX0 1 fB fdB ["self", "code"] (spBag K)) : Err0 P w K mg base 2 "InvalidNumber" "InvalidNumber" C := by
  refine ⟨T.oex, T.gC, fC, fdC, ["self"], T.iC, T.tC, T.bC, ?_⟩
  refine T.FC.ok (k := 1) sc_inv (fun vs H Q E h => ?_) (fun cdv A outer s H vs Q E hr h => ?_)
  · obtain ⟨a, rfl, _⟩ := h
    rfl
  · obtain ⟨a, rfl, ha, q⟩ := h
    refine ⟨_, pss_one (ps_expr (pe_bcall (by rfl) T.gB T.rd T.at_ T.kB GB hr T.bB pass0 (pa_cons (pv 0) (pa_cons pe_str pa_nil)))), ?_⟩
    exact ⟨.ref a, rfl, a, C, _, rfl, T.oex, T.no, ha, fun dx n ne => q dx n ne⟩
theorem sc_shared : FnScope ["one", "other"] ["one", "other"] (defScope sShared) := ⟨rfl, rfl, rfl, by decide +kernel, rfl, by decide +kernel, by decide +kernel⟩
theorem ok_shared {f : Addr} {fd : FuncData} {k : Nat} (F : L2.Fun K "shared_factor" "shared_factor" sShared f fd) (mabs : mg "abs" = none) : FnOk P w K mg base CX0 (k + 1) f fd ["one", "other"] spGcd := by
  have nd := sc_shared.nd
  refine F.ok sc_shared (fun vs H Q E h => ?_) (fun cdv A outer s H vs Q E hr h => ?_)
  · obtain ⟨a, b, rfl, _⟩ := h
    rfl
  · obtain ⟨a, b, rfl, q⟩ := h
    refine ⟨_, pss_cons (ps_while PassesOwn.never (pt_cmpR op_ne (pv 1) pe_int (nomark _)) (pss_one (ps_par (i := 0) (j := 1) (by rfl) nd rfl rfl (by decide) rfl rfl (pa_cons (pv 1) (pa_cons (pe_op op_modN (pv 0) (pv 1)) pa_nil)) (by rfl))))
      (pss_one (ps_ret (pe_callB call_abs (by rfl) mabs (by decide +kernel) (pa_cons (pv 0) pa_nil)))), ?_⟩
    refine while_by (fun σ H' => ∃ x y : Int, σ = [some (.int x), some (.int y)] ∧ Int.gcd x y = Int.gcd a b ∧ H' = H) (fun σ _ => match σ with | [_, some (.int y)] => y.natAbs | _ => 0) ⟨a, b, rfl, rfl, rfl⟩ ?_ ?_
    · rintro σ H' ⟨x, y, rfl, g, rfl⟩
      refine ⟨.int y, rfl, rfl, _, rfl, ?_⟩
      by_cases c : y = 0
      · subst c
        refine iteF ?_
        refine ⟨.int x, rfl, x, rfl, ?_⟩
        have e : (if x < 0 then -x else x) = (Int.gcd a b : Int) := by
          rw [← g, Int.gcd_zero_right]
          split <;> omega
        rw [e]
        exact q
      · have cc : (!decide (V.int y = V.int 0)) = true := by simp [c]
        rw [cc]
        refine iteT ?_
        refine ⟨.int y, rfl, .int x, rfl, .int y, rfl, x, y, rfl, rfl, c, _, _, rfl, ⟨y, x.fmod y, rfl, ?_, rfl⟩, ?_⟩
        · rw [gcd_fmod, g]
        · exact natAbs_fmod_lt x y c
    · rintro σ H' Q1 Q2 imp ⟨v, hv, hs, k, hk, q1⟩
      exact ⟨v, hv, hs, k, hk, imp _ _ q1⟩
theorem sc_lowest : FnScope ["numerator", "denominator", "shared"] ["numerator", "denominator"] (defScope sLowest) := ⟨rfl, rfl, rfl, by decide +kernel, rfl, by decide +kernel, by decide +kernel⟩
theorem ok_lowest {f fS C : Addr} {fd fdS : FuncData} {k : Nat} (F : L2.Fun K "lowest" "lowest" sLowest f fd) (GS : FnOk P w K mg base CX0 1 fS fdS ["one", "other"] spGcd) (gS : mg "shared_factor" = some (.ref fS)) (kS : PySem.W.keepIn K (.ref fS) = true) (bS : L2.Binds K fdS ["one", "other"] [])
    (TE : Err0 P w K mg base 2 "InvalidNumber" "InvalidNumber" C) : FnOk P w K mg base (L2.CX P w) 4 f fd ["numerator", "denominator"] (spLowest C) := by
  have nd := sc_lowest.nd
  refine F.okX sc_lowest (fun vs H Q E h => ?_) (fun cdv A outer s H vs Q E hr h => ?_)
  · obtain ⟨n, d, rfl, _⟩ := h
    rfl
  · obtain ⟨n, d, rfl, d9, q0, q1⟩ := h
    refine ⟨_, pss_cons (ps_if (pt_cmpR op_eq (pv 1) pe_int (nomark _)) (pss_one (ps_raise rfl (takes_of rfl rfl rfl rfl) (pmk0 TE hr (by rfl)))) pss_nil)
      (pss_cons (ps_set (i := 2) nd rfl (.inl rfl) (pe_call GS (hr.mono (by decide)) (by rfl) gS kS bS .nil pass0 (pa_cons (pv 0) (pa_cons (pv 1) pa_nil))))
      (pss_cons (ps_if (pt_cmpR op_lt (pv 1) pe_int (nomark _)) (pss_one (ps_set (i := 2) nd rfl (.inl rfl) (pe_un un_neg (pv 2)))) pss_nil)
      (pss_one (ps_ret (pe_tup (pa_cons (pe_op op_fdivX (pv 0) (pv 2)) (pa_cons (pe_op op_fdivX (pv 1) (pv 2)) pa_nil))))))), ?_⟩
    refine ⟨.int d, rfl, rfl, _, rfl, ite2 (fun e => ?_) (fun e => ?_)⟩
    · exact q0 (V.int.inj (of_decide_eq_true e))
    · have hd : d ≠ 0 := fun z => e (decide_eq_true (congrArg V.int z))
      obtain ⟨⟨h1, h2⟩, h3⟩ := lowS_ok (n := n) hd d9
      refine ⟨.int n, rfl, .int d, rfl, n, d, rfl, ?_⟩
      refine ⟨.int d, rfl, d, 0, rfl, rfl, _, rfl, ite2 (fun e2 => ?_) (fun e2 => ?_)⟩
      · have es : lowS n d = -(Int.gcd n d : Int) := if_pos (of_decide_eq_true e2)
        rw [es] at h1 h2 q1
        exact ⟨_, rfl, _, rfl, .int n, rfl, _, rfl, n, _, rfl, rfl, ⟨h1, h2⟩, .int d, rfl, _, rfl, d, _, rfl, rfl, ⟨h1, h2⟩, lineN (by decide : 2 ≤ 1000), fun p np => q1 hd p np⟩
      · have es : lowS n d = (Int.gcd n d : Int) := if_neg fun z => e2 (decide_eq_true z)
        rw [es] at h1 h2 q1
        exact ⟨.int n, rfl, _, rfl, n, _, rfl, rfl, ⟨h1, h2⟩, .int d, rfl, _, rfl, d, _, rfl, rfl, ⟨h1, h2⟩, lineN (by decide : 2 ≤ 1000), fun p np => q1 hd p np⟩
theorem sc_draws : FnScope ["_law_script", "_law_salt", "_law_cell"] ["_law_script"] (defScope sDraws) := ⟨rfl, rfl, rfl, by decide +kernel, rfl, by decide +kernel, by decide +kernel⟩
theorem ok_draws {f : Addr} {fd : FuncData} {k : Nat} (F : L2.Fun K "_law_draws" "_law_draws" sDraws f fd) (mlist : mg "list" = none) : FnOk P w K mg base CX0 (k + 1) f fd ["_law_script"] (spDraws K) := by
  have nd := sc_draws.nd
  refine F.ok sc_draws (fun vs H Q E h => ?_) (fun cdv A outer s H vs Q E hr h => ?_)
  · obtain ⟨a, ns, rfl, _⟩ := h
    rfl
  · obtain ⟨a, ns, rfl, hS, hl, q⟩ := h
    refine ⟨_, pss_cons (ps_set (i := 1) nd rfl (.inl rfl) pe_int)
      (pss_cons (ps_for PassesOwn.never rfl (pi_list (pe_slice sl_list (pv 0) po_none (po_some pe_int))) (pg_name (i := 2) nd rfl (.inl rfl))
        (pss_one (ps_set (i := 1) nd rfl (.inl rfl) (pe_op op_mod (pe_op op_add (pe_op op_add (pe_op op_mul (pv 1) pe_int) (pe_op op_mod (pv 2) pe_int)) pe_int) pe_int))))
      (pss_one (ps_ret (pe_lst (pa_cons (pe_callTy call_list_of (by rfl) mlist (by decide +kernel) (pa_cons (pe_slice sl_list (pv 0) po_none (po_some pe_int)) pa_nil)) (pa_cons pe_int (pa_cons pe_int (pa_cons (pv 1) pa_nil)))))))), ?_⟩
    obtain ⟨ms, ecut, lms⟩ := SqL.cutInts ns none (some 63)
    refine ⟨.ref a, rfl, 63, rfl, a, _, rfl, hS, fun p np => ?_⟩
    rw [ecut]
    have s1 : Same H (upd H p (.lst (ms.map V.int))) := upd_new np
    have hp : SqL K (upd H p (.lst (ms.map V.int))) p (ms.map V.int) := .inl (.inl upd_same)
    refine ⟨p, rfl, ⟨_, hp⟩, for_list (K := K) (a := p) (xs := ms.map V.int) (fun i σ H' => ∃ (z : Int) (v : Option V), σ = [some (.ref a), some (.int z), v] ∧ 0 ≤ z ∧ z < 2147483647 ∧ H' = upd H p (.lst (ms.map V.int)))
      ⟨3810, none, rfl, by decide, by decide, rfl⟩ (fun i σ H' _ ⟨_, _, _, _, _, e⟩ => by rw [e]; exact hp) ?_ ?_⟩
    · rintro i y σ H' hi ⟨z, v, rfl, z0, z1, rfl⟩
      obtain ⟨n, hn, rfl⟩ : ∃ n, ms[i]? = some n ∧ V.int n = y := by
        rw [List.getElem?_map] at hi
        cases e : ms[i]? with
        | none =>
          rw [e] at hi
          cases hi
        | some n =>
          rw [e] at hi
          exact ⟨n, rfl, Option.some.inj hi⟩
      refine ⟨.int z, rfl, z, 40014, rfl, rfl, .inl ⟨by omega, by omega⟩, .int n, rfl, n, 2147483579, rfl, rfl, (by decide : (0 : Int) < 2147483579), _, _, rfl, rfl, _, 23, rfl, rfl, _, 2147483647, rfl, rfl, (by decide : (0 : Int) < 2147483647), ?_⟩
      exact ⟨_, _, rfl, Int.emod_nonneg _ (by decide), Int.emod_lt_of_pos _ (by decide), rfl⟩
    · rintro σ H' ⟨z, v, rfl, z0, z1, rfl⟩
      refine ⟨.ref a, rfl, 63, rfl, a, _, rfl, s1.seq hS, fun p2 np2 => ?_⟩
      rw [ecut]
      refine ⟨p2, _, rfl, .inl (.inl (.inl upd_same)), fun l nl => ?_⟩
      refine ⟨.int z, rfl, lineN (by decide : 4 ≤ 1000), fun r nr => ?_⟩
      have s2 := upd_new (o := .lst (ms.map V.int)) np2
      have s3 := upd_new (o := .lst (ms.map V.int)) nl
      have s4 := upd_new (o := .lst [.ref l, .int 0, .int 0, .int z]) nr
      refine q _ r (((s1.trans s2).trans s3).trans s4) (((s1.trans s2).trans s3).free nr) ⟨l, 0, 0, z, upd_same, ⟨ms, ?_, ?_⟩, by decide, by decide, z0, z1⟩
      · exact s4 _ _ upd_same
      · exact Nat.le_of_lt (small1000 (by omega))
theorem sc_draw : FnScope ["_law_rng", "_law_amount", "_law_cell", "_law_got", "_law_seed"] ["_law_rng", "_law_amount"] (defScope sDraw) := ⟨rfl, rfl, rfl, by decide +kernel, rfl, by decide +kernel, by decide +kernel⟩
theorem ok_draw {f : Addr} {fd : FuncData} {k : Nat} (F : L2.Fun K "_law_draw" "_law_draw" sDraw f fd) (mlen : mg "len" = none) : FnOk P w K mg base CX0 (k + 1) f fd ["_law_rng", "_law_amount"] spDraw := by
  have nd := sc_draw.nd
  refine F.ok sc_draw (fun vs H Q E h => ?_) (fun cdv A outer s H vs Q E hr h => ?_)
  · obtain ⟨a, ns, rfl, _⟩ := h
    rfl
  · obtain ⟨r, n, rfl, ⟨c, i, b, z, R0⟩, n0, n9, q⟩ := h
    refine ⟨_, C8.pss_cut (ps_if (PW.pt (pw_and (pt_cmpR op_eq (pe_ix ix_list (pv 0) pe_int (fun _ _ => rfl)) pe_int (nomark _)) (pw_and1 (pt_cmpR op_lt (pe_ix ix_list (pv 0) pe_int (fun _ _ => rfl)) (pe_callB call_len_seq (by rfl) mlen PySem.boot_len (pa_cons (pe_ix ix_list (pv 0) pe_int (fun _ _ => rfl)) pa_nil)) (nomark _)))))
        (pss_cons (ps_set (i := 2) nd rfl (.inl rfl) (pe_ix ix_list (pe_ix ix_list (pv 0) pe_int (fun _ _ => rfl)) (pe_ix ix_list (pv 0) pe_int (fun _ _ => rfl)) (fun _ _ => rfl)))
        (pss_cons (ps_asg (pe_op op_add (pe_ix ix_list (pv 0) pe_int (fun _ _ => rfl)) pe_int) (pg_sub (pv 0) pe_int set_list))
        (pss_one (ps_if (pt_cmpR op_ge (pv 2) (pe_op op_pow pe_int pe_int) (nomark _))
          (pss_one (ps_asg (pv 2) (pg_sub (pv 0) pe_int set_list)))
          (pss_one (ps_asg (pe_op op_mod (pe_op op_add (pe_op op_add (pe_op op_mul (pe_ix ix_list (pv 0) pe_int (fun _ _ => rfl)) pe_int) (pe_op op_mul (pe_op op_mod (pv 2) pe_int) pe_int)) pe_int) pe_int) (pg_sub (pv 0) pe_int set_list)))))))
        pss_nil)
      (pss_cons (ps_if (pt_cmpR op_gt (pe_ix ix_list (pv 0) pe_int (fun _ _ => rfl)) pe_int (nomark _))
        (pss_cons (ps_set (i := 3) nd rfl (.inl rfl) (pe_op op_mod (pe_ix ix_list (pv 0) pe_int (fun _ _ => rfl)) (pv 1)))
        (pss_cons (ps_asg (pe_op op_fdivW (pe_ix ix_list (pv 0) pe_int (fun _ _ => rfl)) (pv 1)) (pg_sub (pv 0) pe_int set_list))
        (pss_one (ps_ret (pv 3)))))
        pss_nil)
      (pss_cons (ps_set (i := 4) nd rfl (.inl rfl) (pe_ix ix_list (pv 0) pe_int (fun _ _ => rfl)))
      (pss_cons (ps_asg (pe_op op_mod (pe_op op_add (pe_op op_add (pe_op op_mul (pv 4) pe_int) (pe_op op_mul (pe_op op_fdiv (pv 4) pe_int) pe_int)) pe_int) pe_int) (pg_sub (pv 0) pe_int set_list))
      (pss_one (ps_ret (pe_op op_mod (pe_op op_add (pe_op op_fdiv (pe_ix ix_list (pv 0) pe_int (fun _ _ => rfl)) pe_int) (pe_op op_mul (pe_op op_mod (pe_ix ix_list (pv 0) pe_int (fun _ _ => rfl)) pe_int) pe_int)) (pv 1))))))), ?_⟩
    refine ⟨fun σ' H' => ∃ (x2 : Option V), σ' = [some (.ref r), some (.int n), x2, none, none] ∧ RngOk H' r ∧ But r H H', ?_, ?_⟩
    · have hL : SqL K H r [.ref c, .int i, .int b, .int z] := .inl (.inl R0.1)
      obtain ⟨cells, hc, lc⟩ := R0.2.1
      obtain ⟨_, _, i0, b0, z0, z1⟩ := id R0
      have out : ∃ x2 : Option V, (L2.start ["_law_rng", "_law_amount", "_law_cell", "_law_got", "_law_seed"] [.ref r, .int n] : L2.St) = [some (.ref r), some (.int n), x2, none, none] ∧ RngOk H r ∧ But r H H := ⟨none, rfl, ⟨c, i, b, z, R0⟩, .refl _ _⟩
      refine ⟨.ref r, rfl, r, _, 2, _, rfl, rfl, hL, atI_nat (j := 2) rfl, rfl, _, rfl, ite2 (fun e1 => ?_) (fun _ => iteF out)⟩
      refine ⟨.ref r, rfl, r, _, 1, _, rfl, rfl, hL, atI_nat (j := 1) rfl, .ref r, rfl, r, _, 0, _, rfl, rfl, hL, atI_nat (j := 0) rfl, c, _, rfl, .inl (.inl (.inl hc)), i, _, rfl, rfl, _, rfl, ite2 (fun e2 => ?_) (fun _ => out)⟩
      -- a cell is taken
      have hi : i < (cells.length : Int) := by
        have := of_decide_eq_true e2
        rw [List.length_map] at this
        exact this
      have hi2 : i.toNat < cells.length := by omega
      have at1 : atI (cells.map V.int) i = some (.int cells[i.toNat]) := at_of (j := i.toNat) (by omega) (by
        rw [List.getElem?_map]
        simp [hi2])
      refine ⟨.ref r, rfl, r, _, 0, _, rfl, rfl, hL, atI_nat (j := 0) rfl, .ref r, rfl, r, _, 1, _, rfl, rfl, hL, atI_nat (j := 1) rfl, c, _, i, _, rfl, rfl, .inl (.inl hc), at1, ?_⟩
      refine ⟨.ref r, rfl, r, _, 1, _, rfl, rfl, hL, atI_nat (j := 1) rfl, i, 1, rfl, rfl, .ref r, rfl, r, _, 1, 1, rfl, rfl, R0.1, rfl, ?_⟩
      have R1 : RngAt (upd H r (.lst [.ref c, .int (i + 1), .int b, .int z])) r c (i + 1) b z := R0.put (by omega) b0 z0 z1
      have hL1 : SqL K (upd H r (.lst [.ref c, .int (i + 1), .int b, .int z])) r [.ref c, .int (i + 1), .int b, .int z] := .inl (.inl upd_same)
      refine ⟨.int cells[i.toNat], rfl, 10, 18, rfl, rfl, ⟨by decide, by decide, by decide⟩, _, _, rfl, rfl, _, rfl, ite2 (fun e3 => ?_) (fun e3 => ?_)⟩
      · have g := of_decide_eq_true e3
        refine ⟨.int cells[i.toNat], rfl, .ref r, rfl, r, _, 2, 2, rfl, rfl, R1.1, rfl, ?_⟩
        exact ⟨_, rfl, ⟨c, _, _, _, R1.put (b' := cells[i.toNat]) (by omega) (Int.le_trans (by decide) g) z0 z1⟩, (But.upd R0.1).trans (But.upd R1.1)⟩
      · refine ⟨.ref r, rfl, r, _, 3, _, rfl, rfl, hL1, atI_nat (j := 3) rfl, z, 48271, rfl, rfl, .inl ⟨by omega, by omega⟩, .int cells[i.toNat], rfl, cells[i.toNat], 2147483579, rfl, rfl, (by decide : (0 : Int) < 2147483579), _, 69697, rfl, rfl, .inr ⟨by decide, by decide⟩, _, _, rfl, rfl, _, 29, rfl, rfl, _, 2147483647, rfl, rfl, (by decide : (0 : Int) < 2147483647), ?_⟩
        refine ⟨.ref r, rfl, r, _, 3, 3, rfl, rfl, R1.1, rfl, ?_⟩
        exact ⟨_, rfl, ⟨c, _, _, _, R1.put (by omega) b0 (Int.emod_nonneg _ (by decide)) (Int.emod_lt_of_pos _ (by decide))⟩, (But.upd R0.1).trans (But.upd R1.1)⟩
    · rintro σ' H' ⟨x2, rfl, ⟨c, i, b, z, R0⟩, bu⟩
      have hL : SqL K H' r [.ref c, .int i, .int b, .int z] := .inl (.inl R0.1)
      obtain ⟨_, _, i0, b0, z0, z1⟩ := id R0
      have nn : n ≠ 0 := by omega
      refine ⟨.ref r, rfl, r, _, 2, _, rfl, rfl, hL, atI_nat (j := 2) rfl, b, 0, rfl, rfl, _, rfl, ite2 (fun e1 => ?_) (fun _ => ?_)⟩
      · refine ⟨.ref r, rfl, r, _, 2, _, rfl, rfl, hL, atI_nat (j := 2) rfl, .int n, rfl, b, n, rfl, rfl, n0, ?_⟩
        refine ⟨.ref r, rfl, r, _, 2, _, rfl, rfl, hL, atI_nat (j := 2) rfl, .int n, rfl, b, n, rfl, rfl, ⟨n0, n9⟩, .ref r, rfl, r, _, 2, 2, rfl, rfl, R0.1, rfl, ?_⟩
        refine ⟨.int (b % n), rfl, q _ _ (Int.emod_nonneg _ nn) (Int.emod_lt_of_pos _ n0) ⟨c, _, _, _, R0.put i0 (Int.ediv_nonneg b0 (by omega)) z0 z1⟩ (bu.trans (But.upd R0.1))⟩
      · refine ⟨.ref r, rfl, r, _, 3, _, rfl, rfl, hL, atI_nat (j := 3) rfl, ?_⟩
        refine ⟨.int z, rfl, z, 62089, rfl, rfl, .inl ⟨by omega, by omega⟩, .int z, rfl, z, 65543, rfl, rfl, ⟨by decide, by decide⟩, _, 37, rfl, rfl, .inr ⟨by decide, by decide⟩, _, _, rfl, rfl, _, 1013904223, rfl, rfl, _, 2147483647, rfl, rfl, (by decide : (0 : Int) < 2147483647), ?_⟩
        refine ⟨.ref r, rfl, r, _, 3, 3, rfl, rfl, R0.1, rfl, ?_⟩
        have R1 : RngAt (upd H' r (.lst [.ref c, .int i, .int b, .int ((z * 62089 + z / 65543 * 37 + 1013904223) % 2147483647)])) r c i b ((z * 62089 + z / 65543 * 37 + 1013904223) % 2147483647) := R0.put i0 b0 (Int.emod_nonneg _ (by decide)) (Int.emod_lt_of_pos _ (by decide))
        have hL1 := (.inl (.inl R1.1) : SqL K _ r _)
        refine ⟨.ref r, rfl, r, _, 3, _, rfl, rfl, hL1, atI_nat (j := 3) rfl, _, 89, rfl, rfl, ⟨by decide, by decide⟩, .ref r, rfl, r, _, 3, _, rfl, rfl, hL1, atI_nat (j := 3) rfl, _, 8191, rfl, rfl, (by decide : (0 : Int) < 8191), _, 71, rfl, rfl, .inr ⟨by decide, by decide⟩, _, _, rfl, rfl, .int n, rfl, _, n, rfl, rfl, n0, ?_⟩
        exact q _ _ (Int.emod_nonneg _ nn) (Int.emod_lt_of_pos _ n0) ⟨c, _, _, _, R1⟩ (bu.trans (But.upd R0.1))
theorem sc_pick : FnScope ["_law_rng", "_law_things"] ["_law_rng", "_law_things"] (defScope sPick) := ⟨rfl, rfl, rfl, by decide +kernel, rfl, by decide +kernel, by decide +kernel⟩
theorem ok_pick {f fD : Addr} {fd fdD : FuncData} {k : Nat} (F : L2.Fun K "_law_pick" "_law_pick" sPick f fd) (mlen : mg "len" = none) (GD : FnOk P w K mg base CX0 k fD fdD ["_law_rng", "_law_amount"] spDraw) (gD : mg "_law_draw" = some (.ref fD)) (kD : PySem.W.keepIn K (.ref fD) = true) (bD : L2.Binds K fdD ["_law_rng", "_law_amount"] []) :
    FnOk P w K mg base CX0 (k + 1) f fd ["_law_rng", "_law_things"] (spPick K) := by
  have nd := sc_pick.nd
  refine F.ok sc_pick (fun vs H Q E h => ?_) (fun cdv A outer s H vs Q E hr h => ?_)
  · obtain ⟨a, ns, xs, rfl, _⟩ := h
    rfl
  · obtain ⟨r, t, xs, rfl, R, hT, ne, l0, l9, q⟩ := h
    refine ⟨_, pss_one (ps_ret (pe_ix ix_list (pv 1) (pe_call GD hr (by rfl) gD kD bD .nil pass0 (pa_cons (pv 0) (pa_cons (pe_callB call_len_seq (by rfl) mlen PySem.boot_len (pa_cons (pv 1) pa_nil)) pa_nil))) (fun _ _ => rfl))), ?_⟩
    refine ⟨.ref t, rfl, .ref r, rfl, .ref t, rfl, t, xs, rfl, .inl hT, r, _, rfl, R, by omega, ?_, fun v H' v0 v1 R' bu => ?_⟩
    · have : (xs.length : Int).natAbs.log2 < 10 := log2_lt (by rw [Int.natAbs_natCast]; omega) (by decide)
      omega
    · have hv : v.toNat < xs.length := by omega
      have hT' : SqL K H' t xs := by
        rcases hT with (h | ⟨o, h⟩) | h
        · exact .inl (.inl ((bu t ne).trans h))
        · exact .inl (.inr ⟨o, (bu t ne).trans h⟩)
        · exact .inr h
      exact ⟨t, xs, v, xs[v.toNat], rfl, rfl, hT', at_of (j := v.toNat) (by omega) (List.getElem?_eq_getElem hv), q _ v.toNat H' (List.getElem?_eq_getElem hv) R' bu⟩
theorem sc_same : FnScope ["_law_result", "_law_expected", "_law_a", "_law_b"] ["_law_result", "_law_expected"] (defScope sSame) := ⟨rfl, rfl, rfl, by decide +kernel, rfl, by decide +kernel, by decide +kernel⟩
theorem ok_same {f : Addr} {fd : FuncData} (F : L2.Fun K "_law_same" "_law_same" sSame f fd) (T : TSame mg) (gS : mg "_law_same" = some (.ref f)) (bS : L2.Binds K fd ["_law_result", "_law_expected"] []) : ∀ n : Nat, FnOk P w K mg base CX0 n f fd ["_law_result", "_law_expected"] (spSame K n)
  | 0 => ⟨fun _ _ _ _ ⟨_, _, _, _, _, _, _, z, _⟩ => absurd z (Nat.not_lt_zero _), fun _ _ _ _ _ _ _ _ _ _ _ _ _ ⟨_, _, _, _, _, _, _, z, _⟩ => absurd z (Nat.not_lt_zero _)⟩
  | n + 1 => by
    have GS := ok_same F T gS bS n
    have nd := sc_same.nd
    refine F.ok sc_same (fun vs H Q E h => ?_) (fun cdv A outer s H vs Q E hr h => ?_)
    · obtain ⟨v, u, d, e, rfl, _⟩ := h
      rfl
    · obtain ⟨v, u, d, e, rfl, hd, he, hn, q⟩ := h
      refine ⟨_, pss_cons (ps_if (PW.pt (pw_or (pt_val (pe_isi (i := 1) rfl (.inl rfl) (by rfl) T.isi (by rfl) T.list boot_list)) (pw_or1 (pt_val (pe_isi (i := 1) rfl (.inl rfl) (by rfl) T.isi (by rfl) T.tuple boot_tuple)))))
          (pss_cons (ps_if (PW.pt (pw_or (pt_cmpR op_ne (pe_isi (i := 0) rfl (.inl rfl) (by rfl) T.isi (by rfl) T.list boot_list) (pe_isi (i := 1) rfl (.inl rfl) (by rfl) T.isi (by rfl) T.list boot_list) (nomark _))
              (pw_or1 (pt_cmpR op_ne (pe_isi (i := 0) rfl (.inl rfl) (by rfl) T.isi (by rfl) T.tuple boot_tuple) (pe_isi (i := 1) rfl (.inl rfl) (by rfl) T.isi (by rfl) T.tuple boot_tuple) (nomark _))))) (pss_one (ps_ret pe_bl)) pss_nil)
          (pss_one (ps_ret (pe_and (pe_cmpR op_eq (pe_callB call_len (by rfl) T.len PySem.boot_len (pa_cons (pv 0) pa_nil)) (pe_callB call_len (by rfl) T.len PySem.boot_len (pa_cons (pv 1) pa_nil)) (nomark _))
            (pe_one (pe_callB (cr_all rfl) (by rfl) T.all (by decide +kernel) (pa_cons (pe_lc (own := [("_law_a", 2), ("_law_b", 3)]) (g := gTup K 2 (gCons (gName 2) (gCons (gName 3) gNil))) (tt := tYes) (by rfl) nd (RZ.pi_zipA (by rfl) T.zip (pa_cons (pv 0) (pa_cons (pv 1) pa_nil)))
              (blkOk_by (N := ["_law_result", "_law_expected", "_law_a", "_law_b"]) (sc := defScope sSame) (by decide +kernel)) (fun _ _ _ _ _ => pg_tup rfl (pgs_cons (pg_name (i := 2) nd rfl (.inl rfl) (hf := .inr rfl)) (pgs_cons (pg_name (i := 3) nd rfl (.inl rfl) (hf := .inr rfl)) pgs_nil))) (fun _ _ _ _ _ => pts_nil)
              (fun _ _ _ _ _ => pe_call GS hr (by rfl) gS F.kp bS .nil pass0 (pa_cons (pv 2) (pa_cons (pv 3) pa_nil)))) pa_nil)))))))
          pss_nil)
        (pss_cons (ps_if (PW.pt (pw_or (pt_cmpR op_isN (pv 0) pe_non (nomark _)) (pw_or1 (pt_cmpR op_isN (pv 1) pe_non (nomark _))))) (pss_one (ps_ret (pe_and (pe_cmpR op_isN (pv 0) pe_non (nomark _)) (pe_one (pe_cmpR op_isN (pv 1) pe_non (nomark _)))))) pss_nil)
        (pss_cons (ps_if (PW.pt (pw_or (pt_cmpR op_ne (pe_isi (i := 0) rfl (.inl rfl) (by rfl) T.isi (by rfl) T.bool boot_bool) (pe_isi (i := 1) rfl (.inl rfl) (by rfl) T.isi (by rfl) T.bool boot_bool) (nomark _))
              (pw_or1 (pt_cmpR op_ne (pe_isi (i := 0) rfl (.inl rfl) (by rfl) T.isi (by rfl) T.int boot_int) (pe_isi (i := 1) rfl (.inl rfl) (by rfl) T.isi (by rfl) T.int boot_int) (nomark _))))) (pss_one (ps_ret pe_bl)) pss_nil)
        (pss_one (ps_ret (pe_and (pe_cmpR op_eq (pe_isi (i := 0) rfl (.inl rfl) (by rfl) T.isi (by rfl) T.str boot_str) (pe_isi (i := 1) rfl (.inl rfl) (by rfl) T.isi (by rfl) T.str boot_str) (nomark _)) (pe_one (pe_cmpR op_eq (pv 0) (pv 1) (nomark _)))))))), ?_⟩
      have no : d ≠ e → Q (.bl false) H := fun z => q false H ⟨fun y => Bool.noConfusion y, fun y => absurd y z⟩ (Same.refl H)
      refine ⟨u, e, _, rfl, he, kit_list e, _, rfl, ?_⟩
      cases he with
      | @lst b ys es hb lb hes =>
        refine iteT (iteT ?_)
        refine ⟨v, d, _, rfl, hd, kit_list d, .ref b, .lst es, _, rfl, .lst hb lb hes, kit_list _, rfl, _, rfl, ?_⟩
        cases hd with
        | @lst a xs ds ha la hds =>
          refine iteF ⟨.ref a, .lst ds, _, rfl, .lst ha la hds, kit_tuple _, .ref b, .lst es, _, rfl, .lst hb lb hes, kit_tuple _, rfl, _, rfl, iteF ?_⟩
          have hlx := hds.length
          have hly := hes.length
          refine ⟨.ref a, rfl, _, _, rfl, .inl ⟨xs, .inl (.inl ha), rfl⟩, .ref b, rfl, _, _, rfl, .inl ⟨ys, .inl (.inl hb), rfl⟩, rfl, _, rfl, ite2 (fun el => ?_) (fun el => no fun z => ?_)⟩
          · have el2 : xs.length = ys.length := by
              have := V.int.inj (of_decide_eq_true el)
              omega
            refine ⟨.ref a, rfl, .ref b, rfl, a, b, xs, ys, rfl, .inl ⟨.inl (.inl ha), .inl (.inl hb), fun D nD => ?_⟩⟩
            refine lc_pairs (xs := xs) (ys := ys) el2 (SameInv H D ds es) (SameInv.start nD) (fun i H' p hi => ?_) (fun H' p => ?_) (fun i H' v' H2 p hi yl => ?_) (fun i x y T' H' hx hy p nT => ?_) (fun H' p => ?_)
            · exact ⟨xs, ys, xs[i], ys[i], .inl (.inl (p.1 _ _ ha)), .inl (.inl (p.1 _ _ hb)), List.getElem?_eq_getElem hi, List.getElem?_eq_getElem (by omega)⟩
            · exact ⟨xs, ys, .inl (.inl (p.1 _ _ ha)), .inl (.inl (p.1 _ _ hb)), .inl (Nat.le_refl _)⟩
            · obtain ⟨T', x, y, e1, e2, e3, f1, f2⟩ := yl
              exact ⟨T', x, y, e1, e2, e3, f1 _ (.inl (.inl (p.1 _ _ ha))), f2 _ (.inl (.inl (p.1 _ _ hb)))⟩
            · have hi : i < xs.length := (List.getElem?_eq_some_iff.mp hx).1
              have d1 : ds[i]? = some ds[i] := List.getElem?_eq_getElem (by omega)
              have e1 : es[i]? = some es[i] := List.getElem?_eq_getElem (by omega)
              have sT := p.1.trans (upd_new (o := .tup [x, y]) nT)
              refine ⟨T', [x, y], rfl, .inl (.inl upd_same), rfl, x, [y], rfl, y, [], rfl, rfl, rfl, yesI ?_⟩
              refine ⟨x, rfl, y, rfl, x, y, ds[i], es[i], rfl, (hds.get hx d1).same sT, (hes.get hy e1).same sT, ?_, fun b' H2 hb' s2 => ?_⟩
              · have := deeps_mem (List.mem_of_getElem? e1)
                have hn' : 1 + Dat.deep.deeps es < n + 1 := hn
                omega
              · refine p.step nD nT s2 ?_ (by omega)
                rw [d1, e1, hb']
                exact ⟨fun z => congrArg some z, fun z => Option.some.inj z⟩
            · obtain ⟨s0, bs, hD, hl, hbs⟩ := p
              refine ⟨D, bs, rfl, .inl (.inl hD), q _ H' ?_ s0⟩
              rw [all_iff (by omega) (by omega) hbs]
              exact ⟨fun z => congrArg Dat.lst z, fun z => Dat.lst.inj z⟩
          · have z2 : ds = es := Dat.lst.inj z
            refine el (decide_eq_true ?_)
            rw [hlx, hly, z2]
        | @tup a xs ds ha la hds => exact iteT (iteT (no fun z => nomatch z))
        | non => exact iteT (iteT (no fun z => nomatch z))
        | bl c => exact iteT (iteT (no fun z => nomatch z))
        | int c => exact iteT (iteT (no fun z => nomatch z))
        | str c => exact iteT (iteT (no fun z => nomatch z))
      | @tup b ys es hb lb hes =>
        refine iteF ⟨.ref b, .tup es, _, rfl, .tup hb lb hes, kit_tuple _, _, rfl, iteT ?_⟩
        refine ⟨v, d, _, rfl, hd, kit_list d, .ref b, .tup es, _, rfl, .tup hb lb hes, kit_list _, rfl, _, rfl, ?_⟩
        cases hd with
        | @tup a xs ds ha la hds =>
          refine iteF ⟨.ref a, .tup ds, _, rfl, .tup ha la hds, kit_tuple _, .ref b, .tup es, _, rfl, .tup hb lb hes, kit_tuple _, rfl, _, rfl, iteF ?_⟩
          have hlx := hds.length
          have hly := hes.length
          refine ⟨.ref a, rfl, _, _, rfl, .inr ⟨xs, .inl (.inl ha), rfl⟩, .ref b, rfl, _, _, rfl, .inr ⟨ys, .inl (.inl hb), rfl⟩, rfl, _, rfl, ite2 (fun el => ?_) (fun el => no fun z => ?_)⟩
          · have el2 : xs.length = ys.length := by
              have := V.int.inj (of_decide_eq_true el)
              omega
            refine ⟨.ref a, rfl, .ref b, rfl, a, b, xs, ys, rfl, .inr ⟨.inl (.inl ha), .inl (.inl hb), fun D nD => ?_⟩⟩
            refine lc_pairs (xs := xs) (ys := ys) el2 (SameInv H D ds es) (SameInv.start nD) (fun i H' p hi => ?_) (fun H' p => ?_) (fun i H' v' H2 p hi yl => ?_) (fun i x y T' H' hx hy p nT => ?_) (fun H' p => ?_)
            · exact ⟨xs, ys, xs[i], ys[i], .inl (.inl (p.1 _ _ ha)), .inl (.inl (p.1 _ _ hb)), List.getElem?_eq_getElem hi, List.getElem?_eq_getElem (by omega)⟩
            · exact ⟨xs, ys, .inl (.inl (p.1 _ _ ha)), .inl (.inl (p.1 _ _ hb)), .inl (Nat.le_refl _)⟩
            · obtain ⟨T', x, y, e1, e2, e3, f1, f2⟩ := yl
              exact ⟨T', x, y, e1, e2, e3, f1 _ (.inl (.inl (p.1 _ _ ha))), f2 _ (.inl (.inl (p.1 _ _ hb)))⟩
            · have hi : i < xs.length := (List.getElem?_eq_some_iff.mp hx).1
              have d1 : ds[i]? = some ds[i] := List.getElem?_eq_getElem (by omega)
              have e1 : es[i]? = some es[i] := List.getElem?_eq_getElem (by omega)
              have sT := p.1.trans (upd_new (o := .tup [x, y]) nT)
              refine ⟨T', [x, y], rfl, .inl (.inl upd_same), rfl, x, [y], rfl, y, [], rfl, rfl, rfl, yesI ?_⟩
              refine ⟨x, rfl, y, rfl, x, y, ds[i], es[i], rfl, (hds.get hx d1).same sT, (hes.get hy e1).same sT, ?_, fun b' H2 hb' s2 => ?_⟩
              · have := deeps_mem (List.mem_of_getElem? e1)
                have hn' : 1 + Dat.deep.deeps es < n + 1 := hn
                omega
              · refine p.step nD nT s2 ?_ (by omega)
                rw [d1, e1, hb']
                exact ⟨fun z => congrArg some z, fun z => Option.some.inj z⟩
            · obtain ⟨s0, bs, hD, hl, hbs⟩ := p
              refine ⟨D, bs, rfl, .inl (.inl hD), q _ H' ?_ s0⟩
              rw [all_iff (by omega) (by omega) hbs]
              exact ⟨fun z => congrArg Dat.tup z, fun z => Dat.tup.inj z⟩
          · have z2 : ds = es := Dat.tup.inj z
            refine el (decide_eq_true ?_)
            rw [hlx, hly, z2]
        | @lst a xs ds ha la hds => exact iteT (iteT (no fun z => nomatch z))
        | non => exact iteF ⟨.non, .non, _, rfl, .non, kit_tuple _, .ref b, .tup es, _, rfl, .tup hb lb hes, kit_tuple _, rfl, _, rfl, iteT (no fun z => nomatch z)⟩
        | bl c => exact iteF ⟨.bl c, .bl c, _, rfl, .bl c, kit_tuple _, .ref b, .tup es, _, rfl, .tup hb lb hes, kit_tuple _, rfl, _, rfl, iteT (no fun z => nomatch z)⟩
        | int c => exact iteF ⟨.int c, .int c, _, rfl, .int c, kit_tuple _, .ref b, .tup es, _, rfl, .tup hb lb hes, kit_tuple _, rfl, _, rfl, iteT (no fun z => nomatch z)⟩
        | str c => exact iteF ⟨.str c, .str c, _, rfl, .str c, kit_tuple _, .ref b, .tup es, _, rfl, .tup hb lb hes, kit_tuple _, rfl, _, rfl, iteT (no fun z => nomatch z)⟩
      | non =>
        refine iteF ⟨.non, .non, _, rfl, .non, kit_tuple _, _, rfl, iteF ?_⟩
        refine ⟨v, rfl, rfl, _, rfl, ?_⟩
        cases hd with
        | non =>
          exact iteT (iteT ⟨.non, rfl, rfl, _, rfl, iteT ⟨.non, rfl, rfl, q true H ⟨fun _ => rfl, fun _ => rfl⟩ (Same.refl H)⟩⟩)
        | bl x =>
          exact iteF ⟨.non, rfl, rfl, _, rfl, iteT ⟨(.bl x), rfl, rfl, _, rfl, iteF (no fun z => nomatch z)⟩⟩
        | int x =>
          exact iteF ⟨.non, rfl, rfl, _, rfl, iteT ⟨(.int x), rfl, rfl, _, rfl, iteF (no fun z => nomatch z)⟩⟩
        | str x =>
          exact iteF ⟨.non, rfl, rfl, _, rfl, iteT ⟨(.str x), rfl, rfl, _, rfl, iteF (no fun z => nomatch z)⟩⟩
        | @lst a xs ds ha la hds =>
          exact iteF ⟨.non, rfl, rfl, _, rfl, iteT ⟨(.ref a), rfl, rfl, _, rfl, iteF (no fun z => nomatch z)⟩⟩
        | @tup a xs ds ha la hds =>
          exact iteF ⟨.non, rfl, rfl, _, rfl, iteT ⟨(.ref a), rfl, rfl, _, rfl, iteF (no fun z => nomatch z)⟩⟩
      | bl y =>
        refine iteF ⟨(.bl y), (.bl y), _, rfl, (.bl y), kit_tuple _, _, rfl, iteF ?_⟩
        refine ⟨v, rfl, rfl, _, rfl, ?_⟩
        cases hd with
        | non =>
          exact iteT (iteT ⟨.non, rfl, rfl, _, rfl, iteT ⟨(.bl y), rfl, rfl, no fun z => nomatch z⟩⟩)
        | bl x =>
          refine iteF ⟨(.bl y), rfl, rfl, _, rfl, iteF ?_⟩
          refine ⟨(.bl x), (.bl x), _, rfl, (.bl x), kit_bool _, (.bl y), (.bl y), _, rfl, (.bl y), kit_bool _, rfl, _, rfl, ?_⟩
          refine iteF ⟨(.bl x), (.bl x), _, rfl, (.bl x), kit_int _, (.bl y), (.bl y), _, rfl, (.bl y), kit_int _, rfl, _, rfl, iteF ?_⟩
          refine ⟨(.bl x), (.bl x), _, rfl, (.bl x), kit_str _, (.bl y), (.bl y), _, rfl, (.bl y), kit_str _, rfl, _, rfl, ?_⟩
          exact iteT ⟨(.bl x), rfl, (.bl y), rfl, rfl, q _ H (by simp) (Same.refl H)⟩
        | int x =>
          refine iteF ⟨(.bl y), rfl, rfl, _, rfl, iteF ?_⟩
          refine ⟨(.int x), (.int x), _, rfl, (.int x), kit_bool _, (.bl y), (.bl y), _, rfl, (.bl y), kit_bool _, rfl, _, rfl, ?_⟩
          exact iteT (iteT (no fun z => nomatch z))
        | str x =>
          refine iteF ⟨(.bl y), rfl, rfl, _, rfl, iteF ?_⟩
          refine ⟨(.str x), (.str x), _, rfl, (.str x), kit_bool _, (.bl y), (.bl y), _, rfl, (.bl y), kit_bool _, rfl, _, rfl, ?_⟩
          exact iteT (iteT (no fun z => nomatch z))
        | @lst a xs ds ha la hds =>
          refine iteF ⟨(.bl y), rfl, rfl, _, rfl, iteF ?_⟩
          refine ⟨(.ref a), (.lst ds), _, rfl, (.lst ha la hds), kit_bool _, (.bl y), (.bl y), _, rfl, (.bl y), kit_bool _, rfl, _, rfl, ?_⟩
          exact iteT (iteT (no fun z => nomatch z))
        | @tup a xs ds ha la hds =>
          refine iteF ⟨(.bl y), rfl, rfl, _, rfl, iteF ?_⟩
          refine ⟨(.ref a), (.tup ds), _, rfl, (.tup ha la hds), kit_bool _, (.bl y), (.bl y), _, rfl, (.bl y), kit_bool _, rfl, _, rfl, ?_⟩
          exact iteT (iteT (no fun z => nomatch z))
      | int y =>
        refine iteF ⟨(.int y), (.int y), _, rfl, (.int y), kit_tuple _, _, rfl, iteF ?_⟩
        refine ⟨v, rfl, rfl, _, rfl, ?_⟩
        cases hd with
        | non =>
          exact iteT (iteT ⟨.non, rfl, rfl, _, rfl, iteT ⟨(.int y), rfl, rfl, no fun z => nomatch z⟩⟩)
        | bl x =>
          refine iteF ⟨(.int y), rfl, rfl, _, rfl, iteF ?_⟩
          refine ⟨(.bl x), (.bl x), _, rfl, (.bl x), kit_bool _, (.int y), (.int y), _, rfl, (.int y), kit_bool _, rfl, _, rfl, ?_⟩
          exact iteT (iteT (no fun z => nomatch z))
        | int x =>
          refine iteF ⟨(.int y), rfl, rfl, _, rfl, iteF ?_⟩
          refine ⟨(.int x), (.int x), _, rfl, (.int x), kit_bool _, (.int y), (.int y), _, rfl, (.int y), kit_bool _, rfl, _, rfl, ?_⟩
          refine iteF ⟨(.int x), (.int x), _, rfl, (.int x), kit_int _, (.int y), (.int y), _, rfl, (.int y), kit_int _, rfl, _, rfl, iteF ?_⟩
          refine ⟨(.int x), (.int x), _, rfl, (.int x), kit_str _, (.int y), (.int y), _, rfl, (.int y), kit_str _, rfl, _, rfl, ?_⟩
          exact iteT ⟨(.int x), rfl, (.int y), rfl, rfl, q _ H (by simp) (Same.refl H)⟩
        | str x =>
          refine iteF ⟨(.int y), rfl, rfl, _, rfl, iteF ?_⟩
          refine ⟨(.str x), (.str x), _, rfl, (.str x), kit_bool _, (.int y), (.int y), _, rfl, (.int y), kit_bool _, rfl, _, rfl, ?_⟩
          exact iteF ⟨(.str x), (.str x), _, rfl, (.str x), kit_int _, (.int y), (.int y), _, rfl, (.int y), kit_int _, rfl, _, rfl, iteT (no fun z => nomatch z)⟩
        | @lst a xs ds ha la hds =>
          refine iteF ⟨(.int y), rfl, rfl, _, rfl, iteF ?_⟩
          refine ⟨(.ref a), (.lst ds), _, rfl, (.lst ha la hds), kit_bool _, (.int y), (.int y), _, rfl, (.int y), kit_bool _, rfl, _, rfl, ?_⟩
          exact iteF ⟨(.ref a), (.lst ds), _, rfl, (.lst ha la hds), kit_int _, (.int y), (.int y), _, rfl, (.int y), kit_int _, rfl, _, rfl, iteT (no fun z => nomatch z)⟩
        | @tup a xs ds ha la hds =>
          refine iteF ⟨(.int y), rfl, rfl, _, rfl, iteF ?_⟩
          refine ⟨(.ref a), (.tup ds), _, rfl, (.tup ha la hds), kit_bool _, (.int y), (.int y), _, rfl, (.int y), kit_bool _, rfl, _, rfl, ?_⟩
          exact iteF ⟨(.ref a), (.tup ds), _, rfl, (.tup ha la hds), kit_int _, (.int y), (.int y), _, rfl, (.int y), kit_int _, rfl, _, rfl, iteT (no fun z => nomatch z)⟩
      | str y =>
        refine iteF ⟨(.str y), (.str y), _, rfl, (.str y), kit_tuple _, _, rfl, iteF ?_⟩
        refine ⟨v, rfl, rfl, _, rfl, ?_⟩
        cases hd with
        | non =>
          exact iteT (iteT ⟨.non, rfl, rfl, _, rfl, iteT ⟨(.str y), rfl, rfl, no fun z => nomatch z⟩⟩)
        | bl x =>
          refine iteF ⟨(.str y), rfl, rfl, _, rfl, iteF ?_⟩
          refine ⟨(.bl x), (.bl x), _, rfl, (.bl x), kit_bool _, (.str y), (.str y), _, rfl, (.str y), kit_bool _, rfl, _, rfl, ?_⟩
          exact iteT (iteT (no fun z => nomatch z))
        | int x =>
          refine iteF ⟨(.str y), rfl, rfl, _, rfl, iteF ?_⟩
          refine ⟨(.int x), (.int x), _, rfl, (.int x), kit_bool _, (.str y), (.str y), _, rfl, (.str y), kit_bool _, rfl, _, rfl, ?_⟩
          exact iteF ⟨(.int x), (.int x), _, rfl, (.int x), kit_int _, (.str y), (.str y), _, rfl, (.str y), kit_int _, rfl, _, rfl, iteT (no fun z => nomatch z)⟩
        | str x =>
          refine iteF ⟨(.str y), rfl, rfl, _, rfl, iteF ?_⟩
          refine ⟨(.str x), (.str x), _, rfl, (.str x), kit_bool _, (.str y), (.str y), _, rfl, (.str y), kit_bool _, rfl, _, rfl, ?_⟩
          refine iteF ⟨(.str x), (.str x), _, rfl, (.str x), kit_int _, (.str y), (.str y), _, rfl, (.str y), kit_int _, rfl, _, rfl, iteF ?_⟩
          refine ⟨(.str x), (.str x), _, rfl, (.str x), kit_str _, (.str y), (.str y), _, rfl, (.str y), kit_str _, rfl, _, rfl, ?_⟩
          exact iteT ⟨(.str x), rfl, (.str y), rfl, rfl, q _ H (by simp) (Same.refl H)⟩
        | @lst a xs ds ha la hds =>
          refine iteF ⟨(.str y), rfl, rfl, _, rfl, iteF ?_⟩
          refine ⟨(.ref a), (.lst ds), _, rfl, (.lst ha la hds), kit_bool _, (.str y), (.str y), _, rfl, (.str y), kit_bool _, rfl, _, rfl, ?_⟩
          refine iteF ⟨(.ref a), (.lst ds), _, rfl, (.lst ha la hds), kit_int _, (.str y), (.str y), _, rfl, (.str y), kit_int _, rfl, _, rfl, iteF ?_⟩
          refine ⟨(.ref a), (.lst ds), _, rfl, (.lst ha la hds), kit_str _, (.str y), (.str y), _, rfl, (.str y), kit_str _, rfl, _, rfl, ?_⟩
          exact iteF (no fun z => nomatch z)
        | @tup a xs ds ha la hds =>
          refine iteF ⟨(.str y), rfl, rfl, _, rfl, iteF ?_⟩
          refine ⟨(.ref a), (.tup ds), _, rfl, (.tup ha la hds), kit_bool _, (.str y), (.str y), _, rfl, (.str y), kit_bool _, rfl, _, rfl, ?_⟩
          refine iteF ⟨(.ref a), (.tup ds), _, rfl, (.tup ha la hds), kit_int _, (.str y), (.str y), _, rfl, (.str y), kit_int _, rfl, _, rfl, iteF ?_⟩
          refine ⟨(.ref a), (.tup ds), _, rfl, (.tup ha la hds), kit_str _, (.str y), (.str y), _, rfl, (.str y), kit_str _, rfl, _, rfl, ?_⟩
          exact iteF (no fun z => nomatch z)
theorem sc_field : FnScope ["_law_e"] ["_law_e"] (defScope sField) := ⟨rfl, rfl, rfl, by decide +kernel, rfl, by decide +kernel, by decide +kernel⟩
theorem ok_field {f : Addr} {fd : FuncData} {k : Nat} (F : L2.Fun K "_law_field" "_law_field" sField f fd) : FnP P w K mg base (k + 1) f fd ["_law_e"] (spField K) := by
  refine fnP_of F sc_field (fun p vs H Q E h => ?_) (fun cdv A outer s H vs Q p h => ?_)
  · obtain ⟨C, fs, c, v, rfl, _⟩ := h
    rfl
  · obtain ⟨C, fs, c, v, rfl, T, q⟩ := h
    obtain ⟨dd, hdd, hx⟩ := T.at_
    have rd : ∀ {n : Str} {q pos : Pos}, n ∈ errNames → attributeBase (.Name "_law_e" q) n (L2H.cxH CX0 P w K mg base ["_law_e"] "_law_field" (defScope sField) f cdv A outer s H E0 p).env (eval (.Name "_law_e" q) (L2H.cxH CX0 P w K mg base ["_law_e"] "_law_field" (defScope sField) f cdv A outer s H E0 p).env) = eval (.Name "_law_e" q) (L2H.cxH CX0 P w K mg base ["_law_e"] "_law_field" (defScope sField) f cdv A outer s H E0 p).env → PE (L2H.cxH CX0 P w K mg base ["_law_e"] "_law_field" (defScope sField) f cdv A outer s H E0 p) (.Attribute (.Name "_law_e" q) n pos) (tXP p n (tVar 0)) :=
      fun {n q pos} hn hb => pe_xp T.x.xf (T.x.no n hn) (List.mem_singleton.mpr rfl) T.cls T.flds (pv 0) hb
    refine ⟨_, pss_cons (ps_if (pt_cmpR op_in_seq (rd (by decide +kernel) (by rfl)) (pe_lst (pa_cons pe_str (pa_cons pe_str (pa_cons pe_str (pa_cons pe_str (pa_cons pe_str (pa_cons pe_str pa_nil))))))) (by rfl)) (pss_one (ps_ret (rd (by decide +kernel) (by rfl)))) pss_nil)
      (pss_cons (ps_if (pt_cmpR op_in_seq (rd (by decide +kernel) (by rfl)) (pe_lst (pa_cons pe_str (pa_cons pe_str (pa_cons pe_str (pa_cons pe_str (pa_cons pe_str pa_nil)))))) (by rfl)) (pss_one (ps_ret (rd (by decide +kernel) (by rfl)))) pss_nil)
      (pss_cons (ps_if (pt_cmpR op_in_seq (rd (by decide +kernel) (by rfl)) (pe_lst (pa_cons pe_str (pa_cons pe_str pa_nil))) (by rfl)) (pss_one (ps_ret (rd (by decide +kernel) (by rfl)))) pss_nil)
      (pss_cons (ps_if (pt_cmpR op_in_seq (rd (by decide +kernel) (by rfl)) (pe_lst (pa_cons pe_str (pa_cons pe_str pa_nil))) (by rfl)) (pss_one (ps_ret (rd (by decide +kernel) (by rfl)))) pss_nil)
      (pss_cons (ps_if (pt_cmpR op_in_seq (rd (by decide +kernel) (by rfl)) (pe_lst (pa_cons pe_str (pa_cons pe_str pa_nil))) (by rfl)) (pss_one (ps_ret (rd (by decide +kernel) (by rfl)))) pss_nil)
      (pss_cons (ps_if (pt_cmpR op_eq (rd (by decide +kernel) (by rfl)) pe_str (nomark _)) (pss_one (ps_ret (rd (by decide +kernel) (by rfl)))) pss_nil)
      (pss_cons (ps_if (pt_cmpR op_eq (rd (by decide +kernel) (by rfl)) pe_str (nomark _)) (pss_one (ps_ret (rd (by decide +kernel) (by rfl)))) pss_nil)
      (pss_cons (ps_if (pt_cmpR op_eq (rd (by decide +kernel) (by rfl)) pe_str (nomark _)) (pss_one (ps_ret (rd (by decide +kernel) (by rfl)))) pss_nil)
      (pss_cons (ps_if (pt_cmpR op_eq (rd (by decide +kernel) (by rfl)) pe_str (nomark _)) (pss_one (ps_ret (rd (by decide +kernel) (by rfl)))) pss_nil)
      (pss_one (ps_ret (pe_ifExp (pt_cmpR op_eq (rd (by decide +kernel) (by rfl)) pe_str (nomark _)) (rd (by decide +kernel) (by rfl)) pe_non))))))))))), ?_⟩
    have hv := T.val
    unfold fieldVal fieldOf at hv
    have hcd := T.code
    -- each list that is looked through is new
    refine ⟨.ref p.1, rfl, rfl, dd, fs, .str c, hdd, hx, hcd, lineN (by decide : 6 ≤ 1000), fun l1 n1 => ⟨l1, cLimit, rfl, .inl (.inl (.inl upd_same)), rfl, rfl, _, rfl, ite2 (fun e => ?_) (fun e1 => ?_)⟩⟩
    · rw [if_pos (show inV (.str c) cLimit = true from e)] at hv
      exact ⟨.ref p.1, rfl, rfl, dd, fs, v, hdd, upd_new n1 _ _ hx, hv, q _ (upd_new n1)⟩
    rw [if_neg (show ¬ inV (.str c) cLimit = true from e1)] at hv
    have s1 := upd_new (o := .lst cLimit) n1
    refine ⟨.ref p.1, rfl, rfl, dd, fs, .str c, hdd, s1 _ _ hx, hcd, lineN (by decide : 5 ≤ 1000), fun l2 n2 => ⟨l2, cName, rfl, .inl (.inl (.inl upd_same)), rfl, rfl, _, rfl, ite2 (fun e => ?_) (fun e1 => ?_)⟩⟩
    · rw [if_pos (show inV (.str c) cName = true from e)] at hv
      exact ⟨.ref p.1, rfl, rfl, dd, fs, v, hdd, upd_new n2 _ _ (s1 _ _ hx), hv, q _ (s1.trans (upd_new n2))⟩
    rw [if_neg (show ¬ inV (.str c) cName = true from e1)] at hv
    have s2 := s1.trans (upd_new (o := .lst cName) n2)
    refine ⟨.ref p.1, rfl, rfl, dd, fs, .str c, hdd, s2 _ _ hx, hcd, lineN (by decide : 2 ≤ 1000), fun l3 n3 => ⟨l3, cPos, rfl, .inl (.inl (.inl upd_same)), rfl, rfl, _, rfl, ite2 (fun e => ?_) (fun e1 => ?_)⟩⟩
    · rw [if_pos (show inV (.str c) cPos = true from e)] at hv
      exact ⟨.ref p.1, rfl, rfl, dd, fs, v, hdd, upd_new n3 _ _ (s2 _ _ hx), hv, q _ (s2.trans (upd_new n3))⟩
    rw [if_neg (show ¬ inV (.str c) cPos = true from e1)] at hv
    have s3 := s2.trans (upd_new (o := .lst cPos) n3)
    refine ⟨.ref p.1, rfl, rfl, dd, fs, .str c, hdd, s3 _ _ hx, hcd, lineN (by decide : 2 ≤ 1000), fun l4 n4 => ⟨l4, cMod, rfl, .inl (.inl (.inl upd_same)), rfl, rfl, _, rfl, ite2 (fun e => ?_) (fun e1 => ?_)⟩⟩
    · rw [if_pos (show inV (.str c) cMod = true from e)] at hv
      exact ⟨.ref p.1, rfl, rfl, dd, fs, v, hdd, upd_new n4 _ _ (s3 _ _ hx), hv, q _ (s3.trans (upd_new n4))⟩
    rw [if_neg (show ¬ inV (.str c) cMod = true from e1)] at hv
    have s4 := s3.trans (upd_new (o := .lst cMod) n4)
    refine ⟨.ref p.1, rfl, rfl, dd, fs, .str c, hdd, s4 _ _ hx, hcd, lineN (by decide : 2 ≤ 1000), fun l5 n5 => ⟨l5, cMany, rfl, .inl (.inl (.inl upd_same)), rfl, rfl, _, rfl, ite2 (fun e => ?_) (fun e1 => ?_)⟩⟩
    · rw [if_pos (show inV (.str c) cMany = true from e)] at hv
      exact ⟨.ref p.1, rfl, rfl, dd, fs, v, hdd, upd_new n5 _ _ (s4 _ _ hx), hv, q _ (s4.trans (upd_new n5))⟩
    rw [if_neg (show ¬ inV (.str c) cMany = true from e1)] at hv
    have s5 := s4.trans (upd_new (o := .lst cMany) n5)
    refine ⟨.ref p.1, rfl, rfl, dd, fs, .str c, hdd, s5 _ _ hx, hcd, rfl, _, rfl, ite2 (fun e => ?_) (fun e1 => ?_)⟩
    · rw [if_pos e] at hv
      exact ⟨.ref p.1, rfl, rfl, dd, fs, v, hdd, s5 _ _ hx, hv, q _ s5⟩
    rw [if_neg e1] at hv
    refine ⟨.ref p.1, rfl, rfl, dd, fs, .str c, hdd, s5 _ _ hx, hcd, rfl, _, rfl, ite2 (fun e => ?_) (fun e1 => ?_)⟩
    · rw [if_pos e] at hv
      exact ⟨.ref p.1, rfl, rfl, dd, fs, v, hdd, s5 _ _ hx, hv, q _ s5⟩
    rw [if_neg e1] at hv
    refine ⟨.ref p.1, rfl, rfl, dd, fs, .str c, hdd, s5 _ _ hx, hcd, rfl, _, rfl, ite2 (fun e => ?_) (fun e1 => ?_)⟩
    · rw [if_pos e] at hv
      exact ⟨.ref p.1, rfl, rfl, dd, fs, v, hdd, s5 _ _ hx, hv, q _ s5⟩
    rw [if_neg e1] at hv
    refine ⟨.ref p.1, rfl, rfl, dd, fs, .str c, hdd, s5 _ _ hx, hcd, rfl, _, rfl, ite2 (fun e => ?_) (fun e1 => ?_)⟩
    · rw [if_pos e] at hv
      exact ⟨.ref p.1, rfl, rfl, dd, fs, v, hdd, s5 _ _ hx, hv, q _ s5⟩
    rw [if_neg e1] at hv
    refine ⟨.ref p.1, rfl, rfl, dd, fs, .str c, hdd, s5 _ _ hx, hcd, rfl, _, rfl, ite2 (fun e => ?_) (fun e1 => ?_)⟩
    · rw [if_pos e] at hv
      exact ⟨.ref p.1, rfl, rfl, dd, fs, v, hdd, s5 _ _ hx, hv, q _ s5⟩
    · rw [if_neg e1] at hv
      have ev : V.non = v := Option.some.inj hv
      rw [ev]
      exact q _ s5
theorem sc_try : FnScope ["_law_ask", "_law_e"] ["_law_ask"] (defScope sTry) := ⟨rfl, rfl, rfl, by decide +kernel, rfl, by decide +kernel, by decide +kernel⟩
theorem try_gives {X : Cx} {f B M g : Addr} {fd : FuncData} {k : Nat} {cdg : Value} {q : Str} (FF : FnP X.prog X.w X.K X.mg X.base k f fd ["_law_e"] (spField X.K)) (gF : X.mg "_law_field" = some (.ref f)) (kF : PySem.W.keepIn X.K (.ref f) = true) (bF : L2.Binds X.K fd ["_law_e"] [])
    (gB : X.mg "BagError" = some (.ref B)) (gM : X.mg "Missing" = some (.ref M)) (hr : Room (k + 1) X.A) :
    LamX.GivesTo X ["_law_ask", "_law_e"] "_law_try" (defScope sTry) g cdg (defBody sTry) "_law_ask" q (TTry X.K B M) := by
  intro fl c' s H Q tl act hc h
  have hr2 : L2H.RoomH k (X.A.deeper (envOfC "_law_try" (defScope sTry) s.heap.objs.size g cdg)) := L2H.roomH_of (hr.deeper _)
  have nd := sc_try.nd
  refine ⟨_, pss_one (ps_named (X := (cxOf C8.CX0 X.prog X.w X.K X.mg X.base ["_law_ask", "_law_e"] "_law_try" (defScope sTry) g cdg X.A X.stack s H C8.E0).nox) (i := 1) (n := "_law_e")
    (tb := fun W D σ H => ∃ Ech : XK, (∀ cls d σ' H', Ech cls d H' → W cls d σ' H') ∧ σ[0]? = some (some (.ref fl)) ∧ H c' = some (LamX.CodeO c' q) ∧ tl Ech H fun v H1 => 2 ≤ sizeLine ∧ ∀ p, H1 p = none → D.rt (.ref p) (upd H1 p (.tup [.str "value", v])))
    (l := [(.ref B, tCaught X.K), (.ref M, tCaught X.K)]) rfl rfl nd rfl rfl (fun W pn xe tk => ?_)
    (.cons ⟨by rfl, by decide, .inl gB⟩ (suite_caught FF gF kF bF hr2 rfl (.inl rfl) (by rfl) (by rfl) (by rfl) (by rfl) (by rfl) (by rfl)) (.cons ⟨by rfl, by decide, .inl gM⟩ (suite_caught FF gF kF bF hr2 rfl (.inl rfl) (by rfl) (by rfl) (by rfl) (by rfl) (by rfl) (by rfl)) .nil))), ?_⟩
  · refine ⟨fun pins s' σ H' D I h' => ?_⟩
    obtain ⟨Ech, hW, h1, h2, h3⟩ := h'
    refine (pss_one (ps_ret (pe_tup (pa_cons pe_str (pa_cons (act W pn xe Ech _ _ tk hW) pa_nil))))).run pins s' σ H' D I ?_
    exact ⟨h1, h2, h3⟩
  · refine ⟨ErrTo X.K B M Q, fun cls d σ' H' z => ?_, rfl, hc, ?_⟩
    · obtain ⟨C, dd, fs, c, v, e1, e2, hx, T, ⟨b, k1, k2⟩, hcd, hv, hq⟩ := z
      subst e1
      subst e2
      have fin : ∀ a, σ'.length = 2 → tCaught X.K a (.ref C) (some dd) (gone 1 { nx := fun _ H' => Q .non H', rt := Q }) (σ'.set 1 (some (.ref a))) H' := fun a hl =>
        ⟨List.getElem?_set_self (by omega), C, dd, fs, c, v, rfl, rfl, hx, T, hcd, hv, hq⟩
      exact ⟨b, k1, fun _ a _ hl => fin a hl, fun hb => ⟨true, k2 hb, fun _ a _ hl => fin a hl, fun z => Bool.noConfusion z⟩⟩
    · exact h
theorem sc_gcd : FnScope ["_law_one", "_law_other"] ["_law_one", "_law_other"] (defScope sGcd) := ⟨rfl, rfl, rfl, by decide +kernel, rfl, by decide +kernel, by decide +kernel⟩
theorem ok_gcd {f : Addr} {fd : FuncData} {k : Nat} (F : L2.Fun K "_law_gcd" "_law_gcd" sGcd f fd) (mabs : mg "abs" = none) : FnOk P w K mg base CX0 (k + 1) f fd ["_law_one", "_law_other"] spGcd := by
  have nd := sc_gcd.nd
  refine F.ok sc_gcd (fun vs H Q E h => ?_) (fun cdv A outer s H vs Q E hr h => ?_)
  · obtain ⟨a, b, rfl, _⟩ := h
    rfl
  · obtain ⟨a, b, rfl, q⟩ := h
    refine ⟨_, pss_cons (ps_par (i := 0) (j := 1) (by rfl) nd rfl rfl (by decide) rfl rfl (pa_cons (pe_callB call_abs (by rfl) mabs (by decide +kernel) (pa_cons (pv 0) pa_nil)) (pa_cons (pe_callB call_abs (by rfl) mabs (by decide +kernel) (pa_cons (pv 1) pa_nil)) pa_nil)) (by rfl))
      (pss_cons (ps_while PassesOwn.never (pt_cmpR op_ne (pv 1) pe_int (nomark _)) (pss_one (ps_par (i := 0) (j := 1) (by rfl) nd rfl rfl (by decide) rfl rfl (pa_cons (pv 1) (pa_cons (pe_op op_modN (pv 0) (pv 1)) pa_nil)) (by rfl))))
      (pss_one (ps_ret (pv 0)))), ?_⟩
    refine ⟨.int a, rfl, a, rfl, .int b, rfl, b, rfl, _, _, rfl, ?_⟩
    have hab : Int.gcd (if a < 0 then -a else a) (if b < 0 then -b else b) = Int.gcd a b := by
      split <;> split <;> simp
    refine while_by (fun σ H' => ∃ x y : Int, σ = [some (.int x), some (.int y)] ∧ 0 ≤ x ∧ 0 ≤ y ∧ Int.gcd x y = Int.gcd a b ∧ H' = H) (fun σ _ => match σ with | [_, some (.int y)] => y.natAbs | _ => 0) ⟨_, _, rfl, by split <;> omega, by split <;> omega, hab, rfl⟩ ?_ ?_
    · rintro σ H' ⟨x, y, rfl, hx, hy, g, rfl⟩
      refine ⟨.int y, rfl, rfl, _, rfl, ?_⟩
      by_cases c : y = 0
      · subst c
        refine iteF ?_
        have e : x = (Int.gcd a b : Int) := by
          rw [← g, Int.gcd_zero_right]
          omega
        refine ⟨.int x, rfl, ?_⟩
        rw [e]
        exact q
      · have cc : (!decide (V.int y = V.int 0)) = true := by simp [c]
        rw [cc]
        refine iteT ?_
        refine ⟨.int y, rfl, .int x, rfl, .int y, rfl, x, y, rfl, rfl, c, _, _, rfl, ⟨y, x.fmod y, rfl, hy, Int.fmod_nonneg_of_pos x (by omega), ?_, rfl⟩, ?_⟩
        · rw [gcd_fmod, g]
        · exact natAbs_fmod_lt x y c
    · rintro σ H' Q1 Q2 imp ⟨v, hv, hs, k, hk, q1⟩
      exact ⟨v, hv, hs, k, hk, imp _ _ q1⟩
theorem sc_low : FnScope ["_law_top", "_law_bottom", "_law_shared"] ["_law_top", "_law_bottom"] (defScope sLow) := ⟨rfl, rfl, rfl, by decide +kernel, rfl, by decide +kernel, by decide +kernel⟩
theorem ok_low {f fS : Addr} {fd fdS : FuncData} (F : L2.Fun K "_law_low" "_law_low" sLow f fd) (GS : FnOk P w K mg base CX0 1 fS fdS ["_law_one", "_law_other"] spGcd) (gS : mg "_law_gcd" = some (.ref fS)) (kS : PySem.W.keepIn K (.ref fS) = true) (bS : L2.Binds K fdS ["_law_one", "_law_other"] []) :
    FnOk P w K mg base CX0 2 f fd ["_law_top", "_law_bottom"] spLow := by
  have nd := sc_low.nd
  refine F.ok sc_low (fun vs H Q E h => ?_) (fun cdv A outer s H vs Q E hr h => ?_)
  · obtain ⟨n, d, rfl, _⟩ := h
    rfl
  · obtain ⟨n, d, rfl, d9, hd, q1⟩ := h
    refine ⟨_, pss_cons (ps_set (i := 2) nd rfl (.inl rfl) (pe_call GS hr (by rfl) gS kS bS .nil pass0 (pa_cons (pv 0) (pa_cons (pv 1) pa_nil))))
      (pss_cons (ps_if (pt_cmpR op_lt (pv 1) pe_int (nomark _)) (pss_one (ps_set (i := 2) nd rfl (.inl rfl) (pe_un un_neg (pv 2)))) pss_nil)
      (pss_one (ps_ret (pe_tup (pa_cons (pe_op op_fdivX (pv 0) (pv 2)) (pa_cons (pe_op op_fdivX (pv 1) (pv 2)) pa_nil)))))), ?_⟩
    obtain ⟨⟨h1, h2⟩, h3⟩ := lowS_ok (n := n) hd d9
    refine ⟨.int n, rfl, .int d, rfl, n, d, rfl, ?_⟩
    refine ⟨.int d, rfl, d, 0, rfl, rfl, _, rfl, ite2 (fun e2 => ?_) (fun e2 => ?_)⟩
    · have es : lowS n d = -(Int.gcd n d : Int) := if_pos (of_decide_eq_true e2)
      rw [es] at h1 h2 q1
      exact ⟨_, rfl, _, rfl, .int n, rfl, _, rfl, n, _, rfl, rfl, ⟨h1, h2⟩, .int d, rfl, _, rfl, d, _, rfl, rfl, ⟨h1, h2⟩, lineN (by decide : 2 ≤ 1000), fun p np => q1 p np⟩
    · have es : lowS n d = (Int.gcd n d : Int) := if_neg fun z => e2 (decide_eq_true z)
      rw [es] at h1 h2 q1
      exact ⟨.int n, rfl, _, rfl, n, _, rfl, rfl, ⟨h1, h2⟩, .int d, rfl, _, rfl, d, _, rfl, rfl, ⟨h1, h2⟩, lineN (by decide : 2 ≤ 1000), fun p np => q1 p np⟩
end
end RB

set_option Elab.async false
set_option linter.all false
set_option maxRecDepth 100000
set_option maxHeartbeats 4000000
namespace RB
open PySem PySem.Spec PyProof.Rows L2 SX
section
variable {P : Program} {w : World} {K : PySem.W.Frag} {mg : Str → Option Value} {base : Heap}
theorem sc_as_pair : FnScope ["value", "numerator", "denominator"] ["value"] (defScope s_as_pair) := ⟨rfl, rfl, rfl, by decide +kernel, rfl, by decide +kernel, by decide +kernel⟩
theorem ok_as_pair {f C : Addr} {fd : FuncData} (F : L2.Fun K "as_pair" "as_pair" s_as_pair f fd) (misi : mg "isinstance" = none) (mint : mg "int" = none) (TE : Err0 P w K mg base 2 "InvalidNumber" "InvalidNumber" C) : FnOk P w K mg base (L2.CX P w) 4 f fd ["value"] (spPair C) := by
  have nd := sc_as_pair.nd
  refine F.okX sc_as_pair (fun vs H Q E h => ?_) (fun cdv A outer s H vs Q E hr h => ?_)
  · obtain ⟨v, n, d, rfl, _⟩ := h
    rfl
  · obtain ⟨v, n, d, rfl, hv, q0, q1⟩ := h
    refine ⟨_, pss_cons (ps_if (pt_val (pe_isi (i := 0) rfl (.inl rfl) (by rfl) misi (by rfl) mint boot_int)) (pss_one (ps_ret (pe_tup (pa_cons (pv 0) (pa_cons pe_int pa_nil))))) pss_nil)
      (pss_cons (ps_asg (pv 0) (pg_tup (by rfl) (pgs_cons (pg_name (i := 1) nd rfl (.inl rfl)) (pgs_cons (pg_name (i := 2) nd rfl (.inl rfl)) pgs_nil))))
      (pss_cons (ps_if (pt_cmpR op_eq (pv 2) pe_int (nomark _)) (pss_one (ps_raise rfl (takes_of rfl rfl rfl rfl) (pmk0 TE hr (by rfl)))) pss_nil)
      (pss_one (ps_ret (pe_tup (pa_cons (pv 1) (pa_cons (pv 2) pa_nil))))))), ?_⟩
    rcases hv with ⟨rfl, rfl⟩ | ⟨a, rfl, ha⟩
    · refine ⟨.int n, .int n, _, rfl, .int n, kit_int _, _, rfl, iteT ?_⟩
      exact ⟨.int n, rfl, lineN (by decide : 2 ≤ 1000), fun p np => q1 (by decide) p np⟩
    · refine ⟨.ref a, .tup [.int n, .int d], _, rfl, .tup ha (by decide : 2 ≤ 100000) (.cons (.int _) (.cons (.int _) .nil)), kit_int _, _, rfl, iteF ?_⟩
      refine ⟨.ref a, rfl, a, [.int n, .int d], rfl, .inl (.inl ha), rfl, .int n, [.int d], rfl, .int d, [], rfl, rfl, ?_⟩
      refine ⟨.int d, rfl, rfl, _, rfl, ite2 (fun e => ?_) (fun e => ?_)⟩
      · exact q0 (V.int.inj (of_decide_eq_true e))
      · have hd : d ≠ 0 := fun z => e (decide_eq_true (congrArg V.int z))
        exact ⟨.int n, rfl, .int d, rfl, lineN (by decide : 2 ≤ 1000), fun p np => q1 hd p np⟩
/-- the constants of the module -/
structure TConst (mg : Str → Option Value) : Prop where
  most : ∃ t, mg "MAX_FIGURES" = some (.int 100 t)
  figs : ∃ t, mg "FIGURES" = some (.str "0123456789" t)
  pfigs : ∃ t, mg "PART_FIGURES" = some (.int 64 t)
  part : ∃ t, mg "PART" = some (.int (10 ^ 64) t)
theorem sc_whole : FnScope ["number", "parts", "high", "low"] ["number"] (defScope s_whole_text) := ⟨rfl, rfl, rfl, by decide +kernel, rfl, by decide +kernel, by decide +kernel⟩
theorem ok_whole {f : Addr} {fd : FuncData} {k : Nat} (F : L2.Fun K "whole_text" "whole_text" s_whole_text f fd) (mabs : mg "abs" = none) (mdiv : mg "divmod" = none) (mstr : mg "str" = none) (T : TConst mg) : FnOk P w K mg base CX0 (k + 1) f fd ["number"] spWhole := by
  have nd := sc_whole.nd
  obtain ⟨tf, gF⟩ := T.pfigs
  obtain ⟨tp, gP⟩ := T.part
  refine F.ok sc_whole (fun vs H Q E h => ?_) (fun cdv A outer s H vs Q E hr h => ?_)
  · obtain ⟨n, rfl, _⟩ := h
    rfl
  · obtain ⟨n, rfl, hb, q⟩ := h
    refine ⟨_, pss_cons (ps_set (i := 1) nd rfl (.inl rfl) (pe_lst pa_nil))
      (pss_cons (ps_set (i := 2) nd rfl (.inl rfl) (pe_callB call_abs (by rfl) mabs (by decide +kernel) (pa_cons (pv 0) pa_nil)))
      (pss_cons (ps_while PassesOwn.never (pt_cmpR op_ge (pv 2) (pe_glob (v := .int (10 ^ 64)) (by rfl) gP ⟨_, rfl⟩) (nomark _))
        (pss_cons (ps_asg (pe_callB call_divmodW (by rfl) mdiv (by decide +kernel) (pa_cons (pv 2) (pa_cons (pe_glob (v := .int (10 ^ 64)) (by rfl) gP ⟨_, rfl⟩) pa_nil))) (pg_tup (by rfl) (pgs_cons (pg_name (i := 2) nd rfl (.inl rfl)) (pgs_cons (pg_name (i := 3) nd rfl (.inl rfl)) pgs_nil))))
        (pss_one (ps_expr (pe_bm PySem.F.plainAttrs_list PySem.F.slot_list_append PySem.F.type_list_append mt_append (pv 1) (pa_cons (pe_bm PySem.F.plainAttrs_str PySem.F.slot_str_zfill PySem.F.type_str_zfill mt_zfill (pe_callTy call_str_int (by rfl) mstr boot_str (pa_cons (pv 3) pa_nil)) (pa_cons (pe_glob (v := .int 64) (by rfl) gF ⟨_, rfl⟩) pa_nil)) pa_nil))))))
      (pss_cons (ps_expr (pe_bm PySem.F.plainAttrs_list PySem.F.slot_list_append PySem.F.type_list_append mt_append (pv 1) (pa_cons (pe_callTy call_str_int (by rfl) mstr boot_str (pa_cons (pv 2) pa_nil)) pa_nil)))
      (C8.pss_cut (ps_if (pt_cmpR op_lt (pv 0) pe_int (nomark _)) (pss_one (ps_expr (pe_bm PySem.F.plainAttrs_list PySem.F.slot_list_append PySem.F.type_list_append mt_append (pv 1) (pa_cons pe_str pa_nil)))) pss_nil)
      (pss_one (ps_ret (pe_join pe_str (pe_revL (pv 1))))))))), ?_⟩
    refine ⟨Nat.zero_le _, fun l nl => ?_⟩
    have eabs : (if n < 0 then -n else n) = ((n.natAbs : Nat) : Int) := by
      split <;> omega
    refine ⟨.int n, rfl, n, rfl, ?_⟩
    rw [eabs]
    refine while_by (fun σ H' => ∃ (h : Nat) (ys : List (List Nat)) (x3 : Option V), σ = [some (.int n), some (.ref l), some (.int (h : Int)), x3] ∧ TL.numL n.natAbs = TL.numL h ++ ys.reverse.flatten ∧ (∀ y ∈ ys, y.length = 64) ∧ H' l = some (.lst ((ys.map S).map V.str)) ∧ Same H H')
      (fun σ _ => match σ with | [_, _, some (.int h), _] => h.toNat | _ => 0) ⟨n.natAbs, [], none, rfl, by simp, fun _ z => absurd z (by simp), upd_same, upd_new nl⟩ ?_ ?_
    · rintro σ H' ⟨h, ys, x3, rfl, eN, h64, hl, sm⟩
      have hnum : (TL.numL n.natAbs).length ≤ 1280 := TL.numL_len (by decide) hb
      have hys : 64 * ys.length ≤ 1280 := by
        have e := congrArg List.length eN
        rw [List.length_append, flat_len (fun y hy => h64 y (List.mem_reverse.mp hy)), List.length_reverse] at e
        omega
      refine ⟨.int h, rfl, h, 10 ^ 64, rfl, rfl, _, rfl, ite2 (fun e => ?_) (fun e => ?_)⟩
      · have ge : (10 : Int) ^ 64 ≤ h := of_decide_eq_true e
        have ge2 : 10 ^ 64 ≤ h := by
          have : ((10 ^ 64 : Nat) : Int) ≤ (h : Int) := ge
          omega
        have p64 : (0 : Int) < 10 ^ 64 := by decide
        refine ⟨.int h, rfl, h, 10 ^ 64, rfl, ⟨p64, PyProof.noPylong_of_log2 (by decide +kernel)⟩, fun p np => ?_⟩
        have ed : (h : Int) / 10 ^ 64 = ((h / 10 ^ 64 : Nat) : Int) := rfl
        have em : (h : Int) % 10 ^ 64 = ((h % 10 ^ 64 : Nat) : Int) := rfl
        refine ⟨p, _, rfl, .inl (.inl upd_same), rfl, _, [_], rfl, _, [], rfl, rfl, ?_⟩
        have hl2 := upd_new (o := .tup [.int ((h : Int) / 10 ^ 64), .int ((h : Int) % 10 ^ 64)]) np _ _ hl
        have low : h % 10 ^ 64 < 10 ^ 64 := Nat.mod_lt _ (by decide)
        refine ⟨.ref l, rfl, .inl ⟨rfl, _, .inl (.inl hl2)⟩, _, rfl, _, rfl, ?_, ?_⟩
        · rw [em, Int.natAbs_natCast]
          have := log2_lt (Nat.lt_trans low (by decide : 10 ^ 64 < 2 ^ 213)) (by decide)
          omega
        · refine ⟨rfl, _, 64, rfl, rfl, by decide, l, _, _, rfl, rfl, hl2, ?_, ?_⟩
          · rw [List.length_map, List.length_map, sizeLine_eq]
            omega
          · have et : Txt.zfill (Str.ofString (toString ((h : Int) % 10 ^ 64))) 64 = S (dig 64 (h % 10 ^ 64)) := by
              rw [em, num_S]
              exact zfill_dig (k := 64) (by decide) low (by decide)
            refine ⟨⟨h / 10 ^ 64, ys ++ [dig 64 (h % 10 ^ 64)], _, rfl, ?_, ?_, ?_, ?_⟩, ?_⟩
            · rw [List.reverse_append, List.flatten_append, ← List.append_assoc, eN]
              congr 1
              have eh : h = h / 10 ^ 64 * 10 ^ 64 + h % 10 ^ 64 := by omega
              conv => lhs; rw [eh]
              rw [numL_dig 64 _ _ (by omega) low]
              simp
            · intro y hy
              rcases List.mem_append.mp hy with z | z
              · exact h64 y z
              · rw [List.mem_singleton.mp z]
                exact dig_len _ _
            · rw [upd_same, List.map_append, List.map_append]
              show some (HO.lst (_ ++ [V.str (Txt.zfill (Str.ofString (toString ((h : Int) % 10 ^ 64))) 64)])) = _
              rw [et]
              rfl
            · intro b o eb
              rw [upd_ne (ne_of_none eb nl)]
              exact upd_new np _ _ (sm _ _ eb)
            · show ((h / 10 ^ 64 : Nat) : Int).toNat < (h : Int).toNat
              rw [Int.toNat_natCast, Int.toNat_natCast]
              omega
      · have lt : h < 10 ^ 64 := by
          have : ¬ ((10 ^ 64 : Nat) : Int) ≤ (h : Int) := fun z => e (decide_eq_true z)
          omega
        have sl : ∀ m : Nat, m ≤ 1000 → m < sizeLine := fun m hm => small1000 hm
        refine ⟨.ref l, rfl, .inl ⟨rfl, _, .inl (.inl hl)⟩, .int h, rfl, h, rfl, ?_, l, _, _, rfl, rfl, hl, sl _ (by rw [List.length_map, List.length_map]; omega), ?_⟩
        · rw [Int.natAbs_natCast]
          have := log2_lt (Nat.lt_trans lt (by decide : 10 ^ 64 < 2 ^ 213)) (by decide)
          omega
        · have s2 : Same H (upd H' l (.lst ((ys.map S).map V.str ++ [.str (Str.ofString (toString (h : Int)))]))) := fun b o eb => by
            rw [upd_ne (ne_of_none eb nl)]
            exact sm _ _ eb
          refine ⟨fun σ' H2 => ∃ (ts : List (List Nat)) (x2 x3 : Option V), σ' = [some (.int n), some (.ref l), x2, x3] ∧ ts.reverse.flatten = numT n ∧ ts.length ≤ 100 ∧ H2 l = some (.lst ((ts.map S).map V.str)) ∧ Same H H2, ?_, ?_⟩
          · refine ⟨.int n, rfl, n, 0, rfl, rfl, _, rfl, ite2 (fun e2 => ?_) (fun e2 => ?_)⟩
            · have neg := of_decide_eq_true e2
              refine ⟨.ref l, rfl, .inl ⟨rfl, _, .inl (.inl upd_same)⟩, l, _, _, rfl, rfl, upd_same, sl _ (by rw [List.length_append, List.length_map, List.length_map]; show ys.length + 1 ≤ 1000; omega), ?_⟩
              refine ⟨ys ++ [TL.numL h, [45]], _, _, rfl, ?_, ?_, ?_, fun b o eb => ?_⟩
              · rw [numT, if_pos neg, eN, List.reverse_append, List.flatten_append]
                simp
              · rw [List.length_append]
                show ys.length + 2 ≤ 100
                omega
              · rw [upd_same, num_S, List.map_append, List.map_append, List.append_assoc]
                rfl
              · rw [upd_ne (ne_of_none eb nl)]
                exact s2 _ _ eb
            · have pos : ¬ n < 0 := fun z => e2 (decide_eq_true z)
              refine ⟨ys ++ [TL.numL h], _, _, rfl, ?_, ?_, ?_, s2⟩
              · rw [numT, if_neg pos, eN, List.reverse_append, List.flatten_append]
                simp
              · rw [List.length_append]
                show ys.length + 1 ≤ 100
                omega
              · rw [upd_same, num_S, List.map_append, List.map_append]
                rfl
          · rintro σ' H2 ⟨ts, x2, x3', rfl, ef, lt2, hl2, sm2⟩
            refine ⟨⟨_, rfl⟩, .ref l, rfl, l, _, rfl, .inl (.inl hl2), fun p np => ?_⟩
            have hp : SqL K (upd H2 p (.lst ((ts.map S).map V.str).reverse)) p ((ts.reverse.map S).map V.str) := .inl (.inl (by rw [upd_same, List.map_reverse, List.map_reverse]))
            refine ⟨_, p, ts.reverse.map S, rfl, rfl, .inl hp, ?_, ?_⟩
            · rw [lens]
              have e := congrArg List.length ef
              rw [List.length_flatten] at e
              have e0 : (Str.ofString "").length = 0 := by decide
              rw [e, e0]
              have : (numT n).length ≤ 1281 := by
                unfold numT
                split
                · rw [List.length_cons]
                  omega
                · omega
              omega
            · have ej : Txt.join (Str.ofString "") (ts.reverse.map S) = S (numT n) := by
                show Txt.join (S []) (ts.reverse.map S) = S (numT n)
                rw [join_S, joinL_nil, ef]
              rw [ej]
              exact q _ (sm2.trans (upd_new np))
    · rintro σ H' Q1 Q2 imp ⟨v, hv, i, j, e1, e2, k, hk, q1⟩
      exact ⟨v, hv, i, j, e1, e2, k, hk, imp _ _ q1⟩
end
end RB

set_option Elab.async false
set_option linter.all false
set_option maxRecDepth 100000
set_option maxHeartbeats 4000000
namespace RB
open PySem PySem.Spec PyProof.Rows L2 SX
section
variable {P : Program} {w : World} {K : PySem.W.Frag} {mg : Str → Option Value} {base : Heap}
theorem low_big {n d : Int} (hd : d ≠ 0) (h1 : n.natAbs < big) (h2 : d.natAbs < big) : (lowN n d).natAbs < big ∧ (lowD n d).natAbs < big := by
  obtain ⟨a, b⟩ := low_le (n := n) hd
  exact ⟨Nat.lt_of_le_of_lt a h1, Nat.lt_of_le_of_lt b h2⟩
theorem numT_len {n : Int} (h : n.natAbs < big) : (numT n).length ≤ 1281 := by
  have := TL.numL_len (n := n.natAbs) (k := 1280) (by decide) h
  unfold numT
  split
  · rw [List.length_cons]
    omega
  · omega
theorem sc_ratl : FnScope ["value", "numerator", "denominator"] ["value"] (defScope s_rational) := ⟨rfl, rfl, rfl, by decide +kernel, rfl, by decide +kernel, by decide +kernel⟩
def spRatl (C : Addr) : Sp := fun vs H Q E => ∃ (v : V) (n d : Int), vs = [v] ∧ RatV H v n d ∧ d.natAbs.log2 < 9000 ∧ (d = 0 → Bad C H E) ∧ (d ≠ 0 → ∀ (p : Addr) (H' : Hp), Same H H' → H' p = some (.tup [.int (lowN n d), .int (lowD n d)]) → Q (.ref p) H')
theorem ok_ratl {f fP fL C : Addr} {fd dP dL : FuncData} (F : L2.Fun K "rational" "rational" s_rational f fd) (GP : FnOk P w K mg base (L2.CX P w) 4 fP dP ["value"] (spPair C)) (gP : mg "as_pair" = some (.ref fP)) (kP : PySem.W.keepIn K (.ref fP) = true) (bP : L2.Binds K dP ["value"] [])
    (GL : FnOk P w K mg base (L2.CX P w) 4 fL dL ["numerator", "denominator"] (spLowest C)) (gL : mg "lowest" = some (.ref fL)) (kL : PySem.W.keepIn K (.ref fL) = true) (bL : L2.Binds K dL ["numerator", "denominator"] []) : FnOk P w K mg base (L2.CX P w) 5 f fd ["value"] (spRatl C) := by
  have nd := sc_ratl.nd
  refine F.okX sc_ratl (fun vs H Q E h => ?_) (fun cdv A outer s H vs Q E hr h => ?_)
  · obtain ⟨v, n, d, rfl, _⟩ := h
    rfl
  · obtain ⟨v, n, d, rfl, hv, hd, q0, q1⟩ := h
    refine ⟨_, pss_cons (ps_asg (pe_call GP hr (by rfl) gP kP bP .nil (passes_call (takes_of rfl rfl rfl rfl) fun _ _ _ _ h => h) (pa_cons (pv 0) pa_nil)) (pg_tup (by rfl) (pgs_cons (pg_name (i := 1) nd rfl (.inl rfl)) (pgs_cons (pg_name (i := 2) nd rfl (.inl rfl)) pgs_nil))))
      (pss_one (ps_ret (pe_call GL hr (by rfl) gL kL bL .nil (passes_call (takes_of rfl rfl rfl rfl) fun _ _ _ _ h => h) (pa_cons (pv 1) (pa_cons (pv 2) pa_nil))))), ?_⟩
    refine ⟨v, rfl, v, n, d, rfl, hv, q0, fun hd0 p np => ?_⟩
    refine ⟨p, [.int n, .int d], rfl, .inl (.inl upd_same), rfl, .int n, [.int d], rfl, .int d, [], rfl, rfl, ?_⟩
    refine ⟨.int n, rfl, .int d, rfl, n, d, rfl, hd, fun z => absurd z hd0, fun _ p2 np2 => ?_⟩
    exact q1 hd0 _ _ ((upd_new (o := .tup [.int n, .int d]) np).trans (upd_new (o := .tup [.int (n.fdiv (lowS n d)), .int (d.fdiv (lowS n d))]) np2)) upd_same
theorem sc_ntext : FnScope ["value", "numerator", "denominator"] ["value"] (defScope s_number_text) := ⟨rfl, rfl, rfl, by decide +kernel, rfl, by decide +kernel, by decide +kernel⟩
theorem ok_ntext {f fP fW C : Addr} {fd dP dW : FuncData} (F : L2.Fun K "number_text" "number_text" s_number_text f fd) (GP : FnOk P w K mg base (L2.CX P w) 5 fP dP ["value"] (spRatl C)) (gP : mg "rational" = some (.ref fP)) (kP : PySem.W.keepIn K (.ref fP) = true) (bP : L2.Binds K dP ["value"] [])
    (GW : FnOk P w K mg base CX0 1 fW dW ["number"] spWhole) (gW : mg "whole_text" = some (.ref fW)) (kW : PySem.W.keepIn K (.ref fW) = true) (bW : L2.Binds K dW ["number"] []) : FnOk P w K mg base (L2.CX P w) 6 f fd ["value"] (spNText C) := by
  have nd := sc_ntext.nd
  refine F.okX sc_ntext (fun vs H Q E h => ?_) (fun cdv A outer s H vs Q E hr h => ?_)
  · obtain ⟨v, n, d, rfl, _⟩ := h
    rfl
  · obtain ⟨v, n, d, rfl, hv, hn, hd, q0, q1⟩ := h
    have hr1 : Room 1 _ := hr.mono (by decide : 1 ≤ 5)
    refine ⟨_, pss_cons (ps_asg (pe_call GP hr (by rfl) gP kP bP .nil (passes_call (takes_of rfl rfl rfl rfl) fun _ _ _ _ h => h) (pa_cons (pv 0) pa_nil)) (pg_tup (by rfl) (pgs_cons (pg_name (i := 1) nd rfl (.inl rfl)) (pgs_cons (pg_name (i := 2) nd rfl (.inl rfl)) pgs_nil))))
      (pss_cons (ps_if (pt_cmpR op_eq (pv 2) pe_int (nomark _)) (pss_one (ps_ret (pe_call GW hr1 (by rfl) gW kW bW .nil pass0 (pa_cons (pv 1) pa_nil)))) pss_nil)
      (pss_one (ps_ret (pe_op op_add_str (pe_op op_add_str (pe_call GW hr1 (by rfl) gW kW bW .nil pass0 (pa_cons (pv 1) pa_nil)) pe_str) (pe_call GW hr1 (by rfl) gW kW bW .nil pass0 (pa_cons (pv 2) pa_nil)))))), ?_⟩
    refine ⟨v, rfl, v, n, d, rfl, hv, big_log hd, fun z => q0 z H (Same.refl H), fun hd0 p2 H2 s2 hp2 => ?_⟩
    obtain ⟨bn, bd⟩ := low_big hd0 hn hd
    refine ⟨p2, _, rfl, .inl (.inl hp2), rfl, _, [_], rfl, _, [], rfl, rfl, ?_⟩
    refine ⟨_, rfl, rfl, _, rfl, ite2 (fun e => ?_) (fun e => ?_)⟩
    · have e1 : lowD n d = 1 := V.int.inj (of_decide_eq_true e)
      refine ⟨_, rfl, _, rfl, bn, fun H' sm => ?_⟩
      have := q1 hd0 H' (s2.trans sm)
      rw [ratT, if_pos e1] at this
      exact this
    · have e1 : lowD n d ≠ 1 := fun z => e (decide_eq_true (congrArg V.int z))
      refine ⟨_, rfl, _, rfl, bn, fun H' sm => ?_⟩
      have l1 := numT_len bn
      have l2 := numT_len bd
      have lsl : (Str.ofString "/").length = 1 := by decide
      refine ⟨_, _, rfl, rfl, ?_, _, rfl, _, rfl, bd, fun H2 sm2 => ⟨_, _, rfl, rfl, ?_, ?_⟩⟩
      · rw [S_len, lsl, sizeLine_eq]
        show (numT (lowN n d)).length + 1 ≤ 16777216
        omega
      · rw [show Str.ofString "/" = S [47] from by decide +kernel, S_cat, S_len, S_len, List.length_append, sizeLine_eq]
        show (numT (lowN n d)).length + 1 + (numT (lowD n d)).length ≤ 16777216
        omega
      · have ec : S (numT (lowN n d)) ++ Str.ofString "/" ++ S (numT (lowD n d)) = S (ratT (lowN n d) (lowD n d)) := by
          rw [show Str.ofString "/" = S [47] from by decide +kernel, S_cat, S_cat, ratT, if_neg e1, List.append_assoc]
          rfl
        have := q1 hd0 H2 ((s2.trans sm).trans sm2)
        rw [← ec] at this
        exact this
theorem sc_numeral : FnScope ["text", "figure"] ["text"] (defScope s_is_numeral) := ⟨rfl, rfl, rfl, by decide +kernel, rfl, by decide +kernel, by decide +kernel⟩
theorem figs_dig (c : Nat) : decide (c ∈ (Str.ofString "0123456789").cps.toList) = isDig c := by
  have e : (Str.ofString "0123456789").cps.toList = [48, 49, 50, 51, 52, 53, 54, 55, 56, 57] := by decide +kernel
  rw [e]
  unfold isDig
  by_cases h : 48 ≤ c ∧ c ≤ 57
  · rw [decide_eq_true h.1, decide_eq_true h.2]
    refine decide_eq_true ?_
    simp only [List.mem_cons, List.not_mem_nil, or_false]
    omega
  · have : ¬ (c ∈ [48, 49, 50, 51, 52, 53, 54, 55, 56, 57]) := by
      simp only [List.mem_cons, List.not_mem_nil, or_false]
      omega
    rw [decide_eq_false this]
    by_cases h1 : 48 ≤ c
    · rw [decide_eq_true h1, decide_eq_false (fun z => h ⟨h1, z⟩)]
      rfl
    · rw [decide_eq_false h1]
      rfl
/-- a comprehension over the signs of a text -/
theorem lc_signs {l : List Nat} {g : TG} {tt : L2.TT} {te : TE} {vs : List Nat} {σ : L2.St} {H1 : Hp} {D : Addr} {Qd : Hp → Prop} (Pv : Nat → Hp → Prop) (h0 : Pv 0 (upd H1 D (.lst [])))
    (hs : ∀ (i : Nat) (c : Nat) (H : Hp), l[i]? = some c → Pv i H → g (.str ⟨#[c]⟩) (wipe σ vs) H fun σ2 H2 => wipe σ2 vs = wipe σ vs ∧ tt σ2 H2 fun b H3 =>
      if b = true then te σ2 H3 fun z H4 => ∃ acc, H4 D = some (.lst acc) ∧ acc.length < sizeLine ∧ Pv (i + 1) (upd H4 D (.lst (acc ++ [z]))) else Pv (i + 1) H3) (hd : ∀ H, Pv l.length H → Qd H) :
    ∃ W : Nat → Nat → Hp → Prop, (∃ m, W 0 m (upd H1 D (.lst []))) ∧ ∀ i m H, W i m H →
      ((Its (S l)).stop i H ∧ Qd H) ∨ ((Its (S l)).go i H ∧ ∃ Nx : Hp → Prop, (∀ H', Nx H' → ∃ m', m' < m ∧ W (i + 1) m' H') ∧ ∀ x H', (Its (S l)).yld i H x H' → g x (wipe σ vs) H' fun σ2 H2 => wipe σ2 vs = wipe σ vs ∧ tt σ2 H2 fun b H3 =>
        if b = true then te σ2 H3 fun y H4 => ∃ acc, H4 D = some (.lst acc) ∧ acc.length < sizeLine ∧ Nx (upd H4 D (.lst (acc ++ [y]))) else Nx H3) := by
  have hsz : (S l).cps.size = l.length := S_len l
  refine ⟨fun i m H => m = l.length - i ∧ i ≤ l.length ∧ Pv i H, ⟨_, rfl, Nat.zero_le _, h0⟩, fun i m H hW => ?_⟩
  obtain ⟨em, hi, p⟩ := hW
  rcases Nat.lt_or_ge i l.length with hlt | hge
  · refine .inr ⟨?_, Pv (i + 1), fun H' p' => ⟨l.length - (i + 1), by omega, rfl, hlt, p'⟩, fun v H' yl => ?_⟩
    · show i < (S l).cps.size
      omega
    · obtain ⟨e, c, hc, rfl⟩ := yl
      subst e
      exact hs i c _ (by simpa [S] using hc) p
  · have e : i = l.length := by omega
    rw [e] at p ⊢
    refine .inl ⟨?_, hd H p⟩
    show (S l).cps.size ≤ l.length
    omega
theorem ok_numeral {f : Addr} {fd : FuncData} {k : Nat} (F : L2.Fun K "is_numeral" "is_numeral" s_is_numeral f fd) (mlen : mg "len" = none) (mall : mg "all" = none) (T : TConst mg) : FnOk P w K mg base CX0 (k + 1) f fd ["text"] spNumeral := by
  have nd := sc_numeral.nd
  obtain ⟨tm, gM⟩ := T.most
  obtain ⟨tf, gF⟩ := T.figs
  refine F.ok sc_numeral (fun vs H Q E h => ?_) (fun cdv A outer s H vs Q E hr h => ?_)
  · obtain ⟨l, rfl, _⟩ := h
    rfl
  · obtain ⟨l, rfl, hl, q⟩ := h
    refine ⟨_, pss_cons (ps_if (pt_not (pt_chain op_le op_le pe_int (pe_callB call_len (by rfl) mlen PySem.boot_len (pa_cons (pv 0) pa_nil)) (pe_glob (v := .int 100) (by rfl) gM ⟨_, rfl⟩))) (pss_one (ps_ret pe_bl)) pss_nil)
      (pss_one (ps_ret (pe_callB (cr_all rfl) (by rfl) mall (by decide +kernel) (pa_cons (pe_lc (own := [("figure", 1)]) (g := gName 1) (tt := tYes) (by rfl) nd (pi_str (pv 0)) (blkOk_by (N := ["text", "figure"]) (sc := defScope s_is_numeral) (by decide +kernel)) (fun _ _ _ _ _ => pg_name (i := 1) nd rfl (.inl rfl) (hf := .inr rfl)) (fun _ _ _ _ _ => pts_nil)
        (fun _ _ _ _ _ => pe_cmpR op_in_sign (pv 1) (pe_glob (v := .str "0123456789") (by rfl) gF ⟨_, rfl⟩) (by rfl))) pa_nil)))), ?_⟩
    have eln : (S l).length = l.length := S_len l
    refine ⟨.str (S l), rfl, _, _, rfl, ⟨by rw [eln, sizeLine_eq]; omega, rfl⟩, 1, _, rfl, rfl, _, rfl, ?_⟩
    rw [eln]
    have out : ∀ b : Bool, b = false → numeralB l = b → Q (.bl false) H := fun b e e2 => by
      have := q H (Same.refl H)
      rw [e2, e] at this
      exact this
    refine ite2 (fun e1 => ?_) (fun e1 => ?_)
    · have h1 : (1 : Int) ≤ (l.length : Int) := of_decide_eq_true e1
      refine ⟨_, 100, rfl, rfl, _, rfl, ?_⟩
      by_cases h2 : (l.length : Int) ≤ 100
      · rw [decide_eq_true h2]
        refine iteF ?_
        have hb : numeralB l = l.all isDig := by
          unfold numeralB
          rw [decide_eq_true (⟨by omega, by omega⟩ : 1 ≤ l.length ∧ l.length ≤ 100)]
          rfl
        refine ⟨.str (S l), rfl, S l, rfl, fun D nD => ?_⟩
        refine lc_signs (l := l) (fun i H' => Same H H' ∧ H' D = some (.lst (((l.take i).map isDig).map V.bl))) ⟨upd_new nD, upd_same⟩ (fun i c H' hc p => ?_) (fun H' p => ?_)
        · refine ⟨rfl, yesI ?_⟩
          refine ⟨.str ⟨#[c]⟩, rfl, c, _, rfl, rfl, _, p.2, ?_, fun b o eb => ?_, ?_⟩
          · rw [List.length_map, List.length_map, List.length_take, sizeLine_eq]
            omega
          · rw [upd_ne (ne_of_none eb nD)]
            exact p.1 _ _ eb
          · rw [upd_same, figs_dig, List.take_add_one, hc, List.map_append, List.map_append]
            rfl
        · refine ⟨D, l.map isDig, rfl, .inl (.inl (by rw [p.2, List.take_length])), ?_⟩
          have := q H' p.1
          rw [hb] at this
          rw [List.all_map]
          exact this
      · rw [decide_eq_false h2]
        exact iteT (out false rfl (by unfold numeralB; rw [decide_eq_false (fun z => h2 (by omega))]; rfl))
    · have h1 : ¬ (1 : Int) ≤ (l.length : Int) := fun z => e1 (decide_eq_true z)
      exact ⟨_, rfl, iteT (out false rfl (by unfold numeralB; rw [decide_eq_false (fun z => h1 (by omega))]; rfl))⟩
end
end RB

set_option Elab.async false
set_option linter.all false
set_option maxRecDepth 100000
set_option maxHeartbeats 4000000
namespace RB
open PySem PySem.Spec PyProof.Rows L2 SX
theorem bare_len (t : List Nat) : (bare t).length ≤ t.length := by
  unfold bare
  split
  · rw [List.length_tail]
    omega
  · exact Nat.le_refl _
theorem numeral_big {l : List Nat} (h : numeralB l = true) : NumText.digitsVal l < big := by
  obtain ⟨h1, h2⟩ := Bool.and_eq_true_iff.mp h
  obtain ⟨_, h4⟩ := of_decide_eq_true h1
  refine Nat.lt_of_lt_of_le (digitsVal_lt l h2) ?_
  exact Nat.pow_le_pow_right (by decide) (by omega)
theorem above_len (t : List Nat) : (above t).length ≤ t.length := by
  have lb := bare_len t
  unfold above
  cases h : TL.par [47] [] (bare t) with
  | none => exact lb
  | some pq =>
    obtain ⟨p, q⟩ := pq
    obtain ⟨p', e1, e2, _⟩ := par_inv h
    have := congrArg List.length e2
    rw [List.length_append] at this
    show p.length ≤ t.length
    rw [e1, List.nil_append]
    omega
theorem below_len (t : List Nat) : (below t).length ≤ t.length + 1 := by
  have lb := bare_len t
  unfold below
  cases h : TL.par [47] [] (bare t) with
  | none =>
    show 1 ≤ t.length + 1
    omega
  | some pq =>
    obtain ⟨p, q⟩ := pq
    obtain ⟨p', e1, e2, _⟩ := par_inv h
    have := congrArg List.length e2
    rw [List.length_append, List.length_cons] at this
    show q.length ≤ t.length + 1
    omega
theorem low_id {n d : Int} (h1 : 1 ≤ d) (h2 : Int.gcd n d = 1) : lowN n d = n ∧ lowD n d = d := by
  have e : lowS n d = 1 := by
    unfold lowS
    rw [if_neg (by omega), h2]
    rfl
  unfold lowN lowD
  rw [e]
  exact ⟨Int.fdiv_one _, Int.fdiv_one _⟩
theorem rd_ok {t : List Nat} (h : rdD t ≠ 0) : 1 ≤ lowD (rdN t) (rdD t) ∧ Int.gcd (rdS t) (lowD (rdN t) (rdD t)) = 1 := by
  obtain ⟨k, m, _, _, e1, e2, m1, g, _⟩ := low_all (n := rdN t) h
  have e1' : lowN (rdN t) (rdD t) = k := e1
  have e2' : lowD (rdN t) (rdD t) = m := e2
  unfold rdS
  rw [e1', e2']
  refine ⟨m1, ?_⟩
  split
  · rw [Int.neg_gcd]
    exact g
  · exact g
section
variable {P : Program} {w : World} {K : PySem.W.Frag} {mg : Str → Option Value} {base : Heap}
theorem sc_parse : FnScope ["text", "above", "slash", "below", "value"] ["text"] (defScope s_parse_number) := ⟨rfl, rfl, rfl, by decide +kernel, rfl, by decide +kernel, by decide +kernel⟩
theorem ok_parse {f fN fL fT C : Addr} {fd dN dL dT : FuncData} (F : L2.Fun K "parse_number" "parse_number" s_parse_number f fd) (mint : mg "int" = none)
    (GN : FnOk P w K mg base CX0 1 fN dN ["text"] spNumeral) (gN : mg "is_numeral" = some (.ref fN)) (kN : PySem.W.keepIn K (.ref fN) = true) (bN : L2.Binds K dN ["text"] [])
    (GL : FnOk P w K mg base (L2.CX P w) 4 fL dL ["numerator", "denominator"] (spLowest C)) (gL : mg "lowest" = some (.ref fL)) (kL : PySem.W.keepIn K (.ref fL) = true) (bL : L2.Binds K dL ["numerator", "denominator"] [])
    (GT : FnOk P w K mg base (L2.CX P w) 6 fT dT ["value"] (spNText C)) (gT : mg "number_text" = some (.ref fT)) (kT : PySem.W.keepIn K (.ref fT) = true) (bT : L2.Binds K dT ["value"] [])
    (TE : Err0 P w K mg base 2 "InvalidNumber" "InvalidNumber" C) : FnOk P w K mg base (L2.CX P w) 7 f fd ["text"] (spParse C) := by
  have nd := sc_parse.nd
  refine F.okX sc_parse (fun vs H Q E h => ?_) (fun cdv A outer s H vs Q E hr h => ?_)
  · obtain ⟨t, rfl, _⟩ := h
    rfl
  · obtain ⟨t, rfl, hl, q1, q0⟩ := h
    have hr1 : Room 1 _ := hr.mono (by decide : 1 ≤ 6)
    have hr3 : Room 3 _ := hr.mono (by decide : 3 ≤ 6)
    have hr4 : Room 4 _ := hr.mono (by decide : 4 ≤ 6)
    refine ⟨_, pss_cons (ps_asg (pe_partition (pe_bm PySem.F.plainAttrs_str PySem.F.slot_str_removeprefix PySem.F.type_str_removeprefix mt_removeprefix (pv 0) (pa_cons pe_str pa_nil)) pe_str) (pg_tup (by rfl) (pgs_cons (pg_name (i := 1) nd rfl (.inl rfl)) (pgs_cons (pg_name (i := 2) nd rfl (.inl rfl)) (pgs_cons (pg_name (i := 3) nd rfl (.inl rfl)) pgs_nil)))))
      (C8.pss_cut (ps_if (pt_cmpR op_eq (pv 2) pe_str (nomark _)) (pss_one (ps_set (i := 3) nd rfl (.inl rfl) pe_str)) pss_nil)
      (pss_cons (ps_if (PW.pt (pw_or (pt_not (pt_val (pe_call GN hr1 (by rfl) gN kN bN .nil pass0 (pa_cons (pv 1) pa_nil)))) (pw_or1 (pt_not (pt_val (pe_call GN hr1 (by rfl) gN kN bN .nil pass0 (pa_cons (pv 3) pa_nil))))))) (pss_one (ps_raise rfl (takes_of rfl rfl rfl rfl) (pmk0 TE hr3 (by rfl)))) pss_nil)
      (pss_cons (ps_set (i := 4) nd rfl (.inl rfl) (pe_call GL hr4 (by rfl) gL kL bL .nil (passes_call (takes_of rfl rfl rfl rfl) fun _ _ _ _ h => h) (pa_cons (pe_callTy call_int_str (by rfl) mint boot_int (pa_cons (pv 1) pa_nil)) (pa_cons (pe_callTy call_int_str (by rfl) mint boot_int (pa_cons (pv 3) pa_nil)) pa_nil))))
      (C8.pss_cut (ps_if (pt_val (pe_m1 PySem.F.slot_str_startswith PySem.F.type_str_startswith mt_startswith (pv 0) pe_str)) (pss_one (ps_set (i := 4) nd rfl (.inl rfl) (pe_tup (pa_cons (pe_un un_neg (pe_ix ix_tup (pv 4) pe_int (fun _ _ => rfl))) (pa_cons (pe_ix ix_tup (pv 4) pe_int (fun _ _ => rfl)) pa_nil))))) pss_nil)
      (pss_cons (ps_if (pt_cmpR op_ne (pe_call GT hr (by rfl) gT kT bT .nil (passes_call (takes_of rfl rfl rfl rfl) fun _ _ _ _ h => h) (pa_cons (pv 4) pa_nil)) (pv 0) (nomark _)) (pss_one (ps_raise rfl (takes_of rfl rfl rfl rfl) (pmk0 TE hr3 (by rfl)))) pss_nil)
      (pss_one (ps_ret (pv 4)))))))), ?_⟩
    have em : Str.ofString "-" = S [45] := by decide +kernel
    have es : Str.ofString "/" = S [47] := by decide +kernel
    have ee : Str.ofString "" = S [] := by decide +kernel
    have e1 : Str.ofString "1" = S [49] := by decide +kernel
    have lt : (S t).length ≤ sizeLine := by
      rw [S_len, sizeLine_eq]
      omega
    refine ⟨.str (S t), rfl, rfl, S t, S [45], rfl, congrArg (fun z => [V.str z]) em, lt, ?_⟩
    rw [removeprefix_minus]
    have lb := bare_len t
    refine ⟨⟨_, rfl⟩, S (bare t), S [47], rfl, congrArg (fun z => [V.str z]) es, rfl, by rw [S_len, sizeLine_eq]; omega, fun p np => ?_⟩
    have key : ∃ b : Str, Txt.partition (S (bare t)) (S [47]) = (S (above t), b, if b = S [] then S [] else S (below t)) ∧ (b = S [] → below t = [49]) := by
      unfold above below
      cases hp : TL.par [47] [] (bare t) with
      | none =>
        refine ⟨S [], ?_, fun _ => rfl⟩
        rw [SX.partition_none (by simp) hp, if_pos rfl]
      | some pq =>
        obtain ⟨p', q'⟩ := pq
        have nb : S [47] ≠ S [] := fun z => by
          have := S_inj z
          cases this
        refine ⟨S [47], ?_, fun z => absurd z nb⟩
        rw [SX.partition_some (by simp) hp, if_neg nb]
    obtain ⟨b, ep, eb⟩ := key
    rw [ep]
    refine ⟨p, _, rfl, .inl (.inl upd_same), rfl, _, [_, _], rfl, _, [_], rfl, _, [], rfl, rfl, ?_⟩
    have s1 : Same H (upd H p (.tup [.str (S (above t)), .str b, .str (if b = S [] then S [] else S (below t))])) := upd_new np
    refine ⟨fun σ H' => ∃ x2 x4 : Option V, σ = [some (.str (S t)), some (.str (S (above t))), x2, some (.str (S (below t))), x4] ∧ Same H H', ?_, ?_⟩
    · refine ⟨.str b, rfl, rfl, _, rfl, ite2 (fun e => ?_) (fun e => ?_)⟩
      · have e2 : b = S [] := (V.str.inj (of_decide_eq_true e)).trans ee
        refine ⟨some (.str b), none, ?_, s1⟩
        rw [eb e2, ← e1]
        rfl
      · have e2 : b ≠ S [] := fun z => e (decide_eq_true (congrArg V.str (z.trans ee.symm)))
        refine ⟨some (.str b), none, ?_, s1⟩
        rw [if_neg e2]
        rfl
    · rintro σ H2 ⟨x2, x4, rfl, s2⟩
      have bad : ∀ H', Same H H' → readsB t = false → Bad C H' E := fun H' sm e => q0 e H' sm
      have la : (above t).length ≤ 100000 := Nat.le_trans (above_len t) (by omega)
      have lbe : (below t).length ≤ 100000 := Nat.le_trans (below_len t) (by omega)
      refine ⟨.str (S (above t)), rfl, above t, rfl, la, fun H3 s3 => ⟨_, rfl, ?_⟩⟩
      cases hna : numeralB (above t) with
      | false => exact iteT (iteT (bad H3 (s2.trans s3) (by unfold readsB; rw [hna]; rfl)))
      | true =>
        refine iteF ⟨.str (S (below t)), rfl, below t, rfl, lbe, fun H4 s4 => ⟨_, rfl, ?_⟩⟩
        have s24 := (s2.trans s3).trans s4
        cases hnb : numeralB (below t) with
        | false => exact iteT (bad H4 s24 (by unfold readsB; rw [hna, hnb]; rfl))
        | true =>
          refine iteF ?_
          obtain ⟨ia, la2⟩ := numeral_int hna
          obtain ⟨ib, lb2⟩ := numeral_int hnb
          have bN' : (rdN t).natAbs < big := numeral_big hna
          have bD' : (rdD t).natAbs < big := numeral_big hnb
          refine ⟨.str (S (above t)), rfl, S (above t), rdN t, rfl, ia, by rw [S_len]; omega, .str (S (below t)), rfl, S (below t), rdD t, rfl, ib, by rw [S_len]; omega, rdN t, rdD t, rfl, big_log bD', fun z => ?_, fun hd p2 np2 => ?_⟩
          · exact bad H4 s24 (by unfold readsB; rw [hna, hnb, decide_eq_true z]; rfl)
          · obtain ⟨m1, g1⟩ := rd_ok hd
            obtain ⟨bn, bd⟩ := low_big hd bN' bD'
            have s5 : Same H (upd H4 p2 (.tup [.int (lowN (rdN t) (rdD t)), .int (lowD (rdN t) (rdD t))])) := s24.trans (upd_new np2)
            refine ⟨fun σ H' => ∃ (x1 x2 x3 : Option V) (pw : Addr), σ = [some (.str (S t)), x1, x2, x3, some (.ref pw)] ∧ H' pw = some (.tup [.int (rdS t), .int (lowD (rdN t) (rdD t))]) ∧ Same H H', ?_, ?_⟩
            · refine ⟨.str (S t), rfl, ⟨_, rfl⟩, S t, S [45], rfl, congrArg (fun z => [V.str z]) em, _, rfl, ?_⟩
              rw [startswith_minus]
              refine ite2 (fun e => ?_) (fun e => ?_)
              · refine ⟨.ref p2, rfl, p2, _, 0, _, rfl, rfl, .inl (.inl upd_same), atI_nat (j := 0) rfl, _, rfl, .ref p2, rfl, p2, _, 1, _, rfl, rfl, .inl (.inl upd_same), atI_nat (j := 1) rfl, lineN (by decide : 2 ≤ 1000), fun p3 np3 => ?_⟩
                refine ⟨_, _, _, p3, rfl, ?_, s5.trans (upd_new np3)⟩
                rw [upd_same]
                unfold rdS
                rw [if_pos e]
                rfl
              · refine ⟨_, _, _, p2, rfl, ?_, s5⟩
                rw [upd_same]
                unfold rdS
                rw [if_neg e]
                rfl
            · rintro σ H5 ⟨x1, x2', x3, pw, rfl, hpw, s6⟩
              have bS : (rdS t).natAbs < big := by
                unfold rdS
                split
                · rw [Int.natAbs_neg]
                  exact bn
                · exact bn
              obtain ⟨i1, i2⟩ := low_id m1 g1
              refine ⟨.ref pw, rfl, .ref pw, rdS t, _, rfl, .inr ⟨pw, rfl, hpw⟩, bS, bd, fun z => absurd z (by omega), fun _ H6 s7 => ?_⟩
              rw [i1, i2]
              refine ⟨.str (S t), rfl, rfl, _, rfl, ?_⟩
              by_cases c : ratT (rdS t) (lowD (rdN t) (rdD t)) = t
              · rw [c]
                refine iteNS rfl ⟨.ref pw, rfl, q1 ?_ H6 pw (s6.trans s7) (s7 _ _ hpw)⟩
                unfold readsB
                rw [hna, hnb, decide_eq_false hd, decide_eq_true c]
                rfl
              · have hne : ¬ V.str (S (ratT (rdS t) (lowD (rdN t) (rdD t)))) = V.str (S t) := fun z => c (S_inj (V.str.inj z))
                rw [decide_eq_false hne]
                refine iteT (bad H6 (s6.trans s7) ?_)
                unfold readsB
                rw [decide_eq_false c, Bool.and_false]
end
end RB

set_option Elab.async false
set_option linter.all false
set_option maxRecDepth 100000
set_option maxHeartbeats 4000000
set_option exponentiation.threshold 4000
namespace RB
open PySem PySem.Spec PyProof.Rows L2 SX
theorem keeps_none {r p : Addr} {H H' : Hp} (k : Keeps r H H') (R : RngOk H' r) (n : H' p = none) : H p = none := by
  cases e : H p with
  | none => rfl
  | some o => exact absurd ((k p o e (rng_ne_new R n)).symm.trans n) (by simp)
theorem low_one (n : Int) : Low n 1 := ⟨by decide, by simp⟩
section
variable {P : Program} {w : World} {K : PySem.W.Frag} {mg : Str → Option Value} {base : Heap}
theorem sc_value : FnScope ["_law_rng", "_law_way"] ["_law_rng"] (defScope s_law_value) := ⟨rfl, rfl, rfl, by decide +kernel, rfl, by decide +kernel, by decide +kernel⟩
theorem ok_value {f fD fL : Addr} {fd dD dL : FuncData} (F : L2.Fun K "_law_value" "_law_value" s_law_value f fd)
    (GD : FnOk P w K mg base CX0 1 fD dD ["_law_rng", "_law_amount"] spDraw) (gD : mg "_law_draw" = some (.ref fD)) (kD : PySem.W.keepIn K (.ref fD) = true) (bD : L2.Binds K dD ["_law_rng", "_law_amount"] [])
    (GL : FnOk P w K mg base CX0 2 fL dL ["_law_top", "_law_bottom"] spLow) (gL : mg "_law_low" = some (.ref fL)) (kL : PySem.W.keepIn K (.ref fL) = true) (bL : L2.Binds K dL ["_law_top", "_law_bottom"] []) :
    FnOk P w K mg base CX0 3 f fd ["_law_rng"] spValue := by
  have nd := sc_value.nd
  refine F.ok sc_value (fun vs H Q E h => ?_) (fun cdv A outer s H vs Q E hr h => ?_)
  · obtain ⟨r, rfl, _⟩ := h
    rfl
  · obtain ⟨r, rfl, R, q⟩ := h
    have hr1 : Room 1 _ := hr.mono (by decide : 1 ≤ 2)
    refine ⟨_, pss_cons (ps_set (i := 1) nd rfl (.inl rfl) (pe_call GD hr1 (by rfl) gD kD bD .nil pass0 (pa_cons (pv 0) (pa_cons pe_int pa_nil))))
      (pss_cons (ps_if (pt_cmpR op_lt (pv 1) pe_int (nomark _)) (pss_one (ps_ret (pe_tup (pa_cons (pe_op op_sub (pe_call GD hr1 (by rfl) gD kD bD .nil pass0 (pa_cons (pv 0) (pa_cons pe_int pa_nil))) pe_int) (pa_cons pe_int pa_nil))))) pss_nil)
      (pss_cons (ps_if (pt_cmpR op_lt (pv 1) pe_int (nomark _)) (pss_one (ps_ret (pe_call GL hr (by rfl) gL kL bL .nil pass0 (pa_cons (pe_op op_sub (pe_call GD hr1 (by rfl) gD kD bD .nil pass0 (pa_cons (pv 0) (pa_cons pe_int pa_nil))) pe_int) (pa_cons (pe_op op_add pe_int (pe_call GD hr1 (by rfl) gD kD bD .nil pass0 (pa_cons (pv 0) (pa_cons pe_int pa_nil)))) pa_nil))))) pss_nil)
      (pss_one (ps_ret (pe_call GL hr (by rfl) gL kL bL .nil pass0 (pa_cons (pe_op op_sub (pe_call GD hr1 (by rfl) gD kD bD .nil pass0 (pa_cons (pv 0) (pa_cons pe_int pa_nil))) pe_int) (pa_cons (pe_op op_add pe_int (pe_call GD hr1 (by rfl) gD kD bD .nil pass0 (pa_cons (pv 0) (pa_cons pe_int pa_nil)))) pa_nil))))))), ?_⟩
    refine ⟨.ref r, rfl, r, 8, rfl, R, by decide, by decide +kernel, fun v H1 a1 c1 R1 b1 => ?_⟩
    refine ⟨.int v, rfl, v, 5, rfl, rfl, _, rfl, ite2 (fun e => ?_) (fun e => ?_)⟩
    · refine ⟨.ref r, rfl, r, 9, rfl, R1, by decide, by decide +kernel, fun v2 H2 a2 c2 R2 b2 => ?_⟩
      refine ⟨v2, 4, rfl, rfl, lineN (by decide : 2 ≤ 1000), fun p np => ?_⟩
      have k2 : Keeps r H H2 := (Keeps.but b1).trans (.but b2)
      exact q (v2 - 4) 1 p _ (low_one _) (by omega) (by decide) (k2.trans (.same (upd_new np))) (R2.same (upd_new np)) (keeps_none k2 R2 np) upd_same
    · refine ⟨.int v, rfl, v, 7, rfl, rfl, _, rfl, ite2 (fun e => ?_) (fun e => ?_)⟩
      · refine ⟨.ref r, rfl, r, 9, rfl, R1, by decide, by decide +kernel, fun v2 H2 a2 c2 R2 b2 => ?_⟩
        refine ⟨v2, 4, rfl, rfl, .ref r, rfl, r, 3, rfl, R2, by decide, by decide +kernel, fun v3 H3 a3 c3 R3 b3 => ?_⟩
        refine ⟨2, v3, rfl, rfl, v2 - 4, 2 + v3, rfl, ?_, by omega, fun p np => ?_⟩
        · have := log2_lt (n := (2 + v3).natAbs) (k := 4) (by omega) (by decide)
          omega
        · have k3 : Keeps r H H3 := ((Keeps.but b1).trans (.but b2)).trans (.but b3)
          have ll := low_le (n := v2 - 4) (d := 2 + v3) (by omega)
          exact q _ _ p _ (low_Low (by omega)) (by omega) (by omega) (k3.trans (.same (upd_new np))) (R3.same (upd_new np)) (keeps_none k3 R3 np) upd_same
      · refine ⟨.ref r, rfl, r, 2001, rfl, R1, by decide, by decide +kernel, fun v2 H2 a2 c2 R2 b2 => ?_⟩
        refine ⟨v2, 1000, rfl, rfl, .ref r, rfl, r, 12, rfl, R2, by decide, by decide +kernel, fun v3 H3 a3 c3 R3 b3 => ?_⟩
        refine ⟨1, v3, rfl, rfl, v2 - 1000, 1 + v3, rfl, ?_, by omega, fun p np => ?_⟩
        · have := log2_lt (n := (1 + v3).natAbs) (k := 4) (by omega) (by decide)
          omega
        · have k3 : Keeps r H H3 := ((Keeps.but b1).trans (.but b2)).trans (.but b3)
          have ll := low_le (n := v2 - 1000) (d := 1 + v3) (by omega)
          exact q _ _ p _ (low_Low (by omega)) (by omega) (by omega) (k3.trans (.same (upd_new np))) (R3.same (upd_new np)) (keeps_none k3 R3 np) upd_same
end
end RB

set_option Elab.async false
set_option linter.all false
set_option maxRecDepth 100000
set_option maxHeartbeats 4000000
namespace RB
open PySem PySem.Spec PyProof.Rows L2 SX
theorem numeral_100 {l : List Nat} (h : numeralB l = true) : NumText.digitsVal l < 10 ^ 100 := by
  obtain ⟨h1, h2⟩ := Bool.and_eq_true_iff.mp h
  obtain ⟨_, h4⟩ := of_decide_eq_true h1
  exact Nat.lt_of_lt_of_le (digitsVal_lt l h2) (Nat.pow_le_pow_right (by decide) h4)
/-- both readers read alike -/
theorem due_yes {t : List Nat} (h : readsB t = true) : dueOf t = some (rdS t, lowD (rdN t) (rdD t)) := by
  have h' := h
  unfold readsB at h'
  obtain ⟨h1, h2⟩ := Bool.and_eq_true_iff.mp h'
  obtain ⟨h3, h4⟩ := Bool.and_eq_true_iff.mp h1
  obtain ⟨h5, h6⟩ := Bool.and_eq_true_iff.mp h3
  have e := of_decide_eq_true h2
  have nz : rdD t ≠ 0 := by simpa using h4
  obtain ⟨m1, g⟩ := rd_ok nz
  have ll := low_le (n := rdN t) nz
  have bN : (rdN t).natAbs < 10 ^ 100 := numeral_100 h5
  have bD : (rdD t).natAbs < 10 ^ 100 := numeral_100 h6
  have bS : (rdS t).natAbs = (lowN (rdN t) (rdD t)).natAbs := by
    unfold rdS
    split
    · rw [Int.natAbs_neg]
    · rfl
  have := due_rat ⟨m1, g⟩ (by rw [bS]; exact Nat.lt_of_le_of_lt ll.1 bN) (Nat.lt_of_le_of_lt ll.2 bD)
  rw [e] at this
  exact this
theorem due_no {t : List Nat} (h : readsB t = false) : dueOf t = none := by
  cases e : dueOf t with
  | none => rfl
  | some nd =>
    obtain ⟨n, d⟩ := nd
    obtain ⟨lw, h1, h2, et⟩ := due_some e
    have := (parse_rat lw h1 h2).1
    rw [← et, h] at this
    cases this
end RB

set_option Elab.async false
set_option linter.all false
set_option maxRecDepth 100000
set_option maxHeartbeats 4000000
namespace RB
open PySem PySem.Spec PyProof.Rows L2 SX
def spDigits : Sp := fun vs H Q _ => ∃ l : List Nat, vs = [.str (S l)] ∧ l.length ≤ 10000 ∧ ∀ H', Same H H' → Q (.bl (digitsB l)) H'
def DueV (H : Hp) (v : V) : Option (Int × Int) → Prop
  | none => v = .non
  | some (n, d) => ∃ p, v = .ref p ∧ H p = some (.tup [.int n, .int d])
def spDue : Sp := fun vs H Q _ => ∃ t : List Nat, vs = [.str (S t)] ∧ t.length ≤ 1000 ∧ ∀ v H', Same H H' → DueV H' v (dueOf t) → Q v H'
theorem parts_len : ∀ (n : Nat) (t : List Nat), t.length ≤ n → (∀ p ∈ partsL t, p.length ≤ t.length) ∧ (partsL t).length ≤ t.length + 1
  | n, t, hn => by
    rcases spl_cases t with ⟨_, e⟩ | ⟨p, r, et, _, e⟩
    · rw [e]
      refine ⟨fun q hq => ?_, by simp⟩
      rw [List.mem_singleton.mp hq]
      exact Nat.le_refl _
    · have hl : t.length = p.length + (r.length + 1) := by rw [et, List.length_append, List.length_cons]
      cases n with
      | zero => omega
      | succ n =>
        obtain ⟨i1, i2⟩ := parts_len n r (by omega)
        rw [e]
        refine ⟨fun q hq => ?_, by rw [List.length_cons]; omega⟩
        rcases List.mem_cons.mp hq with z | z
        · rw [z]
          omega
        · have := i1 q z
          omega
section
variable {P : Program} {w : World} {K : PySem.W.Frag} {mg : Str → Option Value} {base : Heap}
theorem sc_digits : FnScope ["_law_text", "_law_good", "_law_char"] ["_law_text"] (defScope s_law_digits) := ⟨rfl, rfl, rfl, by decide +kernel, rfl, by decide +kernel, by decide +kernel⟩
theorem ok_digits {f : Addr} {fd : FuncData} {k : Nat} (F : L2.Fun K "_law_digits" "_law_digits" s_law_digits f fd) (mlen : mg "len" = none) (mall : mg "all" = none) : FnOk P w K mg base CX0 (k + 1) f fd ["_law_text"] spDigits := by
  have nd := sc_digits.nd
  refine F.ok sc_digits (fun vs H Q E h => ?_) (fun cdv A outer s H vs Q E hr h => ?_)
  · obtain ⟨l, rfl, _⟩ := h
    rfl
  · obtain ⟨l, rfl, hl, q⟩ := h
    refine ⟨_, C8.pss_cut (ps_set (i := 1) nd rfl (.inl rfl) (pe_and (pe_chain op_le op_le pe_int (pe_callB call_len (by rfl) mlen PySem.boot_len (pa_cons (pv 0) pa_nil)) pe_int) (pe_one (pe_callB (cr_all rfl) (by rfl) mall (by decide +kernel) (pa_cons (pe_lc (own := [("_law_char", 2)]) (g := gName 2) (tt := tYes) (by rfl) nd (pi_str (pv 0)) (blkOk_by (N := ["_law_text", "_law_good", "_law_char"]) (sc := defScope s_law_digits) (by decide +kernel)) (fun _ _ _ _ _ => pg_name (i := 2) nd rfl (.inl rfl) (hf := .inr rfl)) (fun _ _ _ _ _ => pts_nil)
        (fun _ _ _ _ _ => pe_cmpR op_in_sign (pv 2) pe_str (by rfl))) pa_nil)))))
      (pss_one (ps_ret (pe_and (pv 1) (pe_one (pe_or (pe_cmpR op_eq (pv 0) pe_str (by rfl)) (pe_one (pe_cmpR op_ne (pe_ix ix_str (pv 0) pe_int (fun _ _ => rfl)) pe_str (by rfl)))))))), ?_⟩
    have eln : (S l).length = l.length := S_len l
    refine ⟨fun σ H' => ∃ x2, σ = [some (.str (S l)), some (.bl (numeralB l)), x2] ∧ Same H H', ?_, ?_⟩
    · refine ⟨.str (S l), rfl, _, _, rfl, ⟨by rw [eln, sizeLine_eq]; omega, rfl⟩, 1, _, rfl, rfl, _, rfl, ?_⟩
      rw [eln]
      refine ite2 (fun e1 => ?_) (fun e1 => ?_)
      · have h1 : (1 : Int) ≤ (l.length : Int) := of_decide_eq_true e1
        refine ⟨_, 100, rfl, rfl, _, rfl, ?_⟩
        by_cases h2 : (l.length : Int) ≤ 100
        · rw [decide_eq_true h2]
          refine iteT ?_
          have hb : numeralB l = l.all isDig := by
            unfold numeralB
            rw [decide_eq_true (⟨by omega, by omega⟩ : 1 ≤ l.length ∧ l.length ≤ 100)]
            rfl
          refine ⟨.str (S l), rfl, S l, rfl, fun D nD => ?_⟩
          refine lc_signs (l := l) (fun i H' => Same H H' ∧ H' D = some (.lst (((l.take i).map isDig).map V.bl))) ⟨upd_new nD, upd_same⟩ (fun i c H' hc p => ?_) (fun H' p => ?_)
          · refine ⟨rfl, yesI ?_⟩
            refine ⟨.str ⟨#[c]⟩, rfl, c, _, rfl, rfl, _, p.2, ?_, fun b o eb => ?_, ?_⟩
            · rw [List.length_map, List.length_map, List.length_take, sizeLine_eq]
              omega
            · rw [upd_ne (ne_of_none eb nD)]
              exact p.1 _ _ eb
            · rw [upd_same, figs_dig, List.take_add_one, hc, List.map_append, List.map_append]
              rfl
          · refine ⟨D, l.map isDig, rfl, .inl (.inl (by rw [p.2, List.take_length])), none, ?_, p.1⟩
            rw [hb, List.all_map]
            rfl
        · rw [decide_eq_false h2]
          have hb : numeralB l = false := by
            unfold numeralB
            rw [decide_eq_false (fun z => h2 (by omega))]
            rfl
          refine iteF ⟨none, ?_, Same.refl H⟩
          rw [hb]
          rfl
      · have h1 : ¬ (1 : Int) ≤ (l.length : Int) := fun z => e1 (decide_eq_true z)
        have hb : numeralB l = false := by
          unfold numeralB
          rw [decide_eq_false (fun z => h1 (by omega))]
          rfl
        refine ⟨_, rfl, iteF ⟨none, ?_, Same.refl H⟩⟩
        rw [hb]
        rfl
    · rintro σ H2 ⟨x2, rfl, s2⟩
      refine ⟨.bl (numeralB l), rfl, _, rfl, ?_⟩
      have q2 := q H2 s2
      unfold digitsB at q2
      cases hb : numeralB l with
      | false =>
        rw [hb] at q2
        exact iteF q2
      | true =>
        rw [hb, Bool.true_and] at q2
        obtain ⟨h1, _⟩ := Bool.and_eq_true_iff.mp hb
        obtain ⟨h5, h6⟩ := of_decide_eq_true h1
        have e0 : Str.ofString "0" = S [48] := by decide +kernel
        refine iteT ⟨.str (S l), rfl, rfl, _, rfl, ite2 (fun e => ?_) (fun e => ?_)⟩
        · have el : l = [48] := S_inj ((V.str.inj (of_decide_eq_true e)).trans e0)
          rw [decide_eq_true el, Bool.true_or] at q2
          exact q2
        · have el : l ≠ [48] := fun z => e (decide_eq_true (congrArg V.str ((congrArg S z).trans e0.symm)))
          rw [decide_eq_false el, Bool.false_or] at q2
          cases l with
          | nil => simp at h5
          | cons c r =>
            refine ⟨.str (S (c :: r)), rfl, _, 0, c, rfl, rfl, by rw [eln, sizeLine_eq]; omega, ?_, rfl, ?_⟩
            · exact atI_nat (j := 0) rfl
            · have ed : (!decide (V.str ⟨#[c]⟩ = V.str "0")) = !decide ((c :: r).head? = some 48) := by
                congr 1
                by_cases z : c = 48
                · subst z
                  rw [decide_eq_true (show V.str ⟨#[48]⟩ = V.str "0" by decide +kernel)]
                  exact (decide_eq_true rfl).symm
                · rw [decide_eq_false (fun e => z (Option.some.inj e) : ¬ (c :: r).head? = some 48), decide_eq_false]
                  intro e
                  have e2 : S [c] = S [48] := (V.str.inj e).trans e0
                  exact z (List.cons.inj (S_inj e2)).1
              rw [← ed] at q2
              exact q2
theorem sc_due : FnScope ["_law_text", "_law_parts", "_law_head", "_law_top", "_law_bottom", "_law_part"] ["_law_text"] (defScope s_law_number_of) := ⟨rfl, rfl, rfl, by decide +kernel, rfl, by decide +kernel, by decide +kernel⟩
theorem take1_minus (p : List Nat) : decide (V.str (S (p.take 1)) = V.str "-") = minusB p := by
  have e0 : Str.ofString "-" = S [45] := by decide +kernel
  unfold minusB
  cases p with
  | nil =>
    rw [decide_eq_false (by simp : ¬ ([] : List Nat).head? = some 45), decide_eq_false]
    intro e
    have := S_inj ((V.str.inj e).trans e0)
    cases this
  | cons c r =>
    by_cases z : c = 45
    · rw [decide_eq_true (by rw [z]; rfl : (c :: r).head? = some 45)]
      refine decide_eq_true ?_
      show V.str (S [c]) = V.str "-"
      rw [z, ← e0]
    · rw [decide_eq_false (fun e => z (Option.some.inj e) : ¬ (c :: r).head? = some 45), decide_eq_false]
      intro e
      have e2 : S [c] = S [45] := (V.str.inj e).trans e0
      exact z (List.cons.inj (S_inj e2)).1
theorem numeral_of {l : List Nat} (h : digitsB l = true) : numeralB l = true := (Bool.and_eq_true_iff.mp h).1
theorem cut1 (x : V) (ys : List V) : cutV (x :: ys) (some 1) none = ys := by
  unfold cutV
  have e1 : HT.sIx (x :: ys).length 0 (some 1) = 1 := by
    show (if (1 : Int) < 0 then ((1 : Int) + ((x :: ys).length : Int)).toNat else min (1 : Int).toNat (x :: ys).length) = 1
    rw [if_neg (by decide), List.length_cons]
    show min 1 (ys.length + 1) = 1
    omega
  rw [e1, HT.sIx_none]
  show ys.take ((x :: ys).length - 1) = ys
  rw [List.length_cons, Nat.add_sub_cancel, List.take_length]
theorem ok_due {f fD fG : Addr} {fd dD dG : FuncData} (F : L2.Fun K "_law_number_of" "_law_number_of" s_law_number_of f fd) (mlen : mg "len" = none) (mall : mg "all" = none) (mint : mg "int" = none)
    (GD : FnOk P w K mg base CX0 1 fD dD ["_law_text"] spDigits) (gD : mg "_law_digits" = some (.ref fD)) (kD : PySem.W.keepIn K (.ref fD) = true) (bD : L2.Binds K dD ["_law_text"] [])
    (GG : FnOk P w K mg base CX0 1 fG dG ["_law_one", "_law_other"] spGcd) (gG : mg "_law_gcd" = some (.ref fG)) (kG : PySem.W.keepIn K (.ref fG) = true) (bG : L2.Binds K dG ["_law_one", "_law_other"] []) : FnOk P w K mg base CX0 2 f fd ["_law_text"] spDue := by
  have nd := sc_due.nd
  refine F.ok sc_due (fun vs H Q E h => ?_) (fun cdv A outer s H vs Q E hr h => ?_)
  · obtain ⟨t, rfl, _⟩ := h
    rfl
  · obtain ⟨t, rfl, hl, q⟩ := h
    refine ⟨_, pss_cons (ps_set (i := 1) nd rfl (.inl rfl) (pe_m1 PySem.F.slot_str_split PySem.F.type_str_split mt_split (pv 0) pe_str))
      (C8.pss_cut (ps_set (i := 2) nd rfl (.inl rfl) (pe_ifExp (pt_cmpR op_eq (pe_slice C8.sl_txt (pe_ix ix_list (pv 1) pe_int (fun _ _ => rfl)) po_none (po_some pe_int)) pe_str (nomark _)) (pe_slice C8.sl_txt (pe_ix ix_list (pv 1) pe_int (fun _ _ => rfl)) (po_some pe_int) po_none) (pe_ix ix_list (pv 1) pe_int (fun _ _ => rfl))))
      (C8.pss_cut (ps_if (PW.pt (pw_or (pt_cmpR op_gt (pe_callB call_len (by rfl) mlen PySem.boot_len (pa_cons (pv 1) pa_nil)) pe_int (nomark _)) (pw_or1 (pt_not (pt_val (pe_callB (cr_all rfl) (by rfl) mall (by decide +kernel) (pa_cons (pe_lc (own := [("_law_part", 5)]) (g := gName 5) (tt := tYes) (by rfl) nd (pi_list (pe_op op_cat (pe_lst (pa_cons (pv 2) pa_nil)) (pe_slice sl_list (pv 1) (po_some pe_int) po_none))) (blkOk_by (N := ["_law_text", "_law_parts", "_law_head", "_law_top", "_law_bottom", "_law_part"]) (sc := defScope s_law_number_of) (by decide +kernel)) (fun _ _ _ _ _ => pg_name (i := 5) nd rfl (.inl rfl) (hf := .inr rfl)) (fun _ _ _ _ _ => pts_nil)
        (fun _ _ _ _ _ => pe_call GD hr (by rfl) gD kD bD .nil pass0 (pa_cons (pv 5) pa_nil))) pa_nil))))))) (pss_one (ps_ret pe_non)) pss_nil)
      (C8.pss_cut (ps_set (i := 3) nd rfl (.inl rfl) (pe_ifExp (pt_cmpR op_eq (pe_slice C8.sl_txt (pe_ix ix_list (pv 1) pe_int (fun _ _ => rfl)) po_none (po_some pe_int)) pe_str (nomark _)) (pe_un un_neg (pe_callTy call_int_str (by rfl) mint boot_int (pa_cons (pv 2) pa_nil))) (pe_callTy call_int_str (by rfl) mint boot_int (pa_cons (pv 2) pa_nil))))
      (pss_cons (ps_if (pt_cmpR op_eq (pe_callB call_len (by rfl) mlen PySem.boot_len (pa_cons (pv 1) pa_nil)) pe_int (nomark _)) (pss_one (ps_ret (pe_ifExp (PW.pt (pw_or (pt_cmpR op_ne (pv 2) pe_str (nomark _)) (pw_or1 (pt_cmpR op_eq (pe_ix ix_list (pv 1) pe_int (fun _ _ => rfl)) pe_str (nomark _))))) (pe_tup (pa_cons (pv 3) (pa_cons pe_int pa_nil))) pe_non))) pss_nil)
      (pss_cons (ps_set (i := 4) nd rfl (.inl rfl) (pe_callTy call_int_str (by rfl) mint boot_int (pa_cons (pe_ix ix_list (pv 1) pe_int (fun _ _ => rfl)) pa_nil)))
      (pss_one (ps_ret (pe_ifExp (PW.pt (pw_and (pt_cmpR op_gt (pv 4) pe_int (nomark _)) (pw_and1 (pt_cmpR op_eq (pe_call GG hr (by rfl) gG kG bG .nil pass0 (pa_cons (pv 3) (pa_cons (pv 4) pa_nil))) pe_int (nomark _))))) (pe_tup (pa_cons (pv 3) (pa_cons (pv 4) pa_nil))) pe_non)))))))), ?_⟩
    have es : Str.ofString "/" = S [47] := by decide +kernel
    have em : Str.ofString "-" = S [45] := by decide +kernel
    have e0 : Str.ofString "0" = S [48] := by decide +kernel
    obtain ⟨p0, r, ep⟩ := parts_ne t
    obtain ⟨pl, pc⟩ := parts_len _ t (Nat.le_refl _)
    have due : dueOf t = dueP (p0 :: r) := by
      unfold dueOf
      rw [ep]
    rw [ep] at pl pc
    rw [List.length_cons] at pc
    have l0 := pl p0 List.mem_cons_self
    have spl : Txt.split (S t) (S [47]) = (p0 :: r).map S := by
      rw [split_S (by simp) (by decide)]
      exact congrArg (List.map S) ep
    refine ⟨.str (S t), rfl, ⟨_, rfl⟩, S t, S [47], rfl, congrArg (fun z => [V.str z]) es, by rw [S_len]; decide, by rw [S_len, sizeLine_eq]; omega, fun a na => ?_⟩
    rw [spl]
    have ha : upd H a (.lst (((p0 :: r).map S).map V.str)) a = some (.lst (((p0 :: r).map S).map V.str)) := upd_same
    have sa : Same H (upd H a (.lst (((p0 :: r).map S).map V.str))) := upd_new na
    revert ha sa
    generalize upd H a (.lst (((p0 :: r).map S).map V.str)) = H1
    intro ha sa
    have lS0 : (S p0).length ≤ sizeLine := by
      rw [S_len, sizeLine_eq]
      omega
    have ix0 : ∀ H', H' a = some (.lst (((p0 :: r).map S).map V.str)) → SqL K H' a (((p0 :: r).map S).map V.str) := fun H' h => .inl (.inl h)
    refine ⟨fun σ H' => σ = [some (.str (S t)), some (.ref a), some (.str (S (bare p0))), none, none, none] ∧ H1 = H', ?_, ?_⟩
    · refine ⟨.ref a, rfl, a, _, 0, _, rfl, rfl, ix0 _ ha, atI_nat (j := 0) rfl, 1, rfl, S p0, rfl, lS0, ?_⟩
      rw [slice_to (by decide)]
      refine ⟨rfl, _, rfl, ?_⟩
      have e1 := take1_minus p0
      refine ite2 (fun e => ?_) (fun e => ?_)
      · refine ⟨.ref a, rfl, a, _, 0, _, rfl, rfl, ix0 _ ha, atI_nat (j := 0) rfl, 1, rfl, S p0, rfl, lS0, ?_, rfl⟩
        rw [slice_from (by decide)]
        have m : minusB p0 = true := e1.symm.trans e
        have eb : p0.drop (1 : Int).toNat = bare p0 := by
          unfold bare
          rw [m, if_pos rfl]
          exact List.drop_one
        rw [eb]
        rfl
      · refine ⟨.ref a, rfl, a, _, 0, _, rfl, rfl, ix0 _ ha, atI_nat (j := 0) rfl, ?_, rfl⟩
        have m : minusB p0 = false := by
          cases h : minusB p0 with
          | false => rfl
          | true => exact absurd (e1.trans h) e
        have eb : p0 = bare p0 := by
          unfold bare
          rw [m, if_neg (by simp)]
        show _ = [some (V.str (S t)), some (V.ref a), some (V.str (S (bare p0))), none, none, none]
        rw [← eb]
        rfl
    · rintro σ H' ⟨rfl, rfl⟩
      refine ⟨fun σ H' => ∃ x5, σ = [some (.str (S t)), some (.ref a), some (.str (S (bare p0))), none, none, x5] ∧ Same H1 H' ∧ r.length ≤ 1 ∧ digitsB (bare p0) = true ∧ r.all digitsB = true, ?_, ?_⟩
      · refine ⟨.ref a, rfl, _, _, rfl, .inl ⟨_, ix0 _ ha, rfl⟩, _, 2, rfl, rfl, _, rfl, ite2 (fun e => ?_) (fun e => ?_)⟩
        · have h2 : (2 : Int) < (((((p0 :: r).map S).map V.str).length : Nat) : Int) := of_decide_eq_true e
          rw [List.length_map, List.length_map, List.length_cons] at h2
          refine iteT (q .non H1 sa ?_)
          rw [due]
          match r, h2 with
          | x :: y :: l, _ => rfl
          | [x], h2 => simp at h2
          | [], h2 => simp at h2
        · have h2 : ¬ (2 : Int) < (((((p0 :: r).map S).map V.str).length : Nat) : Int) := fun z => e (decide_eq_true z)
          rw [List.length_map, List.length_map, List.length_cons] at h2
          have r1 : r.length ≤ 1 := by omega
          refine ⟨.str (S (bare p0)), rfl, lineN (by decide : 1 ≤ 1000), fun q1 n1 => ?_⟩
          have s1 := upd_new (o := .lst [.str (S (bare p0))]) n1
          refine ⟨.ref a, rfl, 1, rfl, a, _, rfl, ix0 _ (s1 _ _ ha), fun q2 n2 => ?_⟩
          have ec : cutV (((p0 :: r).map S).map V.str) (some 1) none = (r.map S).map V.str := cut1 _ _
          rw [ec]
          have s2 := upd_new (o := .lst ((r.map S).map V.str)) n2
          refine ⟨q1, q2, _, _, rfl, rfl, s2 _ _ upd_same, upd_same, ?_, fun q3 n3 => ?_⟩
          · rw [List.length_map, List.length_map, sizeLine_eq]
            show 1 + r.length ≤ _
            omega
          have s3 := upd_new (o := .lst ([.str (S (bare p0))] ++ (r.map S).map V.str)) n3
          have h3 : upd (upd (upd H1 q1 (.lst [.str (S (bare p0))])) q2 (.lst ((r.map S).map V.str))) q3 (.lst ([.str (S (bare p0))] ++ (r.map S).map V.str)) q3 = some (.lst (((bare p0 :: r).map S).map V.str)) := upd_same
          have s4 := (s1.trans s2).trans s3
          revert h3 s4
          generalize upd (upd (upd H1 q1 (.lst [.str (S (bare p0))])) q2 (.lst ((r.map S).map V.str))) q3 (.lst ([.str (S (bare p0))] ++ (r.map S).map V.str)) = H3
          intro h3 s4
          refine ⟨q3, rfl, ⟨_, .inl (.inl h3)⟩, fun D nD => ?_⟩
          refine lc_list (xs := ((bare p0 :: r).map S).map V.str) (fun i H' => Same H3 H' ∧ H' D = some (.lst ((((bare p0 :: r).take i).map digitsB).map V.bl))) ⟨upd_new nD, upd_same⟩ (fun i H' _ p => .inl (.inl (p.1 _ _ h3))) (fun i x H' hx p => ?_) (fun H' p => ?_)
          · obtain ⟨l, hl2, rfl⟩ : ∃ l, (bare p0 :: r)[i]? = some l ∧ x = .str (S l) := by
              rw [List.getElem?_map, List.getElem?_map] at hx
              cases e2 : (bare p0 :: r)[i]? with
              | none => rw [e2] at hx; cases hx
              | some l => rw [e2] at hx; exact ⟨l, rfl, (Option.some.inj hx).symm⟩
            have ll : l.length ≤ 10000 := by
              rcases List.mem_cons.mp (List.mem_of_getElem? hl2) with z | z
              · rw [z]
                have := bare_len p0
                omega
              · have := pl l (List.mem_cons_of_mem _ z)
                omega
            refine ⟨rfl, yesI ?_⟩
            refine ⟨.str (S l), rfl, l, rfl, ll, fun H4 s5 => ⟨_, s5 _ _ p.2, ?_, fun b o eb => ?_, ?_⟩⟩
            · rw [List.length_map, List.length_map, List.length_take, List.length_cons, sizeLine_eq]
              omega
            · rw [upd_ne (ne_of_none eb nD)]
              exact s5 _ _ (p.1 _ _ eb)
            · rw [upd_same, List.take_add_one, hl2, List.map_append, List.map_append]
              rfl
          · have hD : SqL K H' D (((bare p0 :: r).map digitsB).map V.bl) := by
              have := p.2
              rw [List.length_map, List.length_map, List.take_length] at this
              exact .inl (.inl this)
            refine ⟨D, _, rfl, hD, _, rfl, ?_⟩
            rw [List.all_map]
            have ea : (bare p0 :: r).all (id ∘ digitsB) = (digitsB (bare p0) && r.all digitsB) := rfl
            rw [ea]
            have s6 : Same H1 H' := s4.trans p.1
            cases hb : (digitsB (bare p0) && r.all digitsB) with
            | true =>
              obtain ⟨h1, h2⟩ := Bool.and_eq_true_iff.mp hb
              exact iteF ⟨none, rfl, s6, r1, h1, h2⟩
            | false =>
              refine iteT (q .non H' (sa.trans s6) ?_)
              rw [due]
              match r, r1, hb with
              | [], _, hb =>
                rw [due1]
                have : digitsB (bare p0) = false := by simpa using hb
                rw [this]
                rfl
              | [x], _, hb =>
                rw [due2]
                have : (digitsB (bare p0) && digitsB x) = false := by simpa using hb
                rw [this]
                rfl
      · rintro σ H' ⟨x5, rfl, s6, r1, hd, hr'⟩
        have ha' := s6 _ _ ha
        have sH := sa.trans s6
        obtain ⟨i0, l00⟩ := numeral_int (numeral_of hd)
        refine ⟨fun σ H'' => σ = [some (.str (S t)), some (.ref a), some (.str (S (bare p0))), some (.int (topOf p0)), none, x5] ∧ H' = H'', ?_, ?_⟩
        · refine ⟨.ref a, rfl, a, _, 0, _, rfl, rfl, ix0 _ ha', atI_nat (j := 0) rfl, 1, rfl, S p0, rfl, lS0, ?_⟩
          rw [slice_to (by decide)]
          refine ⟨rfl, _, rfl, ?_⟩
          have e1 := take1_minus p0
          refine ite2 (fun e => ?_) (fun e => ?_)
          · have m : minusB p0 = true := e1.symm.trans e
            refine ⟨.str (S (bare p0)), rfl, _, _, rfl, i0, by rw [S_len]; omega, _, rfl, ?_, rfl⟩
            unfold topOf
            rw [m, if_pos rfl]
            rfl
          · have m : minusB p0 = false := by
              cases h : minusB p0 with
              | false => rfl
              | true => exact absurd (e1.trans h) e
            refine ⟨.str (S (bare p0)), rfl, _, _, rfl, i0, by rw [S_len]; omega, ?_, rfl⟩
            unfold topOf
            rw [m, if_neg (by simp)]
            rfl
        · rintro σ H'' ⟨rfl, rfl⟩
          refine ⟨.ref a, rfl, _, _, rfl, .inl ⟨_, ix0 _ ha', rfl⟩, rfl, _, rfl, ?_⟩
          rcases r with _ | ⟨x, _ | ⟨y, l⟩⟩
          · refine iteT ⟨.str (S (bare p0)), rfl, rfl, _, rfl, ?_⟩
            rw [due1, hd, if_pos rfl] at due
            by_cases c : bare p0 = [48]
            · have ee : (!decide (V.str (S (bare p0)) = V.str "0")) = false := by
                rw [decide_eq_true (congrArg V.str ((congrArg S c).trans e0.symm))]
                rfl
              rw [ee]
              refine iteF ⟨.ref a, rfl, a, _, 0, _, rfl, rfl, ix0 _ ha', atI_nat (j := 0) rfl, rfl, _, rfl, ite2 (fun e => ?_) (fun e => ?_)⟩
              · have ep0 : p0 = [48] := S_inj ((V.str.inj (of_decide_eq_true e)).trans e0)
                rw [if_pos (.inr ep0)] at due
                refine ⟨.int (topOf p0), rfl, lineN (by decide : 2 ≤ 1000), fun u nu => q _ _ (sH.trans (upd_new nu)) ?_⟩
                rw [due]
                exact ⟨u, rfl, upd_same⟩
              · have ep0 : p0 ≠ [48] := fun z => e (decide_eq_true (congrArg V.str ((congrArg S z).trans e0.symm)))
                rw [if_neg (fun z => z.elim (fun z => z c) ep0)] at due
                refine q _ _ sH ?_
                rw [due]
                rfl
            · have ee : (!decide (V.str (S (bare p0)) = V.str "0")) = true := by
                rw [decide_eq_false (fun z => c (S_inj ((V.str.inj z).trans e0)))]
                rfl
              rw [ee]
              rw [if_pos (.inl c)] at due
              refine iteT (iteT ⟨.int (topOf p0), rfl, lineN (by decide : 2 ≤ 1000), fun u nu => q _ _ (sH.trans (upd_new nu)) ?_⟩)
              rw [due]
              exact ⟨u, rfl, upd_same⟩
          · have hx : digitsB x = true := by simpa using hr'
            obtain ⟨ix, lx⟩ := numeral_int (numeral_of hx)
            rw [due2, hd, hx, Bool.and_self, if_pos rfl] at due
            refine iteF ⟨.ref a, rfl, a, _, 1, _, rfl, rfl, ix0 _ ha', atI_nat (j := 1) rfl, _, _, rfl, ix, by rw [S_len]; omega, ?_⟩
            refine ⟨.int (vNat x), rfl, vNat x, 1, rfl, rfl, _, rfl, ite2 (fun e => ?_) (fun e => ?_)⟩
            · have g1 : 1 < vNat x := of_decide_eq_true e
              refine ⟨.int (topOf p0), rfl, .int (vNat x), rfl, _, _, rfl, rfl, _, rfl, ite2 (fun e => ?_) (fun e => ?_)⟩
              · have gg : ((Int.gcd (topOf p0) (vNat x) : Nat) : Int) = 1 := V.int.inj (of_decide_eq_true e)
                rw [if_pos ⟨g1, by omega⟩] at due
                refine ⟨.int (topOf p0), rfl, .int (vNat x), rfl, lineN (by decide : 2 ≤ 1000), fun u nu => q _ _ (sH.trans (upd_new nu)) ?_⟩
                rw [due]
                exact ⟨u, rfl, upd_same⟩
              · have gg : ¬ ((Int.gcd (topOf p0) (vNat x) : Nat) : Int) = 1 := fun z => e (decide_eq_true (congrArg V.int z))
                rw [if_neg (fun z => gg (by omega))] at due
                refine q _ _ sH ?_
                rw [due]
                rfl
            · have g1 : ¬ 1 < vNat x := fun z => e (decide_eq_true z)
              rw [if_neg (fun z => g1 z.1)] at due
              refine iteF (q _ _ sH ?_)
              rw [due]
              rfl
          · simp at r1
end
end RB

set_option Elab.async false
set_option linter.all false
set_option maxRecDepth 100000
set_option maxHeartbeats 4000000
set_option exponentiation.threshold 4000
namespace RB
open PySem PySem.Spec PyProof.Rows L2 SX
/-- texts of at most n signs -/
def StrsV (n : Nat) (xs : List V) : Prop := ∀ x ∈ xs, ∃ l : List Nat, x = .str (S l) ∧ l.length ≤ n
def strsB (n : Nat) (xs : List V) : Bool := xs.all fun x => match x with | .str z => decide (z.length ≤ n) | _ => false
theorem str_S (z : Str) : z = S z.cps.toList := by
  cases z
  rfl
theorem strs_by {n : Nat} {xs : List V} (h : strsB n xs = true) : StrsV n xs := by
  intro x hx
  have := List.all_eq_true.mp h x hx
  cases x with
  | str z =>
    refine ⟨z.cps.toList, congrArg V.str (str_S z), ?_⟩
    have e : z.length ≤ n := of_decide_eq_true this
    rw [Array.length_toList]
    exact e
  | _ => cases this
theorem rng_ne_strs {H : Hp} {r o : Addr} {n : Nat} {xs : List V} (R : RngOk H r) (h : H o = some (.lst xs)) (hs : StrsV n xs) : o ≠ r := by
  obtain ⟨c, i, b, s, hr, _⟩ := R
  intro e
  rw [e, hr] at h
  have e2 : [.ref c, .int i, .int b, .int s] = xs := by
    have := Option.some.inj h
    cases this
    rfl
  obtain ⟨l, e3, _⟩ := hs (.ref c) (by rw [← e2]; exact List.mem_cons_self)
  cases e3
def spBent : Sp := fun vs H Q _ => ∃ (r t : Addr) (l : List Nat) (xs : List V), vs = [.ref r, .str (S l), .ref t] ∧ RngOk H r ∧ H t = some (.lst xs) ∧ StrsV 2 xs ∧ 0 < xs.length ∧ xs.length ≤ 1000 ∧ l.length ≤ 500 ∧
  ∀ l' H', l'.length ≤ l.length + 2 → Keeps r H H' → RngOk H' r → Q (.str (S l')) H'
section
variable {P : Program} {w : World} {K : PySem.W.Frag} {mg : Str → Option Value} {base : Heap}
theorem sc_bent : FnScope ["_law_rng", "_law_text", "_law_signs", "_law_at", "_law_way", "_law_sign"] ["_law_rng", "_law_text", "_law_signs"] (defScope s_law_bent_text) := ⟨rfl, rfl, rfl, by decide +kernel, rfl, by decide +kernel, by decide +kernel⟩
theorem ok_bent {f fD fP : Addr} {fd dD dP : FuncData} (F : L2.Fun K "_law_bent_text" "_law_bent_text" s_law_bent_text f fd) (mlen : mg "len" = none)
    (GD : FnOk P w K mg base CX0 1 fD dD ["_law_rng", "_law_amount"] spDraw) (gD : mg "_law_draw" = some (.ref fD)) (kD : PySem.W.keepIn K (.ref fD) = true) (bD : L2.Binds K dD ["_law_rng", "_law_amount"] [])
    (GP : FnOk P w K mg base CX0 2 fP dP ["_law_rng", "_law_things"] (spPick K)) (gP : mg "_law_pick" = some (.ref fP)) (kP : PySem.W.keepIn K (.ref fP) = true) (bP : L2.Binds K dP ["_law_rng", "_law_things"] []) :
    FnOk P w K mg base CX0 3 f fd ["_law_rng", "_law_text", "_law_signs"] spBent := by
  have nd := sc_bent.nd
  refine F.ok sc_bent (fun vs H Q E h => ?_) (fun cdv A outer s H vs Q E hr h => ?_)
  · obtain ⟨r, t, l, xs, rfl, _⟩ := h
    rfl
  · obtain ⟨r, t, l, xs, rfl, R, ht, hs, hx0, hx1, hl, q⟩ := h
    have hr1 : Room 1 _ := hr.mono (by decide : 1 ≤ 2)
    refine ⟨_, pss_cons (ps_par (i := 3) (j := 4) (by rfl) nd rfl rfl (by decide) rfl rfl (pa_cons (pe_call GD hr1 (by rfl) gD kD bD .nil pass0 (pa_cons (pv 0) (pa_cons (pe_op op_add (pe_callB call_len (by rfl) mlen PySem.boot_len (pa_cons (pv 1) pa_nil)) pe_int) pa_nil))) (pa_cons (pe_call GD hr1 (by rfl) gD kD bD .nil pass0 (pa_cons (pv 0) (pa_cons pe_int pa_nil))) pa_nil)) (by rfl))
      (pss_cons (ps_set (i := 5) nd rfl (.inl rfl) (pe_call GP hr (by rfl) gP kP bP .nil pass0 (pa_cons (pv 0) (pa_cons (pv 2) pa_nil))))
      (pss_cons (ps_if (pt_cmpR op_eq (pv 4) pe_int (nomark _)) (pss_one (ps_ret (pe_op op_add_str (pe_op op_add_str (pe_slice C8.sl_txt (pv 1) po_none (po_some (pv 3))) (pv 5)) (pe_slice C8.sl_txt (pv 1) (po_some (pv 3)) po_none)))) pss_nil)
      (pss_cons (ps_if (pt_cmpR op_eq (pv 4) pe_int (nomark _)) (pss_one (ps_ret (pe_op op_add_str (pe_slice C8.sl_txt (pv 1) po_none (po_some (pv 3))) (pe_slice C8.sl_txt (pv 1) (po_some (pe_op op_add (pv 3) pe_int)) po_none)))) pss_nil)
      (pss_one (ps_ret (pe_op op_add_str (pe_op op_add_str (pe_slice C8.sl_txt (pv 1) po_none (po_some (pv 3))) (pv 5)) (pe_slice C8.sl_txt (pv 1) (po_some (pe_op op_add (pv 3) pe_int)) po_none))))))), ?_⟩
    have lS : (S l).length ≤ sizeLine := by
      rw [S_len, sizeLine_eq]
      omega
    refine ⟨.ref r, rfl, .str (S l), rfl, _, _, rfl, ⟨lS, rfl⟩, _, 1, rfl, rfl, r, _, rfl, R, by omega, ?_, fun at_ H1 a1 c1 R1 b1 => ?_⟩
    · rw [S_len]
      have := log2_lt (n := ((l.length : Int) + 1).natAbs) (k := 12) (by omega) (by decide)
      omega
    refine ⟨.ref r, rfl, r, 3, rfl, R1, by decide, by decide +kernel, fun way H2 a2 c2 R2 b2 => ?_⟩
    refine ⟨_, _, rfl, ?_⟩
    have k2 : Keeps r H H2 := (Keeps.but b1).trans (.but b2)
    have tr := rng_ne_strs R ht hs
    refine ⟨.ref r, rfl, .ref t, rfl, r, t, xs, rfl, R2, .inl (.inl (k2 _ _ ht tr)), tr, hx0, hx1, fun v i H3 hv R3 b3 => ?_⟩
    have k3 : Keeps r H H3 := k2.trans (.but b3)
    obtain ⟨g, rfl, g2⟩ := hs v (List.mem_of_getElem? hv)
    rw [S_len] at c1
    have s1 := slice_to (a := l) a1
    have s2 := slice_from (a := l) a1
    have s3 := slice_from (a := l) (i := at_ + 1) (by omega)
    have t1 : (l.take at_.toNat).length ≤ l.length := by
      rw [List.length_take]
      omega
    have t2 : (l.take at_.toNat).length + (l.drop at_.toNat).length = l.length := by
      rw [← List.length_append, List.take_append_drop]
    have t3 : (l.drop (at_ + 1).toNat).length ≤ (l.drop at_.toNat).length := by
      rw [List.length_drop, List.length_drop]
      omega
    refine ⟨.int way, rfl, rfl, _, rfl, ite2 (fun e => ?_) (fun e => ?_)⟩
    · refine ⟨.str (S l), rfl, .int at_, rfl, at_, rfl, _, rfl, lS, ?_⟩
      rw [s1]
      refine ⟨.str (S g), rfl, _, _, rfl, rfl, by rw [S_len, S_len, sizeLine_eq]; omega, .str (S l), rfl, .int at_, rfl, at_, rfl, _, rfl, lS, ?_⟩
      rw [s2, S_cat]
      refine ⟨_, _, rfl, rfl, by rw [S_len, S_len, List.length_append, sizeLine_eq]; omega, ?_⟩
      rw [S_cat]
      exact q _ _ (by rw [List.length_append, List.length_append]; omega) k3 R3
    · refine ⟨.int way, rfl, rfl, _, rfl, ite2 (fun e => ?_) (fun e => ?_)⟩
      · refine ⟨.str (S l), rfl, .int at_, rfl, at_, rfl, _, rfl, lS, ?_⟩
        rw [s1]
        refine ⟨.str (S l), rfl, .int at_, rfl, at_, 1, rfl, rfl, _, rfl, _, rfl, lS, ?_⟩
        rw [s3]
        refine ⟨_, _, rfl, rfl, by rw [S_len, S_len, sizeLine_eq]; omega, ?_⟩
        rw [S_cat]
        exact q _ _ (by rw [List.length_append]; omega) k3 R3
      · refine ⟨.str (S l), rfl, .int at_, rfl, at_, rfl, _, rfl, lS, ?_⟩
        rw [s1]
        refine ⟨.str (S g), rfl, _, _, rfl, rfl, by rw [S_len, S_len, sizeLine_eq]; omega, .str (S l), rfl, .int at_, rfl, at_, 1, rfl, rfl, _, rfl, _, rfl, lS, ?_⟩
        rw [s3, S_cat]
        refine ⟨_, _, rfl, rfl, by rw [S_len, S_len, List.length_append, sizeLine_eq]; omega, ?_⟩
        rw [S_cat]
        exact q _ _ (by rw [List.length_append, List.length_append]; omega) k3 R3
abbrev lawN : List Str := ["_law_script", "_law_rng", "_law_odd", "_law_signs", "_law_turn", "_law_part", "_law_text", "_law_texts", "_law_one", "_law_due", "_law_told"]
theorem sc_law : FnScope lawN ["_law_script"] (defScope sLaw) := ⟨rfl, rfl, rfl, by decide +kernel, rfl, by decide +kernel, by decide +kernel⟩
abbrev lamQ : Str := (("law" : Str) ++ ".<locals>.") ++ "<lambda>"
/-- what the law calls -/
structure TLaw (P : Program) (w : World) (K : PySem.W.Frag) (mg : Str → Option Value) (base : Heap) (B M C fDs fD fS fV fG fX fP fT fF : Addr) (dDs dD dS dV dG dX dP dF : FuncData) : Prop where
  range : mg "range" = none
  str : mg "str" = none
  draws : FnOk P w K mg base CX0 1 fDs dDs ["_law_script"] (spDraws K)
  gDs : mg "_law_draws" = some (.ref fDs)
  kDs : PySem.W.keepIn K (.ref fDs) = true
  bDs : L2.Binds K dDs ["_law_script"] []
  pick : FnOk P w K mg base CX0 2 fD dD ["_law_rng", "_law_things"] (spPick K)
  gD : mg "_law_pick" = some (.ref fD)
  kD : PySem.W.keepIn K (.ref fD) = true
  bD : L2.Binds K dD ["_law_rng", "_law_things"] []
  same : FnOk P w K mg base CX0 3 fS dS ["_law_result", "_law_expected"] (spSame K 3)
  gS : mg "_law_same" = some (.ref fS)
  kS : PySem.W.keepIn K (.ref fS) = true
  bS : L2.Binds K dS ["_law_result", "_law_expected"] []
  value : FnOk P w K mg base CX0 3 fV dV ["_law_rng"] spValue
  gV : mg "_law_value" = some (.ref fV)
  kV : PySem.W.keepIn K (.ref fV) = true
  bV : L2.Binds K dV ["_law_rng"] []
  bent : FnOk P w K mg base CX0 3 fG dG ["_law_rng", "_law_text", "_law_signs"] spBent
  gG : mg "_law_bent_text" = some (.ref fG)
  kG : PySem.W.keepIn K (.ref fG) = true
  bG : L2.Binds K dG ["_law_rng", "_law_text", "_law_signs"] []
  due : FnOk P w K mg base CX0 2 fX dX ["_law_text"] spDue
  gX : mg "_law_number_of" = some (.ref fX)
  kX : PySem.W.keepIn K (.ref fX) = true
  bX : L2.Binds K dX ["_law_text"] []
  parse : FnOk P w K mg base (L2.CX P w) 7 fP dP ["text"] (spParse C)
  gP : mg "parse_number" = some (.ref fP)
  kP : PySem.W.keepIn K (.ref fP) = true
  bP : L2.Binds K dP ["text"] []
  field : FnP P w K mg base 1 fF dF ["_law_e"] (spField K)
  gF : mg "_law_field" = some (.ref fF)
  kF : PySem.W.keepIn K (.ref fF) = true
  bF : L2.Binds K dF ["_law_e"] []
  gB : mg "BagError" = some (.ref B)
  gM : mg "Missing" = some (.ref M)
  gT : mg "_law_try" = some (.ref fT)
  kT : PySem.W.keepIn K (.ref fT) = true
  tryF : ∃ dT, L2.Fun K "_law_try" "_law_try" sTry fT dT ∧ L2.Binds K dT ["_law_ask"] []
  xC : XErr K C
  cC : Caught K B M C
def spLaw (K : PySem.W.Frag) (Pt : Addr) : Sp := fun vs H Q _ => ∃ (a : Addr) (ns : List Int), vs = [.ref a] ∧ SqL K H a (ns.map V.int) ∧ ns.length ≤ 63 ∧ H Pt = some (.tbl #[]) ∧ ∀ H', Q (.bl true) H'
theorem mul1 : MulOk ("1" : Str) 101 := ⟨by decide +kernel, fun _ _ => by decide +kernel, fun _ _ => by decide +kernel⟩
theorem mul9 : MulOk ("9" : Str) 100 := ⟨by decide +kernel, fun _ _ => by decide +kernel, fun _ _ => by decide +kernel⟩
theorem mul3 : MulOk ("3" : Str) 101 := ⟨by decide +kernel, fun _ _ => by decide +kernel, fun _ _ => by decide +kernel⟩
/-- a list of texts that the law keeps -/
def Kept (H : Hp) (o : Addr) (n : Nat) : Prop := ∃ xs : List V, H o = some (.lst xs) ∧ StrsV n xs ∧ 0 < xs.length ∧ xs.length ≤ 1000
theorem Kept.same {H H' : Hp} {o : Addr} {n : Nat} (h : Kept H o n) (s : Same H H') : Kept H' o n := by
  obtain ⟨xs, h1, h2⟩ := h
  exact ⟨xs, s _ _ h1, h2⟩
theorem Kept.keep {H H' : Hp} {o r : Addr} {n : Nat} (h : Kept H o n) (R : RngOk H r) (k : Keeps r H H') : Kept H' o n := by
  obtain ⟨xs, h1, h2, h3⟩ := h
  exact ⟨xs, k _ _ h1 (rng_ne_strs R h1 h2), h2, h3⟩
theorem Kept.ext {H H' : Hp} {o : Addr} {n : Nat} (h : Kept H o n) (e : LamX.ExtN H H') : Kept H' o n := by
  obtain ⟨xs, h1, h2⟩ := h
  exact ⟨xs, e _ _ h1 (fun ps z => by cases z), h2⟩
theorem num_len {n : Int} (h : n.natAbs ≤ 1000) : (numT n).length ≤ 6 := by
  have := TL.numL_len (n := n.natAbs) (k := 4) (by decide) (by omega)
  unfold numT
  split
  · rw [List.length_cons]
    omega
  · omega
theorem ok_law {f c Pt B M C fDs fD fS fV fG fX fP fT fF : Addr} {dDs dD dS dV dG dX dP dF : FuncData} {oc kV doc pm ct : Value} {od an : Option Addr} {osl : Array (Option Value)} (lk : K.lookup f = some ⟨oc, od, .func (PySem.W.fnOf "law" "law" (defArgs sLaw) (defBody sLaw) (defScope sLaw) .none kV doc pm an (.ref c) ct), osl⟩)
    (hcd : PySem.W.codeIn K (.ref c) "law" = true) (TB : LamX.TabB base mg c Pt) (T : TLaw P w K mg base B M C fDs fD fS fV fG fX fP fT fF dDs dD dS dV dG dX dP dF) :
    FnOk P w K mg base CX0 10 f (PySem.W.fnOf "law" "law" (defArgs sLaw) (defBody sLaw) (defScope sLaw) .none kV doc pm an (.ref c) ct) ["_law_script"] (spLaw K Pt) := by
  have nd := sc_law.nd
  refine fn_of lk hcd sc_law (fun vs H Q E h => ?_) fun A outer s H vs Q E hr h => ?_
  · obtain ⟨a, ns, rfl, _⟩ := h
    rfl
  · obtain ⟨a, ns, rfl, hS, hl, hP, q⟩ := h
    obtain ⟨dT, FT, bT⟩ := T.tryF
    obtain ⟨oc2, od2, kV2, doc2, pm2, an2, cdv2, ct2, osl2, rfl, lk2, hcd2⟩ := FT.ex
    have hr1 : Room 1 _ := hr.mono (by decide : 1 ≤ 9)
    have hr2 : Room 2 _ := hr.mono (by decide : 2 ≤ 9)
    have hr3 : Room 3 _ := hr.mono (by decide : 3 ≤ 9)
    have PT : ∃ t, PSs (cxOf CX0 P w K mg base lawN "law" (defScope sLaw) f (.ref c) A outer s H E).nox (defBody sLaw) t ∧ t { nx := fun _ H' => Q .non H', rt := Q } (L2.start lawN [.ref a]) H := by
      refine ⟨_, pss_cons (ps_set (i := 1) nd rfl (.inl rfl) (pe_call T.draws hr1 (by rfl) T.gDs T.kDs T.bDs .nil pass0 (pa_cons (pv 0) pa_nil)))
        (pss_cons (ps_set (i := 2) nd rfl (.inl rfl) (pe_lst (pa_cons pe_str (pa_cons pe_str (pa_cons pe_str (pa_cons pe_str (pa_cons pe_str (pa_cons pe_str (pa_cons pe_str (pa_cons pe_str (pa_cons pe_str (pa_cons pe_str pa_nil))))))))))))
        (pss_cons (ps_set (i := 2) nd rfl (.inl rfl) (pe_op op_cat (pv 2) (pe_lst (pa_cons pe_str (pa_cons pe_str (pa_cons pe_str (pa_cons pe_str (pa_cons pe_str (pa_cons pe_str (pa_cons pe_str (pa_cons pe_str (pa_cons pe_str pa_nil))))))))))))
        (pss_cons (ps_set (i := 2) nd rfl (.inl rfl) (pe_op op_cat (pv 2) (pe_lst (pa_cons pe_str (pa_cons pe_str (pa_cons pe_str (pa_cons pe_str pa_nil)))))))
        (pss_cons (ps_set (i := 2) nd rfl (.inl rfl) (pe_op op_cat (pv 2) (pe_lst (pa_cons (pe_op op_mul_str pe_str pe_int) (pa_cons (pe_op op_add_str pe_str (pe_op op_mul_str pe_str pe_int)) (pa_cons (pe_op op_add_str pe_str (pe_op op_mul_str pe_str pe_int)) pa_nil))))))
        (C8.pss_cut (ps_set (i := 3) nd rfl (.inl rfl) (pe_lst (pa_cons pe_str (pa_cons pe_str (pa_cons pe_str (pa_cons pe_str (pa_cons pe_str (pa_cons pe_str (pa_cons pe_str (pa_cons pe_str pa_nil))))))))))
        (pss_cons (ps_for PassesOwn.never rfl (pi_range1 rfl T.range (pa_cons pe_int pa_nil)) (pg_name (i := 4) nd rfl (.inl rfl))
          (pss_cons (ps_set (i := 5) nd rfl (.inl rfl) (pe_call T.value hr3 (by rfl) T.gV T.kV T.bV .nil pass0 (pa_cons (pv 1) pa_nil)))
          (C8.pss_cut (ps_set (i := 6) nd rfl (.inl rfl) (pe_op op_add_str (pe_callTy call_str_int (by rfl) T.str boot_str (pa_cons (pe_ix ix_tup (pv 5) pe_int (fun _ _ => rfl)) pa_nil)) (pe_ifExp (pt_cmpR op_ne (pe_ix ix_tup (pv 5) pe_int (fun _ _ => rfl)) pe_int (nomark _)) (pe_op op_add_str pe_str (pe_callTy call_str_int (by rfl) T.str boot_str (pa_cons (pe_ix ix_tup (pv 5) pe_int (fun _ _ => rfl)) pa_nil))) pe_str)))
          (pss_cons (ps_set (i := 7) nd rfl (.inl rfl) (pe_lst (pa_cons (pe_call T.bent hr3 (by rfl) T.gG T.kG T.bG .nil pass0 (pa_cons (pv 1) (pa_cons (pv 6) (pa_cons (pv 3) pa_nil)))) (pa_cons (pe_call T.pick hr2 (by rfl) T.gD T.kD T.bD .nil pass0 (pa_cons (pv 1) (pa_cons (pv 2) pa_nil))) pa_nil))))
          (pss_one (ps_for PassesOwn.never rfl (pi_list (pv 7)) (pg_name (i := 8) nd rfl (.inr rfl))
            (pss_cons (ps_set (i := 9) nd rfl (.inl rfl) (pe_call T.due hr2 (by rfl) T.gX T.kX T.bX .nil pass0 (pa_cons (pv 8) pa_nil)))
            (pss_cons (ps_set (i := 10) nd rfl (.inl rfl) (LamX.pe_lamcall (k := 7) (T := [(Pt, lamQ)]) (Ng := ["_law_ask", "_law_e"]) (t := fun E => tCall (spParse C) [] E (tCons (tVar 8) tNil)) (by rfl) T.gT T.kT lk2 hcd2 bT sc_try rfl (.inl rfl) (try_gives T.field T.gF T.kF T.bF T.gB T.gM hr2) TB rfl List.mem_cons_self (fun p hp _ => by rw [List.mem_singleton.mp hp]; rfl) hr (LamX.lamS_by (sc := defScope sLaw) (by decide +kernel)) (by rfl) (fun _ _ _ _ _ => by rfl)
              (fun A outer s H E f c' hr' => pe_call T.parse hr' (by rfl) T.gP T.kP T.bP .nil (passes_call (takes_of rfl rfl rfl rfl) fun _ _ _ _ h => h) (pa_cons (pv 8) pa_nil))))
            (pss_one (ps_if (pt_not (pt_val (pe_call T.same hr3 (by rfl) T.gS T.kS T.bS .nil pass0 (pa_cons (pv 10) (pa_cons (pe_ifExp (pt_cmpR op_isN (pv 9) pe_non (nomark _)) (pe_tup (pa_cons pe_str (pa_cons pe_non pa_nil))) (pe_tup (pa_cons pe_str (pa_cons (pv 9) pa_nil)))) pa_nil))))) (pss_one (ps_ret pe_bl)) pss_nil)))))))))
        ) (pss_one (ps_ret pe_bl)))))))), ?_⟩
      refine ⟨.ref a, rfl, a, ns, rfl, hS, by omega, fun H1 r s1 nr R1 => ?_⟩
      refine ⟨lineN (by decide : 10 ≤ 1000), fun o1 n1 => ?_⟩
      refine ⟨.ref o1, rfl, lineN (by decide : 9 ≤ 1000), fun o2 n2 => ?_⟩
      refine ⟨o1, o2, _, _, rfl, rfl, upd_new n2 _ _ upd_same, upd_same, lineN (by decide : 19 ≤ 1000), fun o3 n3 => ?_⟩
      refine ⟨.ref o3, rfl, lineN (by decide : 4 ≤ 1000), fun o4 n4 => ?_⟩
      refine ⟨o3, o4, _, _, rfl, rfl, upd_new n4 _ _ upd_same, upd_same, lineN (by decide : 23 ≤ 1000), fun o5 n5 => ?_⟩
      refine ⟨.ref o5, rfl, _, 101, rfl, rfl, mul1, _, 100, rfl, rfl, mul9, _, _, rfl, rfl, by decide +kernel, _, 101, rfl, rfl, mul3, _, _, rfl, rfl, by decide +kernel, lineN (by decide : 3 ≤ 1000), fun o6 n6 => ?_⟩
      refine ⟨o5, o6, _, _, rfl, rfl, upd_new n6 _ _ upd_same, upd_same, lineN (by decide : 26 ≤ 1000), fun o n7 => ?_⟩
      refine ⟨fun σ H' => ∃ sg : Addr, σ = [some (.ref a), some (.ref r), some (.ref o), some (.ref sg), none, none, none, none, none, none, none] ∧ RngOk H' r ∧ LamX.Tabs [(Pt, lamQ)] H' ∧ Kept H' o 110 ∧ Kept H' sg 2, ?_, ?_⟩
      · refine ⟨lineN (by decide : 8 ≤ 1000), fun sg n8 => ?_⟩
        have key : ∀ {H' : Hp}, Same H1 H' → RngOk H' r ∧ LamX.Tabs [(Pt, lamQ)] H' := fun sm => ⟨R1.same sm, fun p hp => by
          rw [List.mem_singleton.mp hp]
          exact LamX.TabS.nil (sm _ _ (s1 _ _ hP))⟩
        obtain ⟨k1, k2⟩ := key (((((((upd_new n1).trans (upd_new n2)).trans (upd_new n3)).trans (upd_new n4)).trans (upd_new n5)).trans (upd_new n6)).trans ((upd_new n7).trans (upd_new n8)))
        exact ⟨sg, rfl, k1, k2, ⟨_, upd_new n8 _ _ upd_same, strs_by (by decide +kernel), by decide, (by decide : 26 ≤ 1000)⟩, ⟨_, upd_same, strs_by (by decide +kernel), by decide, (by decide : 8 ≤ 1000)⟩⟩
      · rintro σ H2 ⟨sg, rfl, R2, T2, O2, G2⟩
        refine ⟨8, rfl, by decide, by decide, for_range (n := 8) (fun _ σ H' => ∃ x4 x5 x6 x7 x8 x9 x10 : Option V, σ = [some (.ref a), some (.ref r), some (.ref o), some (.ref sg), x4, x5, x6, x7, x8, x9, x10] ∧ RngOk H' r ∧ LamX.Tabs [(Pt, lamQ)] H' ∧ Kept H' o 110 ∧ Kept H' sg 2) ⟨_, _, _, _, _, _, _, rfl, R2, T2, O2, G2⟩ ?_ ?_⟩
        · rintro i σ H3 hi ⟨x4, x5, x6, x7, x8, x9, x10, rfl, R3, T3, O3, G3⟩
          refine ⟨.ref r, rfl, r, rfl, R3, fun n d p H4 lw hn hd k4 R4 np hp => ?_⟩
          have T4 := tabs_keep T3 R3 k4
          have O4 := O3.keep R3 k4
          have G4 := G3.keep R3 k4
          have en : Str.ofString (toString n) = S (numT n) := num_T n
          have ed : Str.ofString (toString d) = S (numT d) := num_T d
          have e0 : Str.ofString "" = S [] := by decide +kernel
          have es : Str.ofString "/" = S [47] := by decide +kernel
          have ln := num_len hn
          have ld := num_len (n := d) (by omega)
          have lg : ∀ z : Int, z.natAbs ≤ 1000 → z.natAbs.log2 < 1920 := fun z hz => by
            have := log2_lt (n := z.natAbs) (k := 10) (by omega) (by decide)
            omega
          refine ⟨fun σ H' => ∃ (l : List Nat) (y4 y5 y7 y8 y9 y10 : Option V), σ = [some (.ref a), some (.ref r), some (.ref o), some (.ref sg), y4, y5, some (.str (S l)), y7, y8, y9, y10] ∧ l.length ≤ 20 ∧ H4 = H', ?_, ?_⟩
          · refine ⟨.ref p, rfl, p, _, 0, _, rfl, rfl, .inl (.inl hp), atI_nat (j := 0) rfl, n, rfl, lg n hn, .ref p, rfl, p, _, 1, _, rfl, rfl, .inl (.inl hp), atI_nat (j := 1) rfl, rfl, _, rfl, ite2 (fun e => ?_) (fun e => ?_)⟩
            · refine ⟨.ref p, rfl, p, _, 1, _, rfl, rfl, .inl (.inl hp), atI_nat (j := 1) rfl, d, rfl, lg d (by omega), _, _, rfl, rfl, ?_, _, _, rfl, rfl, ?_, ?_⟩
              · rw [es, ed, S_len, S_len, sizeLine_eq]
                show 1 + _ ≤ _
                omega
              · show (Str.ofString (toString n)).length + (Str.ofString "/" ++ Str.ofString (toString d)).length ≤ sizeLine
                rw [es, ed, en, S_cat, S_len, S_len, sizeLine_eq, List.length_append]
                show _ + (1 + _) ≤ _
                omega
              · refine ⟨numT n ++ ([47] ++ numT d), some (.int (0 + (i : Int))), some (.ref p), x7, x8, x9, x10, ?_, ?_, rfl⟩
                · rw [← S_cat, ← S_cat, ← en, ← ed, ← es]
                  rfl
                · rw [List.length_append, List.length_append]
                  show _ + (1 + _) ≤ _
                  omega
            · refine ⟨_, _, rfl, rfl, ?_, ?_⟩
              · rw [en, e0, S_len, S_len, sizeLine_eq]
                show _ + 0 ≤ _
                omega
              · refine ⟨numT n ++ [], some (.int (0 + (i : Int))), some (.ref p), x7, x8, x9, x10, ?_, ?_, rfl⟩
                · rw [← S_cat, ← en, ← e0]
                  rfl
                · rw [List.append_nil]
                  omega
          · rintro σ H' ⟨l, y4, y5, y7, y8, y9, y10, rfl, ll, rfl⟩
            obtain ⟨xs, g1, g2, g3, g4⟩ := G4
            refine ⟨.ref r, rfl, .str (S l), rfl, .ref sg, rfl, r, sg, l, xs, rfl, R4, g1, g2, g3, g4, by omega, fun l1 H5 hl1 k5 R5 => ?_⟩
            have T5 := tabs_keep T4 R4 k5
            have O5 := O4.keep R4 k5
            have G5 : Kept H5 sg 2 := Kept.keep ⟨xs, g1, g2, g3, g4⟩ R4 k5
            obtain ⟨ys, o1', o2', o3', o4'⟩ := O5
            refine ⟨.ref r, rfl, .ref o, rfl, r, o, ys, rfl, R5, .inl (.inl o1'), rng_ne_strs R5 o1' o2', o3', o4', fun v j H6 hv R6 b6 => ?_⟩
            obtain ⟨l2, rfl, hl2⟩ := o2' v (List.mem_of_getElem? hv)
            have T6 := tabs_but T5 R5 b6
            have O6 : Kept H6 o 110 := Kept.keep ⟨ys, o1', o2', o3', o4'⟩ R5 (.but b6)
            have G6 := G5.keep R5 (.but b6)
            refine ⟨lineN (by decide : 2 ≤ 1000), fun ts n7 => ?_⟩
            have h7 : upd H6 ts (.lst [.str (S l1), .str (S l2)]) ts = some (.lst [.str (S l1), .str (S l2)]) := upd_same
            have s7 := upd_new (o := .lst [.str (S l1), .str (S l2)]) n7
            have R7 := R6.same s7
            have T7 := tabs_same T6 s7
            have O7 := O6.same s7
            have G7 := G6.same s7
            refine ⟨.ref ts, rfl, ts, rfl, ⟨_, .inl (.inl h7)⟩, for_list (xs := [.str (S l1), .str (S l2)]) (fun _ σ H' => ∃ z4 z5 z6 z8 z9 z10 : Option V, σ = [some (.ref a), some (.ref r), some (.ref o), some (.ref sg), z4, z5, z6, some (.ref ts), z8, z9, z10] ∧ H' ts = some (.lst [.str (S l1), .str (S l2)]) ∧ RngOk H' r ∧ LamX.Tabs [(Pt, lamQ)] H' ∧ Kept H' o 110 ∧ Kept H' sg 2) ⟨_, _, _, _, _, _, rfl, h7, R7, T7, O7, G7⟩ ?_ ?_ ?_⟩
            · rintro i σ H' _ ⟨_, _, _, _, _, _, rfl, h, _⟩
              exact .inl (.inl h)
            · rintro i x σ H8 hx ⟨z4, z5, z6, z8, z9, z10, rfl, h8, R8, T8, O8, G8⟩
              obtain ⟨t, rfl, ht⟩ : ∃ t, x = .str (S t) ∧ t.length ≤ 1000 := by
                match i, hx with
                | 0, hx => exact ⟨l1, (Option.some.inj hx).symm, by omega⟩
                | 1, hx => exact ⟨l2, (Option.some.inj hx).symm, by omega⟩
                | _ + 2, hx => simp at hx
              refine ⟨.str (S t), rfl, t, rfl, ht, fun dv H9 s9 hdv => ?_⟩
              have keep : ∀ {H'}, Same H9 H' → H' ts = some (.lst [.str (S l1), .str (S l2)]) ∧ RngOk H' r ∧ LamX.Tabs [(Pt, lamQ)] H' ∧ Kept H' o 110 ∧ Kept H' sg 2 := fun s => ⟨(s9.trans s) _ _ h8, R8.same (s9.trans s), tabs_same T8 (s9.trans s), O8.same (s9.trans s), G8.same (s9.trans s)⟩
              obtain ⟨h9, R9, T9, O9, G9⟩ := keep (Same.refl H9)
              refine ⟨T9, fun H10 e10 T10 => ?_⟩
              have h10 := e10 _ _ h9 (fun ps z => by cases z)
              have R10 := rng_ext R9 e10
              have O10 := O9.ext e10
              have G10 := G9.ext e10
              refine ⟨.str (S t), rfl, t, rfl, by omega, fun hy H11 pr s11 hpr => ?_, fun hn H11 s11 x nx => ?_⟩
              · rw [due_yes hy] at hdv
                obtain ⟨pd, rfl, hpd⟩ := hdv
                have hpd10 := e10 _ _ hpd (fun ps z => by cases z)
                refine ⟨lineN (by decide : 2 ≤ 1000), fun p2 np2 => ?_⟩
                have s12 := upd_new (o := .tup [.str "value", .ref pr]) np2
                refine ⟨.ref p2, rfl, .ref pd, rfl, rfl, _, rfl, iteF ?_⟩
                refine ⟨.ref pd, rfl, lineN (by decide : 2 ≤ 1000), fun p3 np3 => ?_⟩
                have s13 := upd_new (o := .tup [.str "value", .ref pd]) np3
                have a1 : At K (upd (upd H11 p2 (.tup [.str "value", .ref pr])) p3 (.tup [.str "value", .ref pd])) (.ref pr) (.tup [.int (rdS t), .int (lowD (rdN t) (rdD t))]) := .tup ((s12.trans s13) _ _ hpr) (by decide : 2 ≤ 100000) (.cons (.int _) (.cons (.int _) .nil))
                have a2 : At K (upd (upd H11 p2 (.tup [.str "value", .ref pr])) p3 (.tup [.str "value", .ref pd])) (.ref pd) (.tup [.int (rdS t), .int (lowD (rdN t) (rdD t))]) := .tup (((s11.trans s12).trans s13) _ _ hpd10) (by decide : 2 ≤ 100000) (.cons (.int _) (.cons (.int _) .nil))
                refine ⟨.ref p2, .ref p3, .tup [.str "value", .tup [.int (rdS t), .int (lowD (rdN t) (rdD t))]], .tup [.str "value", .tup [.int (rdS t), .int (lowD (rdN t) (rdD t))]], rfl, .tup (s13 _ _ upd_same) (by decide : 2 ≤ 100000) (.cons (.str _) (.cons a1 .nil)), .tup upd_same (by decide : 2 ≤ 100000) (.cons (.str _) (.cons a2 .nil)), by simp [Dat.deep, Dat.deep.deeps], fun b H14 hb s14 => ?_⟩
                obtain rfl : b = true := hb.mpr rfl
                have sA := ((s11.trans s12).trans s13).trans s14
                exact ⟨_, rfl, iteF ⟨_, _, _, _, _, _, rfl, sA _ _ h10, R10.same sA, tabs_same T10 sA, O10.same sA, G10.same sA⟩⟩
              · rw [due_no hn] at hdv
                have hdv : dv = .non := hdv
                subst hdv
                refine ⟨C, x, _, "InvalidNumber", .non, rfl, rfl, upd_same, T.xC, T.cC, rfl, by decide +kernel, fun H12 p2 s12 np2 => ?_⟩
                have s13 := upd_new (o := .tup [.str "InvalidNumber", .non]) np2
                refine ⟨.ref p2, rfl, .non, rfl, rfl, _, rfl, iteT ?_⟩
                refine ⟨lineN (by decide : 2 ≤ 1000), fun p3 np3 => ?_⟩
                have s14 := upd_new (o := .tup [.str "InvalidNumber", .non]) np3
                refine ⟨.ref p2, .ref p3, .tup [.str "InvalidNumber", .non], .tup [.str "InvalidNumber", .non], rfl, .tup (s14 _ _ upd_same) (by decide : 2 ≤ 100000) (.cons (.str _) (.cons .non .nil)), .tup upd_same (by decide : 2 ≤ 100000) (.cons (.str _) (.cons .non .nil)), by simp [Dat.deep, Dat.deep.deeps], fun b H15 hb s15 => ?_⟩
                obtain rfl : b = true := hb.mpr rfl
                have sA := ((((s11.trans (upd_new nx)).trans s12).trans s13).trans s14).trans s15
                exact ⟨_, rfl, iteF ⟨_, _, _, _, _, _, rfl, sA _ _ h10, R10.same sA, tabs_same T10 sA, O10.same sA, G10.same sA⟩⟩
            · rintro σ H' ⟨z4, z5, z6, z8, z9, z10, rfl, _, R8, T8, O8, G8⟩
              exact ⟨_, _, _, _, _, _, _, rfl, R8, T8, O8, G8⟩
        · rintro σ H' ⟨x4, x5, x6, x7, x8, x9, x10, rfl, _⟩
          exact q _
    obtain ⟨t, h1, h2⟩ := PT
    exact ⟨t, h1.nox, h2⟩
end
end RB

set_option Elab.async false
set_option linter.all false
set_option maxRecDepth 100000
set_option maxHeartbeats 4000000
namespace RB
open PySem PySem.Spec PyProof.Rows L2
theorem all_mk {l : PySem.W.OpenLaw} {w : World} {K : PySem.W.Frag} {h : Heap} {mg : Str → Option Value} {fa0 Pt : Addr} (X : K.In h) (G : h.Ns mainGlobals mg) (hfa : mg "law" = some (.ref fa0))
    {f1 f2 f3 f4 f5 f6 f7 f8 f9 f10 f11 f12 f13 f14 f15 f16 f17 f18 f19 f20 fa B C M fB fC cL T0 : Addr}
    {od1 an1 od2 an2 od3 an3 od4 an4 od5 an5 od6 an6 od7 an7 od8 an8 od9 an9 od10 an10 od11 an11 od12 an12 od13 an13 od14 an14 od15 an15 od16 an16 od17 an17 od18 an18 od19 an19 od20 an20 odL anL odB anB odC anC : Option Addr} {sl1 sl2 sl3 sl4 sl5 sl6 sl7 sl8 sl9 sl10 sl11 sl12 sl13 sl14 sl15 sl16 sl17 sl18 sl19 sl20 slL slB slC : Array (Option Value)} {oc1 kV1 dc1 pm1 cd1 ct1 oc2 kV2 dc2 pm2 cd2 ct2 oc3 kV3 dc3 pm3 cd3 ct3 oc4 kV4 dc4 pm4 cd4 ct4 oc5 kV5 dc5 pm5 cd5 ct5 oc6 kV6 dc6 pm6 cd6 ct6 oc7 kV7 dc7 pm7 cd7 ct7 oc8 kV8 dc8 pm8 cd8 ct8 oc9 kV9 dc9 pm9 cd9 ct9 oc10 kV10 dc10 pm10 cd10 ct10 oc11 kV11 dc11 pm11 cd11 ct11 oc12 kV12 dc12 pm12 cd12 ct12 oc13 kV13 dc13 pm13 cd13 ct13 oc14 kV14 dc14 pm14 cd14 ct14 oc15 kV15 dc15 pm15 cd15 ct15 oc16 kV16 dc16 pm16 cd16 ct16 oc17 kV17 dc17 pm17 cd17 ct17 oc18 kV18 dc18 pm18 cd18 ct18 oc19 kV19 dc19 pm19 cd19 ct19 oc20 kV20 dc20 pm20 cd20 ct20 ocL kVL dcL pmL ctL ocB kVB dcB pmB cdB ctB ocC kVC dcC pmC cdC ctC zB : Value}
    {nm q : Str} {N : Addr} {bs bm : List Value} {sn : List Str} {sub : List Value} {ab : Bool} {col : Option Bool} {dd : Option Addr} {m0 m1 m2 m3 m5 : Option Value} {oT : Obj} {nT : Nat}
    {tM tF tP tQ : Tok}
    (a1 : PySem.W.nsIn K mainGlobals "shared_factor" = some (some (.ref f1)))
    (l1 : K.lookup f1 = some ⟨oc1, od1, .func (PySem.W.fnOf "shared_factor" "shared_factor" (defArgs sShared) (defBody sShared) (defScope sShared) .none kV1 dc1 pm1 an1 cd1 ct1), sl1⟩)
    (c1 : PySem.W.codeIn K cd1 "shared_factor" = true)
    (k1 : PySem.W.keepIn K (.ref f1) = true)
    (a2 : PySem.W.nsIn K mainGlobals "lowest" = some (some (.ref f2)))
    (l2 : K.lookup f2 = some ⟨oc2, od2, .func (PySem.W.fnOf "lowest" "lowest" (defArgs sLowest) (defBody sLowest) (defScope sLowest) .none kV2 dc2 pm2 an2 cd2 ct2), sl2⟩)
    (c2 : PySem.W.codeIn K cd2 "lowest" = true)
    (k2 : PySem.W.keepIn K (.ref f2) = true)
    (a3 : PySem.W.nsIn K mainGlobals "as_pair" = some (some (.ref f3)))
    (l3 : K.lookup f3 = some ⟨oc3, od3, .func (PySem.W.fnOf "as_pair" "as_pair" (defArgs s_as_pair) (defBody s_as_pair) (defScope s_as_pair) .none kV3 dc3 pm3 an3 cd3 ct3), sl3⟩)
    (c3 : PySem.W.codeIn K cd3 "as_pair" = true)
    (k3 : PySem.W.keepIn K (.ref f3) = true)
    (a4 : PySem.W.nsIn K mainGlobals "rational" = some (some (.ref f4)))
    (l4 : K.lookup f4 = some ⟨oc4, od4, .func (PySem.W.fnOf "rational" "rational" (defArgs s_rational) (defBody s_rational) (defScope s_rational) .none kV4 dc4 pm4 an4 cd4 ct4), sl4⟩)
    (c4 : PySem.W.codeIn K cd4 "rational" = true)
    (k4 : PySem.W.keepIn K (.ref f4) = true)
    (a5 : PySem.W.nsIn K mainGlobals "whole_text" = some (some (.ref f5)))
    (l5 : K.lookup f5 = some ⟨oc5, od5, .func (PySem.W.fnOf "whole_text" "whole_text" (defArgs s_whole_text) (defBody s_whole_text) (defScope s_whole_text) .none kV5 dc5 pm5 an5 cd5 ct5), sl5⟩)
    (c5 : PySem.W.codeIn K cd5 "whole_text" = true)
    (k5 : PySem.W.keepIn K (.ref f5) = true)
    (a6 : PySem.W.nsIn K mainGlobals "number_text" = some (some (.ref f6)))
    (l6 : K.lookup f6 = some ⟨oc6, od6, .func (PySem.W.fnOf "number_text" "number_text" (defArgs s_number_text) (defBody s_number_text) (defScope s_number_text) .none kV6 dc6 pm6 an6 cd6 ct6), sl6⟩)
    (c6 : PySem.W.codeIn K cd6 "number_text" = true)
    (k6 : PySem.W.keepIn K (.ref f6) = true)
    (a7 : PySem.W.nsIn K mainGlobals "is_numeral" = some (some (.ref f7)))
    (l7 : K.lookup f7 = some ⟨oc7, od7, .func (PySem.W.fnOf "is_numeral" "is_numeral" (defArgs s_is_numeral) (defBody s_is_numeral) (defScope s_is_numeral) .none kV7 dc7 pm7 an7 cd7 ct7), sl7⟩)
    (c7 : PySem.W.codeIn K cd7 "is_numeral" = true)
    (k7 : PySem.W.keepIn K (.ref f7) = true)
    (a8 : PySem.W.nsIn K mainGlobals "parse_number" = some (some (.ref f8)))
    (l8 : K.lookup f8 = some ⟨oc8, od8, .func (PySem.W.fnOf "parse_number" "parse_number" (defArgs s_parse_number) (defBody s_parse_number) (defScope s_parse_number) .none kV8 dc8 pm8 an8 cd8 ct8), sl8⟩)
    (c8 : PySem.W.codeIn K cd8 "parse_number" = true)
    (k8 : PySem.W.keepIn K (.ref f8) = true)
    (a9 : PySem.W.nsIn K mainGlobals "_law_draws" = some (some (.ref f9)))
    (l9 : K.lookup f9 = some ⟨oc9, od9, .func (PySem.W.fnOf "_law_draws" "_law_draws" (defArgs sDraws) (defBody sDraws) (defScope sDraws) .none kV9 dc9 pm9 an9 cd9 ct9), sl9⟩)
    (c9 : PySem.W.codeIn K cd9 "_law_draws" = true)
    (k9 : PySem.W.keepIn K (.ref f9) = true)
    (a10 : PySem.W.nsIn K mainGlobals "_law_draw" = some (some (.ref f10)))
    (l10 : K.lookup f10 = some ⟨oc10, od10, .func (PySem.W.fnOf "_law_draw" "_law_draw" (defArgs sDraw) (defBody sDraw) (defScope sDraw) .none kV10 dc10 pm10 an10 cd10 ct10), sl10⟩)
    (c10 : PySem.W.codeIn K cd10 "_law_draw" = true)
    (k10 : PySem.W.keepIn K (.ref f10) = true)
    (a11 : PySem.W.nsIn K mainGlobals "_law_pick" = some (some (.ref f11)))
    (l11 : K.lookup f11 = some ⟨oc11, od11, .func (PySem.W.fnOf "_law_pick" "_law_pick" (defArgs sPick) (defBody sPick) (defScope sPick) .none kV11 dc11 pm11 an11 cd11 ct11), sl11⟩)
    (c11 : PySem.W.codeIn K cd11 "_law_pick" = true)
    (k11 : PySem.W.keepIn K (.ref f11) = true)
    (a12 : PySem.W.nsIn K mainGlobals "_law_same" = some (some (.ref f12)))
    (l12 : K.lookup f12 = some ⟨oc12, od12, .func (PySem.W.fnOf "_law_same" "_law_same" (defArgs sSame) (defBody sSame) (defScope sSame) .none kV12 dc12 pm12 an12 cd12 ct12), sl12⟩)
    (c12 : PySem.W.codeIn K cd12 "_law_same" = true)
    (k12 : PySem.W.keepIn K (.ref f12) = true)
    (a13 : PySem.W.nsIn K mainGlobals "_law_field" = some (some (.ref f13)))
    (l13 : K.lookup f13 = some ⟨oc13, od13, .func (PySem.W.fnOf "_law_field" "_law_field" (defArgs sField) (defBody sField) (defScope sField) .none kV13 dc13 pm13 an13 cd13 ct13), sl13⟩)
    (c13 : PySem.W.codeIn K cd13 "_law_field" = true)
    (k13 : PySem.W.keepIn K (.ref f13) = true)
    (a14 : PySem.W.nsIn K mainGlobals "_law_try" = some (some (.ref f14)))
    (l14 : K.lookup f14 = some ⟨oc14, od14, .func (PySem.W.fnOf "_law_try" "_law_try" (defArgs sTry) (defBody sTry) (defScope sTry) .none kV14 dc14 pm14 an14 cd14 ct14), sl14⟩)
    (c14 : PySem.W.codeIn K cd14 "_law_try" = true)
    (k14 : PySem.W.keepIn K (.ref f14) = true)
    (a15 : PySem.W.nsIn K mainGlobals "_law_gcd" = some (some (.ref f15)))
    (l15 : K.lookup f15 = some ⟨oc15, od15, .func (PySem.W.fnOf "_law_gcd" "_law_gcd" (defArgs sGcd) (defBody sGcd) (defScope sGcd) .none kV15 dc15 pm15 an15 cd15 ct15), sl15⟩)
    (c15 : PySem.W.codeIn K cd15 "_law_gcd" = true)
    (k15 : PySem.W.keepIn K (.ref f15) = true)
    (a16 : PySem.W.nsIn K mainGlobals "_law_low" = some (some (.ref f16)))
    (l16 : K.lookup f16 = some ⟨oc16, od16, .func (PySem.W.fnOf "_law_low" "_law_low" (defArgs sLow) (defBody sLow) (defScope sLow) .none kV16 dc16 pm16 an16 cd16 ct16), sl16⟩)
    (c16 : PySem.W.codeIn K cd16 "_law_low" = true)
    (k16 : PySem.W.keepIn K (.ref f16) = true)
    (a17 : PySem.W.nsIn K mainGlobals "_law_value" = some (some (.ref f17)))
    (l17 : K.lookup f17 = some ⟨oc17, od17, .func (PySem.W.fnOf "_law_value" "_law_value" (defArgs s_law_value) (defBody s_law_value) (defScope s_law_value) .none kV17 dc17 pm17 an17 cd17 ct17), sl17⟩)
    (c17 : PySem.W.codeIn K cd17 "_law_value" = true)
    (k17 : PySem.W.keepIn K (.ref f17) = true)
    (a18 : PySem.W.nsIn K mainGlobals "_law_bent_text" = some (some (.ref f18)))
    (l18 : K.lookup f18 = some ⟨oc18, od18, .func (PySem.W.fnOf "_law_bent_text" "_law_bent_text" (defArgs s_law_bent_text) (defBody s_law_bent_text) (defScope s_law_bent_text) .none kV18 dc18 pm18 an18 cd18 ct18), sl18⟩)
    (c18 : PySem.W.codeIn K cd18 "_law_bent_text" = true)
    (k18 : PySem.W.keepIn K (.ref f18) = true)
    (a19 : PySem.W.nsIn K mainGlobals "_law_digits" = some (some (.ref f19)))
    (l19 : K.lookup f19 = some ⟨oc19, od19, .func (PySem.W.fnOf "_law_digits" "_law_digits" (defArgs s_law_digits) (defBody s_law_digits) (defScope s_law_digits) .none kV19 dc19 pm19 an19 cd19 ct19), sl19⟩)
    (c19 : PySem.W.codeIn K cd19 "_law_digits" = true)
    (k19 : PySem.W.keepIn K (.ref f19) = true)
    (a20 : PySem.W.nsIn K mainGlobals "_law_number_of" = some (some (.ref f20)))
    (l20 : K.lookup f20 = some ⟨oc20, od20, .func (PySem.W.fnOf "_law_number_of" "_law_number_of" (defArgs s_law_number_of) (defBody s_law_number_of) (defScope s_law_number_of) .none kV20 dc20 pm20 an20 cd20 ct20), sl20⟩)
    (c20 : PySem.W.codeIn K cd20 "_law_number_of" = true)
    (k20 : PySem.W.keepIn K (.ref f20) = true)
    (aL : PySem.W.nsIn K mainGlobals "law" = some (some (.ref fa)))
    (lL : K.lookup fa = some ⟨ocL, odL, .func (PySem.W.fnOf "law" "law" (defArgs sLaw) (defBody sLaw) (defScope sLaw) .none kVL dcL pmL anL (.ref cL) ctL), slL⟩)
    (cdL : PySem.W.codeIn K (.ref cL) "law" = true)
    (z_abs : PySem.W.nsIn K mainGlobals "abs" = some none)
    (z_all : PySem.W.nsIn K mainGlobals "all" = some none)
    (z_bool : PySem.W.nsIn K mainGlobals "bool" = some none)
    (z_divmod : PySem.W.nsIn K mainGlobals "divmod" = some none)
    (z_int : PySem.W.nsIn K mainGlobals "int" = some none)
    (z_isinstance : PySem.W.nsIn K mainGlobals "isinstance" = some none)
    (z_len : PySem.W.nsIn K mainGlobals "len" = some none)
    (z_list : PySem.W.nsIn K mainGlobals "list" = some none)
    (z_range : PySem.W.nsIn K mainGlobals "range" = some none)
    (z_str : PySem.W.nsIn K mainGlobals "str" = some none)
    (z_tuple : PySem.W.nsIn K mainGlobals "tuple" = some none)
    (z_zip : PySem.W.nsIn K mainGlobals "zip" = some none)
    (aB : PySem.W.nsIn K mainGlobals "BagError" = some (some (.ref B)))
    (aC : PySem.W.nsIn K mainGlobals "InvalidNumber" = some (some (.ref C)))
    (aM : PySem.W.nsIn K mainGlobals "Missing" = some (some (.ref M)))
    (xC : K.lookup C = some (excClassObj nm q C N bs bm true sn sub ab col dd m0 m1 m2 m3 m5 "ValueError.__new__"))
    (sa : PySem.W.findIn K (.ref C) "__setattr__" = some (some (.builtin "object.__setattr__")))
    (nb : PySem.W.findIn K (.ref C) "code" = some none)
    (iC : PySem.W.findIn K (.ref C) "__init__" = some (some (.ref fC)))
    (tC : PySem.W.typeIn K (.ref fC) = some (.type "function"))
    (lC : K.lookup fC = some ⟨ocC, odC, .func (PySem.W.fnOf "__init__" "InvalidNumber.__init__" (defArgs sInvInit) (defBody sInvInit) (defScope sInvInit) .none kVC dcC pmC anC cdC ctC), slC⟩)
    (cC : PySem.W.codeIn K cdC "InvalidNumber.__init__" = true)
    (kfC : PySem.W.keepIn K (.ref fC) = true)
    (iB : PySem.W.findCls K (.ref B) (.type "type") "__init__" = some (.val (.ref fB)))
    (lB : K.lookup fB = some ⟨ocB, odB, .func (PySem.W.fnOf "__init__" "BagError.__init__" (defArgs sBagInit) (defBody sBagInit) (defScope sBagInit) (.ref T0) kVB dcB pmB anB cdB ctB), slB⟩)
    (cB : PySem.W.codeIn K cdB "BagError.__init__" = true)
    (rB : PySem.W.readsIn K B (.type "type") = true)
    (gB : PySem.W.specialIn K (.ref B) "__getattribute__" = some (some (.builtin "type.__getattribute__")))
    (kB : PySem.W.keepIn K (.ref fB) = true)
    (lT : K.lookup T0 = some oT)
    (kC : PySem.W.keepIn K (.ref C) = true)
    (eC : PySem.W.subIn K (.ref C) (.type "BaseException") = some true)
    (tyC : PySem.W.typeIn K (.ref C) = some (.type "type"))
    (eB : PySem.W.subIn K (.ref B) (.type "BaseException") = some true)
    (cxB : PySem.W.isClsIn K B = true)
    (tyB : PySem.W.typeIn K (.ref B) = some (.type "type"))
    (sB : PySem.W.subIn K (.ref C) (.ref B) = some true)
    (oM : PySem.W.nsIn K mainGlobals "MAX_FIGURES" = some (some (.int 100 tM)))
    (oF : PySem.W.nsIn K mainGlobals "FIGURES" = some (some (.str "0123456789" tF)))
    (oP : PySem.W.nsIn K mainGlobals "PART_FIGURES" = some (some (.int 64 tP)))
    (oQ : PySem.W.nsIn K mainGlobals "PART" = some (some (.int 10000000000000000000000000000000000000000000000000000000000000000 tQ)))
    (hbm : PySem.HandSPX.refsVE bm = true)
    (oTd : oT.data = .seq #[zB] nT)
    (xe : xerrB K C = true)
    (hT : h.get? Pt = some { cls := .none, data := .fields #[] })
    (nT0 : K.lookup Pt = none)
    (cH : PySem.W.CodeHd h cL Pt) :
    LamX.LawAtS l w K CX0 10 63 "_law_script" mg fa0 h := by
  have e := hfa.symm.trans (PySem.W.mg_of X G aL)
  cases e
  have F1 := fun_mk (st := sShared) l1 c1 k1
  have b1 := F1.binds (ps := ["one", "other"]) fun _ _ _ _ _ _ us hl => match us, hl with | [_, _], _ => rfl
  have g1 := PySem.W.mg_of X G a1
  have F2 := fun_mk (st := sLowest) l2 c2 k2
  have b2 := F2.binds (ps := ["numerator", "denominator"]) fun _ _ _ _ _ _ us hl => match us, hl with | [_, _], _ => rfl
  have g2 := PySem.W.mg_of X G a2
  have F3 := fun_mk (st := s_as_pair) l3 c3 k3
  have b3 := F3.binds (ps := ["value"]) fun _ _ _ _ _ _ us hl => match us, hl with | [_], _ => rfl
  have g3 := PySem.W.mg_of X G a3
  have F4 := fun_mk (st := s_rational) l4 c4 k4
  have b4 := F4.binds (ps := ["value"]) fun _ _ _ _ _ _ us hl => match us, hl with | [_], _ => rfl
  have g4 := PySem.W.mg_of X G a4
  have F5 := fun_mk (st := s_whole_text) l5 c5 k5
  have b5 := F5.binds (ps := ["number"]) fun _ _ _ _ _ _ us hl => match us, hl with | [_], _ => rfl
  have g5 := PySem.W.mg_of X G a5
  have F6 := fun_mk (st := s_number_text) l6 c6 k6
  have b6 := F6.binds (ps := ["value"]) fun _ _ _ _ _ _ us hl => match us, hl with | [_], _ => rfl
  have g6 := PySem.W.mg_of X G a6
  have F7 := fun_mk (st := s_is_numeral) l7 c7 k7
  have b7 := F7.binds (ps := ["text"]) fun _ _ _ _ _ _ us hl => match us, hl with | [_], _ => rfl
  have g7 := PySem.W.mg_of X G a7
  have F8 := fun_mk (st := s_parse_number) l8 c8 k8
  have b8 := F8.binds (ps := ["text"]) fun _ _ _ _ _ _ us hl => match us, hl with | [_], _ => rfl
  have g8 := PySem.W.mg_of X G a8
  have F9 := fun_mk (st := sDraws) l9 c9 k9
  have b9 := F9.binds (ps := ["_law_script"]) fun _ _ _ _ _ _ us hl => match us, hl with | [_], _ => rfl
  have g9 := PySem.W.mg_of X G a9
  have F10 := fun_mk (st := sDraw) l10 c10 k10
  have b10 := F10.binds (ps := ["_law_rng", "_law_amount"]) fun _ _ _ _ _ _ us hl => match us, hl with | [_, _], _ => rfl
  have g10 := PySem.W.mg_of X G a10
  have F11 := fun_mk (st := sPick) l11 c11 k11
  have b11 := F11.binds (ps := ["_law_rng", "_law_things"]) fun _ _ _ _ _ _ us hl => match us, hl with | [_, _], _ => rfl
  have g11 := PySem.W.mg_of X G a11
  have F12 := fun_mk (st := sSame) l12 c12 k12
  have b12 := F12.binds (ps := ["_law_result", "_law_expected"]) fun _ _ _ _ _ _ us hl => match us, hl with | [_, _], _ => rfl
  have g12 := PySem.W.mg_of X G a12
  have F13 := fun_mk (st := sField) l13 c13 k13
  have b13 := F13.binds (ps := ["_law_e"]) fun _ _ _ _ _ _ us hl => match us, hl with | [_], _ => rfl
  have g13 := PySem.W.mg_of X G a13
  have F14 := fun_mk (st := sTry) l14 c14 k14
  have b14 := F14.binds (ps := ["_law_ask"]) fun _ _ _ _ _ _ us hl => match us, hl with | [_], _ => rfl
  have g14 := PySem.W.mg_of X G a14
  have F15 := fun_mk (st := sGcd) l15 c15 k15
  have b15 := F15.binds (ps := ["_law_one", "_law_other"]) fun _ _ _ _ _ _ us hl => match us, hl with | [_, _], _ => rfl
  have g15 := PySem.W.mg_of X G a15
  have F16 := fun_mk (st := sLow) l16 c16 k16
  have b16 := F16.binds (ps := ["_law_top", "_law_bottom"]) fun _ _ _ _ _ _ us hl => match us, hl with | [_, _], _ => rfl
  have g16 := PySem.W.mg_of X G a16
  have F17 := fun_mk (st := s_law_value) l17 c17 k17
  have b17 := F17.binds (ps := ["_law_rng"]) fun _ _ _ _ _ _ us hl => match us, hl with | [_], _ => rfl
  have g17 := PySem.W.mg_of X G a17
  have F18 := fun_mk (st := s_law_bent_text) l18 c18 k18
  have b18 := F18.binds (ps := ["_law_rng", "_law_text", "_law_signs"]) fun _ _ _ _ _ _ us hl => match us, hl with | [_, _, _], _ => rfl
  have g18 := PySem.W.mg_of X G a18
  have F19 := fun_mk (st := s_law_digits) l19 c19 k19
  have b19 := F19.binds (ps := ["_law_text"]) fun _ _ _ _ _ _ us hl => match us, hl with | [_], _ => rfl
  have g19 := PySem.W.mg_of X G a19
  have F20 := fun_mk (st := s_law_number_of) l20 c20 k20
  have b20 := F20.binds (ps := ["_law_text"]) fun _ _ _ _ _ _ us hl => match us, hl with | [_], _ => rfl
  have g20 := PySem.W.mg_of X G a20
  have m_abs := PySem.W.mg_none_of X G z_abs
  have m_all := PySem.W.mg_none_of X G z_all
  have m_bool := PySem.W.mg_none_of X G z_bool
  have m_divmod := PySem.W.mg_none_of X G z_divmod
  have m_int := PySem.W.mg_none_of X G z_int
  have m_isinstance := PySem.W.mg_none_of X G z_isinstance
  have m_len := PySem.W.mg_none_of X G z_len
  have m_list := PySem.W.mg_none_of X G z_list
  have m_range := PySem.W.mg_none_of X G z_range
  have m_str := PySem.W.mg_none_of X G z_str
  have m_tuple := PySem.W.mg_none_of X G z_tuple
  have m_zip := PySem.W.mg_none_of X G z_zip
  have oex : OexC K C := ⟨⟨nm, q, N, bs, bm, sn, sub, ab, col, dd, m0, m1, m2, m3, m5, xC, hbm⟩, sa, eC, tyC, kC⟩
  have FC := fun_mk (st := sInvInit) lC cC kfC
  have bC := FC.binds (ps := ["self"]) fun _ _ _ _ _ _ us hl => match us, hl with | [_], _ => rfl
  have TI : TInv K mg B C fB fC (PySem.W.fnOf "__init__" "BagError.__init__" (defArgs sBagInit) (defBody sBagInit) (defScope sBagInit) (.ref T0) kVB dcB pmB anB cdB ctB) _ := ⟨oex, PySem.W.mg_of X G aC, PySem.W.mg_of X G aB, nb, iC, tC, ⟨rB, gB⟩, iB, kB, binds_bag lT oTd, FC, bC⟩
  have TC : TConst mg := ⟨⟨tM, PySem.W.mg_of X G oM⟩, ⟨tF, PySem.W.mg_of X G oF⟩, ⟨tP, PySem.W.mg_of X G oP⟩, ⟨tQ, PySem.W.mg_of X G oQ⟩⟩
  refine ⟨PySem.W.fnOf "law" "law" (defArgs sLaw) (defBody sLaw) (defScope sLaw) .none kVL dcL pmL anL (.ref cL) ctL, [(cL, Pt)], spLaw K Pt, fun p hp => ?_, fun p hp => ?_, fun p hp => ?_, fun s v => .of_eq rfl, fun H a ns hl _ hH hS => ⟨a, ns, rfl, hS, hl, hH _ List.mem_cons_self, fun _ => rfl⟩, fun base _ _ hTB => ?_⟩
  · rw [List.mem_singleton.mp hp]
    exact hT
  · rw [List.mem_singleton.mp hp]
    exact nT0
  · rw [List.mem_singleton.mp hp]
    exact cH
  · have E := err_inv (P := l.prog) (w := w) (base := base) TI (ok_bag lB cB)
    have Gsh : FnOk l.prog w K mg base CX0 1 f1 _ ["one", "other"] spGcd := ok_shared F1 m_abs
    have Ggc : FnOk l.prog w K mg base CX0 1 f15 _ ["_law_one", "_law_other"] spGcd := ok_gcd F15 m_abs
    have Gdr : FnOk l.prog w K mg base CX0 1 f10 _ ["_law_rng", "_law_amount"] spDraw := ok_draw F10 m_len
    have Gpi := ok_pick F11 m_len Gdr g10 k10 b10
    have Glo := ok_low F16 Ggc g15 k15 b15
    have S : TSame mg := ⟨m_isinstance, m_list, m_tuple, m_bool, m_int, m_str, m_len, m_all, m_zip⟩
    have Gle := ok_lowest (k := 0) F2 Gsh g1 k1 b1 E
    have Gap := ok_as_pair F3 m_isinstance m_int E
    have Gwh : FnOk l.prog w K mg base CX0 1 f5 _ ["number"] spWhole := ok_whole F5 m_abs m_divmod m_str TC
    have Gra := ok_ratl F4 Gap g3 k3 b3 Gle g2 k2 b2
    have Gnt := ok_ntext F6 Gra g4 k4 b4 Gwh g5 k5 b5
    have Gnu : FnOk l.prog w K mg base CX0 1 f7 _ ["text"] spNumeral := ok_numeral F7 m_len m_all TC
    have Gpa := ok_parse F8 m_int Gnu g7 k7 b7 Gle g2 k2 b2 Gnt g6 k6 b6 E
    have Gdi : FnOk l.prog w K mg base CX0 1 f19 _ ["_law_text"] spDigits := ok_digits F19 m_len m_all
    refine ok_law (B := B) (M := M) (C := C) lL cdL (hTB _ List.mem_cons_self) ⟨m_range, m_str, ok_draws F9 m_list, g9, k9, b9, Gpi, g11, k11, b11, ok_same F12 S g12 b12 3, g12, k12, b12, ok_value F17 Gdr g10 k10 b10 Glo g16 k16 b16, g17, k17, b17, ok_bent F18 m_len Gdr g10 k10 b10 Gpi g11 k11 b11, g18, k18, b18, ok_due F20 m_len m_all m_int Gdi g19 k19 b19 Ggc g15 k15 b15, g20, k20, b20, Gpa, g8, k8, b8,
      ok_field F13, g13, k13, b13, PySem.W.mg_of X G aB, PySem.W.mg_of X G aM, g14, k14, ⟨_, F14, b14⟩, xerr_by xe, ⟨true, exm_by eB cxB tyB sB, fun z => Bool.noConfusion z⟩⟩
end RB
open PySem PySem.W PyProof.Rows
set_option maxHeartbeats 0 in
theorem PySem.Challenge.cw_rootbags_k03_texts_that_are_no_numbers_holds : PySem.Challenge.rw_rootbags_k03_texts_that_are_no_numbers.Holds := by
  w_on; o_law; k_head; (case hw => w_witness2)
  k_fill
  refine LamX.walk_ofTs (l := PySem.Challenge.rw_rootbags_k03_texts_that_are_no_numbers) (n := 63) (k := 10) (x := "_law_script") (CX := fun _ => L2.CX0) rfl (by decide) rfl ⟨rfl, by decide, by decide⟩ (fun w h Y => PySem.W.km_in_of Y) ?F (fun _ _ _ _ _ h => h)
  case F =>
    intro w mg fa h Y KX G hmg
    have hT := km_tabs_of Y
    refine' RB.all_mk KX G hmg ?a1 ?l1 ?c1 ?k1 ?a2 ?l2 ?c2 ?k2 ?a3 ?l3 ?c3 ?k3 ?a4 ?l4 ?c4 ?k4 ?a5 ?l5 ?c5 ?k5 ?a6 ?l6 ?c6 ?k6 ?a7 ?l7 ?c7 ?k7 ?a8 ?l8 ?c8 ?k8 ?a9 ?l9 ?c9 ?k9 ?a10 ?l10 ?c10 ?k10 ?a11 ?l11 ?c11 ?k11 ?a12 ?l12 ?c12 ?k12 ?a13 ?l13 ?c13 ?k13 ?a14 ?l14 ?c14 ?k14 ?a15 ?l15 ?c15 ?k15 ?a16 ?l16 ?c16 ?k16 ?a17 ?l17 ?c17 ?k17 ?a18 ?l18 ?c18 ?k18 ?a19 ?l19 ?c19 ?k19 ?a20 ?l20 ?c20 ?k20 ?aL ?lL ?cdL ?z_abs ?z_all ?z_bool ?z_divmod ?z_int ?z_isinstance ?z_len ?z_list ?z_range ?z_str ?z_tuple ?z_zip ?aB ?aC ?aM ?xC ?sa ?nb ?iC ?tC ?lC ?cC ?kfC ?iB ?lB ?cB ?rB ?gB ?kB ?lT ?kC ?eC ?tyC ?eB ?cxB ?tyB ?sB ?oM ?oF ?oP ?oQ ?hbm ?oTd ?xe (hT _ List.mem_cons_self) ?nT0 (codeHd_of_K KX ?cH)
    (case a1 => k_is); (case l1 => k_is); (case c1 => k_is); (case k1 => k_is); (case a2 => k_is); (case l2 => k_is); (case c2 => k_is); (case k2 => k_is); (case a3 => k_is); (case l3 => k_is); (case c3 => k_is); (case k3 => k_is); (case a4 => k_is); (case l4 => k_is); (case c4 => k_is); (case k4 => k_is); (case a5 => k_is); (case l5 => k_is); (case c5 => k_is); (case k5 => k_is); (case a6 => k_is); (case l6 => k_is); (case c6 => k_is); (case k6 => k_is); (case a7 => k_is); (case l7 => k_is); (case c7 => k_is); (case k7 => k_is); (case a8 => k_is); (case l8 => k_is); (case c8 => k_is); (case k8 => k_is); (case a9 => k_is); (case l9 => k_is); (case c9 => k_is); (case k9 => k_is); (case a10 => k_is); (case l10 => k_is); (case c10 => k_is); (case k10 => k_is); (case a11 => k_is); (case l11 => k_is); (case c11 => k_is); (case k11 => k_is); (case a12 => k_is); (case l12 => k_is); (case c12 => k_is); (case k12 => k_is); (case a13 => k_is); (case l13 => k_is); (case c13 => k_is); (case k13 => k_is); (case a14 => k_is); (case l14 => k_is); (case c14 => k_is); (case k14 => k_is); (case a15 => k_is); (case l15 => k_is); (case c15 => k_is); (case k15 => k_is); (case a16 => k_is); (case l16 => k_is); (case c16 => k_is); (case k16 => k_is); (case a17 => k_is); (case l17 => k_is); (case c17 => k_is); (case k17 => k_is); (case a18 => k_is); (case l18 => k_is); (case c18 => k_is); (case k18 => k_is); (case a19 => k_is); (case l19 => k_is); (case c19 => k_is); (case k19 => k_is); (case a20 => k_is); (case l20 => k_is); (case c20 => k_is); (case k20 => k_is); (case aL => k_is); (case lL => k_is); (case cdL => k_is); (case z_abs => k_is); (case z_all => k_is); (case z_bool => k_is); (case z_divmod => k_is); (case z_int => k_is); (case z_isinstance => k_is); (case z_len => k_is); (case z_list => k_is); (case z_range => k_is); (case z_str => k_is); (case z_tuple => k_is); (case z_zip => k_is); (case aB => k_is); (case aC => k_is); (case aM => k_is); (case xC => k_is); (case sa => k_is); (case nb => k_is); (case iC => k_is); (case tC => k_is); (case lC => k_is); (case cC => k_is); (case kfC => k_is); (case iB => k_is); (case lB => k_is); (case cB => k_is); (case rB => k_is); (case gB => k_is); (case kB => k_is); (case lT => k_is); (case kC => k_is); (case eC => k_is); (case tyC => k_is); (case eB => k_is); (case cxB => k_is); (case tyB => k_is); (case sB => k_is); (case oM => k_is); (case oF => k_is); (case oP => k_is); (case oQ => k_is)
    (case hbm => decide +kernel); (case oTd => rfl); (case xe => kernel_rfl); (case nT0 => kernel_rfl); (case cH => kernel_rfl)

