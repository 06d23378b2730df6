import PyProof.Rows.All
import Wide.All
import OpenK.AllK
import Wide.FinOn
import HandS.ForMost
import HandS.ForExc
import HandS.IsInst
import HandS.Style
import HandS.Conv
import HandS.Wide
import HandS.Walk
import HandS.Defaults
import HandS.Codes
import PyProof.ReprRoads
import KE.KStateDown
import HandS.More
import HandS.Head0
import HandS.Head1
import HandS.Head2
import HandS.HeadEnd
import HandS.HeadHook1
import HandS.HeadHook2
import HandS.HeadHook3
import HandS.HeadHook4
import HandS.EndTab
import HandS.DictComp
import HandS.TupLen
import HandS.Deep
import HandS.Set
import HandS.SetFor
import HandS.Strs
import HandS.Iter
import PyProof.StrLawsRepr
import PySem.Challenge.RW_phrasedesk_k10_whole_judged
set_option Elab.async false
set_option linter.all false
set_option maxRecDepth 100000
set_option maxHeartbeats 0
/-! Phrasedesk, part 0: what every law needs over the hand layer: promises of defs that write data out as texts, a class without an __init__ of its own, rows and froms on the heap, chains. -/
namespace PD
open PySem PySem.Spec PyProof.Rows L2

/-! ### promises kept where nothing is being written out around -/
structure FnG (P : Program) (w : World) (K : PySem.W.Frag) (mg : Str → Option Value) (base : Heap) (lv : Nat) (f : Addr) (fd : FuncData) (ps : List Str) (sp : Sp) : Prop where
  many : ∀ xs G Q E, sp xs G Q E → xs.length = ps.length
  goes : ∀ (B : Around) (fr : List Env) (z : Shared) (G : Hp) (ar : Args) (us : List Value) (xs : List V) (Q : VK) (E : XK), B.guards = some [] → Room lv B →
    Env0 P w K mg base B fr z G → BindsTo z fd ar (ps.zip us) → Vals xs us → sp xs G Q E → codeAny (model P w) B (.call (.ref f) ar) (CR CX0 fr P w G z Q E) z

section
variable {P : Program} {w : World} {K : PySem.W.Frag} {mg : Str → Option Value} {base : Heap}
theorem FnG.of {lv : Nat} {f : Addr} {fd : FuncData} {ps : List Str} {sp : Sp} (F : FnOk P w K mg base CX0 lv f fd ps sp) : FnG P w K mg base lv f fd ps sp :=
  ⟨F.len, fun B fr z G ar us xs Q E _ hr e0 hb hv hs => F.run B fr z G ar us xs Q E hr e0 hb hv hs⟩
theorem FnG.up {lv m : Nat} {f : Addr} {fd : FuncData} {ps : List Str} {sp : Sp} (F : FnG P w K mg base lv f fd ps sp) (h : lv ≤ m) : FnG P w K mg base m f fd ps sp :=
  ⟨F.many, fun B fr z G ar us xs Q E hg hr => F.goes B fr z G ar us xs Q E hg (hr.mono h)⟩

/-- a def's body as a term of rules and its reading, where nothing is being written out -/
theorem okG {x qual : Str} {params : Arguments} {body : List Stmt} {scope : Scope} {dvs : List V} {kws : List (Str × V)} {f : Addr} {fd : FuncData} {N ps : List Str} {lv : Nat} {sp : Sp}
    (F : FunD K x qual params body scope dvs kws f fd) (S : FnScope N ps scope) (len : ∀ xs G Q E, sp xs G Q E → xs.length = ps.length)
    (bd : ∀ (cv : Value) (B : Around) (fr : List Env) (z : Shared) (G : Hp) (xs : List V) (Q : VK) (E : XK), (B.deeper (envOfC qual scope z.heap.objs.size f cv)).guards = some [] →
      Room lv (B.deeper (envOfC qual scope z.heap.objs.size f cv)) → sp xs G Q E →
      ∃ t, PSs (cxOf CX0 P w K mg base N qual scope f cv B fr z G E).nox body t ∧ t { nx := fun _ G' => Q .non G', rt := Q } (start N xs) G) :
    FnG P w K mg base (lv + 1) f fd ps sp := by
  obtain ⟨oc, od, dV, kV, doc, pm, an, cv, ct, sl, rfl, lk, hc, -, -⟩ := F.ex
  constructor
  · exact len
  · intro B fr z G ar us xs Q E hg hr e0 hb hv hs
    have hl := len xs G Q E hs
    have st : ∀ b o, base.get? b = some o → z.heap.get? b = some o := fun b o e => (e0.bs b o e).1
    have KZ : K.In z.heap := e0.mod.kin.keeps st
    have kinds : ∀ y ∈ ps.zip us, scope.names.lookup y.1 = some .local ∨
        (scope.names.lookup y.1 = some .cell ∧ ((cellsFrom (z.heap.objs.size + 1) scope.names []).lookup y.1).isSome = true) := by
      rintro ⟨n, v⟩ hy
      cases S.par n (List.of_mem_zip hy).1 with
      | inl q => exact .inl q
      | inr q => exact .inr ⟨q, PySem.W.cellsFrom_some _ _ _ (.inl q)⟩
    refine codeAny_call_function hr.depth (KZ _ _ lk) rfl S.co S.gen rfl (PySem.W.codeRec_of KZ hc) (hb _ _ _ _ ?_)
    refine wpAny_newFunctionEnv_cells S.kind kinds ?_
    intro env ee z1 ic
    cases ee
    refine ⟨(e0.mod.nolimit.keeps st).keeps ic.toInCall.keep, codeAny_func ?_⟩
    obtain ⟨t, ht, q⟩ := bd cv B fr z G xs Q E hg (hr.deeper _) hs
    have I : Inv (cxOf CX0 P w K mg base N qual scope f cv B fr z G E) [] (start N xs) G z1 := inv_start S hr.hd e0 hl hv ic
    refine wpAny_mono (ht.nox.run [] z1 (start N xs) G _ I q) ?_ fun e z2 h2 => h2
    intro fl z2 h2
    cases fl with
    | ret u =>
      obtain ⟨v, σ', G', J, rv, q2⟩ := h2
      exact ⟨v, G', J.os, J.bare, J.base, J.hok, rv, q2⟩
    | next =>
      obtain ⟨σ', G', J, q2⟩ := h2
      exact ⟨V.non, G', J.os, J.bare, J.base, J.hok, rfl, q2⟩
    | brk => exact h2.elim fun _ h3 => h3.elim fun _ h4 => False.elim h4.2
    | cont => exact h2.elim fun _ h3 => h3.elim fun _ h4 => False.elim h4.2
end

section
variable {X : Cx} {lv : Nat} {f : Addr} {fd : FuncData} {ps : List Str} {sp : Sp} {x : Str} {p pos : Pos} {e : Expr} {es : List Expr} {t : TA}
theorem runG {pins : List (Addr × Obj)} {σ : L2.St} {G : Hp} {z : Shared} {Q : VK} {us : List Value} {xs : List V} (F : FnG X.prog X.w X.K X.mg X.base lv f fd ps sp) (hg : X.A.guards = some []) (hr : Room lv X.A)
    (hb : Binds X.K fd ps []) (I : Inv X pins σ G z) (r : Vals xs us) (h : sp xs G Q E0) : wpAny (model X.prog X.w) X.A (call (.ref f) us) (EP X pins σ Q) X.xe z := by
  have hl : (us ++ []).length = ps.length := by
    rw [List.append_nil, ← r.length]
    exact F.many _ _ _ _ h
  have hbd := hb z us I.kIn hl
  rw [List.append_nil] at hbd
  refine wpAny_call (codeAny_mono (F.goes X.A X.stack z G ⟨us, []⟩ us xs Q E0 hg hr I.env0 hbd r h) ?_)
  intro res z2 hq
  cases res with
  | error er => exact (show False from hq).elim
  | ok fl =>
    cases fl with
    | ret u => exact I.after hq
    | next => exact (show False from hq).elim
    | brk => exact (show False from hq).elim
    | cont => exact (show False from hq).elim
/-- f(e, ..), f such a def -/
theorem pe_callG (F : FnG X.prog X.w X.K X.mg X.base lv f fd ps sp) (hgd : X.A.guards = some []) (hr : Room lv X.A) (hg : Gl X x) (hm : X.mg x = some (.ref f)) (hk : PySem.W.keepIn X.K (.ref f) = true)
    (hb : Binds X.K fd ps []) (ha : PA X (e :: es) t) (hdb : (x == ("__debug__" : Str)) = false := by decide)
    (he : starEach (e :: es) X.env = (false, eval e X.env) :: starEach es X.env := by rfl) (hpl : (backTo pos (starEach es X.env)).any (·.1) = false := by rfl) :
    PE X (.Call (.Name x p) (e :: es) [] pos) (fun σ G Q => t σ G fun xs G1 => sp xs G1 Q E0) := by
  constructor
  intro pins z σ G Q I h
  refine wpAny_Call_Name_kw (ld_glob I hg hm ?_ hdb)
  refine PySem.W.callWith_K (h₀ := X.base) I.ok.mod.kin hk (thn (ha.run pos pins z σ G _ I h) ?_) he hpl
  rintro us z1 ⟨xs, G1, I1, r, q⟩
  exact ⟨I1.kIn, runG F hgd hr hb I1 r q⟩

/-! ### str(data) -/
def rStrD (K : PySem.W.Frag) : List V → Hp → VK → Prop := fun xs G Q => ∃ (a : Addr) (d : PyData), xs = [.ref a] ∧ Dp K G (.ref a) d ∧ d.showable = true ∧ d.hasDict = false ∧
  d.depth ≤ 60 ∧ d.shown.length ≤ sizeLine ∧ Q (.str d.shown) G
theorem call_strD (hg : X.A.guards = some []) (hu : X.A.units + 64 < cLine) : CallR X (.type "str") (rStrD X.K) := by
  intro pins z σ G xs us Q I r h
  obtain ⟨a, d, rfl, dp, hs, hd, hz, hl, q⟩ := h
  obtain ⟨u, rfl, r1⟩ := vals1 r
  cases (show u = Value.ref a from r1)
  obtain ⟨as, rd⟩ := Dp.reads I d (.ref a) (.ref a) dp rfl
  refine str_of_reads rd hs (fun e => by rw [hd] at e; cases e) hg (by omega) (fun b o e => e) (fun h' u tk hk => ?_) hl
  exact ⟨.str d.shown, G, I.kept (h' := h') (t' := tk) hk, ⟨u, rfl⟩, q⟩

/-! ### C() of a class without an __init__ of its own -/
def tBare (C : Addr) : TE := fun _ G Q => ∀ y dy, G y = none → G dy = none → dy ≠ y → Q (.ref y) (upd (upd G dy (.own y)) y (.ins C dy []))
structure Bare (K : PySem.W.Frag) (C : Addr) : Prop where
  makes : PySem.W.makesIn K C = true
  init : PySem.W.findIn K (.ref C) "__init__" = some (some (.builtin "object.__init__"))
  kp : PySem.W.keepIn K (.ref C) = true
theorem pe_bare {C : Addr} (M : Bare X.K C) (hg : Gl X x) (hm : X.mg x = some (.ref C)) (hdb : (x == ("__debug__" : Str)) = false := by decide) : PE X (.Call (.Name x p) [] [] pos) (tBare C) := by
  constructor
  intro pins z σ G Q I h
  refine wpAny_Call_Name_kw (ld_glob I hg hm ?_ hdb)
  refine PySem.W.callWith_K0 I.kIn M.kp ?_
  have J := Inv.made (C := C) I
  have q := h (z.heap.objs.size + 1) z.heap.objs.size (I.hok.fresh (Nat.le_succ _)) (I.hok.fresh (Nat.le_refl _)) (Nat.ne_of_lt (Nat.lt_succ_self _))
  have Y := PySem.W.makes_of (M := model X.prog X.w) I.kIn M.makes
  refine wpAny_call (make_map0 I.kIn M.makes M.init (fun self => PySem.W.Looks.of_pure (PySem.W.oi_bind self)) ?_)
  have at1 : ((z.heap.push PySem.W.emptyDict).push (PySem.W.instObj C z.heap.objs.size)).get? (z.heap.objs.size + 1) = some (PySem.W.instObj C z.heap.objs.size) := by
    have g := Heap.get?_push_size (z.heap.push PySem.W.emptyDict) (o := PySem.W.instObj C z.heap.objs.size) rfl
    rwa [Heap.size_push] at g
  have ty : PySem.W.Looks (model X.prog X.w) ((z.heap.push PySem.W.emptyDict).push (PySem.W.instObj C z.heap.objs.size)) (typeOf (.ref (z.heap.objs.size + 1))) (.ref C) := (PySem.W.Looks.ld at1).andThen .now
  have io : PySem.W.Looks (model X.prog X.w) ((z.heap.push PySem.W.emptyDict).push (PySem.W.instObj C z.heap.objs.size)) (isInstance (.ref (z.heap.objs.size + 1)) (.type "object")) true :=
    ty.andThen (Y.top.keeps fun b o e => Heap.get?_push_of_some _ (Heap.get?_push_of_some _ e))
  refine codeAny_call_builtin PySem.W.oi_plain PySem.W.entry_oi
    (@PySem.W.check_slot (model X.prog X.w) _ _ _ "object.__init__" "object" "__init__" (.ref (z.heap.objs.size + 1)) [] [] _ PySem.W.oi_kind PySem.W.oi_split io (PySem.W.oi_args (.ref (z.heap.objs.size + 1))) ?_)
  rw [PySem.W.oi_run]
  exact wpAny_pure (And.intro rfl ⟨.ref (z.heap.objs.size + 1), _, J, rfl, q⟩)
end
/-! ### defs of the text, from the head's facts -/
section
variable {P : Program} {w : World} {K : PySem.W.Frag} {mg : Str → Option Value} {base : Heap} {x qual : Str} {st : Stmt} {f : Addr} {N ps : List Str} {k : Nat} {sp : Sp}
/-- how a def without defaults binds -/
abbrev BindOk (x qual : Str) (st : Stmt) (ps : List Str) : Prop := ∀ (kV doc pm : Value) (an : Option Addr) (cdv ct : Value) (us : List Value), us.length = ps.length →
  bindArgs (PySem.W.fnOf x qual (defArgs st) (defBody st) (defScope st) .none kV doc pm an cdv ct) ⟨us, []⟩ = pure (ps.zip us)
abbrev BodyOk (P : Program) (w : World) (K : PySem.W.Frag) (mg : Str → Option Value) (base : Heap) (qual : Str) (st : Stmt) (f : Addr) (N : List Str) (k : Nat) (sp : Sp) : Prop :=
  ∀ (cdv : Value) (A : Around) (outer : List Env) (s : Shared) (H : Hp) (vs : List V) (Q : VK) (E : XK), Room k (A.deeper (envOfC qual (defScope st) s.heap.objs.size f cdv)) → sp vs H Q E →
    ∃ t, PSs (cxOf CX0 P w K mg base N qual (defScope st) f cdv A outer s H E).nox (defBody st) t ∧ t { nx := fun _ H' => Q .non H', rt := Q } (start N vs) H
theorem fnD {fd : FuncData} (F : FunD K x qual (defArgs st) (defBody st) (defScope st) [] [] f fd) (S : FnScope N ps (defScope st)) (len : ∀ vs H Q E, sp vs H Q E → vs.length = ps.length)
    (b : BodyOk P w K mg base qual st f N k sp) : FnOk P w K mg base CX0 (k + 1) f fd ps sp := by
  refine F.ok S len ?_
  intro cdv A outer s H vs Q E hr h
  obtain ⟨t, h1, h2⟩ := b cdv A outer s H vs Q E hr h
  exact ⟨t, h1.nox, h2⟩
theorem calD (F : ∃ fd, FunD K x x (defArgs st) (defBody st) (defScope st) [] [] f fd) (hm : mg x = some (.ref f)) (hb : BindOk x x st ps) (S : FnScope N ps (defScope st)) (len : ∀ vs H Q E, sp vs H Q E → vs.length = ps.length)
    (b : BodyOk P w K mg base x st f N k sp) : C8.Cal P w K mg base (k + 1) x sp [] := by
  obtain ⟨fd, F⟩ := F
  exact ⟨f, fd, ps, [], fnD F S len b, hm, F.kp, F.bindsN hb, .nil⟩
theorem metD {C : Addr} {m : Str} (F : ∃ fd, FunD K m qual (defArgs st) (defBody st) (defScope st) [] [] f fd) (c : Cls K C) (hm : Meth K C m f) (hb : BindOk m qual st ps) (S : FnScope N ps (defScope st)) (len : ∀ vs H Q E, sp vs H Q E → vs.length = ps.length)
    (b : BodyOk P w K mg base qual st f N k sp) : C8.Met P w K mg base (k + 1) C m sp [] := by
  obtain ⟨fd, F⟩ := F
  exact ⟨f, fd, ps, [], c, hm, fnD F S len b, F.bindsN hb, .nil⟩
theorem makD {C : Addr} (F : ∃ fd, FunD K "__init__" qual (defArgs st) (defBody st) (defScope st) [] [] f fd) (M : Mk K C f) (hg : mg x = some (.ref C)) (hb : BindOk "__init__" qual st ps) (S : FnScope N ps (defScope st)) (len : ∀ vs H Q E, sp vs H Q E → vs.length = ps.length)
    (b : BodyOk P w K mg base qual st f N k sp) : C8.Mak P w K mg base (k + 1) x C sp [] := by
  obtain ⟨fd, F⟩ := F
  exact ⟨f, fd, ps, [], M, fnD F S len b, hg, F.bindsN hb, .nil⟩
/-- a def that writes data out, or calls one that does -/
structure CalG (P : Program) (w : World) (K : PySem.W.Frag) (mg : Str → Option Value) (base : Heap) (k : Nat) (x : Str) (sp : Sp) : Prop where
  ex : ∃ (f : Addr) (fd : FuncData) (ps : List Str), FnG P w K mg base k f fd ps sp ∧ mg x = some (.ref f) ∧ PySem.W.keepIn K (.ref f) = true ∧ Binds K fd ps []
theorem calG (F : ∃ fd, FunD K x x (defArgs st) (defBody st) (defScope st) [] [] f fd) (hm : mg x = some (.ref f)) (hb : BindOk x x st ps) (S : FnScope N ps (defScope st)) (len : ∀ vs H Q E, sp vs H Q E → vs.length = ps.length)
    (b : ∀ (cv : Value) (B : Around) (fr : List Env) (z : Shared) (G : Hp) (xs : List V) (Q : VK) (E : XK), (B.deeper (envOfC x (defScope st) z.heap.objs.size f cv)).guards = some [] →
      Room k (B.deeper (envOfC x (defScope st) z.heap.objs.size f cv)) → sp xs G Q E →
      ∃ t, PSs (cxOf CX0 P w K mg base N x (defScope st) f cv B fr z G E).nox (defBody st) t ∧ t { nx := fun _ G' => Q .non G', rt := Q } (start N xs) G) : CalG P w K mg base (k + 1) x sp := by
  obtain ⟨fd, F⟩ := F
  exact ⟨f, fd, ps, okG F S len b, hm, F.kp, F.bindsN hb⟩
end
section
variable {X : Cx} {k j : Nat} {sp : Sp} {x : Str} {p pos : Pos} {e : Expr} {es : List Expr} {t : TA}
theorem pe_cG (c : CalG X.prog X.w X.K X.mg X.base k x sp) (hgd : X.A.guards = some []) (hr : Room j X.A) (hk : k ≤ j) (hg : Gl X x) (ha : PA X (e :: es) t) (hdb : (x == ("__debug__" : Str)) = false := by decide)
    (he : starEach (e :: es) X.env = (false, eval e X.env) :: starEach es X.env := by rfl) (hpl : (backTo pos (starEach es X.env)).any (·.1) = false := by rfl) :
    PE X (.Call (.Name x p) (e :: es) [] pos) (fun σ G Q => t σ G fun xs G1 => sp xs G1 Q E0) := by
  obtain ⟨f, fd, ps, F, hm, kp, b⟩ := c.ex
  exact pe_callG F hgd (hr.mono hk) hg hm kp b ha hdb he hpl
theorem pe_c0 (c : C8.Cal X.prog X.w X.K X.mg X.base k x sp []) (hr : Room j X.A) (hk : k ≤ j) (hg : Gl X x) (hdb : (x == ("__debug__" : Str)) = false := by decide) :
    PE X (.Call (.Name x p) [] [] pos) (tCall sp [] E0 tNil) := by
  obtain ⟨f, fd, ps, ds, F, hm, kp, b, d⟩ := c.ex
  exact pe_call0 F (hr.mono hk) hg hm kp b d pass0 hdb
end
/-! ### instances asked by isinstance -/
structure Ins1 (K : PySem.W.Frag) (C : Addr) : Prop where
  cls : PySem.W.findIn K (.ref C) "__class__" = some (some (.builtin "object.__class__"))
  get : PySem.W.specialIn K (.builtin "object.__class__") "__get__" = some (some (.builtin "getset_descriptor.__get__"))
  tak : PySem.W.takesIn K (.builtin "object.__class__") = some true
  mro : PySem.W.mroIn K C (.type "object") = some true
theorem Ins1.ty {K : PySem.W.Frag} {C a dx : Addr} {fs : List (Str × V)} {H : Hp} (i : Ins1 K C) (c : Cls K C) (e : H a = some (.ins C dx fs)) : TyX K H (.ref a) (.ref C) := .base (.ins e c i.cls i.get i.tak i.mro)
theorem is_ty {K : PySem.W.Frag} {a b : String} {r : Bool} (h : kitB a b = some r) : PySem.W.kitOne K (.type a) (.type b) = some r := h
/-! ### heaps -/
theorem same_upd {H : Hp} {p : Addr} {o : HO} (h : H p = none) : Same H (upd H p o) := fun b x e => by
  rw [upd_ne (ne_of_none e h)]
  exact e
theorem Same.tup {K : PySem.W.Frag} {H H' : Hp} {a : Addr} {xs : List V} (e : Same H H') (h : SqT K H a xs) : SqT K H' a xs := by
  rcases h with (h | ⟨o, h⟩) | h
  · exact .inl (.inl (e _ _ h))
  · exact .inl (.inr ⟨o, e _ _ h⟩)
  · exact .inr h
/-- a change of a list that was new leaves what was -/
theorem Same.chg {H H' : Hp} {p : Addr} {o : HO} (e : Same H H') (h : H p = none) : Same H (upd H' p o) := fun b x q => by
  rw [upd_ne (ne_of_none q h)]
  exact e b x q
/-! ### rows and froms -/
abbrev Cell := Option (Int × Option Int)
def oV : Option Int → V
  | none => .non
  | some i => .int i
def CellV (H : Hp) (v : V) : Cell → Prop
  | none => v = .non
  | some (a, b) => ∃ p, v = .ref p ∧ H p = some (.tup [.int a, oV b])
theorem CellV.same {H H' : Hp} (e : Same H H') {v : V} : ∀ {c : Cell}, CellV H v c → CellV H' v c
  | none, h => h
  | some (a, b), ⟨p, h1, h2⟩ => ⟨p, h1, e _ _ h2⟩
structure Cells (H : Hp) (vs : List V) (row : List Cell) : Prop where
  len : vs.length = row.length
  each : ∀ (i : Nat) (c : Cell), row[i]? = some c → ∃ v, vs[i]? = some v ∧ CellV H v c
theorem Cells.same {H H' : Hp} (e : Same H H') {vs : List V} {row : List Cell} (h : Cells H vs row) : Cells H' vs row :=
  ⟨h.len, fun i c q => let ⟨v, h1, h2⟩ := h.each i c q; ⟨v, h1, h2.same e⟩⟩
/-- a row stands at p -/
def RowAt (H : Hp) (p : Addr) (row : List Cell) : Prop := ∃ vs, H p = some (.lst vs) ∧ Cells H vs row
theorem RowAt.same {H H' : Hp} (e : Same H H') {p : Addr} {row : List Cell} (h : RowAt H p row) : RowAt H' p row :=
  let ⟨vs, h1, h2⟩ := h; ⟨vs, e _ _ h1, h2.same e⟩
/-- a list of ints stands at p -/
def LsAt (H : Hp) (p : Addr) (ns : List Int) : Prop := H p = some (.lst (ns.map V.int))
theorem LsAt.same {H H' : Hp} (e : Same H H') {p : Addr} {ns : List Int} (h : LsAt H p ns) : LsAt H' p ns := e _ _ h
structure FrOk (fr : List Int) : Prop where
  lo : 1 ≤ fr.length
  hi : fr.length ≤ 7
  each : ∀ (i : Nat) (x : Int), fr[i]? = some x → 0 ≤ x ∧ x ≤ (i : Int)
structure RowOk (fr : List Int) (row : List Cell) : Prop where
  len : row.length = fr.length + 1
  src : ∃ a, row[0]? = some (some (a, none)) ∧ 0 ≤ a
  each : ∀ (i : Nat) (c : Cell), row[i + 1]? = some c → c = none ∨ ∃ a b, c = some (a, some b) ∧ 0 ≤ a ∧ 0 ≤ b
/-! ### chains -/
def up (fr : List Int) (t : Nat) : Nat := (fr.getD (t - 1) 0).toNat
def brk (fr : List Int) (row : List Cell) (t : Nat) : Bool := match row.getD t none, row.getD (up fr t) none with
  | some (_, b), some (a, _) => !decide (b = some a)
  | _, _ => true
def chainN (fr : List Int) (row : List Cell) : Nat → Nat → Option (List Int)
  | 0, _ => none
  | n + 1, t => if t = 0 then none else if brk fr row t then some [(t : Int)] else (chainN fr row n (up fr t)).map ((t : Int) :: ·)
def chain (fr : List Int) (row : List Cell) (t : Nat) : Option (List Int) := chainN fr row (t + 1) t
section
variable {fr : List Int} {row : List Cell}
theorem FrOk.at (h : FrOk fr) {t : Nat} (h0 : 0 < t) (h1 : t ≤ fr.length) : ∃ x : Int, fr[t - 1]? = some x ∧ 0 ≤ x ∧ x < (t : Int) ∧ x = (up fr t : Int) := by
  have hl : t - 1 < fr.length := by omega
  have e : fr[t - 1]? = some fr[t - 1] := List.getElem?_eq_getElem hl
  obtain ⟨a, b⟩ := h.each _ _ e
  refine ⟨fr[t - 1], e, a, by omega, ?_⟩
  unfold up
  rw [List.getD_eq_getElem?_getD, e, Option.getD_some]
  omega
theorem up_lt (h : FrOk fr) {t : Nat} (h0 : 0 < t) (h1 : t ≤ fr.length) : up fr t < t := by
  obtain ⟨x, _, _, b, c⟩ := h.at h0 h1
  omega
theorem chainN_more (h : FrOk fr) : ∀ (n m t : Nat), t ≤ fr.length → t < n → t < m → chainN fr row n t = chainN fr row m t := by
  intro n
  induction n with
  | zero => intro m t _ h1; omega
  | succ n ih =>
    intro m t ht h1 h2
    obtain ⟨m, rfl⟩ : ∃ k, m = k + 1 := ⟨m - 1, by omega⟩
    unfold chainN
    by_cases h0 : t = 0
    · rw [if_pos h0, if_pos h0]
    · rw [if_neg h0, if_neg h0]
      have hu := up_lt h (by omega : 0 < t) ht
      rw [ih m (up fr t) (by omega) (by omega) (by omega)]
theorem chain_zero : chain fr row 0 = none := rfl
theorem chain_step (h : FrOk fr) {t : Nat} (h0 : 0 < t) (h1 : t ≤ fr.length) : chain fr row t = if brk fr row t then some [(t : Int)] else (chain fr row (up fr t)).map ((t : Int) :: ·) := by
  have hu := up_lt h h0 h1
  show chainN fr row (t + 1) t = _
  unfold chainN
  rw [if_neg (by omega)]
  unfold chain
  rw [chainN_more h t (up fr t + 1) (up fr t) (by omega) (by omega) (by omega)]
theorem chain_mem (h : FrOk fr) : ∀ (t : Nat) (c : List Int), t ≤ fr.length → chain fr row t = some c → c ≠ [] ∧ c.length ≤ t ∧ ∀ x ∈ c, 1 ≤ x ∧ x ≤ (t : Int) := by
  intro t
  induction t using Nat.strongRecOn with
  | _ t ih =>
    intro c ht e
    by_cases h0 : t = 0
    · subst h0
      cases e
    · rw [chain_step h (by omega) ht] at e
      have hu := up_lt h (by omega : 0 < t) ht
      split at e
      · have e2 := Option.some.inj e
        subst e2
        refine ⟨by simp, by simp; omega, ?_⟩
        intro x hx
        have : x = (t : Int) := by simpa using hx
        omega
      · obtain ⟨r, e1, e2⟩ := Option.map_eq_some_iff.mp e
        obtain ⟨_, h2, h3⟩ := ih _ hu r (by omega) e1
        subst e2
        refine ⟨by simp, by simp; omega, ?_⟩
        intro x hx
        rcases List.mem_cons.mp hx with q | q
        · omega
        · have := h3 x q
          omega
end
end PD

/-! Phrasedesk: a head whose objects are named one by one (their addresses written out), so that they needn't be searched in the kernel; its run looked at in two theorems -/
namespace PD
open PySem PySem.Spec PyProof.Rows L2
section
variable {fa : List He.Fa} {fn : List He.DefD} {tf : List He.Defn} {ex : PySem.W.Frag → Bool} {as : List Addr}
def obsL (as : List Addr) (fa : List He.Fa) (fn : List He.DefD) (tf : List He.Defn) (ex : PySem.W.Frag → Bool) (g : Addr → Option Obj) : He.AlX :=
  let K := He.frT g as
  (He.obsT fa fn [] K, ex K && He.tabsB g tf K)
theorem saysL {w : World} {h : Heap} (e : obsL as fa fn tf ex h.get? = He.valX fn [] w) : He.SaysX fa fn [] tf ex w h (He.frT h.get? as) := by
  generalize eK : He.frT h.get? as = K
  have e' : (He.obsT fa fn [] K, ex K && He.tabsB h.get? tf K) = (He.valT fn [] w, true) := by
    rw [← eK]
    exact e
  rw [Prod.mk.injEq, Bool.and_eq_true] at e'
  obtain ⟨e1, e2, e3⟩ := e'
  have each : ∀ p ∈ tf, PySem.W.codeHdIn K (He.cT K p).1 (He.cT K p).2 = true ∧ h.get? (He.cT K p).2 = some { cls := .none, data := .fields #[] } ∧ K.lookup (He.cT K p).2 = none := by
    intro p hp
    have z := List.all_eq_true.mp e3 p hp
    rw [Bool.and_eq_true] at z
    obtain ⟨z1, z2⟩ := z
    cases q : h.get? (He.cT K p).2 with
    | none => rw [q] at z2; cases z2
    | some o =>
      rw [q] at z2
      have z3 : He.emptyTab o = true := z2
      refine ⟨z1, congrArg some (He.emptyTab_eq z3), ?_⟩
      have w1 := He.frT_none (as := as) q z3
      rw [eK] at w1
      exact w1
  exact { t := e1, more := e2, hd := fun p hp => (each p hp).1, out := fun p hp => (each p hp).2.2, empty := fun p hp => (each p hp).2.1 }
def hookL (as : List Addr) (fa : List He.Fa) (fn : List He.DefD) (tf : List He.Defn) (ex : PySem.W.Frag → Bool) : PySem.W.Hook where
  α := He.AlX
  obs := fun s => obsL as fa fn tf ex s.heap.get?
  val := He.valX fn []
  says := fun w h => ∃ K : PySem.W.Frag, K.In h ∧ He.SaysX fa fn [] tf ex w h K
  of := fun _ _ e => Exists.intro _ ⟨He.frT_in, saysL e⟩
  keeps := by
    rintro w h h' ⟨K, i, c⟩ k
    exact ⟨K, i.keeps k, { c with empty := fun p hp => k _ _ (c.empty p hp) }⟩
theorem obsL_eq {g : Addr → Option Obj} {s : Shared} (h : ∀ a, g a = s.heap.get? a) : obsL as fa fn tf ex g = (hookL as fa fn tf ex).obs s := by
  obtain rfl : g = s.heap.get? := funext h
  rfl
end
theorem join2 {σ α β γ : Type} {o : Option σ} {f : σ → α} {g : σ → β} {h : σ → γ} {a : α} {b : β} {c : γ} (e1 : o.map (fun s => (f s, g s)) = some (a, b)) (e2 : o.map h = some c) : o.map (fun s => (f s, g s, h s)) = some (a, b, c) := by
  cases o with
  | none => cases e1
  | some s =>
    have e1' : (f s, g s) = (a, b) := Option.some.inj e1
    have e2' : h s = c := Option.some.inj e2
    rw [Prod.mk.injEq] at e1'
    show some (f s, g s, h s) = _
    rw [e1'.1, e1'.2, e2']
end PD

namespace PD
open PySem PySem.Spec PyProof.Rows L2
def top (i : Nat) : Stmt := PySem.Challenge.pw_phrasedesk_k10_whole_judged.main.body.getD i (.Pass ⟨0, 0, 0, 0⟩)
abbrev s_wall : Stmt := top 0
abbrev s_is_number : Stmt := top 9
abbrev s_is_count : Stmt := top 10
abbrev s_is_number_or_none : Stmt := top 11
abbrev s_is_pair : Stmt := top 12
abbrev s_is_text : Stmt := top 13
abbrev s_is_froms : Stmt := top 14
abbrev s_is_tongue : Stmt := top 15
abbrev s_is_old_one : Stmt := top 16
abbrev s_is_old : Stmt := top 17
abbrev s_is_hands : Stmt := top 18
abbrev s_is_phrase_line : Stmt := top 19
abbrev s_is_put_line : Stmt := top 20
abbrev s_is_back_line : Stmt := top 21
abbrev s_is_line : Stmt := top 22
abbrev s_is_tale : Stmt := top 23
abbrev s_copied : Stmt := top 24
abbrev s_put_from : Stmt := top 25
abbrev s_is_broken : Stmt := top 26
abbrev s_chain_up : Stmt := top 27
abbrev s_one_above : Stmt := top 28
abbrev s_depth_of : Stmt := top 29
abbrev s_rounds_needed : Stmt := top 30
abbrev s_round_of_each : Stmt := top 31
abbrev s_is_put_anew : Stmt := top 32
abbrev s_Past_init : Stmt := inClass (top 33) 0
abbrev s_Past_begin_phrase : Stmt := inClass (top 33) 1
abbrev s_Past_lay_down : Stmt := inClass (top 33) 2
abbrev s_Past_take_off : Stmt := inClass (top 33) 3
abbrev s_Past_has_phrase : Stmt := inClass (top 33) 4
abbrev s_Past_standing : Stmt := inClass (top 33) 5
abbrev s_Past_text_standing : Stmt := inClass (top 33) 6
abbrev s_Past_cells : Stmt := inClass (top 33) 7
abbrev s_Past_was_seen : Stmt := inClass (top 33) 8
abbrev s_Past_is_over : Stmt := inClass (top 33) 9
abbrev s_Past_can_take_off : Stmt := inClass (top 33) 10
abbrev s_Past_takes : Stmt := inClass (top 33) 11
abbrev s_Past_takes_phrase : Stmt := inClass (top 33) 12
abbrev s_Past_takes_put : Stmt := inClass (top 33) 13
abbrev s_Past_takes_back : Stmt := inClass (top 33) 14
abbrev s_first_wrong_line : Stmt := top 34
abbrev s_Fresh_shows : Stmt := inClass (top 37) 0
abbrev s_Old_init : Stmt := inClass (top 38) 0
abbrev s_Old_shows : Stmt := inClass (top 38) 1
abbrev s_Rounds_init : Stmt := inClass (top 39) 0
abbrev s_Rounds_shows : Stmt := inClass (top 39) 1
abbrev s_Right_shows : Stmt := inClass (top 40) 0
abbrev s_Wrong_init : Stmt := inClass (top 41) 0
abbrev s_Wrong_shows : Stmt := inClass (top 41) 1
abbrev s_judged : Stmt := top 56
abbrev s_evened : Stmt := top 58
abbrev s_fewest_rows : Stmt := top 59
abbrev s_deepest_first : Stmt := top 60
abbrev s_last_row : Stmt := top 61
abbrev s_telling_depth : Stmt := top 62
abbrev s_Desk_init : Stmt := inClass (top 64) 0
abbrev s_Desk_phrase : Stmt := inClass (top 64) 1
abbrev s_Desk_put : Stmt := inClass (top 64) 2
abbrev s_Desk_back : Stmt := inClass (top 64) 3
abbrev s_Desk_now : Stmt := inClass (top 64) 4
abbrev s_Desk_all_put : Stmt := inClass (top 64) 5
abbrev s_Desk_row : Stmt := inClass (top 64) 6
abbrev s_Desk_old : Stmt := inClass (top 64) 7
abbrev s_Desk_likes : Stmt := inClass (top 64) 8
abbrev s_Desk_fill : Stmt := inClass (top 64) 9
abbrev s_Desk_rounds : Stmt := inClass (top 64) 10
abbrev s_Desk_tale : Stmt := inClass (top 64) 11
abbrev s_Desk_check_phrase : Stmt := inClass (top 64) 12
abbrev s_Desk_check_place : Stmt := inClass (top 64) 13
abbrev s_Desk_check_other_tongue : Stmt := inClass (top 64) 14
abbrev s_Desk_check_text : Stmt := inClass (top 64) 15
abbrev s_Desk_is_fresh : Stmt := inClass (top 64) 16
abbrev s_Desk_texts_to_fill : Stmt := inClass (top 64) 17
abbrev s_Desk_put_like : Stmt := inClass (top 64) 18
abbrev s_law_cell_at : Stmt := top 66
abbrev s_law_draw : Stmt := top 67
abbrev s_law_number : Stmt := top 68
abbrev s_law_froms : Stmt := top 69
abbrev s_law_text : Stmt := top 70
abbrev s_law_new : Stmt := top 71
abbrev s_law_now : Stmt := top 72
abbrev s_law_row : Stmt := top 73
abbrev s_law_chain : Stmt := top 74
abbrev s_law_ever : Stmt := top 75
abbrev s_law_likes : Stmt := top 76
abbrev s_law_deed : Stmt := top 77
abbrev s_law_put : Stmt := top 78
abbrev s_law_come : Stmt := top 79
abbrev s_law_do : Stmt := top 80
abbrev s_law_played : Stmt := top 81
abbrev s_law_whole : Stmt := top 82
abbrev s_law_says : Stmt := top 83
abbrev s_law_fits : Stmt := top 84
abbrev s_law_wrong : Stmt := top 85
abbrev s_law_right : Stmt := top 86
abbrev s_law_spoilt : Stmt := top 87
abbrev s_law_line_of : Stmt := top 88
abbrev s_law_changed_right : Stmt := top 89
abbrev s_law : Stmt := top 90
--HEAD
def d_wall : He.DefD := ⟨("_wall", none), "_wall", "_wall", defArgs s_wall, defBody s_wall, defScope s_wall, [], []⟩
def d_is_number : He.DefD := ⟨("is_number", none), "is_number", "is_number", defArgs s_is_number, defBody s_is_number, defScope s_is_number, [], []⟩
def d_is_count : He.DefD := ⟨("is_count", none), "is_count", "is_count", defArgs s_is_count, defBody s_is_count, defScope s_is_count, [], []⟩
def d_is_number_or_none : He.DefD := ⟨("is_number_or_none", none), "is_number_or_none", "is_number_or_none", defArgs s_is_number_or_none, defBody s_is_number_or_none, defScope s_is_number_or_none, [], []⟩
def d_is_pair : He.DefD := ⟨("is_pair", none), "is_pair", "is_pair", defArgs s_is_pair, defBody s_is_pair, defScope s_is_pair, [], []⟩
def d_is_text : He.DefD := ⟨("is_text", none), "is_text", "is_text", defArgs s_is_text, defBody s_is_text, defScope s_is_text, [], []⟩
def d_is_froms : He.DefD := ⟨("is_froms", none), "is_froms", "is_froms", defArgs s_is_froms, defBody s_is_froms, defScope s_is_froms, [], []⟩
def d_is_tongue : He.DefD := ⟨("is_tongue", none), "is_tongue", "is_tongue", defArgs s_is_tongue, defBody s_is_tongue, defScope s_is_tongue, [], []⟩
def d_is_old_one : He.DefD := ⟨("is_old_one", none), "is_old_one", "is_old_one", defArgs s_is_old_one, defBody s_is_old_one, defScope s_is_old_one, [], []⟩
def d_is_old : He.DefD := ⟨("is_old", none), "is_old", "is_old", defArgs s_is_old, defBody s_is_old, defScope s_is_old, [], []⟩
def d_is_hands : He.DefD := ⟨("is_hands", none), "is_hands", "is_hands", defArgs s_is_hands, defBody s_is_hands, defScope s_is_hands, [], []⟩
def d_is_phrase_line : He.DefD := ⟨("is_phrase_line", none), "is_phrase_line", "is_phrase_line", defArgs s_is_phrase_line, defBody s_is_phrase_line, defScope s_is_phrase_line, [], []⟩
def d_is_put_line : He.DefD := ⟨("is_put_line", none), "is_put_line", "is_put_line", defArgs s_is_put_line, defBody s_is_put_line, defScope s_is_put_line, [], []⟩
def d_is_back_line : He.DefD := ⟨("is_back_line", none), "is_back_line", "is_back_line", defArgs s_is_back_line, defBody s_is_back_line, defScope s_is_back_line, [], []⟩
def d_is_line : He.DefD := ⟨("is_line", none), "is_line", "is_line", defArgs s_is_line, defBody s_is_line, defScope s_is_line, [], []⟩
def d_is_tale : He.DefD := ⟨("is_tale", none), "is_tale", "is_tale", defArgs s_is_tale, defBody s_is_tale, defScope s_is_tale, [], []⟩
def d_copied : He.DefD := ⟨("copied", none), "copied", "copied", defArgs s_copied, defBody s_copied, defScope s_copied, [], []⟩
def d_put_from : He.DefD := ⟨("put_from", none), "put_from", "put_from", defArgs s_put_from, defBody s_put_from, defScope s_put_from, [], []⟩
def d_is_broken : He.DefD := ⟨("is_broken", none), "is_broken", "is_broken", defArgs s_is_broken, defBody s_is_broken, defScope s_is_broken, [], []⟩
def d_chain_up : He.DefD := ⟨("chain_up", none), "chain_up", "chain_up", defArgs s_chain_up, defBody s_chain_up, defScope s_chain_up, [], []⟩
def d_one_above : He.DefD := ⟨("one_above", none), "one_above", "one_above", defArgs s_one_above, defBody s_one_above, defScope s_one_above, [], []⟩
def d_depth_of : He.DefD := ⟨("depth_of", none), "depth_of", "depth_of", defArgs s_depth_of, defBody s_depth_of, defScope s_depth_of, [], []⟩
def d_rounds_needed : He.DefD := ⟨("rounds_needed", none), "rounds_needed", "rounds_needed", defArgs s_rounds_needed, defBody s_rounds_needed, defScope s_rounds_needed, [], []⟩
def d_round_of_each : He.DefD := ⟨("round_of_each", none), "round_of_each", "round_of_each", defArgs s_round_of_each, defBody s_round_of_each, defScope s_round_of_each, [], []⟩
def d_is_put_anew : He.DefD := ⟨("is_put_anew", none), "is_put_anew", "is_put_anew", defArgs s_is_put_anew, defBody s_is_put_anew, defScope s_is_put_anew, [], []⟩
def d_Past_init : He.DefD := ⟨("Past", some "__init__"), "__init__", "Past.__init__", defArgs s_Past_init, defBody s_Past_init, defScope s_Past_init, [], []⟩
def d_Past_begin_phrase : He.DefD := ⟨("Past", some "begin_phrase"), "begin_phrase", "Past.begin_phrase", defArgs s_Past_begin_phrase, defBody s_Past_begin_phrase, defScope s_Past_begin_phrase, [], []⟩
def d_Past_lay_down : He.DefD := ⟨("Past", some "lay_down"), "lay_down", "Past.lay_down", defArgs s_Past_lay_down, defBody s_Past_lay_down, defScope s_Past_lay_down, [], []⟩
def d_Past_take_off : He.DefD := ⟨("Past", some "take_off"), "take_off", "Past.take_off", defArgs s_Past_take_off, defBody s_Past_take_off, defScope s_Past_take_off, [], []⟩
def d_Past_has_phrase : He.DefD := ⟨("Past", some "has_phrase"), "has_phrase", "Past.has_phrase", defArgs s_Past_has_phrase, defBody s_Past_has_phrase, defScope s_Past_has_phrase, [], []⟩
def d_Past_standing : He.DefD := ⟨("Past", some "standing"), "standing", "Past.standing", defArgs s_Past_standing, defBody s_Past_standing, defScope s_Past_standing, [], []⟩
def d_Past_text_standing : He.DefD := ⟨("Past", some "text_standing"), "text_standing", "Past.text_standing", defArgs s_Past_text_standing, defBody s_Past_text_standing, defScope s_Past_text_standing, [], []⟩
def d_Past_cells : He.DefD := ⟨("Past", some "cells"), "cells", "Past.cells", defArgs s_Past_cells, defBody s_Past_cells, defScope s_Past_cells, [], []⟩
def d_Past_was_seen : He.DefD := ⟨("Past", some "was_seen"), "was_seen", "Past.was_seen", defArgs s_Past_was_seen, defBody s_Past_was_seen, defScope s_Past_was_seen, [], []⟩
def d_Past_is_over : He.DefD := ⟨("Past", some "is_over"), "is_over", "Past.is_over", defArgs s_Past_is_over, defBody s_Past_is_over, defScope s_Past_is_over, [], []⟩
def d_Past_can_take_off : He.DefD := ⟨("Past", some "can_take_off"), "can_take_off", "Past.can_take_off", defArgs s_Past_can_take_off, defBody s_Past_can_take_off, defScope s_Past_can_take_off, [], []⟩
def d_Past_takes : He.DefD := ⟨("Past", some "takes"), "takes", "Past.takes", defArgs s_Past_takes, defBody s_Past_takes, defScope s_Past_takes, [], []⟩
def d_Past_takes_phrase : He.DefD := ⟨("Past", some "takes_phrase"), "takes_phrase", "Past.takes_phrase", defArgs s_Past_takes_phrase, defBody s_Past_takes_phrase, defScope s_Past_takes_phrase, [], []⟩
def d_Past_takes_put : He.DefD := ⟨("Past", some "takes_put"), "takes_put", "Past.takes_put", defArgs s_Past_takes_put, defBody s_Past_takes_put, defScope s_Past_takes_put, [], []⟩
def d_Past_takes_back : He.DefD := ⟨("Past", some "takes_back"), "takes_back", "Past.takes_back", defArgs s_Past_takes_back, defBody s_Past_takes_back, defScope s_Past_takes_back, [], []⟩
def d_first_wrong_line : He.DefD := ⟨("first_wrong_line", none), "first_wrong_line", "first_wrong_line", defArgs s_first_wrong_line, defBody s_first_wrong_line, defScope s_first_wrong_line, [], []⟩
def d_Fresh_shows : He.DefD := ⟨("Fresh", some "shows"), "shows", "Fresh.shows", defArgs s_Fresh_shows, defBody s_Fresh_shows, defScope s_Fresh_shows, [], []⟩
def d_Old_init : He.DefD := ⟨("Old", some "__init__"), "__init__", "Old.__init__", defArgs s_Old_init, defBody s_Old_init, defScope s_Old_init, [], []⟩
def d_Old_shows : He.DefD := ⟨("Old", some "shows"), "shows", "Old.shows", defArgs s_Old_shows, defBody s_Old_shows, defScope s_Old_shows, [], []⟩
def d_Rounds_init : He.DefD := ⟨("Rounds", some "__init__"), "__init__", "Rounds.__init__", defArgs s_Rounds_init, defBody s_Rounds_init, defScope s_Rounds_init, [], []⟩
def d_Rounds_shows : He.DefD := ⟨("Rounds", some "shows"), "shows", "Rounds.shows", defArgs s_Rounds_shows, defBody s_Rounds_shows, defScope s_Rounds_shows, [], []⟩
def d_Right_shows : He.DefD := ⟨("Right", some "shows"), "shows", "Right.shows", defArgs s_Right_shows, defBody s_Right_shows, defScope s_Right_shows, [], []⟩
def d_Wrong_init : He.DefD := ⟨("Wrong", some "__init__"), "__init__", "Wrong.__init__", defArgs s_Wrong_init, defBody s_Wrong_init, defScope s_Wrong_init, [], []⟩
def d_Wrong_shows : He.DefD := ⟨("Wrong", some "shows"), "shows", "Wrong.shows", defArgs s_Wrong_shows, defBody s_Wrong_shows, defScope s_Wrong_shows, [], []⟩
def d_judged : He.DefD := ⟨("judged", none), "judged", "judged", defArgs s_judged, defBody s_judged, defScope s_judged, [], []⟩
def d_evened : He.DefD := ⟨("evened", none), "evened", "evened", defArgs s_evened, defBody s_evened, defScope s_evened, [], []⟩
def d_fewest_rows : He.DefD := ⟨("fewest_rows", none), "fewest_rows", "fewest_rows", defArgs s_fewest_rows, defBody s_fewest_rows, defScope s_fewest_rows, [], []⟩
def d_deepest_first : He.DefD := ⟨("deepest_first", none), "deepest_first", "deepest_first", defArgs s_deepest_first, defBody s_deepest_first, defScope s_deepest_first, [], []⟩
def d_last_row : He.DefD := ⟨("last_row", none), "last_row", "last_row", defArgs s_last_row, defBody s_last_row, defScope s_last_row, [], []⟩
def d_telling_depth : He.DefD := ⟨("telling_depth", none), "telling_depth", "telling_depth", defArgs s_telling_depth, defBody s_telling_depth, defScope s_telling_depth, [], []⟩
def d_Desk_init : He.DefD := ⟨("Desk", some "__init__"), "__init__", "Desk.__init__", defArgs s_Desk_init, defBody s_Desk_init, defScope s_Desk_init, [], []⟩
def d_Desk_phrase : He.DefD := ⟨("Desk", some "phrase"), "phrase", "Desk.phrase", defArgs s_Desk_phrase, defBody s_Desk_phrase, defScope s_Desk_phrase, [], []⟩
def d_Desk_put : He.DefD := ⟨("Desk", some "put"), "put", "Desk.put", defArgs s_Desk_put, defBody s_Desk_put, defScope s_Desk_put, [], []⟩
def d_Desk_back : He.DefD := ⟨("Desk", some "back"), "back", "Desk.back", defArgs s_Desk_back, defBody s_Desk_back, defScope s_Desk_back, [], []⟩
def d_Desk_now : He.DefD := ⟨("Desk", some "now"), "now", "Desk.now", defArgs s_Desk_now, defBody s_Desk_now, defScope s_Desk_now, [], []⟩
def d_Desk_all_put : He.DefD := ⟨("Desk", some "all_put"), "all_put", "Desk.all_put", defArgs s_Desk_all_put, defBody s_Desk_all_put, defScope s_Desk_all_put, [], []⟩
def d_Desk_row : He.DefD := ⟨("Desk", some "row"), "row", "Desk.row", defArgs s_Desk_row, defBody s_Desk_row, defScope s_Desk_row, [], []⟩
def d_Desk_old : He.DefD := ⟨("Desk", some "old"), "old", "Desk.old", defArgs s_Desk_old, defBody s_Desk_old, defScope s_Desk_old, [], []⟩
def d_Desk_likes : He.DefD := ⟨("Desk", some "likes"), "likes", "Desk.likes", defArgs s_Desk_likes, defBody s_Desk_likes, defScope s_Desk_likes, [], []⟩
def d_Desk_fill : He.DefD := ⟨("Desk", some "fill"), "fill", "Desk.fill", defArgs s_Desk_fill, defBody s_Desk_fill, defScope s_Desk_fill, [], []⟩
def d_Desk_rounds : He.DefD := ⟨("Desk", some "rounds"), "rounds", "Desk.rounds", defArgs s_Desk_rounds, defBody s_Desk_rounds, defScope s_Desk_rounds, [], []⟩
def d_Desk_tale : He.DefD := ⟨("Desk", some "tale"), "tale", "Desk.tale", defArgs s_Desk_tale, defBody s_Desk_tale, defScope s_Desk_tale, [], []⟩
def d_Desk_check_phrase : He.DefD := ⟨("Desk", some "check_phrase"), "check_phrase", "Desk.check_phrase", defArgs s_Desk_check_phrase, defBody s_Desk_check_phrase, defScope s_Desk_check_phrase, [], []⟩
def d_Desk_check_place : He.DefD := ⟨("Desk", some "check_place"), "check_place", "Desk.check_place", defArgs s_Desk_check_place, defBody s_Desk_check_place, defScope s_Desk_check_place, [], []⟩
def d_Desk_check_other_tongue : He.DefD := ⟨("Desk", some "check_other_tongue"), "check_other_tongue", "Desk.check_other_tongue", defArgs s_Desk_check_other_tongue, defBody s_Desk_check_other_tongue, defScope s_Desk_check_other_tongue, [], []⟩
def d_Desk_check_text : He.DefD := ⟨("Desk", some "check_text"), "check_text", "Desk.check_text", defArgs s_Desk_check_text, defBody s_Desk_check_text, defScope s_Desk_check_text, [], []⟩
def d_Desk_is_fresh : He.DefD := ⟨("Desk", some "is_fresh"), "is_fresh", "Desk.is_fresh", defArgs s_Desk_is_fresh, defBody s_Desk_is_fresh, defScope s_Desk_is_fresh, [], []⟩
def d_Desk_texts_to_fill : He.DefD := ⟨("Desk", some "texts_to_fill"), "texts_to_fill", "Desk.texts_to_fill", defArgs s_Desk_texts_to_fill, defBody s_Desk_texts_to_fill, defScope s_Desk_texts_to_fill, [], []⟩
def d_Desk_put_like : He.DefD := ⟨("Desk", some "put_like"), "put_like", "Desk.put_like", defArgs s_Desk_put_like, defBody s_Desk_put_like, defScope s_Desk_put_like, [], []⟩
def d_law_cell_at : He.DefD := ⟨("_law_cell_at", none), "_law_cell_at", "_law_cell_at", defArgs s_law_cell_at, defBody s_law_cell_at, defScope s_law_cell_at, [], []⟩
def d_law_draw : He.DefD := ⟨("_law_draw", none), "_law_draw", "_law_draw", defArgs s_law_draw, defBody s_law_draw, defScope s_law_draw, [], []⟩
def d_law_number : He.DefD := ⟨("_law_number", none), "_law_number", "_law_number", defArgs s_law_number, defBody s_law_number, defScope s_law_number, [], []⟩
def d_law_froms : He.DefD := ⟨("_law_froms", none), "_law_froms", "_law_froms", defArgs s_law_froms, defBody s_law_froms, defScope s_law_froms, [], []⟩
def d_law_text : He.DefD := ⟨("_law_text", none), "_law_text", "_law_text", defArgs s_law_text, defBody s_law_text, defScope s_law_text, [], []⟩
def d_law_new : He.DefD := ⟨("_law_new", none), "_law_new", "_law_new", defArgs s_law_new, defBody s_law_new, defScope s_law_new, [], []⟩
def d_law_now : He.DefD := ⟨("_law_now", none), "_law_now", "_law_now", defArgs s_law_now, defBody s_law_now, defScope s_law_now, [], []⟩
def d_law_row : He.DefD := ⟨("_law_row", none), "_law_row", "_law_row", defArgs s_law_row, defBody s_law_row, defScope s_law_row, [], []⟩
def d_law_chain : He.DefD := ⟨("_law_chain", none), "_law_chain", "_law_chain", defArgs s_law_chain, defBody s_law_chain, defScope s_law_chain, [], []⟩
def d_law_ever : He.DefD := ⟨("_law_ever", none), "_law_ever", "_law_ever", defArgs s_law_ever, defBody s_law_ever, defScope s_law_ever, [], []⟩
def d_law_likes : He.DefD := ⟨("_law_likes", none), "_law_likes", "_law_likes", defArgs s_law_likes, defBody s_law_likes, defScope s_law_likes, [], []⟩
def d_law_deed : He.DefD := ⟨("_law_deed", none), "_law_deed", "_law_deed", defArgs s_law_deed, defBody s_law_deed, defScope s_law_deed, [], []⟩
def d_law_put : He.DefD := ⟨("_law_put", none), "_law_put", "_law_put", defArgs s_law_put, defBody s_law_put, defScope s_law_put, [], []⟩
def d_law_come : He.DefD := ⟨("_law_come", none), "_law_come", "_law_come", defArgs s_law_come, defBody s_law_come, defScope s_law_come, [], []⟩
def d_law_do : He.DefD := ⟨("_law_do", none), "_law_do", "_law_do", defArgs s_law_do, defBody s_law_do, defScope s_law_do, [], []⟩
def d_law_played : He.DefD := ⟨("_law_played", none), "_law_played", "_law_played", defArgs s_law_played, defBody s_law_played, defScope s_law_played, [], []⟩
def d_law_whole : He.DefD := ⟨("_law_whole", none), "_law_whole", "_law_whole", defArgs s_law_whole, defBody s_law_whole, defScope s_law_whole, [], []⟩
def d_law_says : He.DefD := ⟨("_law_says", none), "_law_says", "_law_says", defArgs s_law_says, defBody s_law_says, defScope s_law_says, [], []⟩
def d_law_fits : He.DefD := ⟨("_law_fits", none), "_law_fits", "_law_fits", defArgs s_law_fits, defBody s_law_fits, defScope s_law_fits, [], []⟩
def d_law_wrong : He.DefD := ⟨("_law_wrong", none), "_law_wrong", "_law_wrong", defArgs s_law_wrong, defBody s_law_wrong, defScope s_law_wrong, [], []⟩
def d_law_right : He.DefD := ⟨("_law_right", none), "_law_right", "_law_right", defArgs s_law_right, defBody s_law_right, defScope s_law_right, [], []⟩
def d_law_spoilt : He.DefD := ⟨("_law_spoilt", none), "_law_spoilt", "_law_spoilt", defArgs s_law_spoilt, defBody s_law_spoilt, defScope s_law_spoilt, [], []⟩
def d_law_line_of : He.DefD := ⟨("_law_line_of", none), "_law_line_of", "_law_line_of", defArgs s_law_line_of, defBody s_law_line_of, defScope s_law_line_of, [], []⟩
def d_law_changed_right : He.DefD := ⟨("_law_changed_right", none), "_law_changed_right", "_law_changed_right", defArgs s_law_changed_right, defBody s_law_changed_right, defScope s_law_changed_right, [], []⟩
def d_law : He.DefD := ⟨("law", none), "law", "law", defArgs s_law, defBody s_law, defScope s_law, [], []⟩
def fn : List He.DefD := [d_wall, d_is_number, d_is_count, d_is_number_or_none, d_is_pair, d_is_text, d_is_froms, d_is_tongue, d_is_old_one, d_is_old, d_is_hands, d_is_phrase_line, d_is_put_line, d_is_back_line, d_is_line, d_is_tale, d_copied, d_put_from, d_is_broken, d_chain_up, d_one_above, d_depth_of, d_rounds_needed, d_round_of_each, d_is_put_anew, d_Past_init, d_Past_begin_phrase, d_Past_lay_down, d_Past_take_off, d_Past_has_phrase, d_Past_standing, d_Past_text_standing, d_Past_cells, d_Past_was_seen, d_Past_is_over, d_Past_can_take_off, d_Past_takes, d_Past_takes_phrase, d_Past_takes_put, d_Past_takes_back, d_first_wrong_line, d_Fresh_shows, d_Old_init, d_Old_shows, d_Rounds_init, d_Rounds_shows, d_Right_shows, d_Wrong_init, d_Wrong_shows, d_judged, d_evened, d_fewest_rows, d_deepest_first, d_last_row, d_telling_depth, d_Desk_init, d_Desk_phrase, d_Desk_put, d_Desk_back, d_Desk_now, d_Desk_all_put, d_Desk_row, d_Desk_old, d_Desk_likes, d_Desk_fill, d_Desk_rounds, d_Desk_tale, d_Desk_check_phrase, d_Desk_check_place, d_Desk_check_other_tongue, d_Desk_check_text, d_Desk_is_fresh, d_Desk_texts_to_fill, d_Desk_put_like, d_law_cell_at, d_law_draw, d_law_number, d_law_froms, d_law_text, d_law_new, d_law_now, d_law_row, d_law_chain, d_law_ever, d_law_likes, d_law_deed, d_law_put, d_law_come, d_law_do, d_law_played, d_law_whole, d_law_says, d_law_fits, d_law_wrong, d_law_right, d_law_spoilt, d_law_line_of, d_law_changed_right, d_law]
def fa0 : List He.Fa := [.glo "_wall", .glo "is_number", .glo "is_count", .glo "is_number_or_none", .glo "is_pair", .glo "is_text", .glo "is_froms", .glo "is_tongue", .glo "is_old_one", .glo "is_old", .glo "is_hands", .glo "is_phrase_line", .glo "is_put_line", .glo "is_back_line", .glo "is_line", .glo "is_tale", .glo "copied", .glo "put_from", .glo "is_broken", .glo "chain_up", .glo "one_above", .glo "depth_of", .glo "rounds_needed", .glo "round_of_each", .glo "is_put_anew", .glo "first_wrong_line", .glo "judged", .glo "evened", .glo "fewest_rows", .glo "deepest_first"]
def fa1 : List He.Fa := [.glo "last_row", .glo "telling_depth", .glo "_law_cell_at", .glo "_law_draw", .glo "_law_number", .glo "_law_froms", .glo "_law_text", .glo "_law_new", .glo "_law_now", .glo "_law_row", .glo "_law_chain", .glo "_law_ever", .glo "_law_likes", .glo "_law_deed", .glo "_law_put", .glo "_law_come", .glo "_law_do", .glo "_law_played", .glo "_law_whole", .glo "_law_says", .glo "_law_fits", .glo "_law_wrong", .glo "_law_right", .glo "_law_spoilt", .glo "_law_line_of", .glo "_law_changed_right", .glo "law", .int "FEWEST_TONGUES" 2, .int "MOST_TONGUES" 8, .int "MOST_PHRASES" 6]
def fa2 : List He.Fa := [.int "MOST_LETTERS" 6, .int "MOST_HANDS" 4, .int "MOST_LINES" 40, .str "LETTERS" "abcdefghijklmnopqrstuvwxyz", .free "all", .free "bool", .free "enumerate", .free "int", .free "isinstance", .free "len", .free "list", .free "max", .free "range", .free "set", .free "sorted", .free "str", .free "tuple", .free "zip", .glo "Past", .cls "Past", .meth "Past" "begin_phrase", .meth "Past" "lay_down", .meth "Past" "take_off", .meth "Past" "has_phrase", .meth "Past" "standing", .meth "Past" "text_standing", .meth "Past" "cells", .meth "Past" "was_seen", .meth "Past" "is_over", .meth "Past" "can_take_off"]
def fa3 : List He.Fa := [.meth "Past" "takes", .meth "Past" "takes_phrase", .meth "Past" "takes_put", .meth "Past" "takes_back", .mkr "Past", .glo "Answer", .cls "Answer", .glo "Fresh", .cls "Fresh", .meth "Fresh" "shows", .glo "Old", .cls "Old", .meth "Old" "shows", .mkr "Old", .glo "Rounds", .cls "Rounds", .meth "Rounds" "shows", .mkr "Rounds", .glo "Right", .cls "Right", .meth "Right" "shows", .glo "Wrong", .cls "Wrong", .meth "Wrong" "shows", .mkr "Wrong", .glo "Desk", .cls "Desk", .meth "Desk" "phrase", .meth "Desk" "put", .meth "Desk" "back"]
def fa4 : List He.Fa := [.meth "Desk" "now", .meth "Desk" "all_put", .meth "Desk" "row", .meth "Desk" "old", .meth "Desk" "likes", .meth "Desk" "fill", .meth "Desk" "rounds", .meth "Desk" "tale", .meth "Desk" "check_phrase", .meth "Desk" "check_place", .meth "Desk" "check_other_tongue", .meth "Desk" "check_text", .meth "Desk" "is_fresh", .meth "Desk" "texts_to_fill", .meth "Desk" "put_like", .mkr "Desk", .noat "Past" "ever", .noat "Past" "froms", .noat "Past" "origins", .noat "Past" "phrases", .noat "Past" "piles", .noat "Past" "texts", .noat "Old" "chain", .noat "Rounds" "depth", .noat "Rounds" "rows", .noat "Wrong" "line", .noat "Desk" "lines", .noat "Desk" "past", .glo "PhraseError", .exc "PhraseError"]
def fa5 : List He.Fa := [.glo "BadFroms", .exc "BadFroms", .glo "BadPhrase", .exc "BadPhrase", .glo "BadTongue", .exc "BadTongue", .glo "BadText", .exc "BadText", .glo "BadSeen", .exc "BadSeen", .glo "BadOld", .exc "BadOld", .glo "BadHands", .exc "BadHands", .glo "BadTale", .exc "BadTale", .glo "Overtaken", .exc "Overtaken", .glo "Nothing", .exc "Nothing", .glo "TooMany", .exc "TooMany"]
def fa : List He.Fa := fa0 ++ fa1 ++ fa2 ++ fa3 ++ fa4 ++ fa5
def insB (K : PySem.W.Frag) (x : Str) : Bool := He.eqO (PySem.W.findIn K (.ref (He.ga K x)) "__class__") (some (some (.builtin "object.__class__"))) && (decide (PySem.W.mroIn K (He.ga K x) (.type "object") = some true) && (He.eqO (PySem.W.specialIn K (.builtin "object.__class__") "__get__") (some (some (.builtin "getset_descriptor.__get__"))) && decide (PySem.W.takesIn K (.builtin "object.__class__") = some true)))
def isB (K : PySem.W.Frag) (x y : Str) (b : Bool) : Bool := decide (PySem.W.kitOne K (.ref (He.ga K x)) (.ref (He.ga K y)) = some b)
def bareB (K : PySem.W.Frag) (x : Str) : Bool := PySem.W.makesIn K (He.ga K x) && (He.eqO (PySem.W.findIn K (.ref (He.ga K x)) "__init__") (some (some (.builtin "object.__init__"))) && PySem.W.keepIn K (.ref (He.ga K x)))
def tfs : List He.Defn := []
def exs (K : PySem.W.Frag) : List Bool := [insB K "Past", isB K "Past" "Past" true, isB K "Past" "Answer" false, isB K "Past" "Fresh" false, isB K "Past" "Old" false, isB K "Past" "Rounds" false, isB K "Past" "Right" false, isB K "Past" "Wrong" false, isB K "Past" "Desk" false, insB K "Answer", bareB K "Answer", isB K "Answer" "Past" false, isB K "Answer" "Answer" true, isB K "Answer" "Fresh" false, isB K "Answer" "Old" false, isB K "Answer" "Rounds" false, isB K "Answer" "Right" false, isB K "Answer" "Wrong" false, isB K "Answer" "Desk" false, insB K "Fresh", bareB K "Fresh", isB K "Fresh" "Past" false, isB K "Fresh" "Answer" true, isB K "Fresh" "Fresh" true, isB K "Fresh" "Old" false, isB K "Fresh" "Rounds" false, isB K "Fresh" "Right" false, isB K "Fresh" "Wrong" false, isB K "Fresh" "Desk" false, insB K "Old", isB K "Old" "Past" false, isB K "Old" "Answer" true, isB K "Old" "Fresh" false, isB K "Old" "Old" true, isB K "Old" "Rounds" false, isB K "Old" "Right" false, isB K "Old" "Wrong" false, isB K "Old" "Desk" false, insB K "Rounds", isB K "Rounds" "Past" false, isB K "Rounds" "Answer" true, isB K "Rounds" "Fresh" false, isB K "Rounds" "Old" false, isB K "Rounds" "Rounds" true, isB K "Rounds" "Right" false, isB K "Rounds" "Wrong" false, isB K "Rounds" "Desk" false, insB K "Right", bareB K "Right", isB K "Right" "Past" false, isB K "Right" "Answer" true, isB K "Right" "Fresh" false, isB K "Right" "Old" false, isB K "Right" "Rounds" false, isB K "Right" "Right" true, isB K "Right" "Wrong" false, isB K "Right" "Desk" false, insB K "Wrong", isB K "Wrong" "Past" false, isB K "Wrong" "Answer" true, isB K "Wrong" "Fresh" false, isB K "Wrong" "Old" false, isB K "Wrong" "Rounds" false, isB K "Wrong" "Right" false, isB K "Wrong" "Wrong" true, isB K "Wrong" "Desk" false, insB K "Desk", isB K "Desk" "Past" false, isB K "Desk" "Answer" false, isB K "Desk" "Fresh" false, isB K "Desk" "Old" false, isB K "Desk" "Rounds" false, isB K "Desk" "Right" false, isB K "Desk" "Wrong" false, isB K "Desk" "Desk" true]
def ex (K : PySem.W.Frag) : Bool := (exs K).all id
abbrev R : PySem.W.OpenRow := PySem.W.OpenLaw.row PySem.Challenge.rw_phrasedesk_k10_whole_judged
def ads0 : List Addr := [3, 6, 4, 21, 28, 35, 42, 49, 54, 59, 66, 73, 78, 85, 92, 99, 104, 111, 116, 121, 128, 135, 142, 149, 156, 161, 168, 173, 286, 297, 307, 328, 352, 378, 397, 423, 435, 448, 460, 472]
def ads1 : List Addr := [484, 496, 508, 520, 532, 544, 556, 568, 577, 584, 589, 594, 599, 606, 745, 756, 763, 770, 777, 784, 791, 798, 805, 812, 819, 826, 831, 838, 845, 852, 859, 866, 873, 878, 885, 892, 897, 904, 911, 916]
def ads2 : List Addr := [0, 20, 27, 34, 41, 48, 53, 58, 65, 72, 77, 84, 91, 98, 103, 110, 115, 120, 127, 134, 141, 148, 155, 160, 167, 172, 285, 296, 306, 327, 351, 377, 396, 422, 434, 447, 459, 471, 483, 495]
def ads3 : List Addr := [507, 519, 531, 543, 555, 567, 576, 583, 588, 593, 598, 605, 744, 755, 762, 769, 776, 783, 790, 797, 804, 811, 818, 825, 830, 837, 844, 851, 858, 865, 872, 877, 884, 891, 896, 903, 910, 915, 15, 16]
def ads4 : List Addr := [17, 18, 19, 22, 23, 24, 25, 26, 29, 30, 31, 32, 33, 36, 37, 38, 39, 40, 43, 44, 45, 46, 47, 50, 51, 52, 55, 56, 57, 60, 61, 62, 63, 64, 67, 68, 69, 70, 71, 74]
def ads5 : List Addr := [75, 76, 79, 80, 81, 82, 83, 86, 87, 88, 89, 90, 93, 94, 95, 96, 97, 100, 101, 102, 105, 106, 107, 108, 109, 112, 113, 114, 117, 118, 119, 122, 123, 124, 125, 126, 129, 130, 131, 132]
def ads6 : List Addr := [133, 136, 137, 138, 139, 140, 143, 144, 145, 146, 147, 150, 151, 152, 153, 154, 157, 158, 159, 162, 163, 164, 165, 166, 169, 170, 171, 187, 194, 201, 208, 215, 222, 229, 234, 241, 248, 255, 262, 269]
def ads7 : List Addr := [276, 283, 284, 287, 288, 291, 292, 293, 294, 295, 305, 308, 309, 325, 326, 344, 349, 350, 368, 375, 376, 394, 395, 413, 420, 421, 433, 436, 446, 458, 470, 482, 494, 506, 518, 530, 542, 554, 566, 571]
def ads8 : List Addr := [572, 573, 574, 575, 578, 579, 580, 581, 582, 585, 586, 587, 590, 591, 592, 595, 596, 597, 600, 601, 602, 603, 604, 620, 627, 634, 641, 648, 655, 662, 667, 672, 679, 686, 693, 700, 707, 714, 721, 728]
def ads9 : List Addr := [735, 742, 743, 746, 747, 750, 751, 752, 753, 754, 757, 758, 759, 760, 761, 764, 765, 766, 767, 768, 771, 772, 773, 774, 775, 778, 779, 780, 781, 782, 785, 786, 787, 788, 789, 792, 793, 794, 795, 796]
def ads10 : List Addr := [799, 800, 801, 802, 803, 806, 807, 808, 809, 810, 813, 814, 815, 816, 817, 820, 821, 822, 823, 824, 827, 828, 829, 832, 833, 834, 835, 836, 839, 840, 841, 842, 843, 846, 847, 848, 849, 850, 853, 854]
def ads11 : List Addr := [855, 856, 857, 860, 861, 862, 863, 864, 867, 868, 869, 870, 871, 874, 875, 876, 879, 880, 881, 882, 883, 886, 887, 888, 889, 890, 893, 894, 895, 898, 899, 900, 901, 902, 905, 906, 907, 908, 909, 912]
def ads12 : List Addr := [913, 914, 186, 193, 200, 207, 214, 221, 228, 233, 240, 247, 254, 261, 268, 275, 282, 324, 343, 348, 367, 374, 393, 412, 419, 619, 626, 633, 640, 647, 654, 661, 666, 671, 678, 685, 692, 699, 706, 713]
def ads13 : List Addr := [720, 727, 734, 741, 181, 182, 183, 184, 185, 188, 189, 190, 191, 192, 195, 196, 197, 198, 199, 202, 203, 204, 205, 206, 209, 210, 211, 212, 213, 216, 217, 218, 219, 220, 223, 224, 225, 226, 227, 230]
def ads14 : List Addr := [231, 232, 235, 236, 237, 238, 239, 242, 243, 244, 245, 246, 249, 250, 251, 252, 253, 256, 257, 258, 259, 260, 263, 264, 265, 266, 267, 270, 271, 272, 273, 274, 277, 278, 279, 280, 281, 319, 320, 321]
def ads15 : List Addr := [322, 323, 338, 339, 340, 341, 342, 345, 346, 347, 362, 363, 364, 365, 366, 369, 370, 371, 372, 373, 388, 389, 390, 391, 392, 407, 408, 409, 410, 411, 414, 415, 416, 417, 418, 614, 615, 616, 617, 618]
def ads16 : List Addr := [621, 622, 623, 624, 625, 628, 629, 630, 631, 632, 635, 636, 637, 638, 639, 642, 643, 644, 645, 646, 649, 650, 651, 652, 653, 656, 657, 658, 659, 660, 663, 664, 665, 668, 669, 670, 673, 674, 675, 676]
def ads17 : List Addr := [677, 680, 681, 682, 683, 684, 687, 688, 689, 690, 691, 694, 695, 696, 697, 698, 701, 702, 703, 704, 705, 708, 709, 710, 711, 712, 715, 716, 717, 718, 719, 722, 723, 724, 725, 726, 729, 730, 731, 732]
def ads18 : List Addr := [733, 736, 737, 738, 739, 740]
def ads : List Addr := ads0 ++ ads1 ++ ads2 ++ ads3 ++ ads4 ++ ads5 ++ ads6 ++ ads7 ++ ads8 ++ ads9 ++ ads10 ++ ads11 ++ ads12 ++ ads13 ++ ads14 ++ ads15 ++ ads16 ++ ads17 ++ ads18
abbrev hk : PySem.W.Hook := hookL ads fa fn tfs ex
def ob (s : PySem.W.SharedT) : He.AlX := obsL ads fa fn tfs ex (HandSHeadRun.getT s)
theorem ob_eq (s : PySem.W.SharedT) : ob s = hk.obs s.abs := obsL_eq (HandSHeadRun.getT_eq s)
def loose0 : List Str := ["_wall", "FEWEST_TONGUES", "MOST_TONGUES", "MOST_PHRASES", "MOST_LETTERS", "MOST_HANDS", "MOST_LINES", "LETTERS", "is_number", "is_count", "is_number_or_none", "is_pair", "is_text", "is_froms", "is_tongue", "is_old_one", "is_old", "is_hands", "is_phrase_line", "is_put_line", "is_back_line", "is_line", "is_tale", "copied", "put_from", "is_broken", "chain_up", "one_above", "depth_of", "rounds_needed"]
def loose1 : List Str := ["round_of_each", "is_put_anew", "Past", "first_wrong_line", "Answer", "Fresh", "Old", "Rounds", "Right", "Wrong", "PhraseError", "BadFroms", "BadPhrase", "BadTongue", "BadText", "BadSeen", "BadOld", "BadHands", "BadTale", "Overtaken", "Nothing", "TooMany", "judged", "evened", "fewest_rows", "deepest_first", "last_row", "telling_depth", "Desk", "_law_cell_at"]
def loose2 : List Str := ["_law_draw", "_law_number", "_law_froms", "_law_text", "_law_new", "_law_now", "_law_row", "_law_chain", "_law_ever", "_law_likes", "_law_deed", "_law_put", "_law_come", "_law_do", "_law_played", "_law_whole", "_law_says", "_law_fits", "_law_wrong", "_law_right", "_law_spoilt", "_law_line_of", "_law_changed_right"]
def loose : List Str := loose0 ++ loose1 ++ loose2
section
open PySem.W PySem.Calls HandSHeadRun
theorem run1 (w : World) (os : OsState) : (endF (stepQ (denQ tabQ) R.prog w) 8000 R.prog w os).map (fun s => (looksF R.prog (boot_heap w.params) s.abs, seenQ (view R.prog [90]) loose (importedModules R.prog.main.body) (fun s => xlAt (view R.prog [90]) [] s && recOk R.toRowW.records s) s.abs)) = some (true, openGood (view R.prog [90]) loose) := by
  kernel_rfl
theorem run2 (w : World) (os : OsState) : (endF (stepQ (denQ tabQ) R.prog w) 8000 R.prog w os).map ob = some (hk.val w) := by
  kernel_rfl
end
theorem run (w : World) : HandSHeadRun.RunEq R (PySem.W.view R.prog [90]) hk ob 8000 loose w := fun os => join2 (run1 w os) (run2 w os)
--TX
structure Tx (K : PySem.W.Frag) (mg : Str → Option Value) : Prop where
  F_wall : ∃ fd, FunD K "_wall" "_wall" (defArgs s_wall) (defBody s_wall) (defScope s_wall) [] [] (He.ga K "_wall") fd
  g_wall : mg "_wall" = some (.ref (He.ga K "_wall"))
  F_is_number : ∃ fd, FunD K "is_number" "is_number" (defArgs s_is_number) (defBody s_is_number) (defScope s_is_number) [] [] (He.ga K "is_number") fd
  g_is_number : mg "is_number" = some (.ref (He.ga K "is_number"))
  F_is_count : ∃ fd, FunD K "is_count" "is_count" (defArgs s_is_count) (defBody s_is_count) (defScope s_is_count) [] [] (He.ga K "is_count") fd
  g_is_count : mg "is_count" = some (.ref (He.ga K "is_count"))
  F_is_number_or_none : ∃ fd, FunD K "is_number_or_none" "is_number_or_none" (defArgs s_is_number_or_none) (defBody s_is_number_or_none) (defScope s_is_number_or_none) [] [] (He.ga K "is_number_or_none") fd
  g_is_number_or_none : mg "is_number_or_none" = some (.ref (He.ga K "is_number_or_none"))
  F_is_pair : ∃ fd, FunD K "is_pair" "is_pair" (defArgs s_is_pair) (defBody s_is_pair) (defScope s_is_pair) [] [] (He.ga K "is_pair") fd
  g_is_pair : mg "is_pair" = some (.ref (He.ga K "is_pair"))
  F_is_text : ∃ fd, FunD K "is_text" "is_text" (defArgs s_is_text) (defBody s_is_text) (defScope s_is_text) [] [] (He.ga K "is_text") fd
  g_is_text : mg "is_text" = some (.ref (He.ga K "is_text"))
  F_is_froms : ∃ fd, FunD K "is_froms" "is_froms" (defArgs s_is_froms) (defBody s_is_froms) (defScope s_is_froms) [] [] (He.ga K "is_froms") fd
  g_is_froms : mg "is_froms" = some (.ref (He.ga K "is_froms"))
  F_is_tongue : ∃ fd, FunD K "is_tongue" "is_tongue" (defArgs s_is_tongue) (defBody s_is_tongue) (defScope s_is_tongue) [] [] (He.ga K "is_tongue") fd
  g_is_tongue : mg "is_tongue" = some (.ref (He.ga K "is_tongue"))
  F_is_old_one : ∃ fd, FunD K "is_old_one" "is_old_one" (defArgs s_is_old_one) (defBody s_is_old_one) (defScope s_is_old_one) [] [] (He.ga K "is_old_one") fd
  g_is_old_one : mg "is_old_one" = some (.ref (He.ga K "is_old_one"))
  F_is_old : ∃ fd, FunD K "is_old" "is_old" (defArgs s_is_old) (defBody s_is_old) (defScope s_is_old) [] [] (He.ga K "is_old") fd
  g_is_old : mg "is_old" = some (.ref (He.ga K "is_old"))
  F_is_hands : ∃ fd, FunD K "is_hands" "is_hands" (defArgs s_is_hands) (defBody s_is_hands) (defScope s_is_hands) [] [] (He.ga K "is_hands") fd
  g_is_hands : mg "is_hands" = some (.ref (He.ga K "is_hands"))
  F_is_phrase_line : ∃ fd, FunD K "is_phrase_line" "is_phrase_line" (defArgs s_is_phrase_line) (defBody s_is_phrase_line) (defScope s_is_phrase_line) [] [] (He.ga K "is_phrase_line") fd
  g_is_phrase_line : mg "is_phrase_line" = some (.ref (He.ga K "is_phrase_line"))
  F_is_put_line : ∃ fd, FunD K "is_put_line" "is_put_line" (defArgs s_is_put_line) (defBody s_is_put_line) (defScope s_is_put_line) [] [] (He.ga K "is_put_line") fd
  g_is_put_line : mg "is_put_line" = some (.ref (He.ga K "is_put_line"))
  F_is_back_line : ∃ fd, FunD K "is_back_line" "is_back_line" (defArgs s_is_back_line) (defBody s_is_back_line) (defScope s_is_back_line) [] [] (He.ga K "is_back_line") fd
  g_is_back_line : mg "is_back_line" = some (.ref (He.ga K "is_back_line"))
  F_is_line : ∃ fd, FunD K "is_line" "is_line" (defArgs s_is_line) (defBody s_is_line) (defScope s_is_line) [] [] (He.ga K "is_line") fd
  g_is_line : mg "is_line" = some (.ref (He.ga K "is_line"))
  F_is_tale : ∃ fd, FunD K "is_tale" "is_tale" (defArgs s_is_tale) (defBody s_is_tale) (defScope s_is_tale) [] [] (He.ga K "is_tale") fd
  g_is_tale : mg "is_tale" = some (.ref (He.ga K "is_tale"))
  F_copied : ∃ fd, FunD K "copied" "copied" (defArgs s_copied) (defBody s_copied) (defScope s_copied) [] [] (He.ga K "copied") fd
  g_copied : mg "copied" = some (.ref (He.ga K "copied"))
  F_put_from : ∃ fd, FunD K "put_from" "put_from" (defArgs s_put_from) (defBody s_put_from) (defScope s_put_from) [] [] (He.ga K "put_from") fd
  g_put_from : mg "put_from" = some (.ref (He.ga K "put_from"))
  F_is_broken : ∃ fd, FunD K "is_broken" "is_broken" (defArgs s_is_broken) (defBody s_is_broken) (defScope s_is_broken) [] [] (He.ga K "is_broken") fd
  g_is_broken : mg "is_broken" = some (.ref (He.ga K "is_broken"))
  F_chain_up : ∃ fd, FunD K "chain_up" "chain_up" (defArgs s_chain_up) (defBody s_chain_up) (defScope s_chain_up) [] [] (He.ga K "chain_up") fd
  g_chain_up : mg "chain_up" = some (.ref (He.ga K "chain_up"))
  F_one_above : ∃ fd, FunD K "one_above" "one_above" (defArgs s_one_above) (defBody s_one_above) (defScope s_one_above) [] [] (He.ga K "one_above") fd
  g_one_above : mg "one_above" = some (.ref (He.ga K "one_above"))
  F_depth_of : ∃ fd, FunD K "depth_of" "depth_of" (defArgs s_depth_of) (defBody s_depth_of) (defScope s_depth_of) [] [] (He.ga K "depth_of") fd
  g_depth_of : mg "depth_of" = some (.ref (He.ga K "depth_of"))
  F_rounds_needed : ∃ fd, FunD K "rounds_needed" "rounds_needed" (defArgs s_rounds_needed) (defBody s_rounds_needed) (defScope s_rounds_needed) [] [] (He.ga K "rounds_needed") fd
  g_rounds_needed : mg "rounds_needed" = some (.ref (He.ga K "rounds_needed"))
  F_round_of_each : ∃ fd, FunD K "round_of_each" "round_of_each" (defArgs s_round_of_each) (defBody s_round_of_each) (defScope s_round_of_each) [] [] (He.ga K "round_of_each") fd
  g_round_of_each : mg "round_of_each" = some (.ref (He.ga K "round_of_each"))
  F_is_put_anew : ∃ fd, FunD K "is_put_anew" "is_put_anew" (defArgs s_is_put_anew) (defBody s_is_put_anew) (defScope s_is_put_anew) [] [] (He.ga K "is_put_anew") fd
  g_is_put_anew : mg "is_put_anew" = some (.ref (He.ga K "is_put_anew"))
  F_Past_init : ∃ fd, FunD K "__init__" "Past.__init__" (defArgs s_Past_init) (defBody s_Past_init) (defScope s_Past_init) [] [] (He.ma K (He.ga K "Past") "__init__") fd
  F_Past_begin_phrase : ∃ fd, FunD K "begin_phrase" "Past.begin_phrase" (defArgs s_Past_begin_phrase) (defBody s_Past_begin_phrase) (defScope s_Past_begin_phrase) [] [] (He.ma K (He.ga K "Past") "begin_phrase") fd
  F_Past_lay_down : ∃ fd, FunD K "lay_down" "Past.lay_down" (defArgs s_Past_lay_down) (defBody s_Past_lay_down) (defScope s_Past_lay_down) [] [] (He.ma K (He.ga K "Past") "lay_down") fd
  F_Past_take_off : ∃ fd, FunD K "take_off" "Past.take_off" (defArgs s_Past_take_off) (defBody s_Past_take_off) (defScope s_Past_take_off) [] [] (He.ma K (He.ga K "Past") "take_off") fd
  F_Past_has_phrase : ∃ fd, FunD K "has_phrase" "Past.has_phrase" (defArgs s_Past_has_phrase) (defBody s_Past_has_phrase) (defScope s_Past_has_phrase) [] [] (He.ma K (He.ga K "Past") "has_phrase") fd
  F_Past_standing : ∃ fd, FunD K "standing" "Past.standing" (defArgs s_Past_standing) (defBody s_Past_standing) (defScope s_Past_standing) [] [] (He.ma K (He.ga K "Past") "standing") fd
  F_Past_text_standing : ∃ fd, FunD K "text_standing" "Past.text_standing" (defArgs s_Past_text_standing) (defBody s_Past_text_standing) (defScope s_Past_text_standing) [] [] (He.ma K (He.ga K "Past") "text_standing") fd
  F_Past_cells : ∃ fd, FunD K "cells" "Past.cells" (defArgs s_Past_cells) (defBody s_Past_cells) (defScope s_Past_cells) [] [] (He.ma K (He.ga K "Past") "cells") fd
  F_Past_was_seen : ∃ fd, FunD K "was_seen" "Past.was_seen" (defArgs s_Past_was_seen) (defBody s_Past_was_seen) (defScope s_Past_was_seen) [] [] (He.ma K (He.ga K "Past") "was_seen") fd
  F_Past_is_over : ∃ fd, FunD K "is_over" "Past.is_over" (defArgs s_Past_is_over) (defBody s_Past_is_over) (defScope s_Past_is_over) [] [] (He.ma K (He.ga K "Past") "is_over") fd
  F_Past_can_take_off : ∃ fd, FunD K "can_take_off" "Past.can_take_off" (defArgs s_Past_can_take_off) (defBody s_Past_can_take_off) (defScope s_Past_can_take_off) [] [] (He.ma K (He.ga K "Past") "can_take_off") fd
  F_Past_takes : ∃ fd, FunD K "takes" "Past.takes" (defArgs s_Past_takes) (defBody s_Past_takes) (defScope s_Past_takes) [] [] (He.ma K (He.ga K "Past") "takes") fd
  F_Past_takes_phrase : ∃ fd, FunD K "takes_phrase" "Past.takes_phrase" (defArgs s_Past_takes_phrase) (defBody s_Past_takes_phrase) (defScope s_Past_takes_phrase) [] [] (He.ma K (He.ga K "Past") "takes_phrase") fd
  F_Past_takes_put : ∃ fd, FunD K "takes_put" "Past.takes_put" (defArgs s_Past_takes_put) (defBody s_Past_takes_put) (defScope s_Past_takes_put) [] [] (He.ma K (He.ga K "Past") "takes_put") fd
  F_Past_takes_back : ∃ fd, FunD K "takes_back" "Past.takes_back" (defArgs s_Past_takes_back) (defBody s_Past_takes_back) (defScope s_Past_takes_back) [] [] (He.ma K (He.ga K "Past") "takes_back") fd
  F_first_wrong_line : ∃ fd, FunD K "first_wrong_line" "first_wrong_line" (defArgs s_first_wrong_line) (defBody s_first_wrong_line) (defScope s_first_wrong_line) [] [] (He.ga K "first_wrong_line") fd
  g_first_wrong_line : mg "first_wrong_line" = some (.ref (He.ga K "first_wrong_line"))
  F_Fresh_shows : ∃ fd, FunD K "shows" "Fresh.shows" (defArgs s_Fresh_shows) (defBody s_Fresh_shows) (defScope s_Fresh_shows) [] [] (He.ma K (He.ga K "Fresh") "shows") fd
  F_Old_init : ∃ fd, FunD K "__init__" "Old.__init__" (defArgs s_Old_init) (defBody s_Old_init) (defScope s_Old_init) [] [] (He.ma K (He.ga K "Old") "__init__") fd
  F_Old_shows : ∃ fd, FunD K "shows" "Old.shows" (defArgs s_Old_shows) (defBody s_Old_shows) (defScope s_Old_shows) [] [] (He.ma K (He.ga K "Old") "shows") fd
  F_Rounds_init : ∃ fd, FunD K "__init__" "Rounds.__init__" (defArgs s_Rounds_init) (defBody s_Rounds_init) (defScope s_Rounds_init) [] [] (He.ma K (He.ga K "Rounds") "__init__") fd
  F_Rounds_shows : ∃ fd, FunD K "shows" "Rounds.shows" (defArgs s_Rounds_shows) (defBody s_Rounds_shows) (defScope s_Rounds_shows) [] [] (He.ma K (He.ga K "Rounds") "shows") fd
  F_Right_shows : ∃ fd, FunD K "shows" "Right.shows" (defArgs s_Right_shows) (defBody s_Right_shows) (defScope s_Right_shows) [] [] (He.ma K (He.ga K "Right") "shows") fd
  F_Wrong_init : ∃ fd, FunD K "__init__" "Wrong.__init__" (defArgs s_Wrong_init) (defBody s_Wrong_init) (defScope s_Wrong_init) [] [] (He.ma K (He.ga K "Wrong") "__init__") fd
  F_Wrong_shows : ∃ fd, FunD K "shows" "Wrong.shows" (defArgs s_Wrong_shows) (defBody s_Wrong_shows) (defScope s_Wrong_shows) [] [] (He.ma K (He.ga K "Wrong") "shows") fd
  F_judged : ∃ fd, FunD K "judged" "judged" (defArgs s_judged) (defBody s_judged) (defScope s_judged) [] [] (He.ga K "judged") fd
  g_judged : mg "judged" = some (.ref (He.ga K "judged"))
  F_evened : ∃ fd, FunD K "evened" "evened" (defArgs s_evened) (defBody s_evened) (defScope s_evened) [] [] (He.ga K "evened") fd
  g_evened : mg "evened" = some (.ref (He.ga K "evened"))
  F_fewest_rows : ∃ fd, FunD K "fewest_rows" "fewest_rows" (defArgs s_fewest_rows) (defBody s_fewest_rows) (defScope s_fewest_rows) [] [] (He.ga K "fewest_rows") fd
  g_fewest_rows : mg "fewest_rows" = some (.ref (He.ga K "fewest_rows"))
  F_deepest_first : ∃ fd, FunD K "deepest_first" "deepest_first" (defArgs s_deepest_first) (defBody s_deepest_first) (defScope s_deepest_first) [] [] (He.ga K "deepest_first") fd
  g_deepest_first : mg "deepest_first" = some (.ref (He.ga K "deepest_first"))
  F_last_row : ∃ fd, FunD K "last_row" "last_row" (defArgs s_last_row) (defBody s_last_row) (defScope s_last_row) [] [] (He.ga K "last_row") fd
  g_last_row : mg "last_row" = some (.ref (He.ga K "last_row"))
  F_telling_depth : ∃ fd, FunD K "telling_depth" "telling_depth" (defArgs s_telling_depth) (defBody s_telling_depth) (defScope s_telling_depth) [] [] (He.ga K "telling_depth") fd
  g_telling_depth : mg "telling_depth" = some (.ref (He.ga K "telling_depth"))
  F_Desk_init : ∃ fd, FunD K "__init__" "Desk.__init__" (defArgs s_Desk_init) (defBody s_Desk_init) (defScope s_Desk_init) [] [] (He.ma K (He.ga K "Desk") "__init__") fd
  F_Desk_phrase : ∃ fd, FunD K "phrase" "Desk.phrase" (defArgs s_Desk_phrase) (defBody s_Desk_phrase) (defScope s_Desk_phrase) [] [] (He.ma K (He.ga K "Desk") "phrase") fd
  F_Desk_put : ∃ fd, FunD K "put" "Desk.put" (defArgs s_Desk_put) (defBody s_Desk_put) (defScope s_Desk_put) [] [] (He.ma K (He.ga K "Desk") "put") fd
  F_Desk_back : ∃ fd, FunD K "back" "Desk.back" (defArgs s_Desk_back) (defBody s_Desk_back) (defScope s_Desk_back) [] [] (He.ma K (He.ga K "Desk") "back") fd
  F_Desk_now : ∃ fd, FunD K "now" "Desk.now" (defArgs s_Desk_now) (defBody s_Desk_now) (defScope s_Desk_now) [] [] (He.ma K (He.ga K "Desk") "now") fd
  F_Desk_all_put : ∃ fd, FunD K "all_put" "Desk.all_put" (defArgs s_Desk_all_put) (defBody s_Desk_all_put) (defScope s_Desk_all_put) [] [] (He.ma K (He.ga K "Desk") "all_put") fd
  F_Desk_row : ∃ fd, FunD K "row" "Desk.row" (defArgs s_Desk_row) (defBody s_Desk_row) (defScope s_Desk_row) [] [] (He.ma K (He.ga K "Desk") "row") fd
  F_Desk_old : ∃ fd, FunD K "old" "Desk.old" (defArgs s_Desk_old) (defBody s_Desk_old) (defScope s_Desk_old) [] [] (He.ma K (He.ga K "Desk") "old") fd
  F_Desk_likes : ∃ fd, FunD K "likes" "Desk.likes" (defArgs s_Desk_likes) (defBody s_Desk_likes) (defScope s_Desk_likes) [] [] (He.ma K (He.ga K "Desk") "likes") fd
  F_Desk_fill : ∃ fd, FunD K "fill" "Desk.fill" (defArgs s_Desk_fill) (defBody s_Desk_fill) (defScope s_Desk_fill) [] [] (He.ma K (He.ga K "Desk") "fill") fd
  F_Desk_rounds : ∃ fd, FunD K "rounds" "Desk.rounds" (defArgs s_Desk_rounds) (defBody s_Desk_rounds) (defScope s_Desk_rounds) [] [] (He.ma K (He.ga K "Desk") "rounds") fd
  F_Desk_tale : ∃ fd, FunD K "tale" "Desk.tale" (defArgs s_Desk_tale) (defBody s_Desk_tale) (defScope s_Desk_tale) [] [] (He.ma K (He.ga K "Desk") "tale") fd
  F_Desk_check_phrase : ∃ fd, FunD K "check_phrase" "Desk.check_phrase" (defArgs s_Desk_check_phrase) (defBody s_Desk_check_phrase) (defScope s_Desk_check_phrase) [] [] (He.ma K (He.ga K "Desk") "check_phrase") fd
  F_Desk_check_place : ∃ fd, FunD K "check_place" "Desk.check_place" (defArgs s_Desk_check_place) (defBody s_Desk_check_place) (defScope s_Desk_check_place) [] [] (He.ma K (He.ga K "Desk") "check_place") fd
  F_Desk_check_other_tongue : ∃ fd, FunD K "check_other_tongue" "Desk.check_other_tongue" (defArgs s_Desk_check_other_tongue) (defBody s_Desk_check_other_tongue) (defScope s_Desk_check_other_tongue) [] [] (He.ma K (He.ga K "Desk") "check_other_tongue") fd
  F_Desk_check_text : ∃ fd, FunD K "check_text" "Desk.check_text" (defArgs s_Desk_check_text) (defBody s_Desk_check_text) (defScope s_Desk_check_text) [] [] (He.ma K (He.ga K "Desk") "check_text") fd
  F_Desk_is_fresh : ∃ fd, FunD K "is_fresh" "Desk.is_fresh" (defArgs s_Desk_is_fresh) (defBody s_Desk_is_fresh) (defScope s_Desk_is_fresh) [] [] (He.ma K (He.ga K "Desk") "is_fresh") fd
  F_Desk_texts_to_fill : ∃ fd, FunD K "texts_to_fill" "Desk.texts_to_fill" (defArgs s_Desk_texts_to_fill) (defBody s_Desk_texts_to_fill) (defScope s_Desk_texts_to_fill) [] [] (He.ma K (He.ga K "Desk") "texts_to_fill") fd
  F_Desk_put_like : ∃ fd, FunD K "put_like" "Desk.put_like" (defArgs s_Desk_put_like) (defBody s_Desk_put_like) (defScope s_Desk_put_like) [] [] (He.ma K (He.ga K "Desk") "put_like") fd
  F_law_cell_at : ∃ fd, FunD K "_law_cell_at" "_law_cell_at" (defArgs s_law_cell_at) (defBody s_law_cell_at) (defScope s_law_cell_at) [] [] (He.ga K "_law_cell_at") fd
  g_law_cell_at : mg "_law_cell_at" = some (.ref (He.ga K "_law_cell_at"))
  F_law_draw : ∃ fd, FunD K "_law_draw" "_law_draw" (defArgs s_law_draw) (defBody s_law_draw) (defScope s_law_draw) [] [] (He.ga K "_law_draw") fd
  g_law_draw : mg "_law_draw" = some (.ref (He.ga K "_law_draw"))
  F_law_number : ∃ fd, FunD K "_law_number" "_law_number" (defArgs s_law_number) (defBody s_law_number) (defScope s_law_number) [] [] (He.ga K "_law_number") fd
  g_law_number : mg "_law_number" = some (.ref (He.ga K "_law_number"))
  F_law_froms : ∃ fd, FunD K "_law_froms" "_law_froms" (defArgs s_law_froms) (defBody s_law_froms) (defScope s_law_froms) [] [] (He.ga K "_law_froms") fd
  g_law_froms : mg "_law_froms" = some (.ref (He.ga K "_law_froms"))
  F_law_text : ∃ fd, FunD K "_law_text" "_law_text" (defArgs s_law_text) (defBody s_law_text) (defScope s_law_text) [] [] (He.ga K "_law_text") fd
  g_law_text : mg "_law_text" = some (.ref (He.ga K "_law_text"))
  F_law_new : ∃ fd, FunD K "_law_new" "_law_new" (defArgs s_law_new) (defBody s_law_new) (defScope s_law_new) [] [] (He.ga K "_law_new") fd
  g_law_new : mg "_law_new" = some (.ref (He.ga K "_law_new"))
  F_law_now : ∃ fd, FunD K "_law_now" "_law_now" (defArgs s_law_now) (defBody s_law_now) (defScope s_law_now) [] [] (He.ga K "_law_now") fd
  g_law_now : mg "_law_now" = some (.ref (He.ga K "_law_now"))
  F_law_row : ∃ fd, FunD K "_law_row" "_law_row" (defArgs s_law_row) (defBody s_law_row) (defScope s_law_row) [] [] (He.ga K "_law_row") fd
  g_law_row : mg "_law_row" = some (.ref (He.ga K "_law_row"))
  F_law_chain : ∃ fd, FunD K "_law_chain" "_law_chain" (defArgs s_law_chain) (defBody s_law_chain) (defScope s_law_chain) [] [] (He.ga K "_law_chain") fd
  g_law_chain : mg "_law_chain" = some (.ref (He.ga K "_law_chain"))
  F_law_ever : ∃ fd, FunD K "_law_ever" "_law_ever" (defArgs s_law_ever) (defBody s_law_ever) (defScope s_law_ever) [] [] (He.ga K "_law_ever") fd
  g_law_ever : mg "_law_ever" = some (.ref (He.ga K "_law_ever"))
  F_law_likes : ∃ fd, FunD K "_law_likes" "_law_likes" (defArgs s_law_likes) (defBody s_law_likes) (defScope s_law_likes) [] [] (He.ga K "_law_likes") fd
  g_law_likes : mg "_law_likes" = some (.ref (He.ga K "_law_likes"))
  F_law_deed : ∃ fd, FunD K "_law_deed" "_law_deed" (defArgs s_law_deed) (defBody s_law_deed) (defScope s_law_deed) [] [] (He.ga K "_law_deed") fd
  g_law_deed : mg "_law_deed" = some (.ref (He.ga K "_law_deed"))
  F_law_put : ∃ fd, FunD K "_law_put" "_law_put" (defArgs s_law_put) (defBody s_law_put) (defScope s_law_put) [] [] (He.ga K "_law_put") fd
  g_law_put : mg "_law_put" = some (.ref (He.ga K "_law_put"))
  F_law_come : ∃ fd, FunD K "_law_come" "_law_come" (defArgs s_law_come) (defBody s_law_come) (defScope s_law_come) [] [] (He.ga K "_law_come") fd
  g_law_come : mg "_law_come" = some (.ref (He.ga K "_law_come"))
  F_law_do : ∃ fd, FunD K "_law_do" "_law_do" (defArgs s_law_do) (defBody s_law_do) (defScope s_law_do) [] [] (He.ga K "_law_do") fd
  g_law_do : mg "_law_do" = some (.ref (He.ga K "_law_do"))
  F_law_played : ∃ fd, FunD K "_law_played" "_law_played" (defArgs s_law_played) (defBody s_law_played) (defScope s_law_played) [] [] (He.ga K "_law_played") fd
  g_law_played : mg "_law_played" = some (.ref (He.ga K "_law_played"))
  F_law_whole : ∃ fd, FunD K "_law_whole" "_law_whole" (defArgs s_law_whole) (defBody s_law_whole) (defScope s_law_whole) [] [] (He.ga K "_law_whole") fd
  g_law_whole : mg "_law_whole" = some (.ref (He.ga K "_law_whole"))
  F_law_says : ∃ fd, FunD K "_law_says" "_law_says" (defArgs s_law_says) (defBody s_law_says) (defScope s_law_says) [] [] (He.ga K "_law_says") fd
  g_law_says : mg "_law_says" = some (.ref (He.ga K "_law_says"))
  F_law_fits : ∃ fd, FunD K "_law_fits" "_law_fits" (defArgs s_law_fits) (defBody s_law_fits) (defScope s_law_fits) [] [] (He.ga K "_law_fits") fd
  g_law_fits : mg "_law_fits" = some (.ref (He.ga K "_law_fits"))
  F_law_wrong : ∃ fd, FunD K "_law_wrong" "_law_wrong" (defArgs s_law_wrong) (defBody s_law_wrong) (defScope s_law_wrong) [] [] (He.ga K "_law_wrong") fd
  g_law_wrong : mg "_law_wrong" = some (.ref (He.ga K "_law_wrong"))
  F_law_right : ∃ fd, FunD K "_law_right" "_law_right" (defArgs s_law_right) (defBody s_law_right) (defScope s_law_right) [] [] (He.ga K "_law_right") fd
  g_law_right : mg "_law_right" = some (.ref (He.ga K "_law_right"))
  F_law_spoilt : ∃ fd, FunD K "_law_spoilt" "_law_spoilt" (defArgs s_law_spoilt) (defBody s_law_spoilt) (defScope s_law_spoilt) [] [] (He.ga K "_law_spoilt") fd
  g_law_spoilt : mg "_law_spoilt" = some (.ref (He.ga K "_law_spoilt"))
  F_law_line_of : ∃ fd, FunD K "_law_line_of" "_law_line_of" (defArgs s_law_line_of) (defBody s_law_line_of) (defScope s_law_line_of) [] [] (He.ga K "_law_line_of") fd
  g_law_line_of : mg "_law_line_of" = some (.ref (He.ga K "_law_line_of"))
  F_law_changed_right : ∃ fd, FunD K "_law_changed_right" "_law_changed_right" (defArgs s_law_changed_right) (defBody s_law_changed_right) (defScope s_law_changed_right) [] [] (He.ga K "_law_changed_right") fd
  g_law_changed_right : mg "_law_changed_right" = some (.ref (He.ga K "_law_changed_right"))
  F_law : ∃ fd, FunD K "law" "law" (defArgs s_law) (defBody s_law) (defScope s_law) [] [] (He.ga K "law") fd
  g_law : mg "law" = some (.ref (He.ga K "law"))
  g_FEWEST_TONGUES : ∃ t, mg "FEWEST_TONGUES" = some (.int 2 t)
  g_MOST_TONGUES : ∃ t, mg "MOST_TONGUES" = some (.int 8 t)
  g_MOST_PHRASES : ∃ t, mg "MOST_PHRASES" = some (.int 6 t)
  g_MOST_LETTERS : ∃ t, mg "MOST_LETTERS" = some (.int 6 t)
  g_MOST_HANDS : ∃ t, mg "MOST_HANDS" = some (.int 4 t)
  g_MOST_LINES : ∃ t, mg "MOST_LINES" = some (.int 40 t)
  g_LETTERS : ∃ t, mg "LETTERS" = some (.str "abcdefghijklmnopqrstuvwxyz" t)
  f_all : mg "all" = none
  f_bool : mg "bool" = none
  f_enumerate : mg "enumerate" = none
  f_int : mg "int" = none
  f_isinstance : mg "isinstance" = none
  f_len : mg "len" = none
  f_list : mg "list" = none
  f_max : mg "max" = none
  f_range : mg "range" = none
  f_set : mg "set" = none
  f_sorted : mg "sorted" = none
  f_str : mg "str" = none
  f_tuple : mg "tuple" = none
  f_zip : mg "zip" = none
  g_Past : mg "Past" = some (.ref (He.ga K "Past"))
  k_Past : Cls K (He.ga K "Past")
  m_Past_begin_phrase : Meth K (He.ga K "Past") "begin_phrase" (He.ma K (He.ga K "Past") "begin_phrase")
  m_Past_lay_down : Meth K (He.ga K "Past") "lay_down" (He.ma K (He.ga K "Past") "lay_down")
  m_Past_take_off : Meth K (He.ga K "Past") "take_off" (He.ma K (He.ga K "Past") "take_off")
  m_Past_has_phrase : Meth K (He.ga K "Past") "has_phrase" (He.ma K (He.ga K "Past") "has_phrase")
  m_Past_standing : Meth K (He.ga K "Past") "standing" (He.ma K (He.ga K "Past") "standing")
  m_Past_text_standing : Meth K (He.ga K "Past") "text_standing" (He.ma K (He.ga K "Past") "text_standing")
  m_Past_cells : Meth K (He.ga K "Past") "cells" (He.ma K (He.ga K "Past") "cells")
  m_Past_was_seen : Meth K (He.ga K "Past") "was_seen" (He.ma K (He.ga K "Past") "was_seen")
  m_Past_is_over : Meth K (He.ga K "Past") "is_over" (He.ma K (He.ga K "Past") "is_over")
  m_Past_can_take_off : Meth K (He.ga K "Past") "can_take_off" (He.ma K (He.ga K "Past") "can_take_off")
  m_Past_takes : Meth K (He.ga K "Past") "takes" (He.ma K (He.ga K "Past") "takes")
  m_Past_takes_phrase : Meth K (He.ga K "Past") "takes_phrase" (He.ma K (He.ga K "Past") "takes_phrase")
  m_Past_takes_put : Meth K (He.ga K "Past") "takes_put" (He.ma K (He.ga K "Past") "takes_put")
  m_Past_takes_back : Meth K (He.ga K "Past") "takes_back" (He.ma K (He.ga K "Past") "takes_back")
  i_Past : Mk K (He.ga K "Past") (He.ma K (He.ga K "Past") "__init__")
  t_Past : Ins1 K (He.ga K "Past")
  is_Past_Past : PySem.W.kitOne K (.ref (He.ga K "Past")) (.ref (He.ga K "Past")) = some true
  is_Past_Answer : PySem.W.kitOne K (.ref (He.ga K "Past")) (.ref (He.ga K "Answer")) = some false
  is_Past_Fresh : PySem.W.kitOne K (.ref (He.ga K "Past")) (.ref (He.ga K "Fresh")) = some false
  is_Past_Old : PySem.W.kitOne K (.ref (He.ga K "Past")) (.ref (He.ga K "Old")) = some false
  is_Past_Rounds : PySem.W.kitOne K (.ref (He.ga K "Past")) (.ref (He.ga K "Rounds")) = some false
  is_Past_Right : PySem.W.kitOne K (.ref (He.ga K "Past")) (.ref (He.ga K "Right")) = some false
  is_Past_Wrong : PySem.W.kitOne K (.ref (He.ga K "Past")) (.ref (He.ga K "Wrong")) = some false
  is_Past_Desk : PySem.W.kitOne K (.ref (He.ga K "Past")) (.ref (He.ga K "Desk")) = some false
  g_Answer : mg "Answer" = some (.ref (He.ga K "Answer"))
  k_Answer : Cls K (He.ga K "Answer")
  b_Answer : Bare K (He.ga K "Answer")
  t_Answer : Ins1 K (He.ga K "Answer")
  is_Answer_Past : PySem.W.kitOne K (.ref (He.ga K "Answer")) (.ref (He.ga K "Past")) = some false
  is_Answer_Answer : PySem.W.kitOne K (.ref (He.ga K "Answer")) (.ref (He.ga K "Answer")) = some true
  is_Answer_Fresh : PySem.W.kitOne K (.ref (He.ga K "Answer")) (.ref (He.ga K "Fresh")) = some false
  is_Answer_Old : PySem.W.kitOne K (.ref (He.ga K "Answer")) (.ref (He.ga K "Old")) = some false
  is_Answer_Rounds : PySem.W.kitOne K (.ref (He.ga K "Answer")) (.ref (He.ga K "Rounds")) = some false
  is_Answer_Right : PySem.W.kitOne K (.ref (He.ga K "Answer")) (.ref (He.ga K "Right")) = some false
  is_Answer_Wrong : PySem.W.kitOne K (.ref (He.ga K "Answer")) (.ref (He.ga K "Wrong")) = some false
  is_Answer_Desk : PySem.W.kitOne K (.ref (He.ga K "Answer")) (.ref (He.ga K "Desk")) = some false
  g_Fresh : mg "Fresh" = some (.ref (He.ga K "Fresh"))
  k_Fresh : Cls K (He.ga K "Fresh")
  m_Fresh_shows : Meth K (He.ga K "Fresh") "shows" (He.ma K (He.ga K "Fresh") "shows")
  b_Fresh : Bare K (He.ga K "Fresh")
  t_Fresh : Ins1 K (He.ga K "Fresh")
  is_Fresh_Past : PySem.W.kitOne K (.ref (He.ga K "Fresh")) (.ref (He.ga K "Past")) = some false
  is_Fresh_Answer : PySem.W.kitOne K (.ref (He.ga K "Fresh")) (.ref (He.ga K "Answer")) = some true
  is_Fresh_Fresh : PySem.W.kitOne K (.ref (He.ga K "Fresh")) (.ref (He.ga K "Fresh")) = some true
  is_Fresh_Old : PySem.W.kitOne K (.ref (He.ga K "Fresh")) (.ref (He.ga K "Old")) = some false
  is_Fresh_Rounds : PySem.W.kitOne K (.ref (He.ga K "Fresh")) (.ref (He.ga K "Rounds")) = some false
  is_Fresh_Right : PySem.W.kitOne K (.ref (He.ga K "Fresh")) (.ref (He.ga K "Right")) = some false
  is_Fresh_Wrong : PySem.W.kitOne K (.ref (He.ga K "Fresh")) (.ref (He.ga K "Wrong")) = some false
  is_Fresh_Desk : PySem.W.kitOne K (.ref (He.ga K "Fresh")) (.ref (He.ga K "Desk")) = some false
  g_Old : mg "Old" = some (.ref (He.ga K "Old"))
  k_Old : Cls K (He.ga K "Old")
  m_Old_shows : Meth K (He.ga K "Old") "shows" (He.ma K (He.ga K "Old") "shows")
  i_Old : Mk K (He.ga K "Old") (He.ma K (He.ga K "Old") "__init__")
  t_Old : Ins1 K (He.ga K "Old")
  is_Old_Past : PySem.W.kitOne K (.ref (He.ga K "Old")) (.ref (He.ga K "Past")) = some false
  is_Old_Answer : PySem.W.kitOne K (.ref (He.ga K "Old")) (.ref (He.ga K "Answer")) = some true
  is_Old_Fresh : PySem.W.kitOne K (.ref (He.ga K "Old")) (.ref (He.ga K "Fresh")) = some false
  is_Old_Old : PySem.W.kitOne K (.ref (He.ga K "Old")) (.ref (He.ga K "Old")) = some true
  is_Old_Rounds : PySem.W.kitOne K (.ref (He.ga K "Old")) (.ref (He.ga K "Rounds")) = some false
  is_Old_Right : PySem.W.kitOne K (.ref (He.ga K "Old")) (.ref (He.ga K "Right")) = some false
  is_Old_Wrong : PySem.W.kitOne K (.ref (He.ga K "Old")) (.ref (He.ga K "Wrong")) = some false
  is_Old_Desk : PySem.W.kitOne K (.ref (He.ga K "Old")) (.ref (He.ga K "Desk")) = some false
  g_Rounds : mg "Rounds" = some (.ref (He.ga K "Rounds"))
  k_Rounds : Cls K (He.ga K "Rounds")
  m_Rounds_shows : Meth K (He.ga K "Rounds") "shows" (He.ma K (He.ga K "Rounds") "shows")
  i_Rounds : Mk K (He.ga K "Rounds") (He.ma K (He.ga K "Rounds") "__init__")
  t_Rounds : Ins1 K (He.ga K "Rounds")
  is_Rounds_Past : PySem.W.kitOne K (.ref (He.ga K "Rounds")) (.ref (He.ga K "Past")) = some false
  is_Rounds_Answer : PySem.W.kitOne K (.ref (He.ga K "Rounds")) (.ref (He.ga K "Answer")) = some true
  is_Rounds_Fresh : PySem.W.kitOne K (.ref (He.ga K "Rounds")) (.ref (He.ga K "Fresh")) = some false
  is_Rounds_Old : PySem.W.kitOne K (.ref (He.ga K "Rounds")) (.ref (He.ga K "Old")) = some false
  is_Rounds_Rounds : PySem.W.kitOne K (.ref (He.ga K "Rounds")) (.ref (He.ga K "Rounds")) = some true
  is_Rounds_Right : PySem.W.kitOne K (.ref (He.ga K "Rounds")) (.ref (He.ga K "Right")) = some false
  is_Rounds_Wrong : PySem.W.kitOne K (.ref (He.ga K "Rounds")) (.ref (He.ga K "Wrong")) = some false
  is_Rounds_Desk : PySem.W.kitOne K (.ref (He.ga K "Rounds")) (.ref (He.ga K "Desk")) = some false
  g_Right : mg "Right" = some (.ref (He.ga K "Right"))
  k_Right : Cls K (He.ga K "Right")
  m_Right_shows : Meth K (He.ga K "Right") "shows" (He.ma K (He.ga K "Right") "shows")
  b_Right : Bare K (He.ga K "Right")
  t_Right : Ins1 K (He.ga K "Right")
  is_Right_Past : PySem.W.kitOne K (.ref (He.ga K "Right")) (.ref (He.ga K "Past")) = some false
  is_Right_Answer : PySem.W.kitOne K (.ref (He.ga K "Right")) (.ref (He.ga K "Answer")) = some true
  is_Right_Fresh : PySem.W.kitOne K (.ref (He.ga K "Right")) (.ref (He.ga K "Fresh")) = some false
  is_Right_Old : PySem.W.kitOne K (.ref (He.ga K "Right")) (.ref (He.ga K "Old")) = some false
  is_Right_Rounds : PySem.W.kitOne K (.ref (He.ga K "Right")) (.ref (He.ga K "Rounds")) = some false
  is_Right_Right : PySem.W.kitOne K (.ref (He.ga K "Right")) (.ref (He.ga K "Right")) = some true
  is_Right_Wrong : PySem.W.kitOne K (.ref (He.ga K "Right")) (.ref (He.ga K "Wrong")) = some false
  is_Right_Desk : PySem.W.kitOne K (.ref (He.ga K "Right")) (.ref (He.ga K "Desk")) = some false
  g_Wrong : mg "Wrong" = some (.ref (He.ga K "Wrong"))
  k_Wrong : Cls K (He.ga K "Wrong")
  m_Wrong_shows : Meth K (He.ga K "Wrong") "shows" (He.ma K (He.ga K "Wrong") "shows")
  i_Wrong : Mk K (He.ga K "Wrong") (He.ma K (He.ga K "Wrong") "__init__")
  t_Wrong : Ins1 K (He.ga K "Wrong")
  is_Wrong_Past : PySem.W.kitOne K (.ref (He.ga K "Wrong")) (.ref (He.ga K "Past")) = some false
  is_Wrong_Answer : PySem.W.kitOne K (.ref (He.ga K "Wrong")) (.ref (He.ga K "Answer")) = some true
  is_Wrong_Fresh : PySem.W.kitOne K (.ref (He.ga K "Wrong")) (.ref (He.ga K "Fresh")) = some false
  is_Wrong_Old : PySem.W.kitOne K (.ref (He.ga K "Wrong")) (.ref (He.ga K "Old")) = some false
  is_Wrong_Rounds : PySem.W.kitOne K (.ref (He.ga K "Wrong")) (.ref (He.ga K "Rounds")) = some false
  is_Wrong_Right : PySem.W.kitOne K (.ref (He.ga K "Wrong")) (.ref (He.ga K "Right")) = some false
  is_Wrong_Wrong : PySem.W.kitOne K (.ref (He.ga K "Wrong")) (.ref (He.ga K "Wrong")) = some true
  is_Wrong_Desk : PySem.W.kitOne K (.ref (He.ga K "Wrong")) (.ref (He.ga K "Desk")) = some false
  g_Desk : mg "Desk" = some (.ref (He.ga K "Desk"))
  k_Desk : Cls K (He.ga K "Desk")
  m_Desk_phrase : Meth K (He.ga K "Desk") "phrase" (He.ma K (He.ga K "Desk") "phrase")
  m_Desk_put : Meth K (He.ga K "Desk") "put" (He.ma K (He.ga K "Desk") "put")
  m_Desk_back : Meth K (He.ga K "Desk") "back" (He.ma K (He.ga K "Desk") "back")
  m_Desk_now : Meth K (He.ga K "Desk") "now" (He.ma K (He.ga K "Desk") "now")
  m_Desk_all_put : Meth K (He.ga K "Desk") "all_put" (He.ma K (He.ga K "Desk") "all_put")
  m_Desk_row : Meth K (He.ga K "Desk") "row" (He.ma K (He.ga K "Desk") "row")
  m_Desk_old : Meth K (He.ga K "Desk") "old" (He.ma K (He.ga K "Desk") "old")
  m_Desk_likes : Meth K (He.ga K "Desk") "likes" (He.ma K (He.ga K "Desk") "likes")
  m_Desk_fill : Meth K (He.ga K "Desk") "fill" (He.ma K (He.ga K "Desk") "fill")
  m_Desk_rounds : Meth K (He.ga K "Desk") "rounds" (He.ma K (He.ga K "Desk") "rounds")
  m_Desk_tale : Meth K (He.ga K "Desk") "tale" (He.ma K (He.ga K "Desk") "tale")
  m_Desk_check_phrase : Meth K (He.ga K "Desk") "check_phrase" (He.ma K (He.ga K "Desk") "check_phrase")
  m_Desk_check_place : Meth K (He.ga K "Desk") "check_place" (He.ma K (He.ga K "Desk") "check_place")
  m_Desk_check_other_tongue : Meth K (He.ga K "Desk") "check_other_tongue" (He.ma K (He.ga K "Desk") "check_other_tongue")
  m_Desk_check_text : Meth K (He.ga K "Desk") "check_text" (He.ma K (He.ga K "Desk") "check_text")
  m_Desk_is_fresh : Meth K (He.ga K "Desk") "is_fresh" (He.ma K (He.ga K "Desk") "is_fresh")
  m_Desk_texts_to_fill : Meth K (He.ga K "Desk") "texts_to_fill" (He.ma K (He.ga K "Desk") "texts_to_fill")
  m_Desk_put_like : Meth K (He.ga K "Desk") "put_like" (He.ma K (He.ga K "Desk") "put_like")
  i_Desk : Mk K (He.ga K "Desk") (He.ma K (He.ga K "Desk") "__init__")
  t_Desk : Ins1 K (He.ga K "Desk")
  is_Desk_Past : PySem.W.kitOne K (.ref (He.ga K "Desk")) (.ref (He.ga K "Past")) = some false
  is_Desk_Answer : PySem.W.kitOne K (.ref (He.ga K "Desk")) (.ref (He.ga K "Answer")) = some false
  is_Desk_Fresh : PySem.W.kitOne K (.ref (He.ga K "Desk")) (.ref (He.ga K "Fresh")) = some false
  is_Desk_Old : PySem.W.kitOne K (.ref (He.ga K "Desk")) (.ref (He.ga K "Old")) = some false
  is_Desk_Rounds : PySem.W.kitOne K (.ref (He.ga K "Desk")) (.ref (He.ga K "Rounds")) = some false
  is_Desk_Right : PySem.W.kitOne K (.ref (He.ga K "Desk")) (.ref (He.ga K "Right")) = some false
  is_Desk_Wrong : PySem.W.kitOne K (.ref (He.ga K "Desk")) (.ref (He.ga K "Wrong")) = some false
  is_Desk_Desk : PySem.W.kitOne K (.ref (He.ga K "Desk")) (.ref (He.ga K "Desk")) = some true
  n_Past_ever : NoAttr K (He.ga K "Past") "ever"
  n_Past_froms : NoAttr K (He.ga K "Past") "froms"
  n_Past_origins : NoAttr K (He.ga K "Past") "origins"
  n_Past_phrases : NoAttr K (He.ga K "Past") "phrases"
  n_Past_piles : NoAttr K (He.ga K "Past") "piles"
  n_Past_texts : NoAttr K (He.ga K "Past") "texts"
  n_Old_chain : NoAttr K (He.ga K "Old") "chain"
  n_Rounds_depth : NoAttr K (He.ga K "Rounds") "depth"
  n_Rounds_rows : NoAttr K (He.ga K "Rounds") "rows"
  n_Wrong_line : NoAttr K (He.ga K "Wrong") "line"
  n_Desk_lines : NoAttr K (He.ga K "Desk") "lines"
  n_Desk_past : NoAttr K (He.ga K "Desk") "past"
  g_PhraseError : mg "PhraseError" = some (.ref (He.ga K "PhraseError"))
  g_BadFroms : mg "BadFroms" = some (.ref (He.ga K "BadFroms"))
  g_BadPhrase : mg "BadPhrase" = some (.ref (He.ga K "BadPhrase"))
  g_BadTongue : mg "BadTongue" = some (.ref (He.ga K "BadTongue"))
  g_BadText : mg "BadText" = some (.ref (He.ga K "BadText"))
  g_BadSeen : mg "BadSeen" = some (.ref (He.ga K "BadSeen"))
  g_BadOld : mg "BadOld" = some (.ref (He.ga K "BadOld"))
  g_BadHands : mg "BadHands" = some (.ref (He.ga K "BadHands"))
  g_BadTale : mg "BadTale" = some (.ref (He.ga K "BadTale"))
  g_Overtaken : mg "Overtaken" = some (.ref (He.ga K "Overtaken"))
  g_Nothing : mg "Nothing" = some (.ref (He.ga K "Nothing"))
  g_TooMany : mg "TooMany" = some (.ref (He.ga K "TooMany"))
--MK
theorem exs_at {K : PySem.W.Frag} (h : ex K = true) (i : Nat) {b : Bool} (e : (exs K)[i]? = some b) : b = true := List.all_eq_true.mp h b (List.mem_of_getElem? e)
theorem ins_ok {K : PySem.W.Frag} {x : Str} (h : insB K x = true) : Ins1 K (He.ga K x) := by
  obtain ⟨h1, h⟩ := He.ba h
  obtain ⟨h2, h⟩ := He.ba h
  obtain ⟨h3, h4⟩ := He.ba h
  exact ⟨He.eqO_ok h1, He.eqO_ok h3, of_decide_eq_true h4, of_decide_eq_true h2⟩
theorem bare_ok {K : PySem.W.Frag} {x : Str} (h : bareB K x = true) : Bare K (He.ga K x) := by
  obtain ⟨h1, h⟩ := He.ba h
  obtain ⟨h2, h3⟩ := He.ba h
  exact ⟨h1, He.eqO_ok h2, h3⟩
theorem tx_mk {K : PySem.W.Frag} {h : Heap} {w : World} {mg : Str → Option Value} (X : K.In h) (G : h.Ns mainGlobals mg) (c : He.SaysX fa fn [] tfs ex w h K) : Tx K mg where
  F_wall := c.t.d.def_ 0 (d := d_wall) rfl
  g_wall := He.glo_ok X G (c.t.d.fact 0 (f := .glo "_wall") rfl)
  F_is_number := c.t.d.def_ 1 (d := d_is_number) rfl
  g_is_number := He.glo_ok X G (c.t.d.fact 1 (f := .glo "is_number") rfl)
  F_is_count := c.t.d.def_ 2 (d := d_is_count) rfl
  g_is_count := He.glo_ok X G (c.t.d.fact 2 (f := .glo "is_count") rfl)
  F_is_number_or_none := c.t.d.def_ 3 (d := d_is_number_or_none) rfl
  g_is_number_or_none := He.glo_ok X G (c.t.d.fact 3 (f := .glo "is_number_or_none") rfl)
  F_is_pair := c.t.d.def_ 4 (d := d_is_pair) rfl
  g_is_pair := He.glo_ok X G (c.t.d.fact 4 (f := .glo "is_pair") rfl)
  F_is_text := c.t.d.def_ 5 (d := d_is_text) rfl
  g_is_text := He.glo_ok X G (c.t.d.fact 5 (f := .glo "is_text") rfl)
  F_is_froms := c.t.d.def_ 6 (d := d_is_froms) rfl
  g_is_froms := He.glo_ok X G (c.t.d.fact 6 (f := .glo "is_froms") rfl)
  F_is_tongue := c.t.d.def_ 7 (d := d_is_tongue) rfl
  g_is_tongue := He.glo_ok X G (c.t.d.fact 7 (f := .glo "is_tongue") rfl)
  F_is_old_one := c.t.d.def_ 8 (d := d_is_old_one) rfl
  g_is_old_one := He.glo_ok X G (c.t.d.fact 8 (f := .glo "is_old_one") rfl)
  F_is_old := c.t.d.def_ 9 (d := d_is_old) rfl
  g_is_old := He.glo_ok X G (c.t.d.fact 9 (f := .glo "is_old") rfl)
  F_is_hands := c.t.d.def_ 10 (d := d_is_hands) rfl
  g_is_hands := He.glo_ok X G (c.t.d.fact 10 (f := .glo "is_hands") rfl)
  F_is_phrase_line := c.t.d.def_ 11 (d := d_is_phrase_line) rfl
  g_is_phrase_line := He.glo_ok X G (c.t.d.fact 11 (f := .glo "is_phrase_line") rfl)
  F_is_put_line := c.t.d.def_ 12 (d := d_is_put_line) rfl
  g_is_put_line := He.glo_ok X G (c.t.d.fact 12 (f := .glo "is_put_line") rfl)
  F_is_back_line := c.t.d.def_ 13 (d := d_is_back_line) rfl
  g_is_back_line := He.glo_ok X G (c.t.d.fact 13 (f := .glo "is_back_line") rfl)
  F_is_line := c.t.d.def_ 14 (d := d_is_line) rfl
  g_is_line := He.glo_ok X G (c.t.d.fact 14 (f := .glo "is_line") rfl)
  F_is_tale := c.t.d.def_ 15 (d := d_is_tale) rfl
  g_is_tale := He.glo_ok X G (c.t.d.fact 15 (f := .glo "is_tale") rfl)
  F_copied := c.t.d.def_ 16 (d := d_copied) rfl
  g_copied := He.glo_ok X G (c.t.d.fact 16 (f := .glo "copied") rfl)
  F_put_from := c.t.d.def_ 17 (d := d_put_from) rfl
  g_put_from := He.glo_ok X G (c.t.d.fact 17 (f := .glo "put_from") rfl)
  F_is_broken := c.t.d.def_ 18 (d := d_is_broken) rfl
  g_is_broken := He.glo_ok X G (c.t.d.fact 18 (f := .glo "is_broken") rfl)
  F_chain_up := c.t.d.def_ 19 (d := d_chain_up) rfl
  g_chain_up := He.glo_ok X G (c.t.d.fact 19 (f := .glo "chain_up") rfl)
  F_one_above := c.t.d.def_ 20 (d := d_one_above) rfl
  g_one_above := He.glo_ok X G (c.t.d.fact 20 (f := .glo "one_above") rfl)
  F_depth_of := c.t.d.def_ 21 (d := d_depth_of) rfl
  g_depth_of := He.glo_ok X G (c.t.d.fact 21 (f := .glo "depth_of") rfl)
  F_rounds_needed := c.t.d.def_ 22 (d := d_rounds_needed) rfl
  g_rounds_needed := He.glo_ok X G (c.t.d.fact 22 (f := .glo "rounds_needed") rfl)
  F_round_of_each := c.t.d.def_ 23 (d := d_round_of_each) rfl
  g_round_of_each := He.glo_ok X G (c.t.d.fact 23 (f := .glo "round_of_each") rfl)
  F_is_put_anew := c.t.d.def_ 24 (d := d_is_put_anew) rfl
  g_is_put_anew := He.glo_ok X G (c.t.d.fact 24 (f := .glo "is_put_anew") rfl)
  F_Past_init := c.t.d.def_ 25 (d := d_Past_init) rfl
  F_Past_begin_phrase := c.t.d.def_ 26 (d := d_Past_begin_phrase) rfl
  F_Past_lay_down := c.t.d.def_ 27 (d := d_Past_lay_down) rfl
  F_Past_take_off := c.t.d.def_ 28 (d := d_Past_take_off) rfl
  F_Past_has_phrase := c.t.d.def_ 29 (d := d_Past_has_phrase) rfl
  F_Past_standing := c.t.d.def_ 30 (d := d_Past_standing) rfl
  F_Past_text_standing := c.t.d.def_ 31 (d := d_Past_text_standing) rfl
  F_Past_cells := c.t.d.def_ 32 (d := d_Past_cells) rfl
  F_Past_was_seen := c.t.d.def_ 33 (d := d_Past_was_seen) rfl
  F_Past_is_over := c.t.d.def_ 34 (d := d_Past_is_over) rfl
  F_Past_can_take_off := c.t.d.def_ 35 (d := d_Past_can_take_off) rfl
  F_Past_takes := c.t.d.def_ 36 (d := d_Past_takes) rfl
  F_Past_takes_phrase := c.t.d.def_ 37 (d := d_Past_takes_phrase) rfl
  F_Past_takes_put := c.t.d.def_ 38 (d := d_Past_takes_put) rfl
  F_Past_takes_back := c.t.d.def_ 39 (d := d_Past_takes_back) rfl
  F_first_wrong_line := c.t.d.def_ 40 (d := d_first_wrong_line) rfl
  g_first_wrong_line := He.glo_ok X G (c.t.d.fact 25 (f := .glo "first_wrong_line") rfl)
  F_Fresh_shows := c.t.d.def_ 41 (d := d_Fresh_shows) rfl
  F_Old_init := c.t.d.def_ 42 (d := d_Old_init) rfl
  F_Old_shows := c.t.d.def_ 43 (d := d_Old_shows) rfl
  F_Rounds_init := c.t.d.def_ 44 (d := d_Rounds_init) rfl
  F_Rounds_shows := c.t.d.def_ 45 (d := d_Rounds_shows) rfl
  F_Right_shows := c.t.d.def_ 46 (d := d_Right_shows) rfl
  F_Wrong_init := c.t.d.def_ 47 (d := d_Wrong_init) rfl
  F_Wrong_shows := c.t.d.def_ 48 (d := d_Wrong_shows) rfl
  F_judged := c.t.d.def_ 49 (d := d_judged) rfl
  g_judged := He.glo_ok X G (c.t.d.fact 26 (f := .glo "judged") rfl)
  F_evened := c.t.d.def_ 50 (d := d_evened) rfl
  g_evened := He.glo_ok X G (c.t.d.fact 27 (f := .glo "evened") rfl)
  F_fewest_rows := c.t.d.def_ 51 (d := d_fewest_rows) rfl
  g_fewest_rows := He.glo_ok X G (c.t.d.fact 28 (f := .glo "fewest_rows") rfl)
  F_deepest_first := c.t.d.def_ 52 (d := d_deepest_first) rfl
  g_deepest_first := He.glo_ok X G (c.t.d.fact 29 (f := .glo "deepest_first") rfl)
  F_last_row := c.t.d.def_ 53 (d := d_last_row) rfl
  g_last_row := He.glo_ok X G (c.t.d.fact 30 (f := .glo "last_row") rfl)
  F_telling_depth := c.t.d.def_ 54 (d := d_telling_depth) rfl
  g_telling_depth := He.glo_ok X G (c.t.d.fact 31 (f := .glo "telling_depth") rfl)
  F_Desk_init := c.t.d.def_ 55 (d := d_Desk_init) rfl
  F_Desk_phrase := c.t.d.def_ 56 (d := d_Desk_phrase) rfl
  F_Desk_put := c.t.d.def_ 57 (d := d_Desk_put) rfl
  F_Desk_back := c.t.d.def_ 58 (d := d_Desk_back) rfl
  F_Desk_now := c.t.d.def_ 59 (d := d_Desk_now) rfl
  F_Desk_all_put := c.t.d.def_ 60 (d := d_Desk_all_put) rfl
  F_Desk_row := c.t.d.def_ 61 (d := d_Desk_row) rfl
  F_Desk_old := c.t.d.def_ 62 (d := d_Desk_old) rfl
  F_Desk_likes := c.t.d.def_ 63 (d := d_Desk_likes) rfl
  F_Desk_fill := c.t.d.def_ 64 (d := d_Desk_fill) rfl
  F_Desk_rounds := c.t.d.def_ 65 (d := d_Desk_rounds) rfl
  F_Desk_tale := c.t.d.def_ 66 (d := d_Desk_tale) rfl
  F_Desk_check_phrase := c.t.d.def_ 67 (d := d_Desk_check_phrase) rfl
  F_Desk_check_place := c.t.d.def_ 68 (d := d_Desk_check_place) rfl
  F_Desk_check_other_tongue := c.t.d.def_ 69 (d := d_Desk_check_other_tongue) rfl
  F_Desk_check_text := c.t.d.def_ 70 (d := d_Desk_check_text) rfl
  F_Desk_is_fresh := c.t.d.def_ 71 (d := d_Desk_is_fresh) rfl
  F_Desk_texts_to_fill := c.t.d.def_ 72 (d := d_Desk_texts_to_fill) rfl
  F_Desk_put_like := c.t.d.def_ 73 (d := d_Desk_put_like) rfl
  F_law_cell_at := c.t.d.def_ 74 (d := d_law_cell_at) rfl
  g_law_cell_at := He.glo_ok X G (c.t.d.fact 32 (f := .glo "_law_cell_at") rfl)
  F_law_draw := c.t.d.def_ 75 (d := d_law_draw) rfl
  g_law_draw := He.glo_ok X G (c.t.d.fact 33 (f := .glo "_law_draw") rfl)
  F_law_number := c.t.d.def_ 76 (d := d_law_number) rfl
  g_law_number := He.glo_ok X G (c.t.d.fact 34 (f := .glo "_law_number") rfl)
  F_law_froms := c.t.d.def_ 77 (d := d_law_froms) rfl
  g_law_froms := He.glo_ok X G (c.t.d.fact 35 (f := .glo "_law_froms") rfl)
  F_law_text := c.t.d.def_ 78 (d := d_law_text) rfl
  g_law_text := He.glo_ok X G (c.t.d.fact 36 (f := .glo "_law_text") rfl)
  F_law_new := c.t.d.def_ 79 (d := d_law_new) rfl
  g_law_new := He.glo_ok X G (c.t.d.fact 37 (f := .glo "_law_new") rfl)
  F_law_now := c.t.d.def_ 80 (d := d_law_now) rfl
  g_law_now := He.glo_ok X G (c.t.d.fact 38 (f := .glo "_law_now") rfl)
  F_law_row := c.t.d.def_ 81 (d := d_law_row) rfl
  g_law_row := He.glo_ok X G (c.t.d.fact 39 (f := .glo "_law_row") rfl)
  F_law_chain := c.t.d.def_ 82 (d := d_law_chain) rfl
  g_law_chain := He.glo_ok X G (c.t.d.fact 40 (f := .glo "_law_chain") rfl)
  F_law_ever := c.t.d.def_ 83 (d := d_law_ever) rfl
  g_law_ever := He.glo_ok X G (c.t.d.fact 41 (f := .glo "_law_ever") rfl)
  F_law_likes := c.t.d.def_ 84 (d := d_law_likes) rfl
  g_law_likes := He.glo_ok X G (c.t.d.fact 42 (f := .glo "_law_likes") rfl)
  F_law_deed := c.t.d.def_ 85 (d := d_law_deed) rfl
  g_law_deed := He.glo_ok X G (c.t.d.fact 43 (f := .glo "_law_deed") rfl)
  F_law_put := c.t.d.def_ 86 (d := d_law_put) rfl
  g_law_put := He.glo_ok X G (c.t.d.fact 44 (f := .glo "_law_put") rfl)
  F_law_come := c.t.d.def_ 87 (d := d_law_come) rfl
  g_law_come := He.glo_ok X G (c.t.d.fact 45 (f := .glo "_law_come") rfl)
  F_law_do := c.t.d.def_ 88 (d := d_law_do) rfl
  g_law_do := He.glo_ok X G (c.t.d.fact 46 (f := .glo "_law_do") rfl)
  F_law_played := c.t.d.def_ 89 (d := d_law_played) rfl
  g_law_played := He.glo_ok X G (c.t.d.fact 47 (f := .glo "_law_played") rfl)
  F_law_whole := c.t.d.def_ 90 (d := d_law_whole) rfl
  g_law_whole := He.glo_ok X G (c.t.d.fact 48 (f := .glo "_law_whole") rfl)
  F_law_says := c.t.d.def_ 91 (d := d_law_says) rfl
  g_law_says := He.glo_ok X G (c.t.d.fact 49 (f := .glo "_law_says") rfl)
  F_law_fits := c.t.d.def_ 92 (d := d_law_fits) rfl
  g_law_fits := He.glo_ok X G (c.t.d.fact 50 (f := .glo "_law_fits") rfl)
  F_law_wrong := c.t.d.def_ 93 (d := d_law_wrong) rfl
  g_law_wrong := He.glo_ok X G (c.t.d.fact 51 (f := .glo "_law_wrong") rfl)
  F_law_right := c.t.d.def_ 94 (d := d_law_right) rfl
  g_law_right := He.glo_ok X G (c.t.d.fact 52 (f := .glo "_law_right") rfl)
  F_law_spoilt := c.t.d.def_ 95 (d := d_law_spoilt) rfl
  g_law_spoilt := He.glo_ok X G (c.t.d.fact 53 (f := .glo "_law_spoilt") rfl)
  F_law_line_of := c.t.d.def_ 96 (d := d_law_line_of) rfl
  g_law_line_of := He.glo_ok X G (c.t.d.fact 54 (f := .glo "_law_line_of") rfl)
  F_law_changed_right := c.t.d.def_ 97 (d := d_law_changed_right) rfl
  g_law_changed_right := He.glo_ok X G (c.t.d.fact 55 (f := .glo "_law_changed_right") rfl)
  F_law := c.t.d.def_ 98 (d := d_law) rfl
  g_law := He.glo_ok X G (c.t.d.fact 56 (f := .glo "law") rfl)
  g_FEWEST_TONGUES := He.int_ok X G (c.t.d.fact 57 (f := .int "FEWEST_TONGUES" 2) rfl)
  g_MOST_TONGUES := He.int_ok X G (c.t.d.fact 58 (f := .int "MOST_TONGUES" 8) rfl)
  g_MOST_PHRASES := He.int_ok X G (c.t.d.fact 59 (f := .int "MOST_PHRASES" 6) rfl)
  g_MOST_LETTERS := He.int_ok X G (c.t.d.fact 60 (f := .int "MOST_LETTERS" 6) rfl)
  g_MOST_HANDS := He.int_ok X G (c.t.d.fact 61 (f := .int "MOST_HANDS" 4) rfl)
  g_MOST_LINES := He.int_ok X G (c.t.d.fact 62 (f := .int "MOST_LINES" 40) rfl)
  g_LETTERS := He.str_ok X G (c.t.d.fact 63 (f := .str "LETTERS" "abcdefghijklmnopqrstuvwxyz") rfl)
  f_all := He.free_ok X G (c.t.d.fact 64 (f := .free "all") rfl)
  f_bool := He.free_ok X G (c.t.d.fact 65 (f := .free "bool") rfl)
  f_enumerate := He.free_ok X G (c.t.d.fact 66 (f := .free "enumerate") rfl)
  f_int := He.free_ok X G (c.t.d.fact 67 (f := .free "int") rfl)
  f_isinstance := He.free_ok X G (c.t.d.fact 68 (f := .free "isinstance") rfl)
  f_len := He.free_ok X G (c.t.d.fact 69 (f := .free "len") rfl)
  f_list := He.free_ok X G (c.t.d.fact 70 (f := .free "list") rfl)
  f_max := He.free_ok X G (c.t.d.fact 71 (f := .free "max") rfl)
  f_range := He.free_ok X G (c.t.d.fact 72 (f := .free "range") rfl)
  f_set := He.free_ok X G (c.t.d.fact 73 (f := .free "set") rfl)
  f_sorted := He.free_ok X G (c.t.d.fact 74 (f := .free "sorted") rfl)
  f_str := He.free_ok X G (c.t.d.fact 75 (f := .free "str") rfl)
  f_tuple := He.free_ok X G (c.t.d.fact 76 (f := .free "tuple") rfl)
  f_zip := He.free_ok X G (c.t.d.fact 77 (f := .free "zip") rfl)
  g_Past := He.glo_ok X G (c.t.d.fact 78 (f := .glo "Past") rfl)
  k_Past := He.cls_ok (c.t.d.fact 79 (f := .cls "Past") rfl)
  m_Past_begin_phrase := He.meth_ok (c.t.d.fact 80 (f := .meth "Past" "begin_phrase") rfl)
  m_Past_lay_down := He.meth_ok (c.t.d.fact 81 (f := .meth "Past" "lay_down") rfl)
  m_Past_take_off := He.meth_ok (c.t.d.fact 82 (f := .meth "Past" "take_off") rfl)
  m_Past_has_phrase := He.meth_ok (c.t.d.fact 83 (f := .meth "Past" "has_phrase") rfl)
  m_Past_standing := He.meth_ok (c.t.d.fact 84 (f := .meth "Past" "standing") rfl)
  m_Past_text_standing := He.meth_ok (c.t.d.fact 85 (f := .meth "Past" "text_standing") rfl)
  m_Past_cells := He.meth_ok (c.t.d.fact 86 (f := .meth "Past" "cells") rfl)
  m_Past_was_seen := He.meth_ok (c.t.d.fact 87 (f := .meth "Past" "was_seen") rfl)
  m_Past_is_over := He.meth_ok (c.t.d.fact 88 (f := .meth "Past" "is_over") rfl)
  m_Past_can_take_off := He.meth_ok (c.t.d.fact 89 (f := .meth "Past" "can_take_off") rfl)
  m_Past_takes := He.meth_ok (c.t.d.fact 90 (f := .meth "Past" "takes") rfl)
  m_Past_takes_phrase := He.meth_ok (c.t.d.fact 91 (f := .meth "Past" "takes_phrase") rfl)
  m_Past_takes_put := He.meth_ok (c.t.d.fact 92 (f := .meth "Past" "takes_put") rfl)
  m_Past_takes_back := He.meth_ok (c.t.d.fact 93 (f := .meth "Past" "takes_back") rfl)
  i_Past := He.mkr_ok (c.t.d.fact 94 (f := .mkr "Past") rfl)
  t_Past := ins_ok (x := "Past") (exs_at c.more 0 rfl)
  is_Past_Past := of_decide_eq_true (exs_at c.more 1 rfl)
  is_Past_Answer := of_decide_eq_true (exs_at c.more 2 rfl)
  is_Past_Fresh := of_decide_eq_true (exs_at c.more 3 rfl)
  is_Past_Old := of_decide_eq_true (exs_at c.more 4 rfl)
  is_Past_Rounds := of_decide_eq_true (exs_at c.more 5 rfl)
  is_Past_Right := of_decide_eq_true (exs_at c.more 6 rfl)
  is_Past_Wrong := of_decide_eq_true (exs_at c.more 7 rfl)
  is_Past_Desk := of_decide_eq_true (exs_at c.more 8 rfl)
  g_Answer := He.glo_ok X G (c.t.d.fact 95 (f := .glo "Answer") rfl)
  k_Answer := He.cls_ok (c.t.d.fact 96 (f := .cls "Answer") rfl)
  b_Answer := bare_ok (x := "Answer") (exs_at c.more 10 rfl)
  t_Answer := ins_ok (x := "Answer") (exs_at c.more 9 rfl)
  is_Answer_Past := of_decide_eq_true (exs_at c.more 11 rfl)
  is_Answer_Answer := of_decide_eq_true (exs_at c.more 12 rfl)
  is_Answer_Fresh := of_decide_eq_true (exs_at c.more 13 rfl)
  is_Answer_Old := of_decide_eq_true (exs_at c.more 14 rfl)
  is_Answer_Rounds := of_decide_eq_true (exs_at c.more 15 rfl)
  is_Answer_Right := of_decide_eq_true (exs_at c.more 16 rfl)
  is_Answer_Wrong := of_decide_eq_true (exs_at c.more 17 rfl)
  is_Answer_Desk := of_decide_eq_true (exs_at c.more 18 rfl)
  g_Fresh := He.glo_ok X G (c.t.d.fact 97 (f := .glo "Fresh") rfl)
  k_Fresh := He.cls_ok (c.t.d.fact 98 (f := .cls "Fresh") rfl)
  m_Fresh_shows := He.meth_ok (c.t.d.fact 99 (f := .meth "Fresh" "shows") rfl)
  b_Fresh := bare_ok (x := "Fresh") (exs_at c.more 20 rfl)
  t_Fresh := ins_ok (x := "Fresh") (exs_at c.more 19 rfl)
  is_Fresh_Past := of_decide_eq_true (exs_at c.more 21 rfl)
  is_Fresh_Answer := of_decide_eq_true (exs_at c.more 22 rfl)
  is_Fresh_Fresh := of_decide_eq_true (exs_at c.more 23 rfl)
  is_Fresh_Old := of_decide_eq_true (exs_at c.more 24 rfl)
  is_Fresh_Rounds := of_decide_eq_true (exs_at c.more 25 rfl)
  is_Fresh_Right := of_decide_eq_true (exs_at c.more 26 rfl)
  is_Fresh_Wrong := of_decide_eq_true (exs_at c.more 27 rfl)
  is_Fresh_Desk := of_decide_eq_true (exs_at c.more 28 rfl)
  g_Old := He.glo_ok X G (c.t.d.fact 100 (f := .glo "Old") rfl)
  k_Old := He.cls_ok (c.t.d.fact 101 (f := .cls "Old") rfl)
  m_Old_shows := He.meth_ok (c.t.d.fact 102 (f := .meth "Old" "shows") rfl)
  i_Old := He.mkr_ok (c.t.d.fact 103 (f := .mkr "Old") rfl)
  t_Old := ins_ok (x := "Old") (exs_at c.more 29 rfl)
  is_Old_Past := of_decide_eq_true (exs_at c.more 30 rfl)
  is_Old_Answer := of_decide_eq_true (exs_at c.more 31 rfl)
  is_Old_Fresh := of_decide_eq_true (exs_at c.more 32 rfl)
  is_Old_Old := of_decide_eq_true (exs_at c.more 33 rfl)
  is_Old_Rounds := of_decide_eq_true (exs_at c.more 34 rfl)
  is_Old_Right := of_decide_eq_true (exs_at c.more 35 rfl)
  is_Old_Wrong := of_decide_eq_true (exs_at c.more 36 rfl)
  is_Old_Desk := of_decide_eq_true (exs_at c.more 37 rfl)
  g_Rounds := He.glo_ok X G (c.t.d.fact 104 (f := .glo "Rounds") rfl)
  k_Rounds := He.cls_ok (c.t.d.fact 105 (f := .cls "Rounds") rfl)
  m_Rounds_shows := He.meth_ok (c.t.d.fact 106 (f := .meth "Rounds" "shows") rfl)
  i_Rounds := He.mkr_ok (c.t.d.fact 107 (f := .mkr "Rounds") rfl)
  t_Rounds := ins_ok (x := "Rounds") (exs_at c.more 38 rfl)
  is_Rounds_Past := of_decide_eq_true (exs_at c.more 39 rfl)
  is_Rounds_Answer := of_decide_eq_true (exs_at c.more 40 rfl)
  is_Rounds_Fresh := of_decide_eq_true (exs_at c.more 41 rfl)
  is_Rounds_Old := of_decide_eq_true (exs_at c.more 42 rfl)
  is_Rounds_Rounds := of_decide_eq_true (exs_at c.more 43 rfl)
  is_Rounds_Right := of_decide_eq_true (exs_at c.more 44 rfl)
  is_Rounds_Wrong := of_decide_eq_true (exs_at c.more 45 rfl)
  is_Rounds_Desk := of_decide_eq_true (exs_at c.more 46 rfl)
  g_Right := He.glo_ok X G (c.t.d.fact 108 (f := .glo "Right") rfl)
  k_Right := He.cls_ok (c.t.d.fact 109 (f := .cls "Right") rfl)
  m_Right_shows := He.meth_ok (c.t.d.fact 110 (f := .meth "Right" "shows") rfl)
  b_Right := bare_ok (x := "Right") (exs_at c.more 48 rfl)
  t_Right := ins_ok (x := "Right") (exs_at c.more 47 rfl)
  is_Right_Past := of_decide_eq_true (exs_at c.more 49 rfl)
  is_Right_Answer := of_decide_eq_true (exs_at c.more 50 rfl)
  is_Right_Fresh := of_decide_eq_true (exs_at c.more 51 rfl)
  is_Right_Old := of_decide_eq_true (exs_at c.more 52 rfl)
  is_Right_Rounds := of_decide_eq_true (exs_at c.more 53 rfl)
  is_Right_Right := of_decide_eq_true (exs_at c.more 54 rfl)
  is_Right_Wrong := of_decide_eq_true (exs_at c.more 55 rfl)
  is_Right_Desk := of_decide_eq_true (exs_at c.more 56 rfl)
  g_Wrong := He.glo_ok X G (c.t.d.fact 111 (f := .glo "Wrong") rfl)
  k_Wrong := He.cls_ok (c.t.d.fact 112 (f := .cls "Wrong") rfl)
  m_Wrong_shows := He.meth_ok (c.t.d.fact 113 (f := .meth "Wrong" "shows") rfl)
  i_Wrong := He.mkr_ok (c.t.d.fact 114 (f := .mkr "Wrong") rfl)
  t_Wrong := ins_ok (x := "Wrong") (exs_at c.more 57 rfl)
  is_Wrong_Past := of_decide_eq_true (exs_at c.more 58 rfl)
  is_Wrong_Answer := of_decide_eq_true (exs_at c.more 59 rfl)
  is_Wrong_Fresh := of_decide_eq_true (exs_at c.more 60 rfl)
  is_Wrong_Old := of_decide_eq_true (exs_at c.more 61 rfl)
  is_Wrong_Rounds := of_decide_eq_true (exs_at c.more 62 rfl)
  is_Wrong_Right := of_decide_eq_true (exs_at c.more 63 rfl)
  is_Wrong_Wrong := of_decide_eq_true (exs_at c.more 64 rfl)
  is_Wrong_Desk := of_decide_eq_true (exs_at c.more 65 rfl)
  g_Desk := He.glo_ok X G (c.t.d.fact 115 (f := .glo "Desk") rfl)
  k_Desk := He.cls_ok (c.t.d.fact 116 (f := .cls "Desk") rfl)
  m_Desk_phrase := He.meth_ok (c.t.d.fact 117 (f := .meth "Desk" "phrase") rfl)
  m_Desk_put := He.meth_ok (c.t.d.fact 118 (f := .meth "Desk" "put") rfl)
  m_Desk_back := He.meth_ok (c.t.d.fact 119 (f := .meth "Desk" "back") rfl)
  m_Desk_now := He.meth_ok (c.t.d.fact 120 (f := .meth "Desk" "now") rfl)
  m_Desk_all_put := He.meth_ok (c.t.d.fact 121 (f := .meth "Desk" "all_put") rfl)
  m_Desk_row := He.meth_ok (c.t.d.fact 122 (f := .meth "Desk" "row") rfl)
  m_Desk_old := He.meth_ok (c.t.d.fact 123 (f := .meth "Desk" "old") rfl)
  m_Desk_likes := He.meth_ok (c.t.d.fact 124 (f := .meth "Desk" "likes") rfl)
  m_Desk_fill := He.meth_ok (c.t.d.fact 125 (f := .meth "Desk" "fill") rfl)
  m_Desk_rounds := He.meth_ok (c.t.d.fact 126 (f := .meth "Desk" "rounds") rfl)
  m_Desk_tale := He.meth_ok (c.t.d.fact 127 (f := .meth "Desk" "tale") rfl)
  m_Desk_check_phrase := He.meth_ok (c.t.d.fact 128 (f := .meth "Desk" "check_phrase") rfl)
  m_Desk_check_place := He.meth_ok (c.t.d.fact 129 (f := .meth "Desk" "check_place") rfl)
  m_Desk_check_other_tongue := He.meth_ok (c.t.d.fact 130 (f := .meth "Desk" "check_other_tongue") rfl)
  m_Desk_check_text := He.meth_ok (c.t.d.fact 131 (f := .meth "Desk" "check_text") rfl)
  m_Desk_is_fresh := He.meth_ok (c.t.d.fact 132 (f := .meth "Desk" "is_fresh") rfl)
  m_Desk_texts_to_fill := He.meth_ok (c.t.d.fact 133 (f := .meth "Desk" "texts_to_fill") rfl)
  m_Desk_put_like := He.meth_ok (c.t.d.fact 134 (f := .meth "Desk" "put_like") rfl)
  i_Desk := He.mkr_ok (c.t.d.fact 135 (f := .mkr "Desk") rfl)
  t_Desk := ins_ok (x := "Desk") (exs_at c.more 66 rfl)
  is_Desk_Past := of_decide_eq_true (exs_at c.more 67 rfl)
  is_Desk_Answer := of_decide_eq_true (exs_at c.more 68 rfl)
  is_Desk_Fresh := of_decide_eq_true (exs_at c.more 69 rfl)
  is_Desk_Old := of_decide_eq_true (exs_at c.more 70 rfl)
  is_Desk_Rounds := of_decide_eq_true (exs_at c.more 71 rfl)
  is_Desk_Right := of_decide_eq_true (exs_at c.more 72 rfl)
  is_Desk_Wrong := of_decide_eq_true (exs_at c.more 73 rfl)
  is_Desk_Desk := of_decide_eq_true (exs_at c.more 74 rfl)
  n_Past_ever := He.noat_ok (c.t.d.fact 136 (f := .noat "Past" "ever") rfl)
  n_Past_froms := He.noat_ok (c.t.d.fact 137 (f := .noat "Past" "froms") rfl)
  n_Past_origins := He.noat_ok (c.t.d.fact 138 (f := .noat "Past" "origins") rfl)
  n_Past_phrases := He.noat_ok (c.t.d.fact 139 (f := .noat "Past" "phrases") rfl)
  n_Past_piles := He.noat_ok (c.t.d.fact 140 (f := .noat "Past" "piles") rfl)
  n_Past_texts := He.noat_ok (c.t.d.fact 141 (f := .noat "Past" "texts") rfl)
  n_Old_chain := He.noat_ok (c.t.d.fact 142 (f := .noat "Old" "chain") rfl)
  n_Rounds_depth := He.noat_ok (c.t.d.fact 143 (f := .noat "Rounds" "depth") rfl)
  n_Rounds_rows := He.noat_ok (c.t.d.fact 144 (f := .noat "Rounds" "rows") rfl)
  n_Wrong_line := He.noat_ok (c.t.d.fact 145 (f := .noat "Wrong" "line") rfl)
  n_Desk_lines := He.noat_ok (c.t.d.fact 146 (f := .noat "Desk" "lines") rfl)
  n_Desk_past := He.noat_ok (c.t.d.fact 147 (f := .noat "Desk" "past") rfl)
  g_PhraseError := He.glo_ok X G (c.t.d.fact 148 (f := .glo "PhraseError") rfl)
  g_BadFroms := He.glo_ok X G (c.t.d.fact 150 (f := .glo "BadFroms") rfl)
  g_BadPhrase := He.glo_ok X G (c.t.d.fact 152 (f := .glo "BadPhrase") rfl)
  g_BadTongue := He.glo_ok X G (c.t.d.fact 154 (f := .glo "BadTongue") rfl)
  g_BadText := He.glo_ok X G (c.t.d.fact 156 (f := .glo "BadText") rfl)
  g_BadSeen := He.glo_ok X G (c.t.d.fact 158 (f := .glo "BadSeen") rfl)
  g_BadOld := He.glo_ok X G (c.t.d.fact 160 (f := .glo "BadOld") rfl)
  g_BadHands := He.glo_ok X G (c.t.d.fact 162 (f := .glo "BadHands") rfl)
  g_BadTale := He.glo_ok X G (c.t.d.fact 164 (f := .glo "BadTale") rfl)
  g_Overtaken := He.glo_ok X G (c.t.d.fact 166 (f := .glo "Overtaken") rfl)
  g_Nothing := He.glo_ok X G (c.t.d.fact 168 (f := .glo "Nothing") rfl)
  g_TooMany := He.glo_ok X G (c.t.d.fact 170 (f := .glo "TooMany") rfl)

end PD

namespace PD
open PySem PySem.Spec PyProof.Rows L2
/-! ### the law's call, from a promise that is kept where nothing is being written out -/
section
variable {P : Program} {w : World} {K : PySem.W.Frag} {mg mb : Str → Option Value} {lv : Nat} {fa a : Addr} {fd : FuncData} {x : Str} {sp : Sp} {z : Shared} {us : List Value} {ns : List Int}
/-- from one abstract heap that tracks the script alone, or nothing -/
theorem call_from {G : Hp} (KZ : K.In z.heap) (hns : z.heap.Ns mainGlobals mg) (hbn : z.heap.Ns builtinsNs mb) (hbb : ∀ y : Str, y ≠ "__name__" → mb y = bootBuiltins y) (lim : z.heap.NoLimit) (hgn : z.gens = #[])
    (obj : z.heap.get? a = some { cls := .type "list", data := .seq us.toArray }) (room : Room lv callerA) (F : ∀ base : Heap, K.In base → base.Ns mainGlobals mg → FnG P w K mg base lv fa fd [x] sp)
    (bind : ∀ (t : Shared) (u : Value), BindsTo t fd ⟨[u], []⟩ [(x, u)]) (only : Only G) (goal : sp [.ref a] G (fun v _ => v = .bl true) fun _ _ _ => False) (ok : HOk P w G z.heap)
    (at_ : ∀ b, G b ≠ none → b = a) (out : G a ≠ none → K.lookup a = none) :
    codeAny (model P w) callerA (.call (.ref fa) ⟨[.ref a], []⟩) (fun r t => r = .ok (.ret (.bool true)) ∧ OldK z.heap t.heap ∧ t.os = z.os ∧ AllBare t.gens) z := by
  have stays : ∀ {b : Addr} {o : Obj}, z.heap.get? b = some o → G b = none → (hidT z.heap G).get? b = some o := fun e n => hidT_get e n
  have untracked : ∀ {b : Addr} {o : Obj} {es : Array DictEntry} {ep : Nat}, z.heap.get? b = some o → o.data = .dict es ep → G b = none := by
    intro b o es ep e d
    cases t : G b with
    | none => rfl
    | some v =>
      have eb : b = a := at_ b (by rw [t]; simp)
      rw [eb, obj] at e
      rw [← Option.some.inj e] at d
      have d2 : Data.seq us.toArray _ = Data.dict es ep := d
      cases d2
  have nsH : ∀ {b : Addr} {m : Str → Option Value}, z.heap.Ns b m → (hidT z.heap G).Ns b m := by
    rintro b m ⟨o, es, ep, e, d, r⟩
    exact ⟨o, es, ep, stays e (untracked e d), d, r⟩
  have KH : K.In (hidT z.heap G) := by
    intro b o e
    refine stays (KZ b o e) ?_
    cases t : G b with
    | none => rfl
    | some v =>
      have eb : b = a := at_ b (by rw [t]; simp)
      rw [eb] at e t
      rw [out (by rw [t]; simp)] at e
      cases e
  have md : Mod K mg (hidT z.heap G) := by
    obtain ⟨mc, h1, h2⟩ := lim
    exact ⟨KH, nsH hns, ⟨mb, nsH hbn, hbb⟩, ⟨mc, nsH h1, h2⟩⟩
  have e0 : Env0 P w K mg (hidT z.heap G) callerA [] z G := by
    refine ⟨rfl, md, fun b o e => of_hidT e, Nat.le_of_eq (hidT_size _ _), trivial, ?_, ok, .of_eq hgn⟩
    intro b hb
    exact absurd (show b ∈ ([] : List Addr) from hb) (by simp)
  have run := (F _ KH (nsH hns)).goes callerA [] z G ⟨[.ref a], []⟩ [.ref a] [.ref a] _ _ rfl room e0 (bind z (.ref a)) (.cons rfl .nil) goal
  refine codeAny_mono run ?_
  intro r t h
  cases r with
  | error er => exact (show False from h).elim
  | ok fl =>
    cases fl with
    | next => exact (show False from h).elim
    | brk => exact (show False from h).elim
    | cont => exact (show False from h).elim
    | ret u =>
      obtain ⟨v, G', os, bare, un, ok', rv, qv⟩ := h
      cases (show v = .bl true from qv)
      cases (show u = Value.bool true from rv)
      refine ⟨rfl, OldK.of_keep ?_, os, bare⟩
      intro b o e
      cases t2 : G b with
      | none => exact un.keep b o e t2 (fun m => absurd (show b ∈ ([] : List Addr) from m) (by simp)) (by simp)
      | some v =>
        rcases only b with n | ⟨ob, xs, n⟩
        · rw [t2] at n
          cases n
        · obtain ⟨q1, _⟩ := ok b _ n
          obtain ⟨q2, _⟩ := ok' b _ (un.frzs b ob _ n)
          rw [e] at q1
          rw [Option.some.inj q1]
          exact q2
theorem call_goes (KZ : K.In z.heap) (hns : z.heap.Ns mainGlobals mg) (hbn : z.heap.Ns builtinsNs mb) (hbb : ∀ y : Str, y ≠ "__name__" → mb y = bootBuiltins y) (lim : z.heap.NoLimit) (hgn : z.gens = #[])
    (obj : z.heap.get? a = some { cls := .type "list", data := .seq us.toArray }) (isn : IntsAre us ns) (small : ns.length ≤ sizeLine) (room : Room lv callerA) (F : ∀ base : Heap, K.In base → base.Ns mainGlobals mg → FnG P w K mg base lv fa fd [x] sp)
    (bind : ∀ (t : Shared) (u : Value), BindsTo t fd ⟨[u], []⟩ [(x, u)]) (goal : ∀ G : Hp, Only G → SqL K G a (ns.map V.int) → sp [.ref a] G (fun v _ => v = .bl true) fun _ _ _ => False) :
    codeAny (model P w) callerA (.call (.ref fa) ⟨[.ref a], []⟩) (fun r t => r = .ok (.ret (.bool true)) ∧ OldK z.heap t.heap ∧ t.os = z.os ∧ AllBare t.gens) z := by
  have rv := vals_ints isn
  have len := isn.length
  cases inK : K.lookup a with
  | some o =>
    have e := KZ a o inK
    rw [obj] at e
    have eo := Option.some.inj e
    subst eo
    have none1 : Only (fun _ => none) := fun _ => .inl rfl
    have sq : SqL K (fun _ => none) a (ns.map V.int) := .inr ⟨_, us.toArray, _, inK, rfl, rfl, rfl, by rw [List.size_toArray, len]; exact small, by simpa using rv⟩
    refine call_from (G := fun _ => none) KZ hns hbn hbb lim hgn obj room F bind none1 (goal _ none1 sq) ?_ (fun b n => absurd rfl n) fun n => absurd rfl n
    intro b u n
    have n2 : (none : Option HO) = some u := n
    cases n2
  | none =>
    let G : Hp := fun b => if b = a then some (.frz { cls := .type "list", data := .seq us.toArray } (.lst (ns.map V.int))) else none
    have at1 : G a = some (.frz { cls := .type "list", data := .seq us.toArray } (.lst (ns.map V.int))) := if_pos rfl
    have el : ∀ b, b ≠ a → G b = none := fun b n => if_neg n
    have only : Only G := by
      intro b
      by_cases h : b = a
      · rw [h]
        exact .inr ⟨_, _, at1⟩
      · exact .inl (el b h)
    refine call_from (G := G) KZ hns hbn hbb lim hgn obj room F bind only (goal G only (.inl (.inr ⟨_, at1⟩))) ?_ ?_ fun _ => inK
    · intro b u n
      by_cases h : b = a
      · rw [h, at1] at n
        rw [← Option.some.inj n, h]
        exact ⟨obj, by rw [List.length_map]; exact small, us, _, rv, obj⟩
      · rw [el b h] at n
        cases n
    · intro b n
      by_cases h : b = a
      · exact h
      · exact absurd (el b h) n
end
/-- the head's last goal, from the law's promise -/
theorem walkG {l : PySem.W.OpenLaw} {n lv : Nat} {q : Program} {loose : List Str} {XP : (Str → Option Value) → Heap → Prop} {YP : World → Heap → Prop} {d : DefRec} {x : Str} (most : l.most = some n) (small : n ≤ sizeLine) (nodef : d.params.defaults = []) (room : Room lv callerA)
    (F : ∀ (w : World) (mg : Str → Option Value) (fa : Addr) (h : Heap), YP w h → h.Ns mainGlobals mg → mg d.name = some (.ref fa) → ∃ (K : PySem.W.Frag) (fd : FuncData) (sp : Sp), K.In h ∧ (∀ (t : Shared) (u : Value), BindsTo t fd ⟨[u], []⟩ [(x, u)]) ∧
      (∀ (G : Hp) (a : Addr) (ns : List Int), ns.length ≤ n → Only G → SqL K G a (ns.map V.int) → sp [.ref a] G (fun v _ => v = .bl true) fun _ _ _ => False) ∧ ∀ base : Heap, K.In base → base.Ns mainGlobals mg → FnG l.prog w K mg base lv fa fd [x] sp) :
    PySem.W.WalkO q loose XP YP l.row.toRowW d [] (fun f vs => PySem.call f vs) := by
  refine Att.attach_call most nodef ?_
  intro w z0 z mg mb fa o pm cd doc a us ns G Y ho hd hcd hmg obj isn len gens
  obtain ⟨K, fd, sp, KZ, bind, goal, hF⟩ := F w mg fa _ Y G.T.g hmg
  exact call_goes KZ G.T.g G.T.b G.T.builtins G.T.nolimit gens obj isn (Nat.le_trans len small) room hF bind fun G' h1 h2 => goal G' a ns len h1 h2
end PD

namespace PD
open PySem PySem.Spec PyProof.Rows L2
/-! ### data: lists of ints, rows -/
def dI (ns : List Int) : PyData := .list (ns.map .int)
section
variable {K : PySem.W.Frag} {H : Hp}
theorem dpa_ints : ∀ ns : List Int, DpAll K H (ns.map V.int) (ns.map PyData.int)
  | [] => .nil
  | n :: ns => .cons (.int n) (dpa_ints ns)
theorem dp_ints {a : Addr} {ns : List Int} (h : LsAt H a ns) : Dp K H (.ref a) (dI ns) := .lst (SqL.of h) (dpa_ints ns)
theorem lay_ints : ∀ ns : List Int, PyData.canLayAll0 (ns.map PyData.int) = true
  | [] => rfl
  | n :: ns => by
    rw [List.map_cons]
    simp only [PyData.canLayAll0, PyData.canLay0, Bool.true_and]
    exact lay_ints ns
theorem depth_ints : ∀ ns : List Int, PyData.depthAll (ns.map PyData.int) = 0
  | [] => rfl
  | n :: ns => by
    rw [List.map_cons]
    simp only [PyData.depthAll, PyData.depth, depth_ints ns, Nat.max_self]
theorem shaped_ints (ns : List Int) : SeqAt.shaped (dI ns) = true := by
  unfold SeqAt.shaped dI
  simp only [PyData.canLay0, PyData.depth, lay_ints, depth_ints]
  rfl
theorem eqva_ints : ∀ ns ms : List Int, PyData.eqvAll (ns.map PyData.int) (ms.map PyData.int) = decide (ns = ms)
  | [], [] => rfl
  | [], m :: ms => rfl
  | n :: ns, [] => rfl
  | n :: ns, m :: ms => by
    rw [List.map_cons, List.map_cons]
    simp only [PyData.eqvAll, PyData.eqv, eqva_ints ns ms]
    by_cases h1 : n = m
    · by_cases h2 : ns = ms
      · simp [h1, h2]
      · simp [h1, h2]
    · simp [h1]
theorem eqv_ints (ns ms : List Int) : PyData.eqv (dI ns) (dI ms) = decide (ns = ms) := by
  unfold dI
  simp only [PyData.eqv, eqva_ints]
def dO : Option Int → PyData
  | none => .none
  | some i => .int i
def dC : Cell → PyData
  | none => .none
  | some (a, b) => .tuple [.int a, dO b]
theorem dp_o : ∀ b : Option Int, Dp K H (oV b) (dO b)
  | none => .non
  | some i => .int i
theorem dp_cell {v : V} : ∀ {c : Cell}, CellV H v c → Dp K H v (dC c)
  | none, h => by
    cases (show v = .non from h)
    exact .non
  | some (a, b), ⟨p, e, h⟩ => by
    subst e
    exact .tup (SqT.of h) (.cons (.int a) (.cons (dp_o b) .nil))
theorem dpa_cells : ∀ {vs : List V} {row : List Cell}, Cells H vs row → DpAll K H vs (row.map dC)
  | [], [], _ => .nil
  | [], _ :: _, h => by
    have := h.len
    simp at this
  | _ :: _, [], h => by
    have := h.len
    simp at this
  | v :: vs, c :: row, h => by
    obtain ⟨u, e1, e2⟩ := h.each 0 c rfl
    cases (Option.some.inj e1)
    have h' : Cells H vs row := ⟨by have := h.len; simpa using this, fun i d e => h.each (i + 1) d e⟩
    exact .cons (dp_cell e2) (dpa_cells h')
def dRow (row : List Cell) : PyData := .list (row.map dC)
theorem dp_row {p : Addr} {row : List Cell} (h : RowAt H p row) : Dp K H (.ref p) (dRow row) := by
  obtain ⟨vs, h1, h2⟩ := h
  exact .lst (SqL.of h1) (dpa_cells h2)
theorem lay_cell : ∀ c : Cell, (dC c).canLay0 = true
  | none => rfl
  | some (a, none) => rfl
  | some (a, some b) => rfl
theorem lay_cells : ∀ row : List Cell, PyData.canLayAll0 (row.map dC) = true
  | [] => rfl
  | c :: row => by
    rw [List.map_cons]
    simp only [PyData.canLayAll0, lay_cell c, Bool.true_and]
    exact lay_cells row
theorem depth_cell : ∀ c : Cell, (dC c).depth ≤ 1
  | none => by decide
  | some (a, none) => by simp [dC, dO, PyData.depth, PyData.depthAll]
  | some (a, some b) => by simp [dC, dO, PyData.depth, PyData.depthAll]
theorem depth_cells : ∀ row : List Cell, PyData.depthAll (row.map dC) ≤ 1
  | [] => by simp [PyData.depthAll]
  | c :: row => by
    rw [List.map_cons]
    simp only [PyData.depthAll]
    have := depth_cell c
    have := depth_cells row
    omega
end
/-! ### digits -/
def isDig (c : Nat) : Bool := decide (48 ≤ c) && decide (c ≤ 57)
theorem str_digit : ∀ n : Int, 0 ≤ n → n ≤ 9 → (Str.ofString (toString n)).cps.toList = [48 + n.toNat] := by
  intro n h0 h9
  have h : n = 0 ∨ n = 1 ∨ n = 2 ∨ n = 3 ∨ n = 4 ∨ n = 5 ∨ n = 6 ∨ n = 7 ∨ n = 8 ∨ n = 9 := by omega
  rcases h with rfl | rfl | rfl | rfl | rfl | rfl | rfl | rfl | rfl | rfl <;> decide +kernel
theorem shownAll_map : ∀ ns : List Int, PyData.shownAll (ns.map PyData.int) = ns.map fun n => Str.ofString (toString n)
  | [] => rfl
  | n :: ns => by
    rw [List.map_cons, List.map_cons]
    simp only [PyData.shownAll, PyData.shown, shownAll_map ns]
theorem text_digits : ∀ (ns : List Int) (k : Nat) (acc : Str), (∀ n ∈ ns, 0 ≤ n ∧ n ≤ 9) →
    ((textFrom k acc (ns.map fun n => Str.ofString (toString n))).cps.toList).filter isDig = (acc.cps.toList).filter isDig ++ ns.map fun n => 48 + n.toNat
  | [], k, acc, _ => by simp [textFrom]
  | n :: ns, k, acc, h => by
    rw [List.map_cons, List.map_cons]
    show ((textFrom (k + 1) (acc ++ (if k > 0 then ", " else "" : String) ++ Str.ofString (toString n)) (ns.map fun n => Str.ofString (toString n))).cps.toList).filter isDig = _
    rw [text_digits ns _ _ fun m hm => h m (List.mem_cons_of_mem _ hm)]
    obtain ⟨h0, h9⟩ := h n List.mem_cons_self
    have e1 : (Str.ofString (toString n)).cps.toList = [48 + n.toNat] := str_digit n h0 h9
    have e2 : (((if k > 0 then ", " else "" : String) : Str)).cps.toList.filter isDig = [] := by
      split <;> decide +kernel
    have e3 : isDig (48 + n.toNat) = true := by
      unfold isDig
      rw [decide_eq_true (by omega), decide_eq_true (by omega)]
      rfl
    rw [Str.cps_append, Str.cps_append, Array.toList_append, Array.toList_append, List.filter_append, List.filter_append, e1, e2]
    simp [e3]
theorem shown_digits {ns : List Int} (h : ∀ n ∈ ns, 0 ≤ n ∧ n ≤ 9) : ((dI ns).shown.cps.toList).filter isDig = ns.map fun n => 48 + n.toNat := by
  have e : (dI ns).shown = textFrom 0 "[" (ns.map fun n => Str.ofString (toString n)) ++ "]" := by
    unfold dI
    simp only [PyData.shown, shownAll_map]
    rfl
  have e2 : ((("]" : String) : Str)).cps.toList.filter isDig = [] := by decide +kernel
  have e3 : ((("[" : String) : Str)).cps.toList.filter isDig = [] := by decide +kernel
  rw [e, Str.cps_append, Array.toList_append, List.filter_append, text_digits ns 0 _ h, e2, e3]
  simp
theorem map_inj : ∀ {ns ms : List Int}, (∀ n ∈ ns, 0 ≤ n ∧ n ≤ 9) → (∀ n ∈ ms, 0 ≤ n ∧ n ≤ 9) → (ns.map fun n => 48 + n.toNat) = (ms.map fun n => 48 + n.toNat) → ns = ms
  | [], [], _, _, _ => rfl
  | [], _ :: _, _, _, e => by simp at e
  | _ :: _, [], _, _, e => by simp at e
  | n :: ns, m :: ms, h1, h2, e => by
    rw [List.map_cons, List.map_cons] at e
    injection e with e1 e2
    have a := h1 n List.mem_cons_self
    have b := h2 m List.mem_cons_self
    have r := map_inj (fun x hx => h1 x (List.mem_cons_of_mem _ hx)) (fun x hx => h2 x (List.mem_cons_of_mem _ hx)) e2
    have : n = m := by omega
    rw [this, r]
theorem shown_inj {ns ms : List Int} (h1 : ∀ n ∈ ns, 0 ≤ n ∧ n ≤ 9) (h2 : ∀ n ∈ ms, 0 ≤ n ∧ n ≤ 9) : decide ((dI ns).shown = (dI ms).shown) = decide (ns = ms) := by
  by_cases h : ns = ms
  · rw [h, decide_eq_true rfl, decide_eq_true rfl]
  · have h3 : ¬ (dI ns).shown = (dI ms).shown := fun e => h (map_inj h1 h2 (by rw [← shown_digits h1, ← shown_digits h2, e]))
    rw [decide_eq_false h, decide_eq_false h3]
theorem text_len : ∀ (ns : List Int) (k : Nat) (acc : Str), (∀ n ∈ ns, 0 ≤ n ∧ n ≤ 9) → (textFrom k acc (ns.map fun n => Str.ofString (toString n))).length ≤ acc.length + 3 * ns.length
  | [], k, acc, _ => by simp [textFrom]
  | n :: ns, k, acc, h => by
    rw [List.map_cons]
    show (textFrom (k + 1) (acc ++ (if k > 0 then ", " else "" : String) ++ Str.ofString (toString n)) (ns.map fun n => Str.ofString (toString n))).length ≤ _
    have i := text_len ns (k + 1) (acc ++ (if k > 0 then ", " else "" : String) ++ Str.ofString (toString n)) fun m hm => h m (List.mem_cons_of_mem _ hm)
    obtain ⟨h0, h9⟩ := h n List.mem_cons_self
    have e1 : (Str.ofString (toString n)).length = 1 := by
      show (Str.ofString (toString n)).cps.size = 1
      rw [← Array.length_toList, str_digit n h0 h9]
      rfl
    have e2 : (((if k > 0 then ", " else "" : String) : Str)).length ≤ 2 := by
      split <;> decide +kernel
    rw [strLen_append, strLen_append, e1] at i
    rw [List.length_cons]
    omega
theorem shown_len {ns : List Int} (h : ∀ n ∈ ns, 0 ≤ n ∧ n ≤ 9) (hl : ns.length ≤ 1000) : (dI ns).shown.length ≤ sizeLine := by
  have e : (dI ns).shown = textFrom 0 "[" (ns.map fun n => Str.ofString (toString n)) ++ "]" := by
    unfold dI
    simp only [PyData.shown, shownAll_map]
    rfl
  have e1 := text_len ns 0 "[" h
  have e2 : ((("[" : String) : Str)).length = 1 := rfl
  have e3 : ((("]" : String) : Str)).length = 1 := rfl
  rw [e, strLen_append]
  have : (3002 : Nat) ≤ sizeLine := by decide
  omega
theorem show_ints : ∀ {ns : List Int}, (∀ n ∈ ns, 0 ≤ n ∧ n ≤ 9) → PyData.showableAll (ns.map PyData.int) = true
  | [], _ => rfl
  | n :: ns, h => by
    rw [List.map_cons]
    obtain ⟨h0, h9⟩ := h n List.mem_cons_self
    have e : n.natAbs.log2 < 1920 := by
      have h1 : n.natAbs < 2 ^ 4 := by omega
      have := PySem.Flt.log2_lt_of (by decide : 0 < 4) h1
      omega
    simp only [PyData.showableAll, PyData.showable, decide_eq_true e, Bool.true_and]
    exact show_ints fun m hm => h m (List.mem_cons_of_mem _ hm)
theorem nodict_ints (ns : List Int) : (dI ns).hasDict = false := PyData.hasDict_of_canLay _ (by unfold dI; simp only [PyData.canLay0, lay_ints])
end PD

namespace PD
open PySem PySem.Spec PyProof.Rows L2
/-! ### a dict comprehension whose keys are tuples -/
theorem put_tup {X : Cx} {pins : List (Addr × Obj)} {σ : L2.St} {G : Hp} {z : Shared} {E : Value → Shared → Prop} {d b : Addr} {kvs : List (List Key × V)} {k : List Key} {v : V} {r : Value} {Q : Unit → Shared → Prop} (hu : X.A.units < cLine)
    (I : Inv X pins σ G z) (hd : G d = some (.dT kvs)) (hb : G b = some (.tup (k.map kV))) (hz : kvs.length < sizeLine) (rv : RelV v r) (h : ∀ z', Inv X pins σ (upd G d (.dT (putK kvs k v))) z' → Q () z') :
    wpAny (model X.prog X.w) X.A (dictSet d (.ref b) r) Q E z := by
  obtain ⟨y, ns, xs, rel, dd⟩ := dt_of I.hok hd
  have few : xs.length ≤ sizeLine := by
    rw [← Paired.length rel]
    exact y
  have more : (putK kvs k v).length ≤ sizeLine := by
    have := length_putK kvs k v
    omega
  refine wpAny_dictSet_heap (hsz := few) hu (key_of I.hok hb) dd ?_
  intro h' dd' hs
  obtain ⟨q, es, ep, hq, h2, h3, h4, -, h5⟩ := dd'
  refine h _ (d_write I (by rw [hd]; exact True.intro) hs ⟨q, hq⟩ ⟨more, ns, _, (rel.put k hb rv).keeps ?_, q, es, ep, hq, h2, h3, h4, h5⟩)
  intro c ys ec
  rw [upd_ne (ne_of ec hd (fun t => nomatch t))]
  exact ec
section
variable {X : Cx}
def tDcT (wi : TI) (g : TG) (tt : TT) (tk tv : TE) (vs : List Nat) : TE := fun σ G Q => wi σ G fun J G1 => ∀ D, G1 D = none → ∃ W : Nat → Nat → Hp → Prop, (∃ m, W 0 m (upd G1 D (.dT []))) ∧
  ∀ i m G, W i m G → (J.stop i G ∧ Q (.ref D) G) ∨ (J.go i G ∧ ∃ Nx : Hp → Prop, (∀ G', Nx G' → ∃ m', m' < m ∧ W (i + 1) m' G') ∧
    ∀ x G', J.yld i G x G' → g x (wipe σ vs) G' fun σ2 G2 => wipe σ2 vs = wipe σ vs ∧ tt σ2 G2 fun b G3 =>
      if b = true then tk σ2 G3 fun y G4 => tv σ2 G4 fun u G5 => ∃ kvs k q, y = .ref q ∧ G5 q = some (.tup (k.map kV)) ∧ G5 D = some (.dT kvs) ∧ kvs.length < sizeLine ∧ Nx (upd G5 D (.dT (putK kvs k u))) else Nx G3)
theorem dcT_core {pins : List (Addr × Obj)} {z : Shared} {σ : L2.St} {G : Hp} {Q : VK} {kx vx tg iter : Expr} {ifs : List Expr} {scope : Scope} {own : List (Str × Nat)} {pos pos' : Pos} {wi : TI} {g : TG} {tt : TT} {tk tv : TE} {use : Option (Value → Sem Unit)} {Qf : Value → Shared → Prop}
    (hu : X.A.units < cLine) (hc : X.calm = true) (hN : X.N.Nodup) (I : Inv X pins σ G z) (hi : PI X tg iter wi) (ok : BlkOk X.N X.env.scope scope own)
    (hg : ∀ (z : Shared) (G : Hp) (C : Addr) (cl : List (Str × Addr)) (fp : List Addr), PG (X.blk z G scope (compEnvC scope cl C X.env) fp) tg g)
    (ht : ∀ (z : Shared) (G : Hp) (C : Addr) (cl : List (Str × Addr)) (fp : List Addr), PTs (X.blk z G scope (compEnvC scope cl C X.env) fp) ifs tt)
    (hk : ∀ (z : Shared) (G : Hp) (C : Addr) (cl : List (Str × Addr)) (fp : List Addr), PE (X.blk z G scope (compEnvC scope cl C X.env) fp) kx tk)
    (hv : ∀ (z : Shared) (G : Hp) (C : Addr) (cl : List (Str × Addr)) (fp : List Addr), PE (X.blk z G scope (compEnvC scope cl C X.env) fp) vx tv)
    (hs : ∀ x, foldedSetIterable iter X.env x = pure x) (h : tDcT wi g tt tk tv (own.map (·.2)) σ G Q)
    (last : ∀ D C z' m G', Inv X pins σ G' z' → Q (.ref D) G' → z'.heap.Ns C m → FpOk X pins G' C → compPost (model X.prog X.w) X.A X.xe use Qf (.ref D) C (.ok .next) z') :
    wpAny (model X.prog X.w) X.A (comprehension (.DictComp kx vx [⟨tg, iter, ifs, 0⟩] scope pos) scope X.env pos' newDict false (eval iter X.env) use) Qf X.xe z := by
  have clo : ∀ y ∈ scope.names, y.2 = .free → ∃ c, X.env.cells.lookup y.1 = some c := by
    intro y hy e
    exact I.ok.has _ (ok.free y hy e)
  refine wpAny_comprehension_free (use := use) rfl hs (closure_ok clo) ok.kind (fun y hy e => by rw [ok.uniq y hy, e]) (thn (hi.run pins z σ G _ I h) fun xv z1 hx => thn hx ?_)
  rintro itv z2 ⟨it, fp, tn, J, G2, rfl, I2, T, st2, f2, q⟩
  refine wpAny_newObj_type (newEnv_comp ?_)
  generalize eD : z2.heap.objs.size = D
  obtain ⟨W, ⟨m0, w0⟩, turn⟩ := q D (I2.hok.fresh (Nat.le_of_eq eD))
  generalize ez3 : ({ z2 with heap := z2.heap.push { cls := .type "dict", data := .dict #[] } } : Shared) = z3
  have e3 : z3.heap = z2.heap.push { cls := .type "dict", data := .dict #[] } := by rw [← ez3]
  have I3 : Inv X pins σ (upd G2 D (.dT [])) z3 := by
    rw [← ez3]
    refine I2.laid (t' := z2.toks) (fun b o e => Heap.get?_push_of_some _ e) (Nat.le_of_eq eD) ?_
    rw [← eD]
    exact dt_empty z2.heap I2.big
  have lt2 : ∀ b ∈ fp, b < z2.heap.objs.size := by
    intro b hb
    obtain ⟨o, e, _⟩ := T.obj _ _ st2 b hb
    exact Heap.lt_size e
  have f3 : ∀ b ∈ fp, FpOk X pins (upd G2 D (.dT [])) b ∧ b < z3.heap.objs.size := by
    intro b hb
    have lt := lt2 b hb
    constructor
    · refine ⟨?_, (f2 b hb).2⟩
      rw [upd_ne (by rw [← eD]; exact Nat.ne_of_lt lt)]
      exact (f2 b hb).1
    · rw [e3, Heap.size_push]
      exact Nat.lt_succ_of_lt lt
  have st3 : tn 0 z3.heap := T.keep _ _ _ st2 (by intro b _ o e; rw [e3]; exact Heap.get?_push_of_some _ e)
  have I4 := block_start I3 ok hN f3
  have pg := hg z3 (upd G2 D (.dT [])) z3.heap.objs.size (cellsFrom (z3.heap.objs.size + 1) scope.names (cloFrom X.env.cells scope.names [])) fp
  have pt := ht z3 (upd G2 D (.dT [])) z3.heap.objs.size (cellsFrom (z3.heap.objs.size + 1) scope.names (cloFrom X.env.cells scope.names [])) fp
  have pk := hk z3 (upd G2 D (.dT [])) z3.heap.objs.size (cellsFrom (z3.heap.objs.size + 1) scope.names (cloFrom X.env.cells scope.names [])) fp
  have pw := hv z3 (upd G2 D (.dT [])) z3.heap.objs.size (cellsFrom (z3.heap.objs.size + 1) scope.names (cloFrom X.env.cells scope.names [])) fp
  have nfp : ∀ b ∈ fp, (upd G2 D (.dT [])) b = none := fun b hb => (f3 b hb).1.1
  refine (?_ : codeAny _ _ (.compStart (.DictComp kx vx [⟨tg, iter, ifs, 0⟩] scope pos) 0 (.ref it) (.ref D) (compEnvC scope (cellsFrom (z3.heap.objs.size + 1) scope.names (cloFrom X.env.cells scope.names [])) z3.heap.objs.size X.env)) _ { z3 with heap := pushCells (z3.heap.push { cls := .type "dict", data := .dict #[] }) scope.names })
  generalize ece : compEnvC scope (cellsFrom (z3.heap.objs.size + 1) scope.names (cloFrom X.env.cells scope.names [])) z3.heap.objs.size X.env = ce at I4 pg pt pk pw ⊢
  have cl : ce.locals = z3.heap.objs.size := by
    subst ece
    rfl
  generalize eG3 : upd G2 D (.dT []) = G3 at I3 I4 pg pt pk pw w0 nfp f3
  generalize ez4 : ({ z3 with heap := pushCells (z3.heap.push { cls := .type "dict", data := .dict #[] }) scope.names } : Shared) = z4 at I4 ⊢
  have st4 : tn 0 z4.heap := T.keep _ _ _ st3 (by intro b _ o e; rw [← ez4]; exact pushCells_keeps _ _ _ _ (Heap.get?_push_of_some _ e))
  have stat : ∀ {σ' : L2.St} {G' : Hp} {z' : Shared}, Inv (X.blk z3 G3 scope ce fp) [] σ' G' z' → (∀ b ∈ fp, G' b = none) → ∀ b ∈ fp, FpOk (X.blk z3 G3 scope ce fp) [] G' b := by
    intro σ' G' z' J' hn b hb
    exact ⟨hn b hb, (J'.ok.exf b hb).1, J'.ok.exfs b hb, .inl hb, fun x c e => (J'.ok.exf b hb).2 x c e, fun p hp => absurd (show p ∈ ([] : List (Addr × Obj)) ++ [] from hp) (by simp)⟩
  have loop : codeAny (model X.prog X.w) X.A (.compLoop (.DictComp kx vx [⟨tg, iter, ifs, 0⟩] scope pos) 0 (.ref it) (.ref D) ce) (compPost (model X.prog X.w) X.A X.xe use Qf (.ref D) z3.heap.objs.size) z4 := by
    refine compLoop_anyD (fun n z' => ∃ i G', Inv (X.blk z3 G3 scope ce fp) [] (wipe σ (own.map (·.2))) G' z' ∧ tn i z'.heap ∧ (∀ b ∈ fp, G' b = none) ∧ W i n G') ?_ m0 ⟨0, G3, I4, st4, nfp, w0⟩
    rintro n z5 ⟨i, G5, I5, st5, n5, w5⟩
    rcases turn i n G5 w5 with ⟨stop, qq⟩ | ⟨go, Nx, hNx, step⟩
    · refine thnF (T.done (X.blk z3 G3 scope ce fp) rfl rfl rfl hc i [] z5 _ G5 (fun _ _ => False) I5 (stat I5 n5) st5 stop) ?_
      rintro r z6 ⟨rfl, I6⟩
      have I7 : Inv X pins σ G5 z6 := I3.call' (ch := fp) I6.os I6.base I6.hok I6.bare fun b hb => let y := (f3 b hb).1.2; ⟨y.2.2.1, y.1, y.2.2.2.1, y.2.2.2.2⟩
      have nC : G5 z3.heap.objs.size = none := by
        have t : G5 ce.locals = none := I6.free
        rwa [cl] at t
      obtain ⟨m, hn, _⟩ := I6.loc
      have hn2 : z6.heap.Ns ce.locals m := hn
      rw [cl] at hn2
      exact last D z3.heap.objs.size z6 m G5 I7 qq hn2 (I3.fpOk (Nat.le_refl _) nC)
    · refine thnF (T.item (X.blk z3 G3 scope ce fp) rfl rfl rfl hc i [] z5 _ G5 (fun _ _ => False) I5 (stat I5 n5) st5 go) ?_
      rintro r z6 ⟨u, rfl, h6⟩
      refine thnF h6 ?_
      rintro _ z7 ⟨x, G7, I7, r7, y7, st7, n7⟩
      refine thnF (pg.run _ z7 _ G7 x u _ (I7.pinned (stat I7 n7) (T.obj _ _ st7)) r7 (step x G7 y7)) ?_
      rintro _ z8 ⟨σ8, G8, I8, hw8, q8⟩
      refine thnF (pt.run _ z8 σ8 G8 _ I8 q8) ?_
      rintro b z9 ⟨G9, I9, q9⟩
      have fin : ∀ {z' : Shared} {G' : Hp}, Inv (X.blk z3 G3 scope ce fp) ([] ++ pinsAt fp z7.heap) σ8 G' z' → Nx G' →
          ∃ m, m < n ∧ ∃ i G', Inv (X.blk z3 G3 scope ce fp) [] (wipe σ (own.map (·.2))) G' z' ∧ tn i z'.heap ∧ (∀ b ∈ fp, G' b = none) ∧ W i m G' := by
        intro z' G' J' nx
        obtain ⟨m', hm, w'⟩ := hNx G' nx
        have kept : ∀ b ∈ fp, ∀ o, z7.heap.get? b = some o → z'.heap.get? b = some o ∧ G' b = none := by
          intro b hb o e
          have y := J'.pin (b, o) (List.mem_append_right _ (List.mem_append_right _ (mem_pinsAt hb e)))
          exact ⟨y.1, y.2.1⟩
        have hl : (wipe σ (own.map (·.2))).length = σ8.length := by
          rw [← hw8, wipe_length]
        refine ⟨m', hm, i + 1, G', (J'.unpinned (pins := [])).weak hl ?_, T.keep _ _ _ st7 (fun b hb o e => (kept b hb o e).1), ?_, w'⟩
        · intro j v e
          rw [← hw8] at e
          exact (wipe_some e).1
        · intro b hb
          obtain ⟨o, e, _⟩ := T.obj _ _ st7 b hb
          exact (kept b hb o e).2
      cases b with
      | false => exact fin I9 q9
      | true =>
        refine thnF (pk.run _ z9 σ8 G9 _ I9 q9) ?_
        rintro kv z10 ⟨yk, G10, I10, r10, q10⟩
        refine thnF (pw.run _ z10 σ8 G10 _ I10 q10) ?_
        rintro vv z11 ⟨yv, G11, I11, r11, kvs, k, b, rfl, hb, hD, hz, nx⟩
        cases (show kv = Value.ref b from r10)
        exact put_tup (X := X.blk z3 G3 scope ce fp) hu I11 hD hb hz r11 fun z12 I12 => fin I12 nx
  exact codeAny_compStart_dict loop (T.self X.A 0 _ _ _ st4 loop)
theorem pe_dcT {kx vx tg iter : Expr} {ifs : List Expr} {scope : Scope} {own : List (Str × Nat)} {pos : Pos} {wi : TI} {g : TG} {tt : TT} {tk tv : TE} (hu : X.A.units < cLine) (hc : X.calm = true) (hN : X.N.Nodup) (hi : PI X tg iter wi) (ok : BlkOk X.N X.env.scope scope own)
    (hg : ∀ (z : Shared) (G : Hp) (C : Addr) (cl : List (Str × Addr)) (fp : List Addr), PG (X.blk z G scope (compEnvC scope cl C X.env) fp) tg g)
    (ht : ∀ (z : Shared) (G : Hp) (C : Addr) (cl : List (Str × Addr)) (fp : List Addr), PTs (X.blk z G scope (compEnvC scope cl C X.env) fp) ifs tt)
    (hk : ∀ (z : Shared) (G : Hp) (C : Addr) (cl : List (Str × Addr)) (fp : List Addr), PE (X.blk z G scope (compEnvC scope cl C X.env) fp) kx tk)
    (hv : ∀ (z : Shared) (G : Hp) (C : Addr) (cl : List (Str × Addr)) (fp : List Addr), PE (X.blk z G scope (compEnvC scope cl C X.env) fp) vx tv)
    (hs : ∀ x, foldedSetIterable iter X.env x = pure x := by intro _; rfl) : PE X (.DictComp kx vx [⟨tg, iter, ifs, 0⟩] scope pos) (tDcT wi g tt tk tv (own.map (·.2))) := by
  constructor
  intro pins z σ G Q I h
  rw [arm_eval_DictComp]
  refine dcT_core hu hc hN I hi ok hg ht hk hv hs h ?_
  intro D C z' m G' I' q hn f
  refine ⟨m, hn, ?_⟩
  intro h'' sb
  obtain ⟨g0, g1, g2, g3, g4, g5⟩ := f
  exact ⟨.ref D, G', I'.turned (t' := z'.toks) (fun b o hb e => (sb.2 b hb).trans e) g0 g1 g3 g4 g5, rfl, q⟩
/-- name = {..} on one line, the name a local -/
theorem ps_setDcT {i : Nat} {y : Str} {py : Pos} {kx vx tg iter : Expr} {ifs : List Expr} {scope : Scope} {own : List (Str × Nat)} {pos spos : Pos} {wi : TI} {g : TG} {tt : TT} {tk tv : TE} (hu : X.A.units < cLine) (hc : X.calm = true) (hN : X.N.Nodup)
    (hy : X.N[i]? = some y) (hyl : X.env.scope.names.lookup y = some .local) (hsw : swapsWith (.DictComp kx vx [⟨tg, iter, ifs, 0⟩] scope pos) (some (.Name y py)) spos.line X.env = pure true) (hi : PI X tg iter wi) (ok : BlkOk X.N X.env.scope scope own)
    (hg : ∀ (z : Shared) (G : Hp) (C : Addr) (cl : List (Str × Addr)) (fp : List Addr), PG (X.blk z G scope (compEnvC scope cl C X.env) fp) tg g)
    (ht : ∀ (z : Shared) (G : Hp) (C : Addr) (cl : List (Str × Addr)) (fp : List Addr), PTs (X.blk z G scope (compEnvC scope cl C X.env) fp) ifs tt)
    (hk : ∀ (z : Shared) (G : Hp) (C : Addr) (cl : List (Str × Addr)) (fp : List Addr), PE (X.blk z G scope (compEnvC scope cl C X.env) fp) kx tk)
    (hv : ∀ (z : Shared) (G : Hp) (C : Addr) (cl : List (Str × Addr)) (fp : List Addr), PE (X.blk z G scope (compEnvC scope cl C X.env) fp) vx tv)
    (hs : ∀ x, foldedSetIterable iter X.env x = pure x := by intro _; rfl) :
    PS X (.Assign [.Name y py] (.DictComp kx vx [⟨tg, iter, ifs, 0⟩] scope pos) spos) (tAsg (tDcT wi g tt tk tv (own.map (·.2))) (gName i)) := by
  constructor
  intro pins z σ G D I h
  rw [exec_Assign_Name_used _ _ _ _ hsw]
  refine wpAny_bind (wpAny_standAt (wpAny_bind ?_))
  show wpAny _ X.A (do let _ ← comprehension (.DictComp kx vx [⟨tg, iter, ifs, 0⟩] scope pos) scope X.env (firstIterPos [⟨tg, iter, ifs, 0⟩] pos) newDict false (eval iter X.env) (some (assign (.Name y py) X.env))) _ _ z
  have h2 : tDcT wi g tt tk tv (own.map (·.2)) σ G (fun x G1 => gName i x σ G1 D.nx) := h
  refine wpAny_bind (thn (dcT_core (Qf := fun _ z' => SP X pins D .next z') hu hc hN I hi ok hg ht hk hv hs h2 ?_) fun _ z' hq => wpAny_pure (wpAny_pure hq))
  intro L C z' m G' I' q hn f
  show wpAny _ _ (assign (.Name y py) X.env (.ref L)) _ _ _
  refine wpAny_assign_Name (store_ok2 (v := V.ref L) I' hN hy (.inl hyl) rfl ?_ (.inr hyl))
  rintro z2 I2 ⟨b, sb, hb⟩
  obtain ⟨g0, g1, g2, g3, g4, g5⟩ := f
  have apart : C ≠ b := by
    cases hb with
    | inl e => rw [e]; exact g1
    | inr e => exact fun t => g4 y b e t.symm
  refine ⟨m, hn.sameBut sb apart, ?_⟩
  intro h3 sb3
  exact ⟨_, G', I2.turned (t' := z2.toks) (fun c o hb e => (sb3.2 c hb).trans e) g0 g1 g3 g4 g5, q⟩
theorem swD {kx vx : Expr} {gs : List Comprehension} {scope : Scope} {pos py : Pos} {y : Str} {l : Nat} {env : Env} (hk : env.scope.kind = .function) (hy : env.scope.names.lookup y = some .local) (hl : (py.line == pos.line) = true)
    (ha : (scope.names.any fun (n, k) => n == y && (k == .local || k == .cell)) = false) : swapsWith (.DictComp kx vx gs scope pos) (some (.Name y py)) l env = pure true := by
  have k1 : env.kindOf y = some .local := hy
  have k2 : env.blockKind = .function := by
    unfold Env.blockKind
    rw [hk]
    rfl
  unfold swapsWith
  simp only [k2, k1, ha, Expr.pos, hl]
  rfl
/-- over a walk -/
theorem dcT_it {J : It} {n : Nat} {Gd : Hp → Prop} {Y : Nat → Hp → V → Hp → Prop} (wk : Walk J n Gd Y) {g : TG} {tt : TT} {tk tv : TE} {vs : List Nat} {σ : L2.St} {G1 : Hp} {D : Addr} {Qd : Hp → Prop} (Pv : Nat → Hp → Prop) (h0 : Pv 0 (upd G1 D (.dT []))) (hG : ∀ i G, i ≤ n → Pv i G → Gd G)
    (hs : ∀ i x G G', i < n → Pv i G → Y i G x G' → g x (wipe σ vs) G' fun σ2 G2 => wipe σ2 vs = wipe σ vs ∧ tt σ2 G2 fun b G3 =>
      if b = true then tk σ2 G3 fun y G4 => tv σ2 G4 fun u G5 => ∃ kvs k q, y = .ref q ∧ G5 q = some (.tup (k.map kV)) ∧ G5 D = some (.dT kvs) ∧ kvs.length < sizeLine ∧ Pv (i + 1) (upd G5 D (.dT (putK kvs k u))) else Pv (i + 1) G3) (hd : ∀ G, Pv n G → Qd G) :
    ∃ W : Nat → Nat → Hp → Prop, (∃ m, W 0 m (upd G1 D (.dT []))) ∧ ∀ i m G, W i m G → (J.stop i G ∧ Qd G) ∨ (J.go i G ∧ ∃ Nx : Hp → Prop, (∀ G', Nx G' → ∃ m', m' < m ∧ W (i + 1) m' G') ∧
      ∀ x G', J.yld i G x G' → g x (wipe σ vs) G' fun σ2 G2 => wipe σ2 vs = wipe σ vs ∧ tt σ2 G2 fun b G3 =>
        if b = true then tk σ2 G3 fun y G4 => tv σ2 G4 fun u G5 => ∃ kvs k q, y = .ref q ∧ G5 q = some (.tup (k.map kV)) ∧ G5 D = some (.dT kvs) ∧ kvs.length < sizeLine ∧ Nx (upd G5 D (.dT (putK kvs k u))) else Nx G3) := by
  refine ⟨fun i m G => m = n - i ∧ i ≤ n ∧ Pv i G, ⟨n, by simp, Nat.zero_le _, h0⟩, ?_⟩
  rintro i m G ⟨rfl, hi, p⟩
  by_cases lt : i < n
  · exact .inr ⟨wk.goes i G lt (hG i G hi p), Pv (i + 1), fun G' p' => ⟨n - (i + 1), by omega, rfl, lt, p'⟩, fun x G' y => hs i x G G' lt p (wk.yields i G x G' lt (hG i G hi p) y)⟩
  · obtain rfl : i = n := by omega
    exact .inl ⟨wk.stops G (hG i G hi p), hd G p⟩
end
end PD

namespace PD
open PySem PySem.Spec PyProof.Rows L2
theorem un65 {k : Nat} {A : Around} (hr : Room k A) : A.units + 65 < cLine := by
  have := hr.un
  omega
/-! ### pairs of numbers on the heap -/
abbrev Pr := Int × Int
def PrV (H : Hp) (v : V) (q : Pr) : Prop := ∃ p, v = .ref p ∧ H p = some (.tup [.int q.1, .int q.2])
theorem PrV.same {H H' : Hp} (s : Same H H') {v : V} {q : Pr} (h : PrV H v q) : PrV H' v q := let ⟨p, a, b⟩ := h; ⟨p, a, s _ _ b⟩
theorem PrV.upd {H : Hp} {v : V} {q : Pr} {p : Addr} {u o : HO} (h : PrV H v q) (hp : H p = some u) (n : ∀ xs, u ≠ .tup xs) : PrV (upd H p o) v q := by
  obtain ⟨b, e, hb⟩ := h
  exact ⟨b, e, by rw [upd_ne (ne_of hb hp (fun z => n _ z.symm))]; exact hb⟩
/-- values that stand for things, one by one -/
structure All2 {α : Type} (F : V → α → Prop) (vs : List V) (xs : List α) : Prop where
  len : vs.length = xs.length
  each : ∀ (i : Nat) (x : α), xs[i]? = some x → ∃ v, vs[i]? = some v ∧ F v x
theorem All2.mono {α : Type} {F G : V → α → Prop} {vs : List V} {xs : List α} (h : All2 F vs xs) (f : ∀ v x, F v x → G v x) : All2 G vs xs := ⟨h.len, fun i x e => let ⟨v, a, b⟩ := h.each i x e; ⟨v, a, f v x b⟩⟩
theorem All2.nil {α : Type} {F : V → α → Prop} : All2 F [] [] := ⟨rfl, fun i c e => by simp at e⟩
theorem All2.cons {α : Type} {F : V → α → Prop} {v : V} {x : α} {vs : List V} {xs : List α} (h : F v x) (r : All2 F vs xs) : All2 F (v :: vs) (x :: xs) := by
  refine ⟨by rw [List.length_cons, List.length_cons, r.len], fun i d e => ?_⟩
  cases i with
  | zero =>
    cases (Option.some.inj e)
    exact ⟨v, rfl, h⟩
  | succ i => exact r.each i d e
theorem All2.tail {α : Type} {F : V → α → Prop} {v : V} {x : α} {vs : List V} {xs : List α} (h : All2 F (v :: vs) (x :: xs)) : F v x ∧ All2 F vs xs := by
  obtain ⟨u, e1, e2⟩ := h.each 0 x rfl
  cases (Option.some.inj e1)
  exact ⟨e2, by have := h.len; simpa using this, fun i d e => h.each (i + 1) d e⟩
theorem All2.app {α : Type} {F : V → α → Prop} : ∀ {vs ws : List V} {xs ys : List α}, All2 F vs xs → All2 F ws ys → All2 F (vs ++ ws) (xs ++ ys)
  | [], ws, [], ys, _, h => h
  | [], _, _ :: _, _, h, _ => by have := h.len; simp at this
  | _ :: _, _, [], _, h, _ => by have := h.len; simp at this
  | v :: vs, ws, x :: xs, ys, h, h' => by
    obtain ⟨a, b⟩ := h.tail
    exact .cons a (b.app h')
theorem All2.at {α : Type} {F : V → α → Prop} {vs : List V} {xs : List α} (h : All2 F vs xs) {i : Nat} {v : V} (e : vs[i]? = some v) : ∃ x, xs[i]? = some x ∧ F v x := by
  have hi : i < xs.length := by
    rw [← h.len]
    exact (List.getElem?_eq_some_iff.mp e).1
  obtain ⟨u, e1, e2⟩ := h.each i xs[i] (List.getElem?_eq_getElem hi)
  cases (Option.some.inj (e.symm.trans e1))
  exact ⟨_, List.getElem?_eq_getElem hi, e2⟩
abbrev Prs (H : Hp) (vs : List V) (ps : List Pr) : Prop := All2 (PrV H) vs ps
def PrsAt (H : Hp) (a : Addr) (ps : List Pr) : Prop := ∃ vs, H a = some (.lst vs) ∧ Prs H vs ps
theorem PrsAt.same {H H' : Hp} (s : Same H H') {a : Addr} {ps : List Pr} (h : PrsAt H a ps) : PrsAt H' a ps := let ⟨vs, x, y⟩ := h; ⟨vs, s _ _ x, y.mono fun _ _ z => z.same s⟩
def RwsAt (H : Hp) (a : Addr) (rows : List (List Pr)) : Prop := ∃ vs, H a = some (.lst vs) ∧ All2 (fun v row => ∃ r, v = .ref r ∧ PrsAt H r row) vs rows
theorem RwsAt.same {H H' : Hp} (s : Same H H') {a : Addr} {rows : List (List Pr)} (h : RwsAt H a rows) : RwsAt H' a rows := let ⟨vs, x, y⟩ := h; ⟨vs, s _ _ x, y.mono fun _ _ ⟨r, z, u⟩ => ⟨r, z, u.same s⟩⟩
/-! ### pairs as keys -/
def kk (q : Pr) : List Key := [Sum.inl q.1, Sum.inl q.2]
theorem kk_inj {p q : Pr} (h : kk p = kk q) : p = q := by
  unfold kk at h
  injection h with h1 h2
  injection h2 with h3 _
  exact Prod.ext (Sum.inl.inj h1) (Sum.inl.inj h3)
theorem kk_tup {H : Hp} {b : Addr} {q : Pr} (h : H b = some (.tup [.int q.1, .int q.2])) : H b = some (.tup ((kk q).map kV)) := h
def dk {α : Type} (f : α → V) (l : List (Pr × α)) : List (List Key × V) := l.map fun x => (kk x.1, f x.2)
theorem dk_get {α : Type} (f : α → V) (q : Pr) : ∀ l : List (Pr × α), valV (dk f l) (kk q) = (l.lookup q).map f
  | [] => rfl
  | (p, x) :: l => by
    have ih := dk_get f q l
    by_cases h : p = q
    · subst h
      show valV ((kk p, f x) :: dk f l) (kk p) = _
      rw [valV_pos rfl]
      simp [List.lookup]
    · show valV ((kk p, f x) :: dk f l) (kk q) = _
      rw [valV_neg (fun e => h (kk_inj e)), ih]
      have hb : (q == p) = false := beq_eq_false_iff_ne.mpr fun e => h e.symm
      simp [List.lookup, hb]
theorem dk_put {α : Type} (f : α → V) (q : Pr) (x : α) (l : List (Pr × α)) (h : l.lookup q = none) : putK (dk f l) (kk q) (f x) = dk f (l ++ [(q, x)]) := by
  have h2 : valV (dk f l) (kk q) = none := by
    rw [dk_get, h]
    rfl
  rw [putK_new _ h2]
  unfold dk
  rw [List.map_append]
  rfl
theorem lookup_none {α : Type} {q : Pr} : ∀ {l : List (Pr × α)}, l.lookup q = none ↔ q ∉ l.map (·.1)
  | [] => by simp
  | (p, x) :: l => by
    by_cases h : q = p
    · subst h
      simp [List.lookup]
    · have hb : (q == p) = false := beq_eq_false_iff_ne.mpr h
      simp [List.lookup, hb, lookup_none (l := l), h]
theorem lookup_snoc {α : Type} {q p : Pr} {x : α} : ∀ {l : List (Pr × α)}, (l ++ [(p, x)]).lookup q = match l.lookup q with | some y => some y | none => if q = p then some x else none
  | [] => by
    by_cases h : q = p
    · subst h
      simp [List.lookup]
    · have hb : (q == p) = false := beq_eq_false_iff_ne.mpr h
      simp [List.lookup, hb, h]
  | (r, y) :: l => by
    by_cases h : q = r
    · subst h
      simp [List.lookup]
    · have hb : (q == r) = false := beq_eq_false_iff_ne.mpr h
      have ih := lookup_snoc (q := q) (p := p) (x := x) (l := l)
      simp only [List.cons_append, List.lookup, hb]
      exact ih
/-! ### pairs as data -/
def dP (q : Pr) : PyData := .tuple [.int q.1, .int q.2]
section
variable {K : PySem.W.Frag} {H : Hp}
theorem dp_pr {v : V} {q : Pr} (h : PrV H v q) : Dp K H v (dP q) := by
  obtain ⟨p, rfl, e⟩ := h
  exact .tup (SqT.of e) (.cons (.int _) (.cons (.int _) .nil))
theorem dpa_prs : ∀ {vs : List V} {ps : List Pr}, Prs H vs ps → DpAll K H vs (ps.map dP)
  | [], [], _ => .nil
  | [], _ :: _, h => by have := h.len; simp at this
  | _ :: _, [], h => by have := h.len; simp at this
  | v :: vs, q :: ps, h => by
    obtain ⟨a, b⟩ := h.tail
    exact .cons (dp_pr a) (dpa_prs b)
def dPs (ps : List Pr) : PyData := .list (ps.map dP)
theorem dp_prs {a : Addr} {ps : List Pr} (h : PrsAt H a ps) : Dp K H (.ref a) (dPs ps) := let ⟨vs, x, y⟩ := h; .lst (SqL.of x) (dpa_prs y)
theorem dpa_rws : ∀ {vs : List V} {rows : List (List Pr)}, All2 (fun v row => ∃ r, v = .ref r ∧ PrsAt H r row) vs rows → DpAll K H vs (rows.map dPs)
  | [], [], _ => .nil
  | [], _ :: _, h => by have := h.len; simp at this
  | _ :: _, [], h => by have := h.len; simp at this
  | v :: vs, q :: ps, h => by
    obtain ⟨⟨r, e, a⟩, b⟩ := h.tail
    rw [e]
    exact .cons (dp_prs a) (dpa_rws b)
def dRs (rows : List (List Pr)) : PyData := .list (rows.map dPs)
theorem dp_rws {a : Addr} {rows : List (List Pr)} (h : RwsAt H a rows) : Dp K H (.ref a) (dRs rows) := let ⟨vs, x, y⟩ := h; .lst (SqL.of x) (dpa_rws y)
end
theorem lay_prs : ∀ ps : List Pr, PyData.canLayAll0 (ps.map dP) = true
  | [] => rfl
  | q :: ps => by
    rw [List.map_cons]
    simp only [PyData.canLayAll0, dP, PyData.canLay0, Bool.true_and]
    exact lay_prs ps
theorem depth_prs : ∀ ps : List Pr, PyData.depthAll (ps.map dP) ≤ 1
  | [] => by simp [PyData.depthAll]
  | q :: ps => by
    rw [List.map_cons]
    have := depth_prs ps
    simp only [PyData.depthAll, dP, PyData.depth]
    omega
theorem shaped_pr (q : Pr) : SeqAt.shaped (dP q) = true := by
  unfold SeqAt.shaped dP
  simp only [PyData.canLay0, PyData.canLayAll0, PyData.depth, PyData.depthAll]
  rfl
theorem shaped_prs (ps : List Pr) : SeqAt.shaped (dPs ps) = true := by
  unfold SeqAt.shaped
  rw [Bool.and_eq_true]
  refine ⟨?_, decide_eq_true ?_⟩
  · unfold dPs
    simp only [PyData.canLay0, lay_prs]
  · unfold dPs
    simp only [PyData.depth]
    have := depth_prs ps
    omega
theorem lay_rws : ∀ rows : List (List Pr), PyData.canLayAll0 (rows.map dPs) = true
  | [] => rfl
  | q :: ps => by
    rw [List.map_cons]
    simp only [PyData.canLayAll0, dPs, PyData.canLay0, lay_prs, Bool.true_and]
    exact lay_rws ps
theorem depth_rws : ∀ rows : List (List Pr), PyData.depthAll (rows.map dPs) ≤ 2
  | [] => by simp [PyData.depthAll]
  | q :: ps => by
    rw [List.map_cons]
    have := depth_rws ps
    have := depth_prs q
    simp only [PyData.depthAll, dPs, PyData.depth]
    omega
theorem shaped_rws (rows : List (List Pr)) : SeqAt.shaped (dRs rows) = true := by
  unfold SeqAt.shaped
  rw [Bool.and_eq_true]
  refine ⟨?_, decide_eq_true ?_⟩
  · unfold dRs
    simp only [PyData.canLay0, lay_rws]
  · unfold dRs
    simp only [PyData.depth]
    have := depth_rws rows
    omega
theorem eqv_pr (p q : Pr) : PyData.eqv (dP p) (dP q) = decide (p = q) := by
  unfold dP
  simp only [PyData.eqv, PyData.eqvAll, Bool.and_true]
  by_cases h : p = q
  · subst h
    simp
  · rw [decide_eq_false h]
    by_cases h1 : p.1 = q.1
    · have h2 : ¬ p.2 = q.2 := fun e => h (Prod.ext h1 e)
      simp [h2]
    · simp [h1]
theorem eqva_prs : ∀ ps qs : List Pr, PyData.eqvAll (ps.map dP) (qs.map dP) = decide (ps = qs)
  | [], [] => rfl
  | [], _ :: _ => rfl
  | _ :: _, [] => rfl
  | p :: ps, q :: qs => by
    rw [List.map_cons, List.map_cons]
    simp only [PyData.eqvAll, eqv_pr, eqva_prs ps qs]
    by_cases h1 : p = q
    · by_cases h2 : ps = qs
      · simp [h1, h2]
      · simp [h1, h2]
    · simp [h1]
theorem eqva_rws : ∀ rs qs : List (List Pr), PyData.eqvAll (rs.map dPs) (qs.map dPs) = decide (rs = qs)
  | [], [] => rfl
  | [], _ :: _ => rfl
  | _ :: _, [] => rfl
  | p :: ps, q :: qs => by
    rw [List.map_cons, List.map_cons]
    have e : PyData.eqv (dPs p) (dPs q) = decide (p = q) := by
      unfold dPs
      simp only [PyData.eqv, eqva_prs]
    simp only [PyData.eqvAll, e, eqva_rws ps qs]
    by_cases h1 : p = q
    · by_cases h2 : ps = qs
      · simp [h1, h2]
      · simp [h1, h2]
    · simp [h1]
theorem any_prs (q : Pr) : ∀ ps : List Pr, ((ps.map dP).any fun z => PyData.eqv z (dP q)) = decide (q ∈ ps)
  | [] => by simp
  | p :: ps => by
    rw [List.map_cons, List.any_cons, any_prs q ps, eqv_pr]
    by_cases h : p = q
    · subst h
      simp
    · have h2 : ¬ q = p := fun e => h e.symm
      by_cases h3 : q ∈ ps
      · simp [h3]
      · simp [h, h2, h3]
end PD

/-! Phrasedesk: sorted(set(xs)) of a list of texts -/
namespace PD
open PySem PySem.Spec PyProof.Rows L2
def txK (e : Int × Value) : Str := match e.2 with | .str k _ => k | _ => Str.empty
def TxE (P : Program) (w : World) (e : Int × Value) : Prop := ∃ y tk, e.2 = Value.str y tk ∧ e.1 = (strKind P w).hash y
/-- a set of texts: its members and how many they are -/
def SetS (P : Program) (w : World) (g : Heap) (a : Addr) (M : Str → Bool) (c : Nat) : Prop :=
  ∃ o es ep t, g.get? a = some o ∧ o.ExactSet ∧ o.data = .set es ep t ∧ (∀ e ∈ es.toList, TxE P w e) ∧ (es.toList.map txK).Nodup ∧ (∀ y, M y = true ↔ y ∈ es.toList.map txK) ∧ es.size < scanBound ∧ t.fits es.size = true ∧ es.size = c ∧ Ris t.place.toList ∧ (w.params.followText "set-order" = true ∨ t.led = true)
section
variable {P : Program} {w : World} {g g' : Heap} {a : Addr} {M : Str → Bool} {c : Nat}
theorem SetS.at (R : SetS P w g a M c) (st : ∀ o, g.get? a = some o → g'.get? a = some o) : SetS P w g' a M c := by
  obtain ⟨o, es, ep, t, ho, more⟩ := R
  exact ⟨o, es, ep, t, st o ho, more⟩
theorem SetS.as {M' : Str → Bool} (R : SetS P w g a M c) (e : ∀ y, M' y = M y) : SetS P w g a M' c := by
  rw [show M' = M from funext e]
  exact R
theorem txE_elems {l : List (Int × Value)} (h : ∀ e ∈ l, TxE P w e) : ElemsOf (strKind P w) l := by
  intro e he
  obtain ⟨y, tk, h1, h2⟩ := h e he
  refine ⟨⟨y, ?_, h2⟩, ?_⟩
  · rw [h1]
    exact strKind_is P w y tk
  · rw [h1]
    rfl
theorem txE_is {e : Int × Value} (h : TxE P w e) (y : Str) : (strKind P w).is y e.2 = true ↔ txK e = y := by
  obtain ⟨y0, tk, h1, _⟩ := h
  unfold txK
  rw [h1]
  show ((y0 == y) = true) ↔ y0 = y
  exact beq_iff_eq
theorem txE_mem {l : List (Int × Value)} (h : ∀ e ∈ l, TxE P w e) (y : Str) : y ∈ l.map txK ↔ ∃ e ∈ l, (strKind P w).is y e.2 = true := by
  rw [List.mem_map]
  refine ⟨?_, ?_⟩
  · intro ⟨e, he, q⟩
    exact ⟨e, he, (txE_is (h e he) y).2 q⟩
  · intro ⟨e, he, q⟩
    exact ⟨e, he, (txE_is (h e he) y).1 q⟩
end
section
variable {P : Program} {w : World} {A : Around} {E : Value → Shared → Prop} {z : Shared} {a : Addr} {M : Str → Bool} {c : Nat}
theorem setS_tail {f : Bool → Sem Unit} (hf : ∀ (b : Bool) (z1 : Shared) (Q' : Unit → Shared → Prop), Q' () z1 → wpAny (model P w) A (f b) Q' E z1)
    {o : Obj} {es : Array (Int × Value)} {ep : Nat} {t : SetTable} (ho : z.heap.get? a = some o) (hx : o.ExactSet) (hd : o.data = .set es ep t)
    {es1 : Array (Int × Value)} {t2 : SetTable} {M' : Str → Bool} (g1 : ∀ e ∈ es1.toList, TxE P w e) (n1 : (es1.toList.map txK).Nodup) (m1 : ∀ y, M' y = true ↔ y ∈ es1.toList.map txK)
    (b1 : es1.size < scanBound) (f2 : t2.fits es1.size = true) (ri : Ris t2.place.toList) (le : w.params.followText "set-order" = true ∨ t2.led = true) {wd : Bool} {R : Option Bool → Shared → Prop}
    (hR : ∀ g', Heap.SameBut a z.heap g' → SetS P w g' a M' es1.size → R (some true) { z with heap := g' }) :
    wpAny (model P w) A (do
        storeSet a es1 t2
        if (!wd && t2.tooFull) = true then do
            f (relayAll t2 es1 (SetTable.grown es1.size)).2.2
            storeSet a (relayAll t2 es1 (SetTable.grown es1.size)).1 (relayAll t2 es1 (SetTable.grown es1.size)).2.1
            pure (some true)
          else pure (some true)) R E z := by
  have o1 := store_at (es' := es1) (t' := t2) ho hd
  have sb := Heap.SameBut.update z.heap a (Obj.putSet es1 t2)
  refine wpAny_bind (wpAny_storeSet_of ho hd ?_ (fits_of_scanBound b1))
  split
  · have pm := relayAll_perm t2 es1 (SetTable.grown es1.size)
    have f3 := relayAll_fits t2 es1 (SetTable.grown es1.size)
    have r3 := relayAll_ris t2 es1 (SetTable.grown es1.size)
    have l3 := relayAll_led t2 es1 (SetTable.grown es1.size)
    generalize relayAll t2 es1 (SetTable.grown es1.size) = Z at pm f3 r3 l3 ⊢
    obtain ⟨es2, t3, gv⟩ := Z
    dsimp only at pm f3 r3 l3 ⊢
    have sz : es2.size = es1.size := by
      rw [← Array.length_toList, pm.length_eq, Array.length_toList]
    have b2 : es2.size < scanBound := by
      rw [sz]
      exact b1
    refine wpAny_bind (hf _ _ _ (wpAny_bind (wpAny_storeSet_of o1 rfl ?_ (fits_of_scanBound b2))))
    have o2 := store_at (es' := es2) (t' := t3) o1 rfl
    refine wpAny_pure (hR _ (sb.trans (Heap.SameBut.update _ a _)) ⟨_, es2, _, t3, o2, hx, rfl, ?_, (pm.map txK).nodup_iff.mpr n1, ?_, b2, f3, sz, r3, ?_⟩)
    · intro e he
      exact g1 e (pm.mem_iff.mp he)
    · intro y
      exact (m1 y).trans (pm.map txK).mem_iff.symm
    · rcases le with q | q
      · exact .inl q
      · exact .inr (by rw [l3]; exact q)
  · exact wpAny_pure (hR _ sb ⟨_, es1, _, t2, o1, hx, rfl, g1, n1, m1, b1, f2, rfl, ri, le⟩)
theorem setS_add {y : Str} {tk : Tok} {Q : Bool → Shared → Prop} (R : SetS P w z.heap a M c) (room : c + 1 < scanBound)
    (hQ : ∀ g', Heap.SameBut a z.heap g' → SetS P w g' a (fun j => M j || decide (j = y)) (if M y = true then c else c + 1) → Q (!M y) { z with heap := g' }) :
    wpAny (model P w) A (setAddHashed a (.str y tk) ((strKind P w).hash y)) Q E z := by
  obtain ⟨o, es, ep, t, ho, hx, hd, gd, nd, hm, hb, hf, hn, ri, le⟩ := R
  have key : (strKind P w).is y (.str y tk) = true := strKind_is P w y tk
  have sc : (Value.str y tk).scannable = true := rfl
  have el : ElemsOf (strKind P w) es.toList := txE_elems gd
  unfold setAddHashed setAddHashedIn
  refine wpAny_holding (wpAny_bind (wpAny_setState_of ho hd hf ?_))
  dsimp only
  rw [byScan_of sc hb el]
  simp only [↓reduceIte]
  unfold setAddByScan
  refine wpAny_bind (wpAny_bind (wpAny_rule (wpAny_bind (wpAny_setScan_of key ho hd hf el ?_))))
  cases fi : List.findIdx? (fun e => (strKind P w).is y e.2) es.toList with
  | some j =>
    dsimp only
    obtain ⟨hj, pj, _⟩ := List.findIdx?_eq_some_iff_getElem.mp fi
    have My : M y = true := (hm y).2 ((txE_mem (P := P) (w := w) gd y).2 ⟨es.toList[j], List.getElem_mem hj, pj⟩)
    have q := hQ z.heap (Heap.SameBut.refl a z.heap) ⟨o, es, ep, t, ho, hx, hd, gd, nd, ?_, hb, hf, by rw [if_pos My]; exact hn, ri, le⟩
    · rw [My] at q
      exact wpAny_pure (wpAny_pure q)
    · intro i
      rw [Bool.or_eq_true, decide_eq_true_eq, ← hm i]
      exact ⟨fun k => k.elim id (fun e => e ▸ My), .inl⟩
  | none =>
    dsimp only
    have ny : y ∉ es.toList.map txK := by
      intro k
      obtain ⟨e, he, q⟩ := (txE_mem (P := P) (w := w) gd y).1 k
      have d := List.findIdx?_eq_none_iff.mp fi e he
      rw [q] at d
      cases d
    have My : M y = false := by
      cases q : M y with
      | false => rfl
      | true => exact absurd ((hm y).1 q) ny
    have gw : ∀ (b : Bool) {z1 : Shared} {Q' : Unit → Shared → Prop}, Q' () z1 → wpAny (model P w) A (match b with | true => rule "set.scan.the-table-gave-way" | false => pure ()) Q' E z1 := by
      intro b z1 Q' q
      cases b <;> first | exact wpAny_pure q | exact wpAny_rule q
    have pm := layNew_perm t es ((strKind P w).hash y) (.str y tk)
    have f1 := layNew_fits t es ((strKind P w).hash y) (.str y tk)
    have r1 := layNew_ris t es ((strKind P w).hash y) (.str y tk) ri
    have l1 := layNew_led t es ((strKind P w).hash y) (.str y tk)
    generalize layNew t es ((strKind P w).hash y) (.str y tk) = Z at pm f1 r1 l1 ⊢
    obtain ⟨es1, t1, wd, gv⟩ := Z
    dsimp only at pm f1 r1 l1 ⊢
    rw [Array.toList_push] at pm
    have pc : es1.toList.Perm (((strKind P w).hash y, Value.str y tk) :: es.toList) := pm.trans (List.perm_append_singleton _ _)
    have pk : (es1.toList.map txK).Perm (y :: es.toList.map txK) := pc.map txK
    have g1 : ∀ e ∈ es1.toList, TxE P w e := by
      intro e he
      rcases List.mem_cons.mp (pc.mem_iff.mp he) with k | k
      · rw [k]
        exact ⟨y, tk, rfl, rfl⟩
      · exact gd e k
    have n1 : (es1.toList.map txK).Nodup := pk.nodup_iff.mpr (List.nodup_cons.mpr ⟨ny, nd⟩)
    have m1 : ∀ i, (M i || decide (i = y)) = true ↔ i ∈ es1.toList.map txK := by
      intro i
      rw [Bool.or_eq_true, decide_eq_true_eq, hm i, pk.mem_iff, List.mem_cons]
      exact Or.comm
    have sz : es1.size = c + 1 := by
      rw [← Array.length_toList, pc.length_eq, List.length_cons, Array.length_toList, hn]
    have b1 : es1.size < scanBound := by
      rw [sz]
      exact room
    have le1 : w.params.followText "set-order" = true ∨ t1.led = true := by
      rcases le with q | q
      · exact .inl q
      · exact .inr (by rw [l1]; exact q)
    have fin : ∀ g', Heap.SameBut a z.heap g' → SetS P w g' a (fun j => M j || decide (j = y)) es1.size → Q true { z with heap := g' } := by
      intro g' sb r
      have q := hQ g' sb
      rw [My] at q
      rw [sz] at r
      exact q r
    refine wpAny_bind (gw _ ?_)
    split
    · refine wpAny_bind ?_
      rw [hashByValue_scannable 8 sc]
      refine wpAny_pure ?_
      refine setS_tail ?_ ho hx hd g1 n1 m1 b1 ?_ ?_ ?_ ?_
      · intro b z1 Q' q
        cases b <;> first | exact wpAny_pure q | exact wpAny_rule q
      · first | (split <;> first | exact f1 | exact SetTable.fits_plain_off f1) | exact f1
      · first | (split <;> exact r1) | exact r1
      · first | (split <;> exact le1) | exact le1
      · intro g' sb r
        dsimp only
        exact wpAny_pure (fin g' sb r)
    · refine wpAny_bind (wpAny_pure ?_)
      simp only [↓reduceIte]
      refine setS_tail ?_ ho hx hd g1 n1 m1 b1 f1 r1 le1 ?_
      · intro b z1 Q' q
        cases b <;> first | exact wpAny_pure q | exact wpAny_rule q
      · intro g' sb r
        dsimp only
        exact wpAny_pure (fin g' sb r)
end

/-- a new set's object -/
abbrev newSet (w : World) : Obj := { cls := .type "set", dict := none, data := .set #[] 0 (.fresh 0 0 (!w.params.followText "set-order")) }
theorem setS_none {P : Program} {w : World} {g : Heap} {a : Addr} (ho : g.get? a = some (newSet w)) : SetS P w g a (fun _ => false) 0 := by
  refine ⟨_, #[], 0, _, ho, ⟨rfl, rfl, rfl⟩, rfl, ?_, by simp, by simp, by decide, rfl, rfl, List.Pairwise.nil, ?_⟩
  · intro e he
    simp at he
  · show _ ∨ (!w.params.followText "set-order") = true
    cases w.params.followText "set-order"
    · exact Or.inr rfl
    · exact Or.inl rfl
section
variable {P : Program} {w : World} {A : Around} {E : Value → Shared → Prop} {z : Shared}
theorem setS_all {I : Addr} {fp wr : List Addr} {G : Array GenState → Array GenState → Prop} {n : Nat} {Pv : Nat → Value → Prop} {Sx : Nat → Shared → Prop} {R : Result → Shared → Prop}
    (W : WalksS P w A.in1 I fp wr G n Pv Sx) (D : Addr) (hD : D ∉ fp) (ys : List Str) (hn : n = ys.length) (hb : ys.length + 1 < scanBound) (hv : ∀ i v, Pv i v → ∃ y t, ys[i]? = some y ∧ v = .str y t) :
    ∀ (k i : Nat) (z : Shared), n - i = k → i ≤ n → Sx i z → (∃ c, c ≤ i ∧ SetS P w z.heap D (fun j => decide (j ∈ ys.take i)) c) →
      (∀ z' c, Moved (D :: wr) G z z' → c ≤ n → SetS P w z'.heap D (fun j => decide (j ∈ ys)) c → R (.ok (.ret .none)) z') →
      codeAny (model P w) A (.builtin "set.update.loop" ⟨[.ref D, .ref I], []⟩) R z := by
  have nw : D ∉ wr := fun h => hD (W.sub _ h)
  have up : ∀ b ∈ wr, b ∈ D :: wr := fun b h => List.mem_cons_of_mem _ h
  intro k
  induction k with
  | zero =>
    rintro i z e hi st ⟨c, hc, hS⟩ hR
    have ei : i = n := by omega
    subst ei
    refine codeAny_builtin F.entry_set_update_loop ?_
    rw [Around.under_plainId F.plain_set_update_loop _]
    show wpAny _ A.in1 (pyNext (.ref I) >>= _) _ _ z
    refine wpAny_bind (W.done z _ _ st fun z' hm => ?_)
    show wpAny _ A.in1 (ret Value.none) _ _ z'
    have et : ys.take i = ys := List.take_of_length_le (by omega)
    rw [et] at hS
    exact wpAny_pure (hR z' c (hm.mono up) hc (hS.at fun o e => hm.heap D o nw e))
  | succ k ih =>
    rintro i z e hi st ⟨c, hc, hS⟩ hR
    have lt : i < n := by omega
    refine codeAny_builtin F.entry_set_update_loop ?_
    rw [Around.under_plainId F.plain_set_update_loop _]
    show wpAny _ A.in1 (pyNext (.ref I) >>= _) _ _ z
    refine wpAny_bind (W.item i z _ _ lt st fun v z' hP st' hm => ?_)
    obtain ⟨y, t, ey, rfl⟩ := hv i v hP
    have hS' : SetS P w z'.heap D (fun j => decide (j ∈ ys.take i)) c := hS.at fun o e => hm.heap D o nw e
    show wpAny _ A.in1 (holding [Value.str y t] (setAdd D (.str y t)) >>= _) _ _ z'
    refine wpAny_bind (wpAny_holding ?_)
    unfold setAdd
    refine wpAny_holding (wpAny_bind ((strKind P w).pyHash (k := y) (strKind_is _ _ _ _) ?_))
    refine setS_add (z := { z' with toks := z'.toks + 1 }) hS' (by omega) fun g' sb hS2 => ?_
    have hS3 : SetS P w g' D (fun j => decide (j ∈ ys.take (i + 1))) (if decide (y ∈ ys.take i) = true then c else c + 1) := by
      refine hS2.as fun j => ?_
      rw [List.take_add_one, ey]
      simp [List.mem_append]
    have c3 : (if decide (y ∈ ys.take i) = true then c else c + 1) ≤ i + 1 := by
      split <;> omega
    refine wpAny_pure ⟨plainId_quiet F.plain_set_update_loop _, ih (i + 1) _ (by omega) lt (W.frame _ z' _ _ st' (Nat.le_succ _) fun b hb o e => ?_) ⟨_, c3, hS3⟩ fun z2 c2 m2 k2 S2 => ?_⟩
    · rw [sb.2 b (fun h : b = D => hD (by rw [← h]; exact hb))]
      exact e
    · refine hR z2 c2 (Moved.trans W.gtrans ((hm.mono up).then_heap (Nat.le_succ _) fun b o hb e => ?_) m2) k2 S2
      rw [sb.2 b (fun h : b = D => hb (by rw [h]; exact List.mem_cons_self))]
      exact e
theorem set_texts {l : Addr} {its : Array Value} (ys : List Str) {Q : Value → Shared → Prop} (hh : A.handled = none) (hl : z.heap.IsList l its) (hit : StrsAre its.toList ys) (hb : ys.length + 1 < scanBound)
    (h : ∀ (g' : Heap) (tk c : Nat), SetS P w g' z.heap.objs.size (fun j => decide (j ∈ ys)) c → c ≤ ys.length → (∀ b o, z.heap.get? b = some o → g'.get? b = some o) → Q (.ref z.heap.objs.size) { z with heap := g', toks := tk }) :
    wpAny (model P w) A (call (.type "set") [.ref l]) Q E z := by
  have isz : its.size = ys.length := by
    rw [← StrsAre.len_eq hit, Array.length_toList]
  obtain ⟨cl, tl, hmro⟩ := F.called_set.mro
  have made := F.called_set.made
  have sub := F.called_set.sub
  refine wpAny_call (codeAny_of_tree (show wpAny _ _ (callAny (.type "set") _) _ _ _ from wpAny_pure ⟨Code.quiet_builtin _ (by decide +kernel), codeAny_builtin F.entry_type_call ?_⟩))
  rw [Around.under_plain (weight_type_call_type "set" [.ref l] []) rfl]
  have k1 := F.called_set.notType
  have k2 := F.called_set.canCreate
  have k3 := F.typeCall_set_1 (.ref l)
  repeat (any_goals (first | assumption | wp_step))
  refine codeAny_mono (code_set_led1 (.ref l) (E := E) (Q₁ := fun x z1 => x = .ref z.heap.objs.size ∧ z1 = { z with heap := z.heap.push (newSet w) }) ⟨rfl, rfl⟩) fun r z1 hr => ?_
  cases r with
  | error e => exact hr
  | ok fl =>
    cases fl with
    | ret ob =>
      obtain ⟨rfl, rfl⟩ := hr
      have hS : (z.heap.push (newSet w)).get? z.heap.objs.size = some (newSet w) := Heap.get?_push_size _ rfl
      have hT : Shared.TypeIs { z with heap := z.heap.push (newSet w) } (.ref z.heap.objs.size) "set" := ⟨_, hS, rfl⟩
      have hli := F.called_set.init.lookup
      have hbi := F.called_set.init.bind (.ref z.heap.objs.size)
      repeat (any_goals (first | assumption | wp_step))
      refine codeAny_mono (codeAny_call_builtin (R := wants (fun r z2 => r = .none ∧ ∃ g' tk c, z2 = { z with heap := g', toks := tk } ∧ SetS P w g' z.heap.objs.size (fun j => decide (j ∈ ys)) c ∧ c ≤ ys.length ∧ (∀ b o, z.heap.get? b = some o → g'.get? b = some o)) E) F.called_set.init.plain F.entry_set_init (check_set_init_1 hT ?_)) fun r2 z2 hr2 => ?_
      · obtain ⟨ol, hol, hcl, nl, hdl⟩ := hl
        obtain ⟨ocls, odict, odata, oslots⟩ := ol
        dsimp only at hcl hdl
        cases hcl
        cases hdl
        have hol' : (z.heap.push (newSet w)).get? l = some { cls := .type "list", dict := odict, data := .seq its nl, slots := oslots } := Heap.get?_push_of_some _ hol
        have hsls := F.sub_list_set
        have hslf := F.sub_list_frozenset
        have hne : (Value.type "list" == Value.type "dict") = false := by decide
        have hl1 : (z.heap.push (newSet w)).IsList l its := ⟨_, hol', rfl, nl, rfl⟩
        unfold Builtin.«set.__init__» noKeywords Builtin.Frozenset.updateFrom
        generalize hPI : pyIter = PI
        wp_walk
        subst hPI
        refine wpAny_pyIter_list hl1 (wpAny_bind (wpAny_runValue ?_))
        have lS : l < z.heap.objs.size := Heap.lt_size hol
        have h3 : A.in1.in1.in1.handled = none := by simp [hh]
        have nI : l ≠ (z.heap.push (newSet w)).objs.size := by
          rw [Heap.size_push]
          exact Nat.ne_of_lt (Nat.lt_succ_of_lt lS)
        have nS : z.heap.objs.size ∉ [(z.heap.push (newSet w)).objs.size, l] := by
          rw [Heap.size_push]
          simp only [List.mem_cons, List.not_mem_nil, or_false, not_or]
          exact ⟨Nat.ne_of_lt (Nat.lt_succ_self z.heap.objs.size), Nat.ne_of_gt lS⟩
        have val : ∀ (i : Nat) (v : Value), its[i]? = some v → ∃ y t, ys[i]? = some y ∧ v = .str y t := by
          intro i v ev
          have li : i < ys.length := by
            rw [← isz]
            exact (Array.getElem?_eq_some_iff.mp ev).1
          obtain ⟨t, e⟩ := SS.strs_at hit i v (by rw [Array.getElem?_toList]; exact ev)
          refine ⟨ys[i], t, List.getElem?_eq_getElem li, ?_⟩
          rw [e, List.getD_eq_getElem?_getD, List.getElem?_eq_getElem li]
          rfl
        refine setS_all ((Walks.list h3 _ l nI its).toS) z.heap.objs.size nS ys isz hb val (its.size - 0) 0 _ (by omega) (Nat.zero_le _) ⟨⟨_, Heap.get?_push_size _ rfl, rfl, rfl⟩, (hl1.push _)⟩ ⟨0, Nat.le_refl 0, ?_⟩ ?_
        · refine (setS_none (g := _) (a := z.heap.objs.size) (Heap.get?_push_of_some _ hS)).as fun j => ?_
          simp
        · intro z' c' hm lc hS'
          obtain ⟨g', g2, d', tk', os'⟩ := z'
          cases (show g2 = z.gens from hm.gens)
          cases (show d' = z.drawn from hm.drawn)
          cases (show os' = z.os from hm.os)
          show wpAny _ _ _ _ _ _
          refine wpAny_pure ?_
          show wpAny _ _ (ret Value.none) _ _ _
          rw [isz] at lc
          refine wpAny_pure ⟨rfl, g', tk', c', rfl, hS', lc, fun b o e => ?_⟩
          have b0 : b < z.heap.objs.size := Heap.lt_size e
          refine hm.heap b o ?_ (Heap.get?_push_of_some _ (Heap.get?_push_of_some _ e))
          rw [Heap.size_push]
          simp only [List.mem_cons, List.not_mem_nil, or_false, not_or]
          exact ⟨Nat.ne_of_lt b0, Nat.ne_of_lt (Nat.lt_succ_of_lt b0)⟩
      · cases r2 with
        | error e => exact hr2
        | ok fl2 =>
          cases fl2 with
          | ret r =>
            obtain ⟨rfl, g', tk, c', rfl, hS', lc, kp⟩ := hr2
            repeat (any_goals (first | assumption | wp_step))
            exact h _ _ _ hS' lc kp
          | _ => exact hr2.elim
    | _ => exact hr.elim
/-- what is in a list of values, as texts -/
theorem texts_of : ∀ (l : List Value), (∀ v ∈ l, ∃ y tk, v = Value.str y tk) → StrsAre l (l.map fun v => txK (0, v))
  | [], _ => .nil
  | v :: l, h => by
    obtain ⟨y, tk, rfl⟩ := h v List.mem_cons_self
    exact .cons y tk (texts_of l fun u hu => h u (List.mem_cons_of_mem _ hu))
theorem sorted_texts {a : Addr} {M : Str → Bool} {c : Nat} {Q : Value → Shared → Prop} (R : SetS P w z.heap a M c) (hh : A.handled = none) (h64 : c < 64)
    (hQ : ∀ z' p (out : Array Value) (n : Nat) (ys : List Str), (∀ b o, z.heap.get? b = some o → z'.heap.get? b = some o) → z'.gens = z.gens → z'.os = z.os → z.heap.objs.size ≤ p →
      z'.heap.get? p = some (seqObj "list" out n) → StrsAre out.toList ys → sortedS ys = true → ys.Nodup → (∀ y, y ∈ ys ↔ M y = true) → ys.length = c → Q (.ref p) z') :
    wpAny (model P w) A (call (.builtin "sorted") [.ref a]) Q E z := by
  obtain ⟨o, es, ep, t, ho, hx, hd, gd, nd, hm, hb, hf, hn, ri, le⟩ := R
  refine Calls.call_function_entry kind_sorted plain_sorted entry_sorted (args_sorted1 _) ?_
  unfold Builtin.«sorted»
  refine wpAny_bind (m := checkCount "sorted" 1 1 _) (wpAny_pure (wpAny_bind (collect_set (A := A.in1) hh ⟨o, ho, hx.1, hd⟩ hf hb ri le fun z1 vs k1 hz g1 o1 pm => ?_)))
  have vl : vs.length = c := by
    rw [pm.length_eq, List.length_map, Array.length_toList]
    exact hn
  have hS : StrsAre vs (vs.map fun v => txK (0, v)) := texts_of vs fun v hv => by
    obtain ⟨e, he, q⟩ := List.mem_map.mp (pm.mem_iff.mp hv)
    obtain ⟨y, tk, h1, _⟩ := gd e he
    exact ⟨y, tk, q ▸ h1⟩
  have pk : (vs.map fun v => txK (0, v)).Perm (es.toList.map txK) := by
    have q := pm.map fun v => txK (0, v)
    rw [List.map_map] at q
    exact q
  refine wpAny_bind (wpAny_newList ?_ (by rw [vl, sizeLine_eq]; omega))
  have oL : (z1.heap.push (seqObj "list" vs.toArray 0)).get? z1.heap.objs.size = some (seqObj "list" vs.toArray 0) := Heap.get?_push_size _ rfl
  refine wpAny_bind (wpAny_holding (wpAny_call_entry slot_list_sort ⟨_, oL, rfl⟩ entry_list_sort (list_sort_treeK strKind_oneLt (s := { z1 with heap := z1.heap.push (seqObj "list" vs.toArray 0) }) oL hS.keysOf (fun v1 v2 rest e => keyKind_strs (by rw [← e]; exact hS)) (by rw [vl]; exact h64) fun st' hp hs => ⟨_, rfl, ?_⟩) (args_list_sort _)))
  obtain ⟨ys, q1, q2, q3⟩ := sorted_out_str hS hp hs
  obtain ⟨n, hc⟩ := sortedHeap_at (vs := vs) (out := (arrOf st').map (·.2)) oL
  have pn : ys.Perm (es.toList.map txK) := q2.trans pk
  refine wpAny_pure ⟨_, rfl, hQ _ z1.heap.objs.size _ n ys (fun b u e => ?_) g1 o1 hz hc q1 q3 (pn.nodup_iff.mpr nd) (fun y => by rw [pn.mem_iff, ← hm y]) ?_⟩
  · have q := k1 b u e
    have lt := Heap.lt_size q
    show (sortedHeap (z1.heap.push (seqObj "list" vs.toArray 0)) z1.heap.objs.size vs _).get? b = some u
    rw [sortedHeap_old (Nat.ne_of_lt lt) (by rw [size_push']; exact Nat.lt_succ_of_lt lt)]
    exact Heap.get?_push_of_some _ q
  · rw [pn.length_eq, List.length_map, Array.length_toList]
    exact hn
end
section
variable {X : Cx}
/-- sorted(set(e)), e a list of fewer than 64 texts -/
def tSrt (K : PySem.W.Frag) (ta : TE) : TE := fun σ G Q => ta σ G fun x G1 => ∃ (l : Addr) (ys : List Str), x = .ref l ∧ SqL K G1 l (ys.map V.str) ∧ ys.length < 63 ∧
  ∀ (ts : List Str) (p : Addr), sortedS ts = true → ts.Nodup → (∀ y, y ∈ ts ↔ y ∈ ys) → G1 p = none → Q (.ref p) (upd G1 p (.lst (ts.map V.str)))
theorem pe_srt {e : Expr} {ta : TE} {p p2 q pos : Pos} (hc : X.calm = true) (hg : Gl X "sorted") (hm : X.mg "sorted" = none) (hg2 : Gl X "set") (hm2 : X.mg "set" = none) (ha : PE X e ta)
    (na : starEach [e] X.env = (false, eval e X.env) :: starEach [] X.env := by rfl) : PE X (.Call (.Name "sorted" p) [.Call (.Name "set" p2) [e] [] q] [] pos) (tSrt X.K ta) := by
  refine ⟨fun pins z σ G Q I h => Call_ (ld_blt I hg hm boot_sorted (PyProof.Rows.callWith_builtin1 (PyProof.Rows.args_cons (Call_ (ld_blt I hg2 hm2 boot_set ?_)) rfl) rfl rfl))⟩
  refine PyProof.Rows.callWith_type1 (PyProof.Rows.args_cons (thn (ha.run pins z σ G _ I h) fun v z1 ⟨x, G1, I1, r1, q1⟩ => PyProof.Rows.args_nil ?_) na) na rfl
  obtain ⟨l, ys, rfl, hs, hl, q1⟩ := q1
  cases r1
  obtain ⟨its, rv, pl, _⟩ := I1.list hs
  have hS : StrsAre its.toArray.toList ys := by simpa using strsAre_of rv
  refine set_texts ys (I1.ok.hd hc) pl.isList hS (by unfold scanBound; omega) fun g' tk c R lc kp => PyProof.Rows.args_nil ?_
  have I2 : Inv X pins σ G1 { z1 with heap := g', toks := tk } := I1.kept kp
  refine sorted_texts (z := { z1 with heap := g', toks := tk }) R (I2.ok.hd hc) (by omega) fun z2 a out n ts k2 e2 o2 za ha' hts srt nd mem ln => ?_
  have len : (ts.map V.str).length ≤ sizeLine := by
    rw [List.length_map, ln, sizeLine_eq]
    omega
  have na : G1 a = none := I2.hok.fresh za
  have J : Inv X pins σ (upd G1 a (.lst (ts.map V.str))) { { z1 with heap := g', toks := tk } with heap := z2.heap, gens := z2.gens, drawn := z2.drawn, toks := z2.toks } :=
    I2.call (ch := []) (Un.laid k2 za na) (I2.hok.laid k2 za ⟨len, out.toList, n, vals_of_strs hts, by rw [Array.toArray_toList]; exact ha'⟩) (by rw [e2]; exact I2.bare) (fun _ y => nomatch y)
  have ez : z2 = { { z1 with heap := g', toks := tk } with heap := z2.heap, gens := z2.gens, drawn := z2.drawn, toks := z2.toks } := by
    cases z2
    cases z1
    cases o2
    rfl
  rw [ez]
  exact ⟨.ref a, _, J, rfl, q1 ts a srt nd (fun y => by rw [mem y, decide_eq_true_iff]) na⟩
end
end PD

/-! Phrasedesk: a desk's state, as it lies in a dict of the law's own -/
namespace PD
open PySem PySem.Spec PyProof.Rows L2
structure Pt where
  p : Nat
  t : Nat
  x : Str
  s : Option Int
structure De where
  n : Nat
  puts : List Pt
  lie : Nat → Nat → List Int
def De.none : De := ⟨0, [], fun _ _ => []⟩
def De.now (S : De) (p t : Nat) : Option Int := (S.lie p t).getLast?
def setL (f : Nat → Nat → List Int) (p t : Nat) (ns : List Int) : Nat → Nat → List Int := fun p' t' => if p' = p ∧ t' = t then ns else f p' t'
def De.lay (S : De) (p t : Nat) (x : Str) (s : Option Int) : De := ⟨S.n, S.puts ++ [⟨p, t, x, s⟩], setL S.lie p t (S.lie p t ++ [(S.puts.length : Int)])⟩
def De.more (S : De) : De := ⟨S.n + 1, S.puts, S.lie⟩
def De.off (S : De) (p t : Nat) : De := ⟨S.n, S.puts, setL S.lie p t (S.lie p t).dropLast⟩
def De.pt (S : De) (k : Int) : Pt := S.puts.getD k.toNat ⟨0, 0, Str.empty, Option.none⟩
def De.cell (S : De) (p t : Nat) : Cell := (S.now p t).map fun k => (k, (S.pt k).s)
def De.row (S : De) (m p : Nat) : List Cell := (List.range m).map fun t => S.cell p t
/-- a put as it lies -/
def PtV (H : Hp) (v : V) (u : Pt) : Prop := ∃ q, v = .ref q ∧ H q = some (.tup [.int u.p, .int u.t, .str u.x, oV u.s])
theorem PtV.same {H H' : Hp} (e : Same H H') {v : V} {u : Pt} (h : PtV H v u) : PtV H' v u := let ⟨q, a, b⟩ := h; ⟨q, a, e _ _ b⟩
def LieV (H : Hp) (l : Addr) : Option V → List Int → Prop
  | .none, ns => ns = []
  | .some v, ns => ∃ a, v = .ref a ∧ a ≠ l ∧ LsAt H a ns
theorem LieV.same {H H' : Hp} {l : Addr} (e : Same H H') : ∀ {r : Option V} {ns : List Int}, LieV H l r ns → LieV H' l r ns
  | .none, _, h => h
  | .some _, _, ⟨a, x, z, y⟩ => ⟨a, x, z, y.same e⟩
abbrev ty (p t : Nat) : List Key := [Sum.inl (p : Int), Sum.inl (t : Int)]
theorem ty_inj {p t p' t' : Nat} (h : ty p t = ty p' t') : p = p' ∧ t = t' := by
  have h1 : (Sum.inl (p : Int) : Key) = Sum.inl (p' : Int) := (List.cons.inj h).1
  have h2 : (Sum.inl (t : Int) : Key) = Sum.inl (t' : Int) := (List.cons.inj (List.cons.inj h).2).1
  have h3 := Sum.inl.inj h1
  have h4 := Sum.inl.inj h2
  omega
abbrev kP : Key := Sum.inr "phrases"
abbrev kU : Key := Sum.inr "puts"
abbrev kL : Key := Sum.inr "lying"
abbrev topK (n : Nat) (l d : Addr) : List (Key × V) := [(kP, .int (n : Int)), (kU, .ref l), (kL, .ref d)]
structure Here (H : Hp) (o l d : Addr) (S : De) : Prop where
  top : H o = some (.dK (topK S.n l d))
  puts : ∃ vs, H l = some (.lst vs) ∧ All2 (PtV H) vs S.puts
  lie : ∃ kvs, H d = some (.dT kvs) ∧ kvs.length ≤ S.puts.length ∧ ∀ p t : Nat, LieV H l (valV kvs (ty p t)) (S.lie p t)
  few : S.puts.length ≤ 5000
  lens : ∀ p t, (S.lie p t).length ≤ S.puts.length
theorem Here.same {H H' : Hp} (e : Same H H') {o l d : Addr} {S : De} (h : Here H o l d S) : Here H' o l d S := by
  obtain ⟨vs, h1, h2⟩ := h.puts
  obtain ⟨kvs, h3, h4, h5⟩ := h.lie
  exact ⟨e _ _ h.top, ⟨vs, e _ _ h1, h2.mono fun _ _ z => z.same e⟩, ⟨kvs, e _ _ h3, h4, fun p t => (h5 p t).same e⟩, h.few, h.lens⟩
theorem topP (n : Nat) (l d : Addr) : valV (topK n l d) kP = some (.int (n : Int)) := rfl
theorem topU (n : Nat) (l d : Addr) : valV (topK n l d) kU = some (.ref l) := rfl
theorem topL (n : Nat) (l d : Addr) : valV (topK n l d) kL = some (.ref d) := rfl
/-- all but the three stays -/
def Off (o l d : Addr) (H H' : Hp) : Prop := ∀ a x, a ≠ o → a ≠ l → a ≠ d → H a = some x → H' a = some x
/-- a text that may be put -/
structure TxOk (x : Str) : Prop where
  lo : 1 ≤ x.length
  hi : x.length ≤ 6
  each : ∀ c ∈ x.cps.toList, 97 ≤ c ∧ c ≤ 122
theorem app_cps (x y : Str) : (x ++ y).cps.toList = x.cps.toList ++ y.cps.toList := Array.toList_append
theorem app_len (x y : Str) : (x ++ y).length = x.length + y.length := Array.size_append
theorem az_at : ∀ j : Nat, j < 26 → (Str.ofString "abcdefghijklmnopqrstuvwxyz").cps.toList[j]? = some (97 + j) := by
  have h : ∀ j : _root_.Fin 26, (Str.ofString "abcdefghijklmnopqrstuvwxyz").cps.toList[j.val]? = some (97 + j.val) := by decide +kernel
  exact fun j hj => h ⟨j, hj⟩
theorem Off.same {o l d : Addr} {H H' H2 : Hp} (h : Off o l d H H') (e : Same H' H2) : Off o l d H H2 := fun a x h1 h2 h3 q => e _ _ (h a x h1 h2 h3 q)
theorem off_same {o l d : Addr} {H H' H2 : Hp} (e : Same H H') (h : Off o l d H' H2) : Off o l d H H2 := fun a x h1 h2 h3 q => h a x h1 h2 h3 (e _ _ q)
theorem Off.refl {o l d : Addr} {H : Hp} : Off o l d H H := fun _ _ _ _ _ q => q
theorem Off.trans {o l d : Addr} {H H' H2 : Hp} (h : Off o l d H H') (e : Off o l d H' H2) : Off o l d H H2 := fun a x h1 h2 h3 q => e a x h1 h2 h3 (h a x h1 h2 h3 q)
theorem Here.ne {H : Hp} {o l d : Addr} {S : De} (h : Here H o l d S) : o ≠ l ∧ o ≠ d ∧ l ≠ d := by
  obtain ⟨vs, h1, _⟩ := h.puts
  obtain ⟨kvs, h2, _⟩ := h.lie
  exact ⟨ne_of h.top h1 (fun z => nomatch z), ne_of h.top h2 (fun z => nomatch z), ne_of h1 h2 (fun z => nomatch z)⟩
/-- one more phrase -/
theorem Here.one {H : Hp} {o l d : Addr} {S : De} (h : Here H o l d S) : Here (upd H o (.dK (topK (S.n + 1) l d))) o l d S.more := by
  obtain ⟨n1, n2, n3⟩ := h.ne
  obtain ⟨vs, h1, h2⟩ := h.puts
  obtain ⟨kvs, h3, h4, h5⟩ := h.lie
  refine ⟨upd_same, ⟨vs, ?_, h2.mono ?_⟩, ⟨kvs, ?_, h4, ?_⟩, h.few, h.lens⟩
  · rw [upd_ne (Ne.symm n1)]
    exact h1
  · rintro v u ⟨q, a, b⟩
    refine ⟨q, a, ?_⟩
    rw [upd_ne (ne_of b h.top (fun z => nomatch z))]
    exact b
  · rw [upd_ne (Ne.symm n2)]
    exact h3
  · intro p t
    have z := h5 p t
    cases e : valV kvs (ty p t) with
    | none =>
      rw [e] at z
      exact z
    | some v =>
      rw [e] at z
      obtain ⟨a, x, nl, y⟩ := z
      refine ⟨a, x, nl, ?_⟩
      unfold LsAt
      rw [upd_ne (ne_of y h.top (fun z => nomatch z))]
      exact y
theorem off_o {o l d : Addr} {H : Hp} {x : HO} : Off o l d H (upd H o x) := fun a y h1 _ _ q => by
  rw [upd_ne h1]
  exact q
theorem off_l {o l d : Addr} {H : Hp} {x : HO} : Off o l d H (upd H l x) := fun a y _ h1 _ q => by
  rw [upd_ne h1]
  exact q
theorem off_d {o l d : Addr} {H : Hp} {x : HO} : Off o l d H (upd H d x) := fun a y _ _ h1 q => by
  rw [upd_ne h1]
  exact q
/-- one is put -/
theorem Here.lay {H H1 H3 : Hp} {o l d q a : Addr} {S : De} {vs : List V} {kvs : List (List Key × V)} {p t : Nat} {x : Str} {s : Option Int} (h : Here H o l d S) (fw : S.puts.length < 5000) (s1 : Same H H1) (hq : H1 q = some (.tup [.int p, .int t, .str x, oV s]))
    (hl : H1 l = some (.lst vs)) (s3 : Same (upd H1 l (.lst (vs ++ [.ref q]))) H3) (hd : H3 d = some (.dT kvs)) (na : a ≠ l) (ha : LsAt H3 a (S.lie p t ++ [(S.puts.length : Int)])) :
    Here (upd H3 d (.dT (putK kvs (ty p t) (.ref a)))) o l d (S.lay p t x s) ∧ Off o l d H (upd H3 d (.dT (putK kvs (ty p t) (.ref a)))) := by
  obtain ⟨n1, n2, n3⟩ := h.ne
  have h1 := h.same s1
  obtain ⟨vs', e1, h2⟩ := h1.puts
  rw [hl] at e1
  cases (HO.lst.inj (Option.some.inj e1))
  obtain ⟨kvs', e3, h4, h5⟩ := h1.lie
  have e3' : H3 d = some (.dT kvs') := s3 _ _ (by rw [upd_ne (Ne.symm n3)]; exact e3)
  rw [hd] at e3'
  cases (HO.dT.inj (Option.some.inj e3'))
  have keepT : ∀ {b : Addr} {xs : List V}, H1 b = some (.tup xs) → (upd H3 d (.dT (putK kvs (ty p t) (.ref a)))) b = some (.tup xs) := by
    intro b xs e
    have z : H3 b = some (.tup xs) := s3 _ _ (by rw [upd_ne (ne_of e hl (fun z => nomatch z))]; exact e)
    rw [upd_ne (ne_of z hd (fun z => nomatch z))]
    exact z
  refine ⟨⟨?_, ⟨vs ++ [.ref q], ?_, ?_⟩, ⟨_, upd_same, ?_, ?_⟩, ?_, ?_⟩, ?_⟩
  · rw [upd_ne n2]
    exact s3 _ _ (by rw [upd_ne n1]; exact h1.top)
  · rw [upd_ne n3]
    exact s3 _ _ upd_same
  · refine All2.app (h2.mono ?_) (All2.cons ⟨q, rfl, keepT hq⟩ All2.nil)
    rintro v u ⟨b, x, y⟩
    exact ⟨b, x, keepT y⟩
  · show _ ≤ (S.puts ++ [_]).length
    have := length_putK kvs (ty p t) (.ref a)
    rw [List.length_append, List.length_singleton]
    omega
  · intro p' t'
    rw [valV_put]
    show LieV _ l _ (setL S.lie p t _ p' t')
    unfold setL
    by_cases e : ty p' t' = ty p t
    · rw [if_pos e, if_pos (ty_inj e)]
      refine ⟨a, rfl, na, ?_⟩
      unfold LsAt
      rw [upd_ne (ne_of ha hd (fun z => nomatch z))]
      exact ha
    · rw [if_neg e, if_neg (fun z => e (by rw [z.1, z.2]))]
      have z := h5 p' t'
      cases ev : valV kvs (ty p' t') with
      | none =>
        rw [ev] at z
        exact z
      | some v =>
        rw [ev] at z
        obtain ⟨b, x1, bl, y1⟩ := z
        refine ⟨b, x1, bl, ?_⟩
        have y3 : H3 b = some (.lst ((S.lie p' t').map V.int)) := s3 _ _ (by rw [upd_ne bl]; exact y1)
        unfold LsAt
        rw [upd_ne (ne_of y3 hd (fun z => nomatch z))]
        exact y3
  · show (S.puts ++ [_]).length ≤ 5000
    rw [List.length_append, List.length_singleton]
    omega
  · intro p' t'
    show (setL S.lie p t _ p' t').length ≤ (S.puts ++ [_]).length
    have z := h.lens p' t'
    rw [List.length_append, List.length_singleton]
    unfold setL
    split
    · next e =>
      rw [e.1, e.2] at z
      rw [List.length_append, List.length_singleton]
      omega
    · omega
  · exact (off_same s1 off_l).trans ((Off.refl.same s3).trans off_d)
/-- what stands is taken back -/
theorem Here.back {H H3 : Hp} {o l d a : Addr} {S : De} {kvs : List (List Key × V)} {p t : Nat} (h : Here H o l d S) (s3 : Same H H3) (hd : H3 d = some (.dT kvs)) (there : (valV kvs (ty p t)).isSome = true) (na : a ≠ l) (ha : LsAt H3 a (S.lie p t).dropLast) :
    Here (upd H3 d (.dT (putK kvs (ty p t) (.ref a)))) o l d (S.off p t) ∧ Off o l d H (upd H3 d (.dT (putK kvs (ty p t) (.ref a)))) := by
  obtain ⟨n1, n2, n3⟩ := h.ne
  have h3 := h.same s3
  obtain ⟨vs, e1, h2⟩ := h3.puts
  obtain ⟨kvs', e3, h4, h5⟩ := h3.lie
  rw [hd] at e3
  cases (HO.dT.inj (Option.some.inj e3))
  refine ⟨⟨?_, ⟨vs, ?_, h2.mono ?_⟩, ⟨_, upd_same, ?_, ?_⟩, h.few, ?_⟩, off_same s3 off_d⟩
  · rw [upd_ne n2]
    exact h3.top
  · rw [upd_ne n3]
    exact e1
  · rintro v u ⟨b, x, y⟩
    refine ⟨b, x, ?_⟩
    rw [upd_ne (ne_of y hd (fun z => nomatch z))]
    exact y
  · unfold putK
    rw [valV_any, there, if_pos rfl, List.length_map]
    exact h4
  · intro p' t'
    rw [valV_put]
    show LieV _ l _ (setL S.lie p t _ p' t')
    unfold setL
    by_cases e : ty p' t' = ty p t
    · rw [if_pos e, if_pos (ty_inj e)]
      refine ⟨a, rfl, na, ?_⟩
      unfold LsAt
      rw [upd_ne (ne_of ha hd (fun z => nomatch z))]
      exact ha
    · rw [if_neg e, if_neg (fun z => e (by rw [z.1, z.2]))]
      have z := h5 p' t'
      cases ev : valV kvs (ty p' t') with
      | none =>
        rw [ev] at z
        exact z
      | some v =>
        rw [ev] at z
        obtain ⟨b, x1, bl, y1⟩ := z
        refine ⟨b, x1, bl, ?_⟩
        unfold LsAt
        rw [upd_ne (ne_of y1 hd (fun z => nomatch z))]
        exact y1
  · intro p' t'
    show (setL S.lie p t _ p' t').length ≤ S.puts.length
    have z := h.lens p' t'
    unfold setL
    split
    · next e =>
      rw [e.1, e.2] at z
      rw [List.length_dropLast]
      omega
    · exact z
theorem one_ix {j n : Nat} {α : Type} {x y : α} (h : n ≤ j) (e : [x][j - n]? = some y) : j = n ∧ y = x := by
  have ej : j - n = 0 := by
    by_cases z : j - n = 0
    · exact z
    · rw [show j - n = (j - n - 1) + 1 by omega] at e
      simp at e
  rw [ej] at e
  exact ⟨by omega, (Option.some.inj e).symm⟩
theorem RowAt.snoc {H : Hp} {D : Addr} {vs : List V} {row : List Cell} {v : V} {c : Cell} (h : RowAt H D row) (hv : H D = some (.lst vs)) (hc : CellV H v c) : RowAt (upd H D (.lst (vs ++ [v]))) D (row ++ [c]) := by
  obtain ⟨ws, hw, hcs⟩ := h
  rw [hv] at hw
  cases (HO.lst.inj (Option.some.inj hw))
  have keep : ∀ {v : V} {c : Cell}, CellV H v c → CellV (upd H D (.lst (vs ++ [v]))) v c := by
    intro v c h
    match c, h with
    | none, h => exact h
    | some (n, b), ⟨q, e1, e2⟩ => exact ⟨q, e1, by rw [upd_ne (ne_of e2 hv (fun z => nomatch z))]; exact e2⟩
  have keep2 : ∀ {u : V} {c : Cell}, CellV H u c → CellV (upd H D (.lst (vs ++ [v]))) u c := by
    intro u c h
    match c, h with
    | none, h => exact h
    | some (n, b), ⟨q, e1, e2⟩ => exact ⟨q, e1, by rw [upd_ne (ne_of e2 hv (fun z => nomatch z))]; exact e2⟩
  refine ⟨_, upd_same, ⟨by rw [List.length_append, List.length_append, hcs.len]; rfl, fun i d e => ?_⟩⟩
  by_cases hi : i < row.length
  · rw [List.getElem?_append_left hi] at e
    obtain ⟨w, h1, h2⟩ := hcs.each i d e
    exact ⟨w, by rw [List.getElem?_append_left (by rw [hcs.len]; exact hi)]; exact h1, keep2 h2⟩
  · rw [List.getElem?_append_right (by omega)] at e
    obtain ⟨e1, rfl⟩ := one_ix (by omega) e
    subst e1
    exact ⟨v, by rw [List.getElem?_append_right (by rw [hcs.len]; omega), hcs.len, Nat.sub_self]; rfl, keep2 hc⟩
/-- all that was ever put: numbers and texts -/
def evG (p t : Nat) : Nat → List Pt → List (Int × Str)
  | _, [] => []
  | k, u :: r => (if u.p = p ∧ u.t = t then [((k : Int), u.x)] else []) ++ evG p t (k + 1) r
theorem evG_snoc {p t : Nat} {u : Pt} : ∀ {l : List Pt} {k : Nat}, evG p t k (l ++ [u]) = evG p t k l ++ (if u.p = p ∧ u.t = t then [(((k + l.length : Nat) : Int), u.x)] else [])
  | [], k => by
    show (_ ++ []) = _
    rw [List.append_nil]
    rfl
  | v :: r, k => by
    show _ ++ evG p t (k + 1) (r ++ [u]) = (_ ++ evG p t (k + 1) r) ++ _
    rw [evG_snoc, List.append_assoc, List.length_cons, show k + 1 + r.length = k + (r.length + 1) by omega]
def De.ever (S : De) (p t : Nat) : List (Int × Str) := evG p t 0 S.puts
theorem evG_mem {p t : Nat} {e : Int × Str} : ∀ {l : List Pt} {k : Nat}, e ∈ evG p t k l ↔ ∃ (j : Nat) (u : Pt), l[j]? = some u ∧ u.p = p ∧ u.t = t ∧ e = (((k + j : Nat) : Int), u.x)
  | [], k => by simp [evG]
  | v :: r, k => by
    show e ∈ _ ++ evG p t (k + 1) r ↔ _
    rw [List.mem_append, evG_mem]
    constructor
    · rintro (h | ⟨j, u, h1, h2, h3, h4⟩)
      · by_cases c : v.p = p ∧ v.t = t
        · rw [if_pos c] at h
          exact ⟨0, v, rfl, c.1, c.2, List.mem_singleton.mp h⟩
        · rw [if_neg c] at h
          cases h
      · exact ⟨j + 1, u, by simpa using h1, h2, h3, by rw [h4, show k + 1 + j = k + (j + 1) by omega]⟩
    · rintro ⟨j, u, h1, h2, h3, h4⟩
      cases j with
      | zero =>
        cases (Option.some.inj h1)
        refine .inl ?_
        rw [if_pos ⟨h2, h3⟩]
        exact List.mem_singleton.mpr h4
      | succ j => exact .inr ⟨j, u, by simpa using h1, h2, h3, by rw [h4, show k + 1 + j = k + (j + 1) by omega]⟩
theorem evG_len {p t : Nat} : ∀ {l : List Pt} {k : Nat}, (evG p t k l).length ≤ l.length
  | [], k => Nat.le_refl _
  | v :: r, k => by
    show (_ ++ evG p t (k + 1) r).length ≤ r.length + 1
    rw [List.length_append]
    have := evG_len (p := p) (t := t) (l := r) (k := k + 1)
    by_cases c : v.p = p ∧ v.t = t
    · rw [if_pos c]
      show 1 + _ ≤ _
      omega
    · rw [if_neg c]
      show 0 + _ ≤ _
      omega
def EvV (H : Hp) (v : V) (e : Int × Str) : Prop := ∃ q, v = .ref q ∧ H q = some (.tup [.int e.1, .str e.2])
theorem EvV.same {H H' : Hp} (s : Same H H') {v : V} {e : Int × Str} (h : EvV H v e) : EvV H' v e := let ⟨q, a, b⟩ := h; ⟨q, a, s _ _ b⟩
def EvAt (H : Hp) (a : Addr) (l : List (Int × Str)) : Prop := ∃ vs, H a = some (.lst vs) ∧ All2 (EvV H) vs l
theorem EvAt.same {H H' : Hp} (s : Same H H') {a : Addr} {l : List (Int × Str)} (h : EvAt H a l) : EvAt H' a l := let ⟨vs, x, y⟩ := h; ⟨vs, s _ _ x, y.mono fun _ _ z => z.same s⟩
theorem EvAt.snoc {H : Hp} {D : Addr} {vs : List V} {l : List (Int × Str)} {v : V} {e : Int × Str} (h : EvAt H D l) (hv : H D = some (.lst vs)) (he : EvV H v e) : EvAt (upd H D (.lst (vs ++ [v]))) D (l ++ [e]) := by
  obtain ⟨ws, hw, ha⟩ := h
  rw [hv] at hw
  cases (HO.lst.inj (Option.some.inj hw))
  have keep : ∀ {u : V} {e : Int × Str}, EvV H u e → EvV (upd H D (.lst (vs ++ [v]))) u e := by
    rintro u e ⟨q, e1, e2⟩
    exact ⟨q, e1, by rw [upd_ne (ne_of e2 hv (fun z => nomatch z))]; exact e2⟩
  exact ⟨_, upd_same, All2.app (ha.mono fun _ _ z => keep z) (All2.cons (keep he) All2.nil)⟩
/-- the numbers that lie are numbers of puts -/
def De.Num (S : De) : Prop := ∀ (p t : Nat) (k : Int), k ∈ S.lie p t → 0 ≤ k ∧ ∃ u, S.puts[k.toNat]? = some u ∧ u.p = p ∧ u.t = t
theorem De.Num.now {S : De} (h : S.Num) {p t : Nat} {k : Int} (e : S.now p t = some k) : 0 ≤ k ∧ ∃ u, S.puts[k.toNat]? = some u ∧ u.p = p ∧ u.t = t := h p t k (List.mem_of_getLast? e)
theorem De.pt_at {S : De} {k : Int} {u : Pt} (e : S.puts[k.toNat]? = some u) : S.pt k = u := by
  unfold De.pt
  rw [List.getD_eq_getElem?_getD, e]
  rfl
theorem Here.put_at {H : Hp} {o l d : Addr} {S : De} (h : Here H o l d S) {k : Int} (k0 : 0 ≤ k) {u : Pt} (e : S.puts[k.toNat]? = some u) : ∃ vs q, H l = some (.lst vs) ∧ atI vs k = some (.ref q) ∧ H q = some (.tup [.int u.p, .int u.t, .str u.x, oV u.s]) := by
  obtain ⟨vs, h1, h2⟩ := h.puts
  obtain ⟨v, e1, q, rfl, e2⟩ := h2.each _ _ e
  exact ⟨vs, q, h1, at_of (j := k.toNat) (by omega) e1, e2⟩
/-! ### a state that can be -/
structure De.Ok (fr : List Int) (S : De) : Prop where
  num : S.Num
  six : S.n ≤ 6
  src : ∀ p, p < S.n → S.lie p 0 ≠ []
  each : ∀ (k : Nat) (u : Pt), S.puts[k]? = some u → u.p < S.n ∧ u.t ≤ fr.length ∧ TxOk u.x ∧ (u.t = 0 → u.s = Option.none) ∧ (0 < u.t → ∃ j : Nat, u.s = some (j : Int) ∧ ∃ v, S.puts[j]? = some v ∧ v.p = u.p ∧ v.t = up fr u.t)
theorem De.row_at {S : De} {m p t : Nat} (h : t < m) : (S.row m p)[t]? = some (S.cell p t) := by
  unfold De.row
  rw [List.getElem?_map, List.getElem?_range h]
  rfl
theorem De.row_len {S : De} {m p : Nat} : (S.row m p).length = m := by
  unfold De.row
  rw [List.length_map, List.length_range]
theorem De.Ok.row {fr : List Int} {S : De} (h : S.Ok fr) {p : Nat} (hp : p < S.n) : RowOk fr (S.row (fr.length + 1) p) := by
  refine ⟨De.row_len, ?_, fun j c e => ?_⟩
  · obtain ⟨k, ek⟩ : ∃ k, S.now p 0 = some k := by
      cases e : S.now p 0 with
      | none => exact absurd (List.getLast?_eq_none_iff.mp e) (h.src p hp)
      | some k => exact ⟨k, rfl⟩
    obtain ⟨k0, u, eu, up_, ut⟩ := h.num.now ek
    obtain ⟨_, _, _, hs, _⟩ := h.each _ u eu
    refine ⟨k, ?_, k0⟩
    rw [De.row_at (by omega)]
    unfold De.cell
    rw [ek, Option.map_some, De.pt_at eu, hs ut]
  · have hj : j + 1 < fr.length + 1 := by
      have := (List.getElem?_eq_some_iff.mp e).1
      rw [De.row_len] at this
      exact this
    rw [De.row_at hj] at e
    cases (Option.some.inj e)
    unfold De.cell
    cases en : S.now p (j + 1) with
    | none => exact .inl rfl
    | some k =>
      obtain ⟨k0, u, eu, up_, ut⟩ := h.num.now en
      obtain ⟨_, _, _, _, hs⟩ := h.each _ u eu
      obtain ⟨b, eb, _⟩ := hs (by omega)
      refine .inr ⟨k, b, ?_, k0, Int.natCast_nonneg b⟩
      rw [Option.map_some, De.pt_at eu, eb]
def De.tx (S : De) (p t : Nat) : Str := match S.now p t with
  | some k => (S.pt k).x
  | .none => Str.empty
def De.like (fr : List Int) (S : De) (p t q : Nat) : Bool := decide (q ≠ p) && ((S.now p (up fr t)).isSome && ((S.now q (up fr t)).isSome && (decide (S.tx p (up fr t) = S.tx q (up fr t)) && (chain fr (S.row (fr.length + 1) q) t).isNone)))
def De.found (fr : List Int) (S : De) (p t i : Nat) : List Str := ((List.range i).filter (S.like fr p t)).map fun q => S.tx q t
theorem De.found_yes {fr : List Int} {S : De} {p t i : Nat} (h : S.like fr p t i = true) : S.found fr p t (i + 1) = S.found fr p t i ++ [S.tx i t] := by
  unfold De.found
  rw [List.range_succ, List.filter_append, List.map_append, List.filter_cons_of_pos h, List.filter_nil]
  rfl
theorem De.found_no {fr : List Int} {S : De} {p t i : Nat} (h : S.like fr p t i = false) : S.found fr p t (i + 1) = S.found fr p t i := by
  unfold De.found
  rw [List.range_succ, List.filter_append, List.map_append, List.filter_cons_of_neg (by rw [h]; decide), List.filter_nil]
  exact List.append_nil _
theorem De.found_len {fr : List Int} {S : De} {p t i : Nat} : (S.found fr p t i).length ≤ i := by
  unfold De.found
  rw [List.length_map]
  have := List.length_filter_le (S.like fr p t) (List.range i)
  rw [List.length_range] at this
  exact this
/-- what is fresh stands -/
theorem De.fresh_now {fr : List Int} {S : De} {q t : Nat} (fo : FrOk fr) (t0 : 0 < t) (t1 : t ≤ fr.length) (h : chain fr (S.row (fr.length + 1) q) t = Option.none) : ∃ k, S.now q t = some k := by
  rw [chain_step fo t0 t1] at h
  cases e : S.now q t with
  | some k => exact ⟨k, rfl⟩
  | none =>
    exfalso
    have b : brk fr (S.row (fr.length + 1) q) t = true := by
      have z : (S.row (fr.length + 1) q).getD t Option.none = Option.none := by
        rw [List.getD_eq_getElem?_getD, De.row_at (by omega)]
        unfold De.cell
        rw [e]
        rfl
      unfold brk
      rw [z]
    rw [b] at h
    cases h
/-! ### deeds -/
inductive Deed where
  | phrase (x : Str)
  | fill (t : Nat)
  | back (p t : Nat)
  | put (p t : Nat) (x : Str) (s o : Option Int)
def Deed.vals : Deed → List V
  | .phrase x => [.str "phrase", .str x]
  | .fill t => [.str "fill", .int t]
  | .back p t => [.str "back", .int p, .int t]
  | .put p t x s o => [.str "put", .int p, .int t, .str x, oV s, oV o]
def De.Seen (fr : List Int) (S : De) (p t : Nat) (s : Option Int) : Prop := (t = 0 → s = Option.none) ∧ (0 < t → ∃ k : Nat, s = some (k : Int) ∧ ∃ v, S.puts[k]? = some v ∧ v.p = p ∧ v.t = up fr t)
def De.May (fr : List Int) (S : De) : Deed → Prop
  | .phrase x => S.n < 6 ∧ TxOk x
  | .fill t => 0 < t ∧ t ≤ fr.length
  | .back p t => p < S.n ∧ t ≤ fr.length ∧ (if t = 0 then 1 else 0) < (S.lie p t).length
  | .put p t x s o => p < S.n ∧ t ≤ fr.length ∧ TxOk x ∧ o = S.now p t ∧ S.Seen fr p t s
theorem De.Ok.seen_now {fr : List Int} {S : De} (h : S.Ok fr) {p q : Nat} {k : Int} (e : S.now p q = some k) : ∃ j : Nat, k = (j : Int) ∧ ∃ v, S.puts[j]? = some v ∧ v.p = p ∧ v.t = q := by
  obtain ⟨k0, u, eu, h1, h2⟩ := h.num.now e
  exact ⟨k.toNat, by omega, u, eu, h1, h2⟩
theorem De.seen_ever {S : De} {p q : Nat} {e : Int × Str} (h : e ∈ S.ever p q) : ∃ j : Nat, e.1 = (j : Int) ∧ ∃ v, S.puts[j]? = some v ∧ v.p = p ∧ v.t = q := by
  obtain ⟨j, u, h1, h2, h3, h4⟩ := evG_mem.mp h
  refine ⟨j, ?_, u, h1, h2, h3⟩
  rw [h4]
  show ((0 + j : Nat) : Int) = _
  rw [Nat.zero_add]
/-! ### what comes -/
inductive Line where
  | phrase (p : Nat) (x : Str) (k : Int)
  | put (p t : Nat) (x : Str) (s o : Option Int) (k : Int)
  | back (p t : Nat) (k : Int)
def Line.vals : Line → List V
  | .phrase p x k => [.str "phrase", .int p, .str x, .int k]
  | .put p t x s o k => [.str "put", .int p, .int t, .str x, oV s, oV o, .int k]
  | .back p t k => [.str "back", .int p, .int t, .int k]
inductive Res where
  | num (k : Int)
  | many (l : List Int)
def onlyOf : List Str → Option Str
  | [] => Option.none
  | x :: r => if r.all (fun y => decide (y = x)) then some x else Option.none
def De.fillOne (fr : List Int) (t : Nat) (A : De × List Int × List Line) (p : Nat) : De × List Int × List Line :=
  if (chain fr (A.1.row (fr.length + 1) p) (up fr t)).isNone && (chain fr (A.1.row (fr.length + 1) p) t).isSome then
    match onlyOf (A.1.found fr p t A.1.n) with
    | some x => (A.1.lay p t x (A.1.now p (up fr t)), A.2.1 ++ [(p : Int)], A.2.2 ++ [.put p t x (A.1.now p (up fr t)) (A.1.now p t) (A.1.puts.length : Int)])
    | Option.none => A
  else A
def De.fillTo (fr : List Int) (t : Nat) (S : De) (i : Nat) : De × List Int × List Line := (List.range i).foldl (De.fillOne fr t) (S, [], [])
theorem De.fillTo_succ {fr : List Int} {t : Nat} {S : De} {i : Nat} : S.fillTo fr t (i + 1) = De.fillOne fr t (S.fillTo fr t i) i := by
  unfold De.fillTo
  rw [List.range_succ, List.foldl_append]
  rfl
def De.come (fr : List Int) (S : De) : Deed → De × Res × List Line
  | .phrase x => (S.more.lay S.n 0 x Option.none, .num (S.n : Int), [.phrase S.n x (S.puts.length : Int)])
  | .put p t x s o => (S.lay p t x s, .num (S.puts.length : Int), [.put p t x s o (S.puts.length : Int)])
  | .back p t => (S.off p t, .num ((S.now p t).getD 0), [.back p t ((S.now p t).getD 0)])
  | .fill t => ((S.fillTo fr t S.n).1, .many (S.fillTo fr t S.n).2.1, (S.fillTo fr t S.n).2.2)
theorem snoc_at {α : Type} {l : List α} {x y : α} {k : Nat} (h : (l ++ [x])[k]? = some y) : l[k]? = some y ∨ (k = l.length ∧ y = x) := by
  by_cases hk : k < l.length
  · rw [List.getElem?_append_left hk] at h
    exact .inl h
  · rw [List.getElem?_append_right (by omega)] at h
    obtain ⟨a, b⟩ := one_ix (by omega) h
    exact .inr ⟨a, b⟩
theorem at_snoc {α : Type} {l : List α} {x y : α} {k : Nat} (h : l[k]? = some y) : (l ++ [x])[k]? = some y := by
  rw [List.getElem?_append_left (List.getElem?_eq_some_iff.mp h).1]
  exact h
/-- one more put keeps what can be -/
theorem De.Ok.lay' {fr : List Int} {S : De} (n' : Nat) (hn : n' ≤ 6) (h : S.Num) (hs : ∀ p, p < n' → S.lie p 0 ≠ [] ∨ p = q ∧ t = 0)
    (he : ∀ (k : Nat) (u : Pt), S.puts[k]? = some u → u.p < n' ∧ u.t ≤ fr.length ∧ TxOk u.x ∧ (u.t = 0 → u.s = Option.none) ∧ (0 < u.t → ∃ j : Nat, u.s = some (j : Int) ∧ ∃ v, S.puts[j]? = some v ∧ v.p = u.p ∧ v.t = up fr u.t))
    {x : Str} {s : Option Int} (hq : q < n') (ht : t ≤ fr.length) (tx : TxOk x) (sn : S.Seen fr q t s) (e : S.n = n') : (S.lay q t x s).Ok fr := by
  refine ⟨?_, ?_, ?_, ?_⟩
  · intro p' t' k hk
    have hk' : k ∈ setL S.lie q t (S.lie q t ++ [(S.puts.length : Int)]) p' t' := hk
    unfold setL at hk'
    show 0 ≤ k ∧ ∃ u, (S.puts ++ [_])[k.toNat]? = some u ∧ _
    split at hk'
    · next c =>
      rcases List.mem_append.mp hk' with z | z
      · obtain ⟨k0, u, h1, h2, h3⟩ := h q t k z
        exact ⟨k0, u, at_snoc h1, by rw [h2, c.1], by rw [h3, c.2]⟩
      · have ek : k = (S.puts.length : Int) := List.mem_singleton.mp z
        refine ⟨by omega, ⟨q, t, x, s⟩, ?_, c.1.symm, c.2.symm⟩
        rw [List.getElem?_append_right (by omega), show k.toNat - S.puts.length = 0 by omega]
        rfl
    · obtain ⟨k0, u, h1, h2, h3⟩ := h p' t' k hk'
      exact ⟨k0, u, at_snoc h1, h2, h3⟩
  · show S.n ≤ 6
    omega
  · intro p hp
    show setL S.lie q t (S.lie q t ++ [(S.puts.length : Int)]) p 0 ≠ []
    unfold setL
    split
    · simp
    · next c =>
      rcases hs p (by rw [← e]; exact hp) with z | z
      · exact z
      · exact absurd ⟨z.1, z.2.symm⟩ c
  · intro k u hk
    have lift : ∀ {p' t' : Nat} {s' : Option Int}, (0 < t' → ∃ j : Nat, s' = some (j : Int) ∧ ∃ v, S.puts[j]? = some v ∧ v.p = p' ∧ v.t = up fr t') → 0 < t' → ∃ j : Nat, s' = some (j : Int) ∧ ∃ v, (S.puts ++ [⟨q, t, x, s⟩])[j]? = some v ∧ v.p = p' ∧ v.t = up fr t' := by
      intro p' t' s' z z0
      obtain ⟨j, e1, v, e2, e3⟩ := z z0
      exact ⟨j, e1, v, at_snoc e2, e3⟩
    show u.p < S.n ∧ _
    rw [e]
    rcases snoc_at hk with z | ⟨_, rfl⟩
    · obtain ⟨h1, h2, h3, h4, h5⟩ := he k u z
      exact ⟨h1, h2, h3, h4, lift h5⟩
    · exact ⟨hq, ht, tx, sn.1, lift sn.2⟩
theorem De.Ok.lay {fr : List Int} {S : De} (h : S.Ok fr) {p t : Nat} {x : Str} {s : Option Int} (hp : p < S.n) (ht : t ≤ fr.length) (tx : TxOk x) (sn : S.Seen fr p t s) : (S.lay p t x s).Ok fr :=
  De.Ok.lay' S.n h.six h.num (fun p' hp' => .inl (h.src p' hp')) h.each hp ht tx sn rfl
theorem De.Ok.phrase {fr : List Int} {S : De} (h : S.Ok fr) {x : Str} (n6 : S.n < 6) (tx : TxOk x) : (S.more.lay S.n 0 x Option.none).Ok fr := by
  refine De.Ok.lay' (S := S.more) (S.n + 1) (by omega) h.num (fun p hp => ?_) (fun k u e => ?_) (by omega) (by omega) tx ⟨fun _ => rfl, fun z => by omega⟩ rfl
  · by_cases c : p = S.n
    · exact .inr ⟨c, rfl⟩
    · exact .inl (h.src p (by omega))
  · obtain ⟨h1, h2⟩ := h.each k u e
    exact ⟨by omega, h2⟩
theorem De.Ok.off {fr : List Int} {S : De} (h : S.Ok fr) {p t : Nat} (hl : (if t = 0 then 1 else 0) < (S.lie p t).length) : (S.off p t).Ok fr := by
  refine ⟨?_, h.six, ?_, h.each⟩
  · intro p' t' k hk
    have hk' : k ∈ setL S.lie p t (S.lie p t).dropLast p' t' := hk
    unfold setL at hk'
    split at hk'
    · next c =>
      rw [c.1, c.2]
      exact h.num p t k (List.dropLast_subset _ hk')
    · exact h.num p' t' k hk'
  · intro q hq
    show setL S.lie p t (S.lie p t).dropLast q 0 ≠ []
    unfold setL
    split
    · next c =>
      rw [if_pos c.2.symm] at hl
      intro z
      have := congrArg List.length z
      rw [List.length_dropLast] at this
      simp at this
      omega
    · exact h.src q hq
theorem onlyOf_cons {a : Str} {r : List Str} : onlyOf (a :: r) = if (r.all fun y => decide (y = a)) = true then some a else Option.none := rfl
theorem onlyOf_some {l : List Str} {x : Str} (h : onlyOf l = some x) : ∀ y, y ∈ l ↔ y = x := by
  cases l with
  | nil => cases h
  | cons a r =>
    rw [onlyOf_cons] at h
    by_cases c : (r.all fun y => decide (y = a)) = true
    · rw [if_pos c] at h
      cases (Option.some.inj h)
      intro y
      rw [List.mem_cons]
      refine ⟨fun z => z.elim id fun z => ?_, .inl⟩
      exact of_decide_eq_true (List.all_eq_true.mp c y z)
    · rw [if_neg c] at h
      cases h
theorem onlyOf_of {l : List Str} {x : Str} (h : ∀ y, y ∈ l ↔ y = x) : onlyOf l = some x := by
  cases l with
  | nil => exact absurd ((h x).mpr rfl) (fun z => by cases z)
  | cons a r =>
    have ea : a = x := (h a).mp List.mem_cons_self
    subst ea
    rw [onlyOf_cons, if_pos (List.all_eq_true.mpr fun y hy => decide_eq_true ((h y).mp (List.mem_cons_of_mem _ hy)))]
/-- sorted and each once: one alone, or not -/
theorem only_list {ts l : List Str} (nd : ts.Nodup) (m : ∀ y, y ∈ ts ↔ y ∈ l) : (∃ x, ts = [x] ∧ onlyOf l = some x) ∨ (ts.length ≠ 1 ∧ onlyOf l = Option.none) := by
  cases e : onlyOf l with
  | some x =>
    refine .inl ⟨x, ?_, rfl⟩
    have z := onlyOf_some e
    match ts, nd, m with
    | [], _, m => exact absurd ((m x).mpr ((z x).mpr rfl)) (fun y => by cases y)
    | [a], _, m => rw [(z a).mp ((m a).mp List.mem_cons_self)]
    | a :: b :: r, nd, m =>
      have h1 := (z a).mp ((m a).mp List.mem_cons_self)
      have h2 := (z b).mp ((m b).mp (List.mem_cons_of_mem _ List.mem_cons_self))
      exact absurd (by rw [h1, h2]; exact List.mem_cons_self) (List.nodup_cons.mp nd).1
  | none =>
    refine .inr ⟨fun h1 => ?_, rfl⟩
    match ts, h1, m with
    | [a], _, m =>
      have : onlyOf l = some a := onlyOf_of fun y => by rw [← m y, List.mem_singleton]
      rw [this] at e
      cases e
theorem Off.tup {o l d : Addr} {H H' : Hp} {S : De} (h : Off o l d H H') (hh : Here H o l d S) {q : Addr} {xs : List V} (e : H q = some (.tup xs)) : H' q = some (.tup xs) := by
  obtain ⟨vs, h1, _⟩ := hh.puts
  obtain ⟨kvs, h2, _⟩ := hh.lie
  exact h q _ (ne_of e hh.top (fun z => nomatch z)) (ne_of e h1 (fun z => nomatch z)) (ne_of e h2 (fun z => nomatch z)) e
theorem Off.chg {o l d : Addr} {H H' : Hp} {p : Addr} {x : HO} (h : Off o l d H H') (n : H p = Option.none) : Off o l d H (upd H' p x) := by
  intro a y h1 h2 h3 e
  rw [upd_ne (ne_of_none e n)]
  exact h a y h1 h2 h3 e
theorem Off.ls {o l d : Addr} {H H' : Hp} {S : De} (h : Off o l d H H') (hh : Here H o l d S) {q : Addr} {xs : List V} (nl : q ≠ l) (e : H q = some (.lst xs)) : H' q = some (.lst xs) := by
  obtain ⟨kvs, h2, _⟩ := hh.lie
  exact h q _ (ne_of e hh.top (fun z => nomatch z)) nl (ne_of e h2 (fun z => nomatch z)) e
def LnV (H : Hp) (v : V) (n : Line) : Prop := ∃ q, v = .ref q ∧ H q = some (.tup n.vals)
theorem LnV.same {H H' : Hp} (s : Same H H') {v : V} {n : Line} (h : LnV H v n) : LnV H' v n := let ⟨q, a, b⟩ := h; ⟨q, a, s _ _ b⟩
def LnAt (H : Hp) (a : Addr) (l : List Line) : Prop := ∃ vs, H a = some (.lst vs) ∧ All2 (LnV H) vs l
theorem LnAt.same {H H' : Hp} (s : Same H H') {a : Addr} {l : List Line} (h : LnAt H a l) : LnAt H' a l := let ⟨vs, x, y⟩ := h; ⟨vs, s _ _ x, y.mono fun _ _ z => z.same s⟩
theorem LnAt.off {o l d : Addr} {H H' : Hp} {S : De} (h : Off o l d H H') (hh : Here H o l d S) {a : Addr} {ls : List Line} (nl : a ≠ l) (e : LnAt H a ls) : LnAt H' a ls :=
  let ⟨vs, x, y⟩ := e
  ⟨vs, h.ls hh nl x, y.mono fun _ _ ⟨q, z, u⟩ => ⟨q, z, h.tup hh u⟩⟩
theorem LnAt.snoc {H : Hp} {D : Addr} {vs : List V} {l : List Line} {v : V} {e : Line} (h : LnAt H D l) (hv : H D = some (.lst vs)) (he : LnV H v e) : LnAt (upd H D (.lst (vs ++ [v]))) D (l ++ [e]) := by
  obtain ⟨ws, hw, ha⟩ := h
  rw [hv] at hw
  cases (HO.lst.inj (Option.some.inj hw))
  have keep : ∀ {u : V} {e : Line}, LnV H u e → LnV (upd H D (.lst (vs ++ [v]))) u e := by
    rintro u e ⟨q, e1, e2⟩
    exact ⟨q, e1, by rw [upd_ne (ne_of e2 hv (fun z => nomatch z))]; exact e2⟩
  exact ⟨_, upd_same, All2.app (ha.mono fun _ _ z => keep z) (All2.cons (keep he) All2.nil)⟩
theorem LnAt.upd {H : Hp} {D a : Addr} {vs : List V} {x : HO} {l : List Line} (h : LnAt H D l) (ne : D ≠ a) (hv : H a = some (.lst vs)) : LnAt (L2.upd H a x) D l := by
  obtain ⟨ws, hw, ha⟩ := h
  refine ⟨ws, by rw [upd_ne ne]; exact hw, ha.mono ?_⟩
  rintro u e ⟨q, e1, e2⟩
  exact ⟨q, e1, by rw [upd_ne (ne_of e2 hv (fun z => nomatch z))]; exact e2⟩
/-- none of the lists that lie is one of these -/
def Avoid (H : Hp) (d : Addr) (R : Addr → Prop) : Prop := ∀ kvs, H d = some (.dT kvs) → ∀ (p t : Nat) (a : Addr), valV kvs (ty p t) = some (.ref a) → ¬ R a
/-- those that are there are still avoided -/
def Still (H H' : Hp) (d : Addr) : Prop := ∀ R : Addr → Prop, (∀ a, R a → ∃ x, H a = some x) → Avoid H d R → Avoid H' d R
theorem Avoid.eq {H H' : Hp} {d : Addr} {R : Addr → Prop} (h : Avoid H d R) (e : H' d = H d) : Avoid H' d R := fun kvs z => h kvs (by rw [← e]; exact z)
theorem Still.same {H H' : Hp} {o l d : Addr} {S : De} (hh : Here H o l d S) (e : Same H H') : Still H H' d := fun R _ h => by
  obtain ⟨kvs, h1, _⟩ := hh.lie
  exact h.eq (by rw [e _ _ h1, h1])
theorem Still.trans {H H' H2 : Hp} {d : Addr} (h : Still H H' d) (k : Still H' H2 d) (g : ∀ a x, H a = some x → ∃ y, H' a = some y) : Still H H2 d := fun R r v => k R (fun a z => let ⟨x, e⟩ := r a z; g a x e) (h R r v)
theorem Here.new {H : Hp} {o l d : Addr} {S : De} (h : Here H o l d S) {F : Addr} (n : H F = Option.none) : Avoid H d (· = F) := by
  obtain ⟨kvs, h1, _, h2⟩ := h.lie
  intro kvs' e p t a ev z
  rw [h1] at e
  cases (HO.dT.inj (Option.some.inj e))
  have y := h2 p t
  rw [ev] at y
  obtain ⟨b, e1, _, e2⟩ := y
  cases e1
  rw [z, LsAt, n] at e2
  cases e2
/-- what is done at others leaves it -/
theorem Here.frame {H H' : Hp} {o l d : Addr} {S : De} {R : Addr → Prop} (h : Here H o l d S) (f : ∀ a x, ¬ R a → H a = some x → H' a = some x) (n1 : ¬ R o) (n2 : ¬ R l) (n3 : ¬ R d) (nt : ∀ a xs, R a → H a ≠ some (.tup xs)) (av : Avoid H d R) : Here H' o l d S := by
  obtain ⟨vs, h1, h2⟩ := h.puts
  obtain ⟨kvs, h3, h4, h5⟩ := h.lie
  refine ⟨f _ _ n1 h.top, ⟨vs, f _ _ n2 h1, h2.mono ?_⟩, ⟨kvs, f _ _ n3 h3, h4, fun p t => ?_⟩, h.few, h.lens⟩
  · rintro v w ⟨q, e1, e2⟩
    exact ⟨q, e1, f _ _ (fun z => nt _ _ z e2) e2⟩
  · have z := h5 p t
    have k := av kvs h3 p t
    cases ev : valV kvs (ty p t) with
    | none =>
      rw [ev] at z
      exact z
    | some v =>
      rw [ev] at z k
      obtain ⟨b, e1, e2, e3⟩ := z
      exact ⟨b, e1, e2, f _ _ (k b (by rw [e1])) e3⟩
/-- a list of one's own is changed -/
theorem Here.chg {H : Hp} {o l d F : Addr} {S : De} {vs : List V} {x : HO} (h : Here H o l d S) (n : F ≠ l) (e : H F = some (.lst vs)) (av : Avoid H d (· = F)) : Here (upd H F x) o l d S ∧ (∀ R, Avoid H d R → Avoid (upd H F x) d R) := by
  obtain ⟨kvs, h3, _⟩ := h.lie
  have nd : d ≠ F := ne_of h3 e (fun z => nomatch z)
  refine ⟨h.frame (R := (· = F)) ?_ (ne_of h.top e (fun z => nomatch z)) (Ne.symm n) nd ?_ av, fun R z => z.eq (upd_ne nd)⟩
  · intro a y na ea
    rw [upd_ne na]
    exact ea
  · intro a xs ea z
    rw [show a = F from ea, e] at z
    cases z
theorem still_put {H H3 : Hp} {o l d a : Addr} {S : De} {kvs : List (List Key × V)} {p t : Nat} (h : Here H o l d S) (e : H d = some (.dT kvs)) (new : ∀ b x, H b = some x → b ≠ a) : Still H (upd H3 d (.dT (putK kvs (ty p t) (.ref a)))) d := by
  intro R r av kvs' e' p' t' b eb rb
  rw [upd_same] at e'
  cases (HO.dT.inj (Option.some.inj e'))
  rw [valV_put] at eb
  split at eb
  · have eb' : a = b := V.ref.inj (Option.some.inj eb)
    obtain ⟨x, ex⟩ := r b rb
    exact new b x ex eb'.symm
  · exact av kvs e p' t' b eb rb
theorem Off.there {o l d : Addr} {H H2 : Hp} {S : De} (h : Off o l d H H2) (hh : Here H2 o l d S) : ∀ c x, H c = some x → ∃ y, H2 c = some y := by
  intro c x e
  by_cases c1 : c = o
  · rw [c1]
    exact ⟨_, hh.top⟩
  by_cases c2 : c = l
  · obtain ⟨vs, hv, _⟩ := hh.puts
    rw [c2]
    exact ⟨_, hv⟩
  by_cases c3 : c = d
  · obtain ⟨kvs, hv, _⟩ := hh.lie
    rw [c3]
    exact ⟨_, hv⟩
  exact ⟨x, h c x c1 c2 c3 e⟩
theorem Off.gone {o l d : Addr} {H H2 : Hp} {S : De} (h : Off o l d H H2) (hh : Here H2 o l d S) {c : Addr} (e : H2 c = Option.none) : H c = Option.none := by
  cases q : H c with
  | none => rfl
  | some x =>
    obtain ⟨y, ey⟩ := h.there hh c x q
    rw [ey] at e
    cases e
theorem De.Ok.above {fr : List Int} {S : De} (h : S.Ok fr) (fo : FrOk fr) {p u : Nat} (hp : p < S.n) (hu : u ≤ fr.length) (hc : chain fr (S.row (fr.length + 1) p) u = Option.none) : ∃ k, S.now p u = some k := by
  by_cases u0 : u = 0
  · subst u0
    cases e : S.now p 0 with
    | none => exact absurd (List.getLast?_eq_none_iff.mp e) (h.src p hp)
    | some k => exact ⟨k, rfl⟩
  · exact De.fresh_now fo (by omega) hu hc
theorem De.Ok.tx {fr : List Int} {S : De} (h : S.Ok fr) {p t : Nat} {k : Int} (e : S.now p t = some k) : TxOk (S.tx p t) := by
  obtain ⟨k0, u, eu, _, _⟩ := h.num.now e
  unfold De.tx
  rw [e]
  show TxOk (S.pt k).x
  rw [De.pt_at eu]
  exact (h.each _ u eu).2.2.1
theorem De.Ok.found {fr : List Int} {S : De} (h : S.Ok fr) (fo : FrOk fr) {p t i : Nat} (t0 : 0 < t) (t1 : t ≤ fr.length) {x : Str} (hx : x ∈ S.found fr p t i) : TxOk x := by
  unfold De.found at hx
  obtain ⟨q, hq, rfl⟩ := List.mem_map.mp hx
  have hl := (List.mem_filter.mp hq).2
  unfold De.like at hl
  simp only [Bool.and_eq_true] at hl
  have hc : chain fr (S.row (fr.length + 1) q) t = Option.none := Option.isNone_iff_eq_none.mp hl.2.2.2.2
  obtain ⟨k, ek⟩ := De.fresh_now fo t0 t1 hc
  exact h.tx ek
/-- filled, or not -/
theorem De.fill_yes {fr : List Int} {t p : Nat} {A : De × List Int × List Line} {x : Str} (h1 : chain fr (A.1.row (fr.length + 1) p) (up fr t) = Option.none) (h2 : chain fr (A.1.row (fr.length + 1) p) t ≠ Option.none) (h3 : onlyOf (A.1.found fr p t A.1.n) = some x) :
    De.fillOne fr t A p = (A.1.lay p t x (A.1.now p (up fr t)), A.2.1 ++ [(p : Int)], A.2.2 ++ [.put p t x (A.1.now p (up fr t)) (A.1.now p t) (A.1.puts.length : Int)]) := by
  unfold De.fillOne
  rw [if_pos (by rw [h1, Option.isSome_iff_ne_none.mpr h2]; rfl), h3]
theorem De.fill_no {fr : List Int} {t p : Nat} {A : De × List Int × List Line} (h : chain fr (A.1.row (fr.length + 1) p) (up fr t) ≠ Option.none ∨ chain fr (A.1.row (fr.length + 1) p) t = Option.none ∨ onlyOf (A.1.found fr p t A.1.n) = Option.none) : De.fillOne fr t A p = A := by
  unfold De.fillOne
  by_cases c : ((chain fr (A.1.row (fr.length + 1) p) (up fr t)).isNone && (chain fr (A.1.row (fr.length + 1) p) t).isSome) = true
  · rw [if_pos c]
    rw [Bool.and_eq_true] at c
    rcases h with z | z | z
    · exact absurd (Option.isNone_iff_eq_none.mp c.1) z
    · exact absurd z (Option.isSome_iff_ne_none.mp c.2)
    · rw [z]
  · rw [if_neg c]
structure FillOk (fr : List Int) (S : De) (i : Nat) (A : De × List Int × List Line) : Prop where
  ok : A.1.Ok fr
  n : A.1.n = S.n
  len : A.1.puts.length ≤ S.puts.length + i
  f : A.2.1.length ≤ i
  l : A.2.2.length ≤ i
theorem fillTo_ok {fr : List Int} {S : De} (h : S.Ok fr) (fo : FrOk fr) {t : Nat} (t0 : 0 < t) (t1 : t ≤ fr.length) : ∀ i, i ≤ S.n → FillOk fr S i (S.fillTo fr t i)
  | 0, _ => ⟨h, rfl, Nat.le_refl _, Nat.le_refl _, Nat.le_refl _⟩
  | i + 1, hi => by
    have ih := fillTo_ok h fo t0 t1 i (by omega)
    rw [De.fillTo_succ]
    generalize S.fillTo fr t i = A at ih ⊢
    have up1 := up_lt fo t0 t1
    have no : De.fillOne fr t A i = A → FillOk fr S (i + 1) (De.fillOne fr t A i) := by
      intro e
      rw [e]
      have h1 := ih.len
      have h2 := ih.f
      have h3 := ih.l
      exact ⟨ih.ok, ih.n, by omega, by omega, by omega⟩
    by_cases c1 : chain fr (A.1.row (fr.length + 1) i) (up fr t) = Option.none
    · by_cases c2 : chain fr (A.1.row (fr.length + 1) i) t = Option.none
      · exact no (De.fill_no (.inr (.inl c2)))
      · cases c3 : onlyOf (A.1.found fr i t A.1.n) with
        | none => exact no (De.fill_no (.inr (.inr c3)))
        | some x =>
          have hn := ih.n
          obtain ⟨k, ek⟩ := ih.ok.above fo (p := i) (by omega) (by omega) c1
          rw [De.fill_yes c1 c2 c3]
          refine ⟨ih.ok.lay (by omega) t1 (ih.ok.found fo t0 t1 ((onlyOf_some c3 x).mpr rfl)) ⟨fun z => by omega, fun _ => ?_⟩, ih.n, ?_, ?_, ?_⟩
          · obtain ⟨j, ej, v, e1, e2, e3⟩ := ih.ok.seen_now ek
            exact ⟨j, by rw [ek, ej], v, e1, e2, e3⟩
          · have h1 := ih.len
            show (A.1.puts ++ [_]).length ≤ _
            rw [List.length_append, List.length_singleton]
            omega
          · have h1 := ih.f
            show (A.2.1 ++ [_]).length ≤ _
            rw [List.length_append, List.length_singleton]
            omega
          · have h1 := ih.l
            show (A.2.2 ++ [_]).length ≤ _
            rw [List.length_append, List.length_singleton]
            omega
    · exact no (De.fill_no (.inl c1))
/-- what comes can be -/
theorem De.Ok.come {fr : List Int} {S : De} (h : S.Ok fr) (fo : FrOk fr) {dd : Deed} (m : S.May fr dd) : (S.come fr dd).1.Ok fr ∧ (S.come fr dd).1.puts.length ≤ S.puts.length + 6 := by
  cases dd with
  | phrase x =>
    refine ⟨h.phrase m.1 m.2, ?_⟩
    show (S.puts ++ [_]).length ≤ _
    rw [List.length_append, List.length_singleton]
    omega
  | put p t x s o =>
    obtain ⟨h1, h2, h3, _, h5⟩ := m
    refine ⟨h.lay h1 h2 h3 h5, ?_⟩
    show (S.puts ++ [_]).length ≤ _
    rw [List.length_append, List.length_singleton]
    omega
  | back p t => exact ⟨h.off m.2.2, Nat.le_add_right _ _⟩
  | fill t =>
    have z := fillTo_ok h fo m.1 m.2 S.n (Nat.le_refl _)
    have z1 := z.len
    have z2 := h.six
    exact ⟨z.ok, show (S.fillTo fr t S.n).1.puts.length ≤ _ by omega⟩
end PD

/-! Phrasedesk: tales -/
namespace PD
open PySem PySem.Spec PyProof.Rows L2
inductive Tl where
  | phrase (p : Int) (x : Str) (k : Int)
  | put (p t : Int) (x : Str) (s o : Option Int) (k : Int)
  | back (p t k : Int)
def Tl.vals : Tl → List V
  | .phrase p x k => [.str "phrase", .int p, .str x, .int k]
  | .put p t x s o k => [.str "put", .int p, .int t, .str x, oV s, oV o, .int k]
  | .back p t k => [.str "back", .int p, .int t, .int k]
def lowS (x : Str) : Prop := ∀ c ∈ x.cps.toList, 97 ≤ c ∧ c ≤ 122
def Tl.Low : Tl → Prop
  | .phrase _ x _ => lowS x ∧ x.length ≤ 5000
  | .put _ _ x _ _ _ => lowS x ∧ x.length ≤ 5000
  | .back _ _ _ => True
def lenOk (x : Str) : Bool := decide (1 ≤ x.length) && decide (x.length ≤ 6)
theorem tx_len {x : Str} (l : lowS x) (h : lenOk x = true) : TxOk x := by
  unfold lenOk at h
  rw [Bool.and_eq_true] at h
  exact ⟨of_decide_eq_true h.1, of_decide_eq_true h.2, l⟩
def inPT (fr : List Int) (S : De) (p t : Int) : Bool := (decide (0 ≤ p) && decide (p < (S.n : Int))) && (decide (0 ≤ t) && decide (t ≤ (fr.length : Int)))
def De.seens (fr : List Int) (S : De) (p t : Nat) : List (Option Int) := if t = 0 then [Option.none] else (S.ever p (up fr t)).map fun e => some e.1
def De.fits (fr : List Int) (S : De) : Tl → Bool
  | .phrase p x k => (decide (p = (S.n : Int)) && decide ((S.n : Int) < 6)) && (lenOk x && decide (k = (S.puts.length : Int)))
  | .back p t k => inPT fr S p t && (decide ((if t.toNat = 0 then 1 else 0) < (S.lie p.toNat t.toNat).length) && decide (some k = S.now p.toNat t.toNat))
  | .put p t x s o k => inPT fr S p t && (lenOk x && (decide (s ∈ S.seens fr p.toNat t.toNat) && (decide (o = S.now p.toNat t.toNat) && decide (k = (S.puts.length : Int)))))
def Tl.deed : Tl → Deed
  | .phrase _ x _ => .phrase x
  | .put p t x s o _ => .put p.toNat t.toNat x s o
  | .back p t _ => .back p.toNat t.toNat
def wrongFrom (fr : List Int) : De → Nat → List Tl → Option Nat
  | _, _, [] => Option.none
  | S, i, n :: r => if S.fits fr n then wrongFrom fr (S.come fr n.deed).1 (i + 1) r else some i
theorem inPT_iff {fr : List Int} {S : De} {p t : Int} (h : inPT fr S p t = true) : 0 ≤ p ∧ p < (S.n : Int) ∧ 0 ≤ t ∧ t ≤ (fr.length : Int) := by
  unfold inPT at h
  simp only [Bool.and_eq_true, decide_eq_true_eq] at h
  exact ⟨h.1.1, h.1.2, h.2.1, h.2.2⟩
theorem De.fits_may {fr : List Int} {S : De} {n : Tl} (low : n.Low) (h : S.fits fr n = true) : S.May fr n.deed := by
  cases n with
  | phrase p x k =>
    unfold De.fits at h
    simp only [Bool.and_eq_true, decide_eq_true_eq] at h
    exact ⟨by have := h.1.2; omega, tx_len low.1 h.2.1⟩
  | back p t k =>
    have h' : (inPT fr S p t && (decide ((if t.toNat = 0 then 1 else 0) < (S.lie p.toNat t.toNat).length) && decide (some k = S.now p.toNat t.toNat))) = true := h
    rw [Bool.and_eq_true, Bool.and_eq_true] at h'
    obtain ⟨h1, h2, h3⟩ := h'
    obtain ⟨a, b, c, d⟩ := inPT_iff h1
    exact ⟨by omega, by omega, of_decide_eq_true h2⟩
  | put p t x s o k =>
    have h' : (inPT fr S p t && (lenOk x && (decide (s ∈ S.seens fr p.toNat t.toNat) && (decide (o = S.now p.toNat t.toNat) && decide (k = (S.puts.length : Int)))))) = true := h
    simp only [Bool.and_eq_true, decide_eq_true_eq] at h'
    obtain ⟨h1, h2, h3, h4, h5⟩ := h'
    obtain ⟨a, b, c, d⟩ := inPT_iff h1
    refine ⟨by omega, by omega, tx_len low.1 h2, h4, ?_, ?_⟩
    · intro z
      unfold De.seens at h3
      rw [if_pos z] at h3
      exact List.mem_singleton.mp h3
    · intro z
      unfold De.seens at h3
      rw [if_neg (by omega)] at h3
      obtain ⟨e, he, rfl⟩ := List.mem_map.mp h3
      obtain ⟨j, ej, v, h6⟩ := De.seen_ever he
      exact ⟨j, congrArg some ej, v, h6⟩
end PD

/-! Phrasedesk: a desk's state, as it lies in the program's own objects -/
namespace PD
open PySem PySem.Spec PyProof.Rows L2
theorem pe_fldK {X : Cx} {K : PySem.W.Frag} {e : Expr} {f : Str} {pos : Pos} {ta : TE} (hK : X.K = K) (he : PE X e ta) (hb : attributeBase e f X.env (eval e X.env) = eval e X.env) : PE X (.Attribute e f pos) (tFld K ta f) := by
  subst hK
  exact pe_fld he hb
/-- where a Past's things lie -/
structure PA where
  dx : Addr
  f : Addr
  tx : Addr
  og : Addr
  ev : Addr
  pi : Addr
  ekv : List (List Key × V)
  pkv : List (List Key × V)
  eA : Nat → Nat → Addr
  pA : Nat → Nat → Addr
abbrev pastF (n : Nat) (A : PA) : List (Str × V) := [("froms", .ref A.f), ("phrases", .int (n : Int)), ("texts", .ref A.tx), ("origins", .ref A.og), ("ever", .ref A.ev), ("piles", .ref A.pi)]
def setAt {α : Type} (g : Nat → Nat → α) (p t : Nat) (v : α) : Nat → Nat → α := fun p' t' => if p' = p ∧ t' = t then v else g p' t'
theorem setAt_same {α : Type} {g : Nat → Nat → α} {p t : Nat} {v : α} : setAt g p t v p t = v := by
  unfold setAt
  rw [if_pos ⟨rfl, rfl⟩]
theorem setAt_ne {α : Type} {g : Nat → Nat → α} {p t p' t' : Nat} {v : α} (h : ¬ (p' = p ∧ t' = t)) : setAt g p t v p' t' = g p' t' := by
  unfold setAt
  rw [if_neg h]
structure Raw (H : Hp) (C a : Addr) (fr : List Int) (n : Nat) (xs os : List V) (E : Nat → Nat → List (Key × V)) (L : Nat → Nat → List Int) (DE DP : Nat → Nat → Prop) (A : PA) : Prop where
  obj : H a = some (.ins C A.dx (pastF n A))
  frm : LsAt H A.f fr
  tx : H A.tx = some (.lst xs)
  og : H A.og = some (.lst os)
  ev : H A.ev = some (.dT A.ekv)
  pi : H A.pi = some (.dT A.pkv)
  evs : ∀ p t, DE p t → valV A.ekv (ty p t) = some (.ref (A.eA p t)) ∧ H (A.eA p t) = some (.dK (E p t))
  pis : ∀ p t, DP p t → valV A.pkv (ty p t) = some (.ref (A.pA p t)) ∧ LsAt H (A.pA p t) (L p t)
  n1 : A.tx ≠ A.og
  n2 : A.f ≠ A.tx
  n3 : A.f ≠ A.og
  n4 : A.ev ≠ A.pi
  n5 : ∀ p t, DP p t → A.pA p t ≠ A.f ∧ A.pA p t ≠ A.tx ∧ A.pA p t ≠ A.og
  i1 : ∀ p t p' t', DP p t → DP p' t' → A.pA p t = A.pA p' t' → p = p' ∧ t = t'
  i2 : ∀ p t p' t', DE p t → DE p' t' → A.eA p t = A.eA p' t' → p = p' ∧ t = t'
/-- its own addresses -/
def Foot (a : Addr) (DE DP : Nat → Nat → Prop) (A : PA) (x : Addr) : Prop := x = a ∨ x = A.f ∨ x = A.tx ∨ x = A.og ∨ x = A.ev ∨ x = A.pi ∨ (∃ p t, DE p t ∧ x = A.eA p t) ∨ ∃ p t, DP p t ∧ x = A.pA p t
section
variable {H H' : Hp} {C a : Addr} {fr : List Int} {n : Nat} {xs os : List V} {E : Nat → Nat → List (Key × V)} {L : Nat → Nat → List Int} {DE DP : Nat → Nat → Prop} {A : PA}
theorem Raw.keep (h : Raw H C a fr n xs os E L DE DP A) (k : ∀ x o, Foot a DE DP A x → H x = some o → H' x = some o) : Raw H' C a fr n xs os E L DE DP A :=
  ⟨k _ _ (.inl rfl) h.obj, k _ _ (.inr (.inl rfl)) h.frm, k _ _ (.inr (.inr (.inl rfl))) h.tx, k _ _ (.inr (.inr (.inr (.inl rfl)))) h.og, k _ _ (.inr (.inr (.inr (.inr (.inl rfl))))) h.ev, k _ _ (.inr (.inr (.inr (.inr (.inr (.inl rfl)))))) h.pi,
   fun p t d => ⟨(h.evs p t d).1, k _ _ (.inr (.inr (.inr (.inr (.inr (.inr (.inl ⟨p, t, d, rfl⟩))))))) (h.evs p t d).2⟩, fun p t d => ⟨(h.pis p t d).1, k _ _ (.inr (.inr (.inr (.inr (.inr (.inr (.inr ⟨p, t, d, rfl⟩))))))) (h.pis p t d).2⟩, h.n1, h.n2, h.n3, h.n4, h.n5, h.i1, h.i2⟩
theorem Raw.same (s : Same H H') (h : Raw H C a fr n xs os E L DE DP A) : Raw H' C a fr n xs os E L DE DP A := h.keep fun _ _ _ e => s _ _ e
/-- none of its own is a tuple, all are there -/
theorem Raw.foot (h : Raw H C a fr n xs os E L DE DP A) {x : Addr} (hx : Foot a DE DP A x) : ∃ o, H x = some o ∧ ∀ ys, o ≠ .tup ys := by
  rcases hx with rfl | rfl | rfl | rfl | rfl | rfl | ⟨p, t, d, rfl⟩ | ⟨p, t, d, rfl⟩
  · exact ⟨_, h.obj, fun _ z => nomatch z⟩
  · exact ⟨_, h.frm, fun _ z => nomatch z⟩
  · exact ⟨_, h.tx, fun _ z => nomatch z⟩
  · exact ⟨_, h.og, fun _ z => nomatch z⟩
  · exact ⟨_, h.ev, fun _ z => nomatch z⟩
  · exact ⟨_, h.pi, fun _ z => nomatch z⟩
  · exact ⟨_, (h.evs p t d).2, fun _ z => nomatch z⟩
  · exact ⟨_, (h.pis p t d).2, fun _ z => nomatch z⟩
theorem Raw.setTx (h : Raw H C a fr n xs os E L DE DP A) (ys : List V) : Raw (upd H A.tx (.lst ys)) C a fr n ys os E L DE DP A := by
  refine ⟨?_, ?_, upd_same, ?_, ?_, ?_, fun p t d => ⟨(h.evs p t d).1, ?_⟩, fun p t d => ⟨(h.pis p t d).1, ?_⟩, h.n1, h.n2, h.n3, h.n4, h.n5, h.i1, h.i2⟩
  · rw [upd_ne (ne_of h.obj h.tx (fun z => nomatch z))]; exact h.obj
  · unfold LsAt; rw [upd_ne h.n2]; exact h.frm
  · rw [upd_ne (Ne.symm h.n1)]; exact h.og
  · rw [upd_ne (ne_of h.ev h.tx (fun z => nomatch z))]; exact h.ev
  · rw [upd_ne (ne_of h.pi h.tx (fun z => nomatch z))]; exact h.pi
  · rw [upd_ne (ne_of (h.evs p t d).2 h.tx (fun z => nomatch z))]; exact (h.evs p t d).2
  · unfold LsAt; rw [upd_ne (h.n5 p t d).2.1]; exact (h.pis p t d).2
theorem Raw.setOg (h : Raw H C a fr n xs os E L DE DP A) (ys : List V) : Raw (upd H A.og (.lst ys)) C a fr n xs ys E L DE DP A := by
  refine ⟨?_, ?_, ?_, upd_same, ?_, ?_, fun p t d => ⟨(h.evs p t d).1, ?_⟩, fun p t d => ⟨(h.pis p t d).1, ?_⟩, h.n1, h.n2, h.n3, h.n4, h.n5, h.i1, h.i2⟩
  · rw [upd_ne (ne_of h.obj h.og (fun z => nomatch z))]; exact h.obj
  · unfold LsAt; rw [upd_ne h.n3]; exact h.frm
  · rw [upd_ne h.n1]; exact h.tx
  · rw [upd_ne (ne_of h.ev h.og (fun z => nomatch z))]; exact h.ev
  · rw [upd_ne (ne_of h.pi h.og (fun z => nomatch z))]; exact h.pi
  · rw [upd_ne (ne_of (h.evs p t d).2 h.og (fun z => nomatch z))]; exact (h.evs p t d).2
  · unfold LsAt; rw [upd_ne (h.n5 p t d).2.2]; exact (h.pis p t d).2
theorem Raw.setEv (h : Raw H C a fr n xs os E L DE DP A) {p t : Nat} (d : DE p t) (kv : List (Key × V)) : Raw (upd H (A.eA p t) (.dK kv)) C a fr n xs os (setAt E p t kv) L DE DP A := by
  have he := (h.evs p t d).2
  refine ⟨?_, ?_, ?_, ?_, ?_, ?_, fun p' t' d' => ⟨(h.evs p' t' d').1, ?_⟩, fun p' t' d' => ⟨(h.pis p' t' d').1, ?_⟩, h.n1, h.n2, h.n3, h.n4, h.n5, h.i1, h.i2⟩
  · rw [upd_ne (ne_of h.obj he (fun z => nomatch z))]; exact h.obj
  · unfold LsAt; rw [upd_ne (ne_of h.frm he (fun z => nomatch z))]; exact h.frm
  · rw [upd_ne (ne_of h.tx he (fun z => nomatch z))]; exact h.tx
  · rw [upd_ne (ne_of h.og he (fun z => nomatch z))]; exact h.og
  · rw [upd_ne (ne_of h.ev he (fun z => nomatch z))]; exact h.ev
  · rw [upd_ne (ne_of h.pi he (fun z => nomatch z))]; exact h.pi
  · by_cases c : p' = p ∧ t' = t
    · rw [c.1, c.2, upd_same, setAt_same]
    · rw [upd_ne (fun z => c (h.i2 _ _ _ _ d' d z)), setAt_ne c]
      exact (h.evs p' t' d').2
  · unfold LsAt; rw [upd_ne (ne_of (h.pis p' t' d').2 he (fun z => nomatch z))]; exact (h.pis p' t' d').2
theorem Raw.setPi (h : Raw H C a fr n xs os E L DE DP A) {p t : Nat} (d : DP p t) (ns : List Int) : Raw (upd H (A.pA p t) (.lst (ns.map V.int))) C a fr n xs os E (setAt L p t ns) DE DP A := by
  have he := (h.pis p t d).2
  obtain ⟨m1, m2, m3⟩ := h.n5 p t d
  refine ⟨?_, ?_, ?_, ?_, ?_, ?_, fun p' t' d' => ⟨(h.evs p' t' d').1, ?_⟩, fun p' t' d' => ⟨(h.pis p' t' d').1, ?_⟩, h.n1, h.n2, h.n3, h.n4, h.n5, h.i1, h.i2⟩
  · rw [upd_ne (ne_of h.obj he (fun z => nomatch z))]; exact h.obj
  · unfold LsAt; rw [upd_ne (Ne.symm m1)]; exact h.frm
  · rw [upd_ne (Ne.symm m2)]; exact h.tx
  · rw [upd_ne (Ne.symm m3)]; exact h.og
  · rw [upd_ne (ne_of h.ev he (fun z => nomatch z))]; exact h.ev
  · rw [upd_ne (ne_of h.pi he (fun z => nomatch z))]; exact h.pi
  · rw [upd_ne (ne_of (h.evs p' t' d').2 he (fun z => nomatch z))]; exact (h.evs p' t' d').2
  · by_cases c : p' = p ∧ t' = t
    · rw [c.1, c.2, setAt_same]; exact upd_same
    · unfold LsAt
      rw [upd_ne (fun z => c (h.i1 _ _ _ _ d' d z)), setAt_ne c]
      exact (h.pis p' t' d').2
theorem Raw.setN (h : Raw H C a fr n xs os E L DE DP A) (m : Nat) : Raw (upd H a (.ins C A.dx (pastF m A))) C a fr m xs os E L DE DP A := by
  refine ⟨upd_same, ?_, ?_, ?_, ?_, ?_, fun p t d => ⟨(h.evs p t d).1, ?_⟩, fun p t d => ⟨(h.pis p t d).1, ?_⟩, h.n1, h.n2, h.n3, h.n4, h.n5, h.i1, h.i2⟩
  · unfold LsAt; rw [upd_ne (ne_of h.frm h.obj (fun z => nomatch z))]; exact h.frm
  · rw [upd_ne (ne_of h.tx h.obj (fun z => nomatch z))]; exact h.tx
  · rw [upd_ne (ne_of h.og h.obj (fun z => nomatch z))]; exact h.og
  · rw [upd_ne (ne_of h.ev h.obj (fun z => nomatch z))]; exact h.ev
  · rw [upd_ne (ne_of h.pi h.obj (fun z => nomatch z))]; exact h.pi
  · rw [upd_ne (ne_of (h.evs p t d).2 h.obj (fun z => nomatch z))]; exact (h.evs p t d).2
  · unfold LsAt; rw [upd_ne (ne_of (h.pis p t d).2 h.obj (fun z => nomatch z))]; exact (h.pis p t d).2
def addD (D : Nat → Nat → Prop) (p t : Nat) : Nat → Nat → Prop := fun p' t' => D p' t' ∨ (p' = p ∧ t' = t)
theorem ty_ne {p t p' t' : Nat} (h : ¬ (p' = p ∧ t' = t)) : ty p' t' ≠ ty p t := fun z => h (ty_inj z)
theorem Raw.addE {e : Addr} (h : Raw H C a fr n xs os E L DE DP A) {p t : Nat} (d : ¬ DE p t) (s : Same H H') (ne : H e = none) (he : H' e = some (.dK [])) :
    Raw (upd H' A.ev (.dT (putK A.ekv (ty p t) (.ref e)))) C a fr n xs os (setAt E p t []) L (addD DE p t) DP { A with ekv := putK A.ekv (ty p t) (.ref e), eA := setAt A.eA p t e } := by
  have g := h.same s
  have nev : e ≠ A.ev := fun z => by rw [z, h.ev] at ne; cases ne
  have old : ∀ p' t', addD DE p t p' t' → ¬ (p' = p ∧ t' = t) → DE p' t' := fun p' t' z c => z.resolve_right c
  refine ⟨?_, ?_, ?_, ?_, upd_same, ?_, fun p' t' d' => ?_, fun p' t' d' => ⟨(g.pis p' t' d').1, ?_⟩, h.n1, h.n2, h.n3, h.n4, h.n5, h.i1, ?_⟩
  · rw [upd_ne (ne_of g.obj g.ev (fun z => nomatch z))]; exact g.obj
  · unfold LsAt; rw [upd_ne (ne_of g.frm g.ev (fun z => nomatch z))]; exact g.frm
  · rw [upd_ne (ne_of g.tx g.ev (fun z => nomatch z))]; exact g.tx
  · rw [upd_ne (ne_of g.og g.ev (fun z => nomatch z))]; exact g.og
  · rw [upd_ne (Ne.symm g.n4)]; exact g.pi
  · show valV (putK A.ekv (ty p t) (.ref e)) (ty p' t') = some (.ref (setAt A.eA p t e p' t')) ∧ (upd H' A.ev (.dT (putK A.ekv (ty p t) (.ref e)))) (setAt A.eA p t e p' t') = some (.dK (setAt E p t [] p' t'))
    rw [valV_put]
    by_cases c : p' = p ∧ t' = t
    · rw [c.1, c.2, if_pos rfl, setAt_same, setAt_same, upd_ne nev]
      exact ⟨rfl, he⟩
    · have dd := old p' t' d' c
      rw [if_neg (ty_ne c), setAt_ne c, setAt_ne c, upd_ne (ne_of (g.evs p' t' dd).2 g.ev (fun z => nomatch z))]
      exact g.evs p' t' dd
  · unfold LsAt; rw [upd_ne (ne_of (g.pis p' t' d').2 g.ev (fun z => nomatch z))]; exact (g.pis p' t' d').2
  · intro p1 t1 p2 t2 d1 d2 z
    have z' : setAt A.eA p t e p1 t1 = setAt A.eA p t e p2 t2 := z
    by_cases c1 : p1 = p ∧ t1 = t
    · by_cases c2 : p2 = p ∧ t2 = t
      · exact ⟨c1.1.trans c2.1.symm, c1.2.trans c2.2.symm⟩
      · rw [c1.1, c1.2, setAt_same, setAt_ne c2] at z'
        have := (h.evs p2 t2 (old _ _ d2 c2)).2
        rw [← z', ne] at this
        cases this
    · by_cases c2 : p2 = p ∧ t2 = t
      · rw [c2.1, c2.2, setAt_same, setAt_ne c1] at z'
        have := (h.evs p1 t1 (old _ _ d1 c1)).2
        rw [z', ne] at this
        cases this
      · rw [setAt_ne c1, setAt_ne c2] at z'
        exact h.i2 _ _ _ _ (old _ _ d1 c1) (old _ _ d2 c2) z'
theorem Raw.addP {e : Addr} (h : Raw H C a fr n xs os E L DE DP A) {p t : Nat} (d : ¬ DP p t) (s : Same H H') (ne : H e = none) (he : H' e = some (.lst [])) :
    Raw (upd H' A.pi (.dT (putK A.pkv (ty p t) (.ref e)))) C a fr n xs os E (setAt L p t []) DE (addD DP p t) { A with pkv := putK A.pkv (ty p t) (.ref e), pA := setAt A.pA p t e } := by
  have g := h.same s
  have nev : e ≠ A.pi := fun z => by rw [z, h.pi] at ne; cases ne
  have old : ∀ p' t', addD DP p t p' t' → ¬ (p' = p ∧ t' = t) → DP p' t' := fun p' t' z c => z.resolve_right c
  refine ⟨?_, ?_, ?_, ?_, ?_, upd_same, fun p' t' d' => ⟨(g.evs p' t' d').1, ?_⟩, fun p' t' d' => ?_, h.n1, h.n2, h.n3, h.n4, ?_, ?_, h.i2⟩
  · rw [upd_ne (ne_of g.obj g.pi (fun z => nomatch z))]; exact g.obj
  · unfold LsAt; rw [upd_ne (ne_of g.frm g.pi (fun z => nomatch z))]; exact g.frm
  · rw [upd_ne (ne_of g.tx g.pi (fun z => nomatch z))]; exact g.tx
  · rw [upd_ne (ne_of g.og g.pi (fun z => nomatch z))]; exact g.og
  · rw [upd_ne g.n4]; exact g.ev
  · rw [upd_ne (ne_of (g.evs p' t' d').2 g.pi (fun z => nomatch z))]; exact (g.evs p' t' d').2
  · show valV (putK A.pkv (ty p t) (.ref e)) (ty p' t') = some (.ref (setAt A.pA p t e p' t')) ∧ LsAt (upd H' A.pi (.dT (putK A.pkv (ty p t) (.ref e)))) (setAt A.pA p t e p' t') (setAt L p t [] p' t')
    rw [valV_put]
    by_cases c : p' = p ∧ t' = t
    · rw [c.1, c.2, if_pos rfl, setAt_same, setAt_same]
      unfold LsAt
      rw [upd_ne nev]
      exact ⟨rfl, he⟩
    · have dd := old p' t' d' c
      rw [if_neg (ty_ne c), setAt_ne c, setAt_ne c]
      unfold LsAt
      rw [upd_ne (ne_of (g.pis p' t' dd).2 g.pi (fun z => nomatch z))]
      exact g.pis p' t' dd
  · intro p' t' d'
    show setAt A.pA p t e p' t' ≠ A.f ∧ setAt A.pA p t e p' t' ≠ A.tx ∧ setAt A.pA p t e p' t' ≠ A.og
    by_cases c : p' = p ∧ t' = t
    · rw [c.1, c.2, setAt_same]
      exact ⟨Ne.symm (ne_of_none h.frm ne), Ne.symm (ne_of_none h.tx ne), Ne.symm (ne_of_none h.og ne)⟩
    · rw [setAt_ne c]
      exact h.n5 _ _ (old _ _ d' c)
  · intro p1 t1 p2 t2 d1 d2 z
    have z' : setAt A.pA p t e p1 t1 = setAt A.pA p t e p2 t2 := z
    by_cases c1 : p1 = p ∧ t1 = t
    · by_cases c2 : p2 = p ∧ t2 = t
      · exact ⟨c1.1.trans c2.1.symm, c1.2.trans c2.2.symm⟩
      · rw [c1.1, c1.2, setAt_same, setAt_ne c2] at z'
        have := (h.pis p2 t2 (old _ _ d2 c2)).2
        rw [← z', LsAt, ne] at this
        cases this
    · by_cases c2 : p2 = p ∧ t2 = t
      · rw [c2.1, c2.2, setAt_same, setAt_ne c1] at z'
        have := (h.pis p1 t1 (old _ _ d1 c1)).2
        rw [z', LsAt, ne] at this
        cases this
      · rw [setAt_ne c1, setAt_ne c2] at z'
        exact h.i1 _ _ _ _ (old _ _ d1 c1) (old _ _ d2 c2) z'
theorem Raw.congr {n' : Nat} {xs' os' : List V} {E' : Nat → Nat → List (Key × V)} {L' : Nat → Nat → List Int} {DE' DP' : Nat → Nat → Prop} (h : Raw H C a fr n xs os E L DE DP A) (e1 : n' = n) (e2 : xs' = xs) (e3 : os' = os)
    (e4 : ∀ p t, DE' p t → DE p t ∧ E' p t = E p t) (e5 : ∀ p t, DP' p t → DP p t ∧ L' p t = L p t) : Raw H C a fr n' xs' os' E' L' DE' DP' A := by
  subst e1 e2 e3
  exact ⟨h.obj, h.frm, h.tx, h.og, h.ev, h.pi, fun p t d => by rw [(e4 p t d).2]; exact h.evs p t (e4 p t d).1, fun p t d => by rw [(e5 p t d).2]; exact h.pis p t (e5 p t d).1, h.n1, h.n2, h.n3, h.n4, fun p t d => h.n5 p t (e5 p t d).1,
    fun p t p' t' d d' => h.i1 p t p' t' (e5 p t d).1 (e5 p' t' d').1, fun p t p' t' d d' => h.i2 p t p' t' (e4 p t d).1 (e4 p' t' d').1⟩
end
/-! ### the state in a Past -/
def eK (S : De) (p t : Nat) : List (Key × V) := (S.ever p t).map fun e => ((Sum.inl e.1 : Key), V.bl true)
def Dom (fr : List Int) (n : Nat) : Nat → Nat → Prop := fun p t => p < n ∧ t ≤ fr.length
structure PastAt (H : Hp) (C a : Addr) (fr : List Int) (S : De) (A : PA) : Prop where
  raw : Raw H C a fr S.n (S.puts.map fun u => V.str u.x) (S.puts.map fun u => oV u.s) (eK S) S.lie (Dom fr S.n) (Dom fr S.n) A
  few : S.puts.length ≤ 5000
  lens : ∀ p t, (S.lie p t).length ≤ S.puts.length
  el : A.ekv.length ≤ 100 * S.n
  pl : A.pkv.length ≤ 100 * S.n
abbrev footP (a : Addr) (fr : List Int) (n : Nat) (A : PA) : Addr → Prop := Foot a (Dom fr n) (Dom fr n) A
section
variable {H H' : Hp} {C a : Addr} {fr : List Int} {S : De} {A : PA}
theorem PastAt.same (s : Same H H') (h : PastAt H C a fr S A) : PastAt H' C a fr S A := ⟨h.raw.same s, h.few, h.lens, h.el, h.pl⟩
theorem PastAt.keep (h : PastAt H C a fr S A) (k : ∀ x o, footP a fr S.n A x → H x = some o → H' x = some o) : PastAt H' C a fr S A := ⟨h.raw.keep k, h.few, h.lens, h.el, h.pl⟩
/-- nothing but its own is changed; what is there stays there -/
structure Only (F : Addr → Prop) (H H' : Hp) : Prop where
  out : ∀ x o, ¬ F x → H x = some o → H' x = some o
  grow : ∀ x o, H x = some o → ∃ u, H' x = some u
theorem only_same {F : Addr → Prop} (s : Same H H') : Only F H H' := ⟨fun x o _ e => s x o e, fun x o e => ⟨o, s x o e⟩⟩
theorem Only.trans {F : Addr → Prop} {H2 : Hp} (h : Only F H H') (k : Only F H' H2) : Only F H H2 := ⟨fun x o n e => k.out x o n (h.out x o n e), fun x o e => let ⟨u, z⟩ := h.grow x o e; k.grow x u z⟩
theorem grow_upd {H H' : Hp} {y : Addr} {o : HO} (h : ∀ x o, H x = some o → ∃ u, H' x = some u) : ∀ x v, H x = some v → ∃ u, (upd H' y o) x = some u := by
  intro x v e
  by_cases c : x = y
  · rw [c]
    exact ⟨_, upd_same⟩
  · rw [upd_ne c]
    exact h x v e
theorem Only.set {F : Addr → Prop} {y : Addr} {o : HO} (h : Only F H H') (fy : F y) : Only F H (upd H' y o) := ⟨fun x u n e => by
  have ne : x ≠ y := fun z => n (by rw [z]; exact fy)
  rw [upd_ne ne]
  exact h.out x u n e, grow_upd h.grow⟩
theorem Only.same {F : Addr → Prop} {H2 : Hp} (h : Only F H H') (k : Same H' H2) : Only F H H2 := h.trans (only_same k)
theorem Only.mono {F G : Addr → Prop} (h : Only F H H') (k : ∀ x, F x → G x) : Only G H H' := ⟨fun x o n e => h.out x o (fun z => n (k x z)) e, h.grow⟩
theorem Only.chg {F : Addr → Prop} {y : Addr} {o : HO} (h : Only F H H') (ny : H y = none) : Only F H (upd H' y o) := ⟨fun x u n e => by
  rw [upd_ne (ne_of_none e ny)]
  exact h.out x u n e, grow_upd h.grow⟩
theorem Only.free {F : Addr → Prop} {y : Addr} (h : Only F H H') (ny : H' y = none) : H y = none := by
  cases e : H y with
  | none => rfl
  | some o =>
    obtain ⟨u, eu⟩ := h.grow y o e
    rw [ny] at eu
    cases eu
theorem lookup_at {α : Type} {l : List α} {f : α → V} {k : Nat} {u : α} (h : l[k]? = some u) : (l.map f)[k]? = some (f u) := by
  rw [List.getElem?_map, h]
  rfl
theorem pf_froms (n : Nat) (A : PA) : (pastF n A).lookup ("froms" : Str) = some (.ref A.f) := rfl
theorem pf_phrases (n : Nat) (A : PA) : (pastF n A).lookup ("phrases" : Str) = some (.int (n : Int)) := rfl
theorem pf_texts (n : Nat) (A : PA) : (pastF n A).lookup ("texts" : Str) = some (.ref A.tx) := rfl
theorem pf_origins (n : Nat) (A : PA) : (pastF n A).lookup ("origins" : Str) = some (.ref A.og) := rfl
theorem pf_ever (n : Nat) (A : PA) : (pastF n A).lookup ("ever" : Str) = some (.ref A.ev) := rfl
theorem pf_piles (n : Nat) (A : PA) : (pastF n A).lookup ("piles" : Str) = some (.ref A.pi) := rfl
theorem pf_more (n : Nat) (A : PA) : putF ("phrases" : Str) (.int ((n : Int) + 1)) (pastF n A) = pastF (n + 1) A := rfl
theorem eK_none {k : Int} : ∀ {l : List (Int × Str)}, (∀ e ∈ l, e.1 ≠ k) → valV (l.map fun e => ((Sum.inl e.1 : Key), V.bl true)) (Sum.inl k) = none
  | [], _ => rfl
  | e :: r, h => by
    rw [List.map_cons, valV_neg (fun z => h e List.mem_cons_self (Sum.inl.inj z))]
    exact eK_none fun x hx => h x (List.mem_cons_of_mem _ hx)
theorem eK_has {k : Int} : ∀ {l : List (Int × Str)}, (valV (l.map fun e => ((Sum.inl e.1 : Key), V.bl true)) (Sum.inl k)).isSome = decide (k ∈ l.map (·.1))
  | [] => by simp [valV_nil]
  | e :: r => by
    rw [List.map_cons]
    by_cases c : e.1 = k
    · rw [valV_pos (by rw [c])]
      simp [c]
    · rw [valV_neg (fun z => c (Sum.inl.inj z)), eK_has]
      simp [Ne.symm c]
theorem ever_lt {p t : Nat} {e : Int × Str} (h : e ∈ S.ever p t) : e.1 < (S.puts.length : Int) := by
  obtain ⟨j, ej, v, e1, _⟩ := De.seen_ever h
  have := (List.getElem?_eq_some_iff.mp e1).1
  omega
theorem eK_lay {p t : Nat} {x : Str} {s : Option Int} (p' t' : Nat) : eK (S.lay p t x s) p' t' = setAt (eK S) p t (putK (eK S p t) (Sum.inl (S.puts.length : Int)) (V.bl true)) p' t' := by
  have ev : (S.lay p t x s).ever p' t' = S.ever p' t' ++ (if p = p' ∧ t = t' then [((S.puts.length : Int), x)] else []) := by
    show evG p' t' 0 (S.puts ++ [⟨p, t, x, s⟩]) = _
    rw [evG_snoc, Nat.zero_add]
    rfl
  have new : valV (eK S p t) (Sum.inl (S.puts.length : Int)) = none := eK_none fun e he => by
    have := ever_lt he
    omega
  unfold setAt
  by_cases c : p' = p ∧ t' = t
  · rw [if_pos c, c.1, c.2, putK_new _ new]
    unfold eK
    rw [c.1, c.2, if_pos ⟨rfl, rfl⟩] at ev
    rw [ev, List.map_append]
    rfl
  · rw [if_neg c]
    unfold eK
    rw [ev, if_neg (fun z => c ⟨z.1.symm, z.2.symm⟩), List.append_nil]
/-- one is put -/
theorem PastAt.lay {H1 H2 H3 H4 H5 : Hp} {p t : Nat} {x : Str} {s : Option Int} (h : PastAt H C a fr S A) (fw : S.puts.length < 5000) (hp : p < S.n) (ht : t ≤ fr.length)
    (s3 : Same (upd (upd H A.tx (.lst ((S.puts.map fun u => V.str u.x) ++ [V.str x]))) A.og (.lst ((S.puts.map fun u => oV u.s) ++ [oV s]))) H3)
    (s5 : Same (upd H3 (A.eA p t) (.dK (putK (eK S p t) (Sum.inl (S.puts.length : Int)) (V.bl true)))) H5) :
    PastAt (upd H5 (A.pA p t) (.lst ((S.lie p t).map V.int ++ [V.int (S.puts.length : Int)]))) C a fr (S.lay p t x s) A := by
  have d : Dom fr S.n p t := ⟨hp, ht⟩
  have r1 := ((((h.raw.setTx ((S.puts.map fun u => V.str u.x) ++ [V.str x])).setOg ((S.puts.map fun u => oV u.s) ++ [oV s])).same s3).setEv d (putK (eK S p t) (Sum.inl (S.puts.length : Int)) (V.bl true))).same s5
  have r2 := r1.setPi d (S.lie p t ++ [(S.puts.length : Int)])
  rw [List.map_append] at r2
  refine ⟨r2.congr rfl ?_ ?_ (fun p' t' d' => ⟨d', eK_lay p' t'⟩) (fun p' t' d' => ⟨d', rfl⟩), ?_, ?_, h.el, h.pl⟩
  · show (S.puts ++ [_]).map _ = _
    rw [List.map_append]
    rfl
  · show (S.puts ++ [_]).map _ = _
    rw [List.map_append]
    rfl
  · show (S.puts ++ [_]).length ≤ 5000
    rw [List.length_append, List.length_singleton]
    omega
  · intro p' t'
    show (setL S.lie p t _ p' t').length ≤ (S.puts ++ [_]).length
    have z := h.lens p' t'
    rw [List.length_append, List.length_singleton]
    unfold setL
    split
    · next e =>
      rw [e.1, e.2] at z
      rw [List.length_append, List.length_singleton]
      omega
    · omega
/-- what stands is taken back -/
theorem PastAt.off {p t : Nat} (h : PastAt H C a fr S A) (hp : p < S.n) (ht : t ≤ fr.length) : PastAt (upd H (A.pA p t) (.lst ((S.lie p t).map V.int).dropLast)) C a fr (S.off p t) A := by
  have r := h.raw.setPi (p := p) (t := t) ⟨hp, ht⟩ (S.lie p t).dropLast
  rw [List.map_dropLast] at r
  refine ⟨r.congr rfl rfl rfl (fun p' t' d' => ⟨d', rfl⟩) (fun p' t' d' => ⟨d', rfl⟩), h.few, ?_, h.el, h.pl⟩
  intro p' t'
  show (setL S.lie p t _ p' t').length ≤ S.puts.length
  have z := h.lens p' t'
  unfold setL
  split
  · next e =>
    rw [e.1, e.2] at z
    rw [List.length_dropLast]
    omega
  · exact z
theorem De.Ok.bare (ok : S.Ok fr) (t : Nat) : S.lie S.n t = [] ∧ S.ever S.n t = [] := by
  constructor
  · cases e : S.lie S.n t with
    | nil => rfl
    | cons k r =>
      obtain ⟨_, u, eu, hu, _⟩ := ok.num S.n t k (by rw [e]; exact List.mem_cons_self)
      have := (ok.each _ u eu).1
      omega
  · cases e : S.ever S.n t with
    | nil => rfl
    | cons k r =>
      obtain ⟨j, _, v, e1, e2, _⟩ := De.seen_ever (S := S) (p := S.n) (q := t) (e := k) (by rw [e]; exact List.mem_cons_self)
      have := (ok.each _ v e1).1
      omega
end
/-! ### a Desk -/
abbrev deskF (p L : Addr) : List (Str × V) := [("past", .ref p), ("lines", .ref L)]
structure DA where
  dx : Addr
  p : Addr
  L : Addr
  A : PA
structure DeskAt (H : Hp) (CD CP d : Addr) (fr : List Int) (S : De) (ls : List Line) (B : DA) : Prop where
  obj : H d = some (.ins CD B.dx (deskF B.p B.L))
  past : PastAt H CP B.p fr S B.A
  lines : LnAt H B.L ls
  nd : ¬ footP B.p fr S.n B.A d
  nL : ¬ footP B.p fr S.n B.A B.L
def footD (d : Addr) (fr : List Int) (n : Nat) (B : DA) : Addr → Prop := fun x => x = d ∨ x = B.L ∨ footP B.p fr n B.A x
/-- a desk, its things among F -/
def Desk (H : Hp) (CD CP d : Addr) (fr : List Int) (S : De) (ls : List Line) (F : Addr → Prop) : Prop :=
  ∃ B, DeskAt H CD CP d fr S ls B ∧ (∀ x, footD d fr S.n B x → F x) ∧ ∀ x, F x → ∃ o, H x = some o ∧ ∀ xs, o ≠ .tup xs
section
variable {H H' : Hp} {CD CP d : Addr} {fr : List Int} {S : De} {ls : List Line} {B : DA} {F : Addr → Prop}
theorem DeskAt.keep (h : DeskAt H CD CP d fr S ls B) (k : ∀ x o, footD d fr S.n B x → H x = some o → H' x = some o) (kt : ∀ q xs, H q = some (.tup xs) → H' q = some (.tup xs)) : DeskAt H' CD CP d fr S ls B := by
  obtain ⟨vs, hv, ha⟩ := h.lines
  exact ⟨k _ _ (.inl rfl) h.obj, h.past.keep fun x o z e => k x o (.inr (.inr z)) e, ⟨vs, k _ _ (.inr (.inl rfl)) hv, ha.mono fun _ _ ⟨q, z, u⟩ => ⟨q, z, kt _ _ u⟩⟩, h.nd, h.nL⟩
theorem Desk.keep (h : Desk H CD CP d fr S ls F) (k : ∀ x o, F x → H x = some o → H' x = some o) (kt : ∀ q xs, H q = some (.tup xs) → H' q = some (.tup xs)) : Desk H' CD CP d fr S ls F := by
  obtain ⟨B, h1, h2, h3⟩ := h
  refine ⟨B, h1.keep (fun x o z e => k x o (h2 x z) e) kt, h2, fun x fx => ?_⟩
  obtain ⟨o, e, n⟩ := h3 x fx
  exact ⟨o, k x o fx e, n⟩
theorem Desk.same (s : Same H H') (h : Desk H CD CP d fr S ls F) : Desk H' CD CP d fr S ls F := h.keep (fun x o _ e => s x o e) fun q xs e => s _ _ e
theorem DeskAt.foot (h : DeskAt H CD CP d fr S ls B) {x : Addr} (hx : footD d fr S.n B x) : ∃ o, H x = some o ∧ ∀ xs, o ≠ .tup xs := by
  rcases hx with rfl | rfl | hx
  · exact ⟨_, h.obj, fun _ z => nomatch z⟩
  · obtain ⟨vs, hv, _⟩ := h.lines
    exact ⟨_, hv, fun _ z => nomatch z⟩
  · exact h.past.raw.foot hx
theorem desk_of (h : DeskAt H CD CP d fr S ls B) : Desk H CD CP d fr S ls (footD d fr S.n B) := ⟨B, h, fun _ z => z, fun _ z => h.foot z⟩
/-- what is true behind a deed at the desk -/
def Goes (CD CP d : Addr) (fr : List Int) (H : Hp) (F : Addr → Prop) (S : De) (ls : List Line) (k : Hp → Prop) : Prop := ∀ (H' : Hp) (F' : Addr → Prop), Desk H' CD CP d fr S ls F' → Only F H H' → (∀ x, F' x → F x ∨ H x = none) → k H'
structure Went (CD CP d : Addr) (fr : List Int) (H : Hp) (F : Addr → Prop) (S : De) (ls : List Line) (H' : Hp) (F' : Addr → Prop) : Prop where
  desk : Desk H' CD CP d fr S ls F'
  only : Only F H H'
  foot : ∀ x, F' x → F x ∨ H x = none
theorem Went.refl (h : Desk H CD CP d fr S ls F) : Went CD CP d fr H F S ls H F := ⟨h, only_same (Same.refl _), fun _ z => .inl z⟩
theorem Went.same {H2 : Hp} {F' : Addr → Prop} (w : Went CD CP d fr H F S ls H' F') (s : Same H' H2) : Went CD CP d fr H F S ls H2 F' := ⟨w.desk.same s, w.only.same s, w.foot⟩
theorem Went.trans {H2 : Hp} {F1 F2 : Addr → Prop} {S' : De} {ls' : List Line} (w : Went CD CP d fr H F S ls H' F1) (v : Went CD CP d fr H' F1 S' ls' H2 F2) : Went CD CP d fr H F S' ls' H2 F2 := by
  refine ⟨v.desk, ⟨fun x o n e => v.only.out x o (fun z => (w.foot x z).elim n fun y => by rw [e] at y; cases y) (w.only.out x o n e), fun x o e => let ⟨u, z⟩ := w.only.grow x o e; v.only.grow x u z⟩, fun x z => ?_⟩
  rcases v.foot x z with y | y
  · exact w.foot x y
  · exact .inr (w.only.free y)
/-- a thing of one's own, not the desk's -/
theorem Went.chg {F' : Addr → Prop} {y : Addr} {o u : HO} (w : Went CD CP d fr H F S ls H' F') (ny : H y = none) (nF : ¬ F' y) (hy : H' y = some u) (nt : ∀ xs, u ≠ .tup xs) : Went CD CP d fr H F S ls (upd H' y o) F' := by
  refine ⟨w.desk.keep (fun x v fx e => ?_) (fun q xs e => ?_), w.only.chg ny, w.foot⟩
  · rw [upd_ne (fun z => nF (by rw [← z]; exact fx))]
    exact e
  · rw [upd_ne (ne_of e hy (fun z => nt _ z.symm))]
    exact e
theorem Desk.tup (h : Desk H CD CP d fr S ls F) (o : Only F H H') {q : Addr} {xs : List V} (e : H q = some (.tup xs)) : H' q = some (.tup xs) := by
  obtain ⟨B, h1, h2, h3⟩ := h
  refine o.out q _ (fun z => ?_) e
  obtain ⟨u, eu, nu⟩ := h3 q z
  rw [e] at eu
  exact nu _ (Option.some.inj eu).symm
theorem Desk.there (h : Desk H CD CP d fr S ls F) {x : Addr} (fx : F x) : ∃ o, H x = some o := by
  obtain ⟨B, h1, h2, h3⟩ := h
  obtain ⟨o, e, _⟩ := h3 x fx
  exact ⟨o, e⟩
theorem Went.new {F' : Addr → Prop} (w : Went CD CP d fr H F S ls H' F') (h : Desk H CD CP d fr S' ls' F) {y : Addr} (ny : H' y = none) : ¬ F' y := fun z => by
  obtain ⟨o, e⟩ := w.desk.there z
  rw [ny] at e
  cases e
end
end PD

/-! Phrasedesk: list(range(a, b, c)); texts of lines -/
namespace PD
open PySem PySem.Spec PyProof.Rows L2
def stepsV (i c : Int) (n : Nat) : List V := (List.range n).map fun k => V.int (i + (k : Nat) * c)
def tStp (ta : TA) : TE := fun σ G Q => ta σ G fun xs G1 => ∃ (i j c : Int) (n : Nat), xs = [.int i, .int j, .int c] ∧ RgC i j c n ∧ n ≤ 1000 ∧ ∀ q, G1 q = none → Q (.ref q) (upd G1 q (.lst (stepsV i c n)))
theorem steps_len {i c : Int} {n : Nat} : (stepsV i c n).length = n := by
  unfold stepsV
  rw [List.length_map, List.length_range]
theorem steps_vals {i c : Int} {n : Nat} {acc : Array Value} (h : ItemsOf (fun k v => ∃ t, v = .int (i + k * c) t) acc n) : Vals (stepsV i c n) acc.toList := by
  have el : acc.toList.length = n := (Array.length_toList).trans h.1
  unfold stepsV
  rw [← el]
  apply vals_of_get
  intro j u hj
  rw [Array.getElem?_toList] at hj
  exact h.2 j u hj
section
variable {X : Cx}
theorem pe_lstSteps {a b c : Expr} {ta : TA} {p1 p2 q1 q2 : Pos} (calm : X.calm = true) (g1 : Gl X "list") (m1 : X.mg "list" = none) (g2 : Gl X "range") (m2 : X.mg "range" = none) (ha : L2.PA X [a, b, c] ta)
    (st : starEach [a, b, c] X.env = (false, eval a X.env) :: starEach [b, c] X.env := by rfl) (pl : (backTo q2 (starEach [b, c] X.env)).any (·.1) = false := by rfl)
    (so : starEach [Expr.Call (.Name "range" p2) [a, b, c] [] q2] X.env = (false, eval (.Call (.Name "range" p2) [a, b, c] [] q2) X.env) :: starEach [] X.env := by rfl) :
    PE X (.Call (.Name "list" p1) [.Call (.Name "range" p2) [a, b, c] [] q2] [] q1) (tStp ta) := by
  constructor
  intro pins z σ G Q I h
  have made : wpAny (model X.prog X.w) X.A (eval (.Call (.Name "range" p2) [a, b, c] [] q2) X.env) (fun x z' => ∃ (r : Addr) (i j k : Int) (n : Nat) (t u v : Tok) (G' : Hp), x = .ref r ∧ IsRange z'.heap r i j k t u v ∧ Inv X pins σ G' z' ∧ RgC i j k n ∧ n ≤ 1000 ∧
      ∀ q, G' q = none → Q (.ref q) (upd G' q (.lst (stepsV i k n)))) X.xe z := by
    refine Call_ (ld_blt I g2 m2 boot_range (PyProof.Rows.callWith_type1 (thn (ha.run q2 pins z σ G _ I h) fun us z1 w1 => ?_) st pl))
    obtain ⟨xs, G1, I1, r1, i, j, k, n, rfl, rg, n1, q⟩ := w1
    obtain ⟨u1, us1, rfl, ⟨t, rfl⟩, r2⟩ : ∃ u us', us = u :: us' ∧ RelV (.int i) u ∧ Vals [V.int j, V.int k] us' := by
      cases r1 with
      | cons a b => exact ⟨_, _, rfl, a, b⟩
    obtain ⟨u2, us2, rfl, ⟨t', rfl⟩, r3⟩ : ∃ u us', us1 = u :: us' ∧ RelV (.int j) u ∧ Vals [V.int k] us' := by
      cases r2 with
      | cons a b => exact ⟨_, _, rfl, a, b⟩
    obtain ⟨u3, us3, rfl, ⟨t'', rfl⟩, r4⟩ : ∃ u us', us2 = u :: us' ∧ RelV (.int k) u ∧ Vals [] us' := by
      cases r3 with
      | cons a b => exact ⟨_, _, rfl, a, b⟩
    cases r4
    · refine call_range_3 rg.1 ?_ (.inl (PyProof.noPylong_small rg.2.1))
      exact ⟨_, i, j, k, n, _, _, _, G1, rfl, IsRange.new .., I1.kept (t' := z1.toks) fun b o e => Heap.get?_push_of_some _ e, rg, n1, q⟩
  refine Call_ (ld_blt I g1 m1 boot_list (PyProof.Rows.callWith_type1 (args_cons (thn made fun x z1 w1 => args_nil ?_) so) so))
  obtain ⟨r, i, j, k, n, t, u, v, G1, rfl, hr, I1, rg, n1, q⟩ := w1
  refine call_list_range (n := n) (I1.ok.hd calm) hr rg.2.2.1 rg.2.2.2 (Nat.le_trans n1 (by decide)) fun h' tk acc c' hk e' hi => ?_
  refine ⟨.ref z1.heap.objs.size, _, I1.laid hk (Nat.le_refl _) (o := .lst (stepsV i k n)) ?_, rfl, q _ (I1.hok.fresh (Nat.le_refl _))⟩
  refine ⟨?_, acc.toList, c', steps_vals hi, ?_⟩
  · rw [steps_len]
    exact Nat.le_trans n1 (by decide)
  · rw [Array.toArray_toList]
    exact e'
end
/-! ### lines as a tale's, their texts -/
def Line.Tx : Line → Prop
  | .phrase _ x _ => TxOk x
  | .put _ _ x _ _ _ => TxOk x
  | .back _ _ _ => True
theorem fill_tx {fr : List Int} {S : De} (h : S.Ok fr) (fo : FrOk fr) {t : Nat} (t0 : 0 < t) (t1 : t ≤ fr.length) : ∀ i, i ≤ S.n → ∀ n ∈ (S.fillTo fr t i).2.2, n.Tx
  | 0, _ => fun n hn => (nomatch hn)
  | i + 1, hi => by
    have ih := fill_tx h fo t0 t1 i (by omega)
    have fk := fillTo_ok h fo t0 t1 i (by omega)
    rw [De.fillTo_succ]
    generalize S.fillTo fr t i = A at ih fk ⊢
    by_cases c1 : chain fr (A.1.row (fr.length + 1) i) (up fr t) = Option.none
    · by_cases c2 : chain fr (A.1.row (fr.length + 1) i) t = Option.none
      · rw [De.fill_no (.inr (.inl c2))]
        exact ih
      · cases c3 : onlyOf (A.1.found fr i t A.1.n) with
        | none =>
          rw [De.fill_no (.inr (.inr c3))]
          exact ih
        | some x =>
          rw [De.fill_yes c1 c2 c3]
          intro n hn
          rcases List.mem_append.mp hn with z | z
          · exact ih n z
          · rw [List.mem_singleton.mp z]
            exact fk.ok.found fo t0 t1 ((onlyOf_some c3 x).mpr rfl)
    · rw [De.fill_no (.inl c1)]
      exact ih
theorem come_tx {fr : List Int} {S : De} {dd : Deed} (h : S.Ok fr) (fo : FrOk fr) (m : S.May fr dd) : ∀ n ∈ (S.come fr dd).2.2, n.Tx := by
  cases dd with
  | phrase x =>
    intro n hn
    rw [List.mem_singleton.mp hn]
    exact m.2
  | put p t x s o =>
    intro n hn
    rw [List.mem_singleton.mp hn]
    exact m.2.2.1
  | back p t =>
    intro n hn
    rw [List.mem_singleton.mp hn]
    trivial
  | fill t => exact fill_tx h fo m.1 m.2 S.n (Nat.le_refl _)
def Line.tl : Line → Tl
  | .phrase p x k => .phrase p x k
  | .put p t x s o k => .put p t x s o k
  | .back p t k => .back p t k
theorem Line.tl_vals : ∀ n : Line, n.tl.vals = n.vals
  | .phrase _ _ _ => rfl
  | .put _ _ _ _ _ _ => rfl
  | .back _ _ _ => rfl
theorem Line.Tx.low : ∀ {n : Line}, n.Tx → n.tl.Low
  | .phrase _ x _, h => ⟨h.each, by have := TxOk.hi h; omega⟩
  | .put _ _ x _ _ _, h => ⟨h.each, by have := TxOk.hi h; omega⟩
  | .back _ _ _, _ => trivial
def Tl.short : Tl → Prop
  | .phrase _ x _ => x.length ≤ 5000
  | .put _ _ x _ _ _ => x.length ≤ 5000
  | .back _ _ _ => True
theorem Tl.Low.short : ∀ {n : Tl}, n.Low → n.short
  | .phrase _ _ _, h => h.2
  | .put _ _ _ _ _ _, h => h.2
  | .back _ _ _, _ => trivial
end PD

/-! Phrasedesk: what is written out as texts, and how long it is at the most -/
namespace PD
open PySem PySem.Spec PyProof.Rows L2
/-- str(x): data by its text, None -/
def rStrV (K : PySem.W.Frag) : List V → Hp → VK → Prop := fun xs G Q => rStrD K xs G Q ∨ (xs = [.non] ∧ Q (.str "None") G)
theorem call_strV {X : Cx} (hg : X.A.guards = some []) (hu : X.A.units + 64 < cLine) : CallR X (.type "str") (rStrV X.K) := by
  intro pins z σ G xs us Q I r h
  rcases h with h | ⟨rfl, q⟩
  · exact call_strD hg hu pins z σ G xs us Q I r h
  · obtain ⟨u, rfl, r1⟩ := vals1 r
    cases r1
    exact PySem.P.str_of_none ⟨.str _, G, I.tok _, ⟨_, rfl⟩, q⟩
structure Shw (c e : Nat) (d : PyData) : Prop where
  len : d.shown.length ≤ c
  sh : d.showable = true
  nd : d.hasDict = false
  dp : d.depth ≤ e
structure ShwAll (n c e : Nat) (ds : List PyData) : Prop where
  len : piled (PyData.shownAll ds) ≤ n * (c + 2)
  sh : PyData.showableAll ds = true
  nd : PyData.hasDictAll ds = false
  dp : PyData.depthAll ds ≤ e
  n : ds.length ≤ n
theorem ShwAll.nil {c e : Nat} : ShwAll 0 c e [] := ⟨Nat.zero_le _, rfl, rfl, Nat.zero_le _, Nat.le_refl _⟩
theorem ShwAll.cons {n c e : Nat} {d : PyData} {ds : List PyData} (h : Shw c e d) (r : ShwAll n c e ds) : ShwAll (n + 1) c e (d :: ds) := by
  refine ⟨?_, ?_, ?_, ?_, ?_⟩
  · show piled (d.shown :: PyData.shownAll ds) ≤ _
    rw [piled_cons, Nat.succ_mul]
    have := h.len
    have := r.len
    omega
  · show (d.showable && PyData.showableAll ds) = true
    rw [h.sh, r.sh]
    rfl
  · show (d.hasDict || PyData.hasDictAll ds) = false
    rw [h.nd, r.nd]
    rfl
  · show max d.depth (PyData.depthAll ds) ≤ e
    have := h.dp
    have := r.dp
    omega
  · have := r.n
    rw [List.length_cons]
    omega
theorem shw_all {c e : Nat} : ∀ {ds : List PyData}, (∀ d ∈ ds, Shw c e d) → ShwAll ds.length c e ds
  | [], _ => ShwAll.nil
  | d :: ds, h => (shw_all fun x hx => h x (List.mem_cons_of_mem _ hx)).cons (h d List.mem_cons_self)
theorem textFrom_le : ∀ (ts : List Str) (k : Nat) (acc : Str), (textFrom k acc ts).length ≤ acc.length + piled ts
  | [], k, acc => Nat.le_add_right _ _
  | t :: ts, k, acc => by
    have ih := textFrom_le ts (k + 1) (acc ++ (if k > 0 then ", " else "" : String) ++ t)
    have e2 : (((if k > 0 then ", " else "" : String) : Str)).length ≤ 2 := by
      split <;> decide +kernel
    rw [strLen_append, strLen_append] at ih
    rw [piled_cons]
    exact Nat.le_trans ih (by omega)
theorem ShwAll.list {n c e : Nat} {ds : List PyData} (h : ShwAll n c e ds) : Shw (n * (c + 2) + 2) (e + 1) (.list ds) := by
  refine ⟨?_, h.sh, h.nd, ?_⟩
  · show (listText (PyData.shownAll ds)).length ≤ _
    unfold listText
    have h1 := textFrom_le (PyData.shownAll ds) 0 "["
    have e1 : ((("[" : String) : Str)).length = 1 := rfl
    have e2 : ((("]" : String) : Str)).length = 1 := rfl
    rw [strLen_append]
    have := h.len
    omega
  · have := h.dp
    simp only [PyData.depth]
    omega
theorem ShwAll.tuple {n c e : Nat} {ds : List PyData} (h : ShwAll n c e ds) : Shw (n * (c + 2) + 4) (e + 1) (.tuple ds) := by
  refine ⟨?_, h.sh, h.nd, ?_⟩
  · show (tupleText (PyData.shownAll ds)).length ≤ _
    unfold tupleText
    have h1 : (Str.join ", " (PyData.shownAll ds)).length ≤ piled (PyData.shownAll ds) := by
      cases e : PyData.shownAll ds with
      | nil => decide
      | cons t ts =>
        have := join_length_add (t :: ts) (by simp)
        omega
    have e1 : ((("(" : String) : Str)).length = 1 := rfl
    have e2 : (((if (PyData.shownAll ds).length == 1 then ",)" else ")" : String) : Str)).length ≤ 2 := by
      split <;> decide +kernel
    rw [strLen_append, strLen_append]
    have := h.len
    omega
  · have := h.dp
    simp only [PyData.depth]
    omega
theorem shw_int {i : Int} (h : i.natAbs < 2 ^ 64) : Shw 1921 0 (.int i) := by
  have hl : i.natAbs.log2 < 1920 := by
    have := PySem.Flt.log2_lt_of (by decide : 0 < 64) h
    omega
  exact ⟨int_text_len_1921 hl, decide_eq_true hl, rfl, Nat.le_refl _⟩
theorem shw_none : Shw 1921 0 .none := ⟨by decide +kernel, rfl, rfl, Nat.le_refl _⟩
theorem shw_o {s : Option Int} (h : ∀ i, s = some i → i.natAbs < 2 ^ 64) : Shw 1921 0 (dO s) := by
  cases s with
  | none => exact shw_none
  | some i => exact shw_int (h i rfl)
theorem shw_str {x : Str} (l : lowS x) (h : x.length ≤ 100) : Shw 1921 0 (.str x) := by
  refine ⟨?_, rfl, rfl, Nat.le_refl _⟩
  have := StrLaws.reprText_len x fun c hc => by
    have := (l c hc).2
    exact Nat.lt_of_le_of_lt this (by decide)
  show (reprText x).length ≤ 1921
  omega
theorem Shw.mono {c c' e e' : Nat} {d : PyData} (h : Shw c e d) (hc : c ≤ c') (he : e ≤ e') : Shw c' e' d := ⟨Nat.le_trans h.len hc, h.sh, h.nd, Nat.le_trans h.dp he⟩
/-- what str(x) asks -/
theorem Shw.asks {K : PySem.W.Frag} {G : Hp} {a : Addr} {c e : Nat} {d : PyData} (h : Shw c e d) (hc : c ≤ 16000000) (he : e ≤ 60) (dp : Dp K G (.ref a) d) {Q : VK} (q : Q (.str d.shown) G) : rStrV K [.ref a] G Q :=
  .inl ⟨a, d, rfl, dp, h.sh, h.nd, Nat.le_trans h.dp he, Nat.le_trans h.len (Nat.le_trans hc (by decide)), q⟩
/-! ### a desk's things as data -/
theorem shw_prs {ps : List Pr} (h : ∀ q ∈ ps, q.1.natAbs < 2 ^ 64 ∧ q.2.natAbs < 2 ^ 64) (n : ps.length ≤ 1000) : Shw 4000000 2 (dPs ps) := by
  have h1 : ∀ d ∈ ps.map dP, Shw 3850 1 d := by
    intro d hd
    obtain ⟨q, hq, rfl⟩ := List.mem_map.mp hd
    have := h q hq
    exact ((ShwAll.cons (shw_int this.1) (ShwAll.cons (shw_int this.2) ShwAll.nil)).tuple).mono (by decide) (by decide)
  have h2 := (shw_all h1).list
  rw [List.length_map] at h2
  exact h2.mono (by
    have : ps.length * (3850 + 2) ≤ 1000 * (3850 + 2) := Nat.mul_le_mul_right _ n
    omega) (by decide)
theorem shw_row {row : List Cell} (h : ∀ c ∈ row, ∀ a b, c = some (a, b) → a.natAbs < 2 ^ 64 ∧ ∀ i, b = some i → i.natAbs < 2 ^ 64) (n : row.length ≤ 1000) : Shw 4000000 2 (dRow row) := by
  have h1 : ∀ d ∈ row.map dC, Shw 3850 1 d := by
    intro d hd
    obtain ⟨c, hc, rfl⟩ := List.mem_map.mp hd
    cases c with
    | none => exact shw_none.mono (by decide) (by decide)
    | some p =>
      obtain ⟨a, b⟩ := p
      have := h _ hc a b rfl
      exact ((ShwAll.cons (shw_int this.1) (ShwAll.cons (shw_o this.2) ShwAll.nil)).tuple).mono (by decide) (by decide)
  have h2 := (shw_all h1).list
  rw [List.length_map] at h2
  exact h2.mono (by
    have : row.length * (3850 + 2) ≤ 1000 * (3850 + 2) := Nat.mul_le_mul_right _ n
    omega) (by decide)
def dE (e : Int × Str) : PyData := .tuple [.int e.1, .str e.2]
def dEs (l : List (Int × Str)) : PyData := .list (l.map dE)
theorem dpa_evs {K : PySem.W.Frag} {H : Hp} : ∀ {vs : List V} {l : List (Int × Str)}, All2 (EvV H) vs l → DpAll K H vs (l.map dE)
  | [], [], _ => .nil
  | [], _ :: _, h => by have := h.len; simp at this
  | _ :: _, [], h => by have := h.len; simp at this
  | v :: vs, q :: ps, h => by
    obtain ⟨⟨r, e, a⟩, b⟩ := h.tail
    rw [e]
    exact .cons (.tup (SqT.of a) (.cons (.int _) (.cons (.str _) .nil))) (dpa_evs b)
theorem dp_evs {K : PySem.W.Frag} {H : Hp} {a : Addr} {l : List (Int × Str)} (h : EvAt H a l) : Dp K H (.ref a) (dEs l) := let ⟨vs, x, y⟩ := h; .lst (SqL.of x) (dpa_evs y)
theorem shw_ev {e : Int × Str} (h1 : e.1.natAbs < 2 ^ 64) (h2 : TxOk e.2) : Shw 3850 1 (dE e) :=
  ((ShwAll.cons (shw_int h1) (ShwAll.cons (shw_str h2.each (by have := h2.hi; omega)) ShwAll.nil)).tuple).mono (by decide) (by decide)
theorem shw_evs {l : List (Int × Str)} (h : ∀ e ∈ l, e.1.natAbs < 2 ^ 64 ∧ TxOk e.2) (n : l.length ≤ 1000) : Shw 4000000 2 (dEs l) := by
  have h1 : ∀ d ∈ l.map dE, Shw 3850 1 d := by
    intro d hd
    obtain ⟨e, he, rfl⟩ := List.mem_map.mp hd
    exact shw_ev (h e he).1 (h e he).2
  have h2 := (shw_all h1).list
  rw [List.length_map] at h2
  exact h2.mono (by
    have : l.length * (3850 + 2) ≤ 1000 * (3850 + 2) := Nat.mul_le_mul_right _ n
    omega) (by decide)
end PD

/-! Phrasedesk: written data, laid anew -/
namespace PD
open PySem PySem.Spec PyProof.Rows L2
mutual
/-- v is d at H, its lists not among P -/
inductive Dn (P : Addr → Prop) (H : Hp) : V → PyData → Prop
  | non : Dn P H .non .none
  | bl (b : Bool) : Dn P H (.bl b) (.bool b)
  | int (i : Int) : Dn P H (.int i) (.int i)
  | str (x : Str) : Dn P H (.str x) (.str x)
  | lst {a : Addr} {xs : List V} {ds : List PyData} : ¬ P a → H a = some (.lst xs) → DnAll P H xs ds → Dn P H (.ref a) (.list ds)
  | tup {a : Addr} {xs : List V} {ds : List PyData} : H a = some (.tup xs) → DnAll P H xs ds → Dn P H (.ref a) (.tuple ds)
inductive DnAll (P : Addr → Prop) (H : Hp) : List V → List PyData → Prop
  | nil : DnAll P H [] []
  | cons {v : V} {vs : List V} {d : PyData} {ds : List PyData} : Dn P H v d → DnAll P H vs ds → DnAll P H (v :: vs) (d :: ds)
end
/-- what is there -/
def InH (H : Hp) : Addr → Prop := fun x => ∃ o, H x = some o
theorem InH.new {H : Hp} {a : Addr} (h : H a = none) : ¬ InH H a := fun ⟨o, e⟩ => by rw [h] at e; cases e
theorem InH.same {H H' : Hp} (s : Same H H') {x : Addr} : InH H x → InH H' x := fun ⟨o, e⟩ => ⟨o, s _ _ e⟩
section
variable {K : PySem.W.Frag} {P P' : Addr → Prop} {H H' : Hp}
mutual
theorem Dn.dp : ∀ {v : V} {d : PyData}, Dn P H v d → Dp K H v d
  | _, _, .non => .non
  | _, _, .bl b => .bl b
  | _, _, .int i => .int i
  | _, _, .str x => .str x
  | _, _, .lst _ h r => .lst (SqL.of h) r.dp
  | _, _, .tup h r => .tup (SqT.of h) r.dp
theorem DnAll.dp : ∀ {vs : List V} {ds : List PyData}, DnAll P H vs ds → DpAll K H vs ds
  | _, _, .nil => .nil
  | _, _, .cons h r => .cons h.dp r.dp
end
mutual
theorem Dn.keep (kl : ∀ a xs, ¬ P a → H a = some (.lst xs) → ¬ P' a ∧ H' a = some (.lst xs)) (kt : ∀ a xs, H a = some (.tup xs) → H' a = some (.tup xs)) : ∀ {v : V} {d : PyData}, Dn P H v d → Dn P' H' v d
  | _, _, .non => .non
  | _, _, .bl b => .bl b
  | _, _, .int i => .int i
  | _, _, .str x => .str x
  | _, _, .lst n h r => .lst (kl _ _ n h).1 (kl _ _ n h).2 (r.keep kl kt)
  | _, _, .tup h r => .tup (kt _ _ h) (r.keep kl kt)
theorem DnAll.keep (kl : ∀ a xs, ¬ P a → H a = some (.lst xs) → ¬ P' a ∧ H' a = some (.lst xs)) (kt : ∀ a xs, H a = some (.tup xs) → H' a = some (.tup xs)) : ∀ {vs : List V} {ds : List PyData}, DnAll P H vs ds → DnAll P' H' vs ds
  | _, _, .nil => .nil
  | _, _, .cons h r => .cons (h.keep kl kt) (r.keep kl kt)
end
theorem Dn.same (s : Same H H') {v : V} {d : PyData} (h : Dn P H v d) : Dn P H' v d := h.keep (fun _ _ n e => ⟨n, s _ _ e⟩) fun _ _ e => s _ _ e
theorem DnAll.same (s : Same H H') {vs : List V} {ds : List PyData} (h : DnAll P H vs ds) : DnAll P H' vs ds := h.keep (fun _ _ n e => ⟨n, s _ _ e⟩) fun _ _ e => s _ _ e
theorem Dn.mono (s : ∀ x, P' x → P x) {v : V} {d : PyData} (h : Dn P H v d) : Dn P' H v d := h.keep (fun _ _ n e => ⟨fun z => n (s _ z), e⟩) fun _ _ e => e
theorem DnAll.mono (s : ∀ x, P' x → P x) {vs : List V} {ds : List PyData} (h : DnAll P H vs ds) : DnAll P' H vs ds := h.keep (fun _ _ n e => ⟨fun z => n (s _ z), e⟩) fun _ _ e => e
theorem DnAll.len : ∀ {vs : List V} {ds : List PyData}, DnAll P H vs ds → vs.length = ds.length
  | _, _, .nil => rfl
  | _, _, .cons _ r => by rw [List.length_cons, List.length_cons, r.len]
theorem DnAll.ints_of : ∀ {vs : List V} {ns : List Int}, DnAll P H vs (ns.map .int) → vs = ns.map V.int
  | _, [], h => by cases h; rfl
  | _, n :: ns, h => by
    cases h with
    | cons a r =>
      cases a
      rw [r.ints_of]
      rfl
/-- a list of numbers -/
theorem Dn.ls {v : V} {ns : List Int} (h : Dn P H v (dI ns)) : ∃ a, v = .ref a ∧ ¬ P a ∧ LsAt H a ns := by
  unfold dI at h
  cases h with
  | lst n e r =>
    rw [r.ints_of] at e
    exact ⟨_, rfl, n, e⟩
/-- what is a desk's, as data -/
theorem dna_prs : ∀ {vs : List V} {ps : List Pr}, All2 (PrV H) vs ps → DnAll P H vs (ps.map dP)
  | [], [], _ => .nil
  | [], _ :: _, h => by have := h.len; simp at this
  | _ :: _, [], h => by have := h.len; simp at this
  | v :: vs, q :: ps, h => by
    obtain ⟨⟨r, e, a⟩, b⟩ := h.tail
    rw [e]
    exact .cons (.tup a (.cons (.int _) (.cons (.int _) .nil))) (dna_prs b)
theorem dn_prs {a : Addr} {ps : List Pr} (n : ¬ P a) (h : PrsAt H a ps) : Dn P H (.ref a) (dPs ps) := let ⟨vs, x, y⟩ := h; .lst n x (dna_prs y)
theorem dn_o : ∀ {s : Option Int}, Dn P H (oV s) (dO s)
  | none => .non
  | some i => .int i
theorem dn_cell {v : V} : ∀ {c : Cell}, CellV H v c → Dn P H v (dC c)
  | none, h => by
    cases (show v = .non from h)
    exact .non
  | some (a, b), ⟨p, e, h⟩ => by
    subst e
    exact .tup h (.cons (.int a) (.cons dn_o .nil))
theorem dna_row : ∀ {vs : List V} {row : List Cell}, Cells H vs row → DnAll P H vs (row.map dC)
  | [], [], _ => .nil
  | [], _ :: _, h => by
    have := h.len
    simp at this
  | _ :: _, [], h => by
    have := h.len
    simp at this
  | v :: vs, c :: row, h => by
    obtain ⟨u, e1, e2⟩ := h.each 0 c rfl
    cases (Option.some.inj e1)
    have h' : Cells H vs row := ⟨by have := h.len; simpa using this, fun i d e => h.each (i + 1) d e⟩
    exact .cons (dn_cell e2) (dna_row h')
theorem dn_row {a : Addr} {row : List Cell} (n : ¬ P a) (h : RowAt H a row) : Dn P H (.ref a) (dRow row) := let ⟨vs, x, y⟩ := h; .lst n x (dna_row y)
theorem dna_evs : ∀ {vs : List V} {l : List (Int × Str)}, All2 (EvV H) vs l → DnAll P H vs (l.map dE)
  | [], [], _ => .nil
  | [], _ :: _, h => by have := h.len; simp at this
  | _ :: _, [], h => by have := h.len; simp at this
  | v :: vs, q :: ps, h => by
    obtain ⟨⟨r, e, a⟩, b⟩ := h.tail
    rw [e]
    exact .cons (.tup a (.cons (.int _) (.cons (.str _) .nil))) (dna_evs b)
theorem dn_evs {a : Addr} {l : List (Int × Str)} (n : ¬ P a) (h : EvAt H a l) : Dn P H (.ref a) (dEs l) := let ⟨vs, x, y⟩ := h; .lst n x (dna_evs y)
theorem dn_ls {a : Addr} {ns : List Int} (n : ¬ P a) (h : LsAt H a ns) : Dn P H (.ref a) (dI ns) :=
  .lst n h (by
    clear h n
    induction ns with
    | nil => exact .nil
    | cons x r ih => exact .cons (.int x) ih)
/-- a line as data -/
def dLn : Line → PyData
  | .phrase p x k => .tuple [.str "phrase", .int p, .str x, .int k]
  | .put p t x s o k => .tuple [.str "put", .int p, .int t, .str x, dO s, dO o, .int k]
  | .back p t k => .tuple [.str "back", .int p, .int t, .int k]
def dLs (l : List Line) : PyData := .list (l.map dLn)
theorem dn_ln {a : Addr} : ∀ {n : Line}, H a = some (.tup n.vals) → Dn P H (.ref a) (dLn n)
  | .phrase p x k, h => .tup h (.cons (.str _) (.cons (.int _) (.cons (.str _) (.cons (.int _) .nil))))
  | .put p t x s o k, h => .tup h (.cons (.str _) (.cons (.int _) (.cons (.int _) (.cons (.str _) (.cons dn_o (.cons dn_o (.cons (.int _) .nil)))))))
  | .back p t k, h => .tup h (.cons (.str _) (.cons (.int _) (.cons (.int _) (.cons (.int _) .nil))))
theorem dna_lns : ∀ {vs : List V} {l : List Line}, All2 (LnV H) vs l → DnAll P H vs (l.map dLn)
  | [], [], _ => .nil
  | [], _ :: _, h => by have := h.len; simp at this
  | _ :: _, [], h => by have := h.len; simp at this
  | v :: vs, q :: ps, h => by
    obtain ⟨⟨r, e, a⟩, b⟩ := h.tail
    rw [e]
    exact .cons (dn_ln a) (dna_lns b)
theorem dn_lns {a : Addr} {l : List Line} (n : ¬ P a) (h : LnAt H a l) : Dn P H (.ref a) (dLs l) := let ⟨vs, x, y⟩ := h; .lst n x (dna_lns y)
theorem not_no {a : Addr} : ¬ (fun _ : Addr => False) a := fun z => z
/-- its numbers and texts are small -/
def Line.Sm : Line → Prop
  | .phrase p x k => p ≤ 1000 ∧ TxOk x ∧ k.natAbs < 2 ^ 64
  | .put p t x s o k => p ≤ 1000 ∧ t ≤ 1000 ∧ TxOk x ∧ (∀ i, s = some i → i.natAbs < 2 ^ 64) ∧ (∀ i, o = some i → i.natAbs < 2 ^ 64) ∧ k.natAbs < 2 ^ 64
  | .back p t k => p ≤ 1000 ∧ t ≤ 1000 ∧ k.natAbs < 2 ^ 64
theorem shw_nat {p : Nat} (h : p ≤ 1000) : Shw 1921 0 (.int (p : Int)) := shw_int (by rw [Int.natAbs_natCast]; exact Nat.lt_of_le_of_lt h (by decide))
theorem shw_tx {x : Str} (h : TxOk x) : Shw 1921 0 (.str x) := shw_str h.each (by have := h.hi; omega)
theorem shw_ln : ∀ {n : Line}, n.Sm → Shw 13470 1 (dLn n)
  | .phrase p x k, ⟨a, b, c⟩ => ((ShwAll.cons (shw_str (x := "phrase") (by unfold lowS; decide +kernel) (by decide +kernel)) (.cons (shw_nat a) (.cons (shw_tx b) (.cons (shw_int c) .nil)))).tuple).mono (by decide) (by decide)
  | .put p t x s o k, ⟨a, b, c, d, e, f⟩ => ((ShwAll.cons (shw_str (x := "put") (by unfold lowS; decide +kernel) (by decide +kernel)) (.cons (shw_nat a) (.cons (shw_nat b) (.cons (shw_tx c) (.cons (shw_o d) (.cons (shw_o e) (.cons (shw_int f) .nil))))))).tuple).mono (by decide) (by decide)
  | .back p t k, ⟨a, b, c⟩ => ((ShwAll.cons (shw_str (x := "back") (by unfold lowS; decide +kernel) (by decide +kernel)) (.cons (shw_nat a) (.cons (shw_nat b) (.cons (shw_int c) .nil)))).tuple).mono (by decide) (by decide)
theorem shw_lns {l : List Line} (h : ∀ n ∈ l, n.Sm) (n : l.length ≤ 1000) : Shw 14000000 2 (dLs l) := by
  have h1 : ∀ d ∈ l.map dLn, Shw 13470 1 d := by
    intro d hd
    obtain ⟨e, he, rfl⟩ := List.mem_map.mp hd
    exact shw_ln (h e he)
  have h2 := (shw_all h1).list
  rw [List.length_map] at h2
  exact h2.mono (by
    have : l.length * (13470 + 2) ≤ 1000 * (13470 + 2) := Nat.mul_le_mul_right _ n
    omega) (by decide)
end
def tDat (d : PyData) : TE := fun _ H Q => ∀ (H' : Hp) (v : V), Same H H' → Dn (InH H) H' v d → Q v H'
def tDats (ds : List PyData) : TA := fun _ H Q => ∀ (H' : Hp) (vs : List V), Same H H' → DnAll (InH H) H' vs ds → Q vs H'
section
variable {X : Cx} {e : Expr} {es : List Expr} {p : Pos} {j : Nat} {d : PyData} {ds : List PyData}
theorem PE.imp {t t' : TE} (h : PE X e t) (f : ∀ σ H Q, t' σ H Q → t σ H Q) : PE X e t' := ⟨fun pins z σ H Q I q => h.run pins z σ H Q I (f σ H Q q)⟩
theorem PA.imp {t t' : TA} (h : L2.PA X es t) (f : ∀ σ H Q, t' σ H Q → t σ H Q) : L2.PA X es t' := ⟨fun ps pins z σ H Q I q => h.run ps pins z σ H Q I (f σ H Q q)⟩
theorem pd_int {i : Int} : PE X (.Constant (.int i) j p) (tDat (.int i)) := PE.imp pe_int fun _ H _ q => q H _ (Same.refl _) (.int i)
theorem pd_str {x : Str} : PE X (.Constant (.str x) j p) (tDat (.str x)) := PE.imp pe_str fun _ H _ q => q H _ (Same.refl _) (.str x)
theorem pd_non : PE X (.Constant .none j p) (tDat .none) := PE.imp pe_non fun _ H _ q => q H _ (Same.refl _) .non
theorem pd_bl {b : Bool} : PE X (.Constant (.bool b) j p) (tDat (.bool b)) := PE.imp pe_bl fun _ H _ q => q H _ (Same.refl _) (.bl b)
theorem pd_neg {i : Int} {p' : Pos} : PE X (.UnaryOp .USub (.Constant (.int i) j p) p') (tDat (.int (-i))) := PE.imp (pe_un un_neg pe_int) fun _ H _ q => ⟨i, rfl, q H _ (Same.refl _) (.int (-i))⟩
theorem pd_lst (ha : L2.PA X es (tDats ds)) (hl : ds.length ≤ 1000 := by decide) : PE X (.List es p) (tDat (.list ds)) := by
  refine PE.imp (pe_lst ha) fun σ H Q q H1 vs s1 dn => ⟨?_, fun b nb => ?_⟩
  · rw [dn.len]
    exact Nat.le_of_lt (small1000 hl)
  · exact q _ (.ref b) (s1.trans (same_upd nb)) (.lst (InH.new (s1.free nb)) upd_same (dn.same (same_upd nb)))
theorem pd_tup {c : Nat} (ha : L2.PA X es (tDats ds)) (hl : ds.length ≤ 1000 := by decide) : PE X (.Tuple es c p) (tDat (.tuple ds)) := by
  refine PE.imp (pe_tup ha) fun σ H Q q H1 vs s1 dn => ⟨?_, fun b nb => ?_⟩
  · rw [dn.len]
    exact Nat.le_of_lt (small1000 hl)
  · exact q _ (.ref b) (s1.trans (same_upd nb)) (.tup upd_same (dn.same (same_upd nb)))
theorem pds_nil : L2.PA X [] (tDats []) := PA.imp pa_nil fun _ H _ q => q H [] (Same.refl _) .nil
theorem pds_cons (he : PE X e (tDat d)) (hr : L2.PA X es (tDats ds)) (hst : starEach (e :: es) X.env = (false, eval e X.env) :: starEach es X.env := by rfl) : L2.PA X (e :: es) (tDats (d :: ds)) :=
  PA.imp (pa_cons he hr hst) fun σ H Q q H1 v s1 h1 H2 vs s2 h2 => q H2 (v :: vs) (s1.trans s2) (.cons (h1.same s2) (h2.mono fun _ => InH.same s1))
end
end PD

/-! Phrasedesk: e[lo::k], some of a list's items -/
namespace PD
open PySem PySem.Spec PyProof.Rows L2
theorem vals_get {xs : List V} {us : List Value} (r : Vals xs us) : ∀ j : Nat, (xs[j]? = none ∧ us[j]? = none) ∨ ∃ x u, xs[j]? = some x ∧ us[j]? = some u ∧ RelV x u := by
  induction r with
  | nil => exact fun j => .inl ⟨rfl, rfl⟩
  | cons h _ ih =>
    intro j
    cases j with
    | zero => exact .inr ⟨_, _, rfl, rfl, h⟩
    | succ j => exact ih j
theorem vals_pick {xs : List V} {us : List Value} (r : Vals xs us) : ∀ js : List Nat, ∃ zs : List V, Vals zs (js.filterMap (us.toArray[·]?)) ∧ ∀ z ∈ zs, z ∈ xs
  | [] => ⟨[], .nil, fun _ h => nomatch h⟩
  | j :: js => by
    obtain ⟨zs, h1, h2⟩ := vals_pick r js
    rw [List.filterMap_cons, List.getElem?_toArray]
    rcases vals_get r j with ⟨_, e⟩ | ⟨x, u, e1, e2, e3⟩
    · rw [e]
      exact ⟨zs, h1, h2⟩
    · rw [e2]
      refine ⟨x :: zs, .cons e3 h1, fun z hz => ?_⟩
      rcases List.mem_cons.mp hz with rfl | hz
      · exact List.mem_of_getElem? e1
      · exact h2 z hz
section
variable {X : Cx}
def tSlS (K : PySem.W.Frag) (te : TE) (tl : TO) : TE := fun σ H Q => te σ H fun x H1 => tl σ H1 fun _ H2 => ∃ a xs, x = .ref a ∧ SqL K H2 a xs ∧ ∀ (p : Addr) (zs : List V), H2 p = none → zs.length ≤ xs.length → (∀ z ∈ zs, z ∈ xs) → Q (.ref p) (upd H2 p (.lst zs))
theorem pe_slS {e : Expr} {lo : Option Expr} {te : TE} {tl : TO} {c : Nat} {p1 p2 pos : Pos} {k : Int} (he : PE X e te) (hl : PO X lo tl) (hk : k ≠ 0) : PE X (.Subscript e (.Slice lo none (some (.Constant (.int k) c p1)) p2) pos) (tSlS X.K te tl) := by
  refine ⟨fun pins s σ H Q I h => Subscript_ (thn (he.run pins s σ H _ I h) fun v s1 ⟨x, H1, I1, r1, q1⟩ => ?_)⟩
  refine wpAny_Slice (thn (hl.run pins s1 σ H1 _ I1 q1) fun vl s2 ⟨l, H2, I2, pl, q2⟩ => ?_)
  refine thn (po_none.run pins s2 σ H2 (fun o H3 => o = none ∧ H3 = H2) I2 ⟨rfl, rfl⟩) fun vu s3 ⟨u, H3, I3, pu, eu, e3⟩ => ?_
  subst eu e3
  refine thn ((po_some pe_int : PO X (some (.Constant (.int k) c p1)) _).run pins s3 σ H3 (fun o H4 => o = some k ∧ H4 = H3) I3 ⟨k, rfl, rfl, rfl⟩) fun vs s4 ⟨o, H4, I4, ps, eo, e4⟩ => ?_
  subst eo e4
  obtain ⟨a, xs, ex, hx, q⟩ := q2
  subst ex
  cases r1
  have I5 : Inv X pins σ H4 { s4 with heap := s4.heap.push { cls := .type "slice", data := .fields #[vl, vu, vs] } } := I4.kept (t' := s4.toks) fun b ob z => Heap.get?_push_of_some _ z
  obtain ⟨its, r, ht, hz⟩ := I5.list hx
  have hlen := r.length
  show wpAny (model X.prog X.w) X.A (subscriptTail e (.Slice lo none (some (.Constant (.int k) c p1)) p2) (.ref a) (.ref s4.heap.objs.size)) (EP X pins σ Q) X.xe { s4 with heap := s4.heap.push { cls := .type "slice", data := .fields #[vl, vu, vs] } }
  refine tail_any (ops := [.ref a, .ref s4.heap.objs.size]) ht.isList.typeIs (PySem.slot_list_getitem.lookup) ?_ (by with_unfolding_all rfl)
  refine wpAny_getItem_list_slice ht.isList (Heap.IsSliceOf.new _ vl vu vs) pl pu ps (fun z => hk (Option.some.inj z)) ?_ (by rw [List.size_toArray]; omega)
  have hs := slicePick_size_le its.toArray l none (some k)
  obtain ⟨zs, h1, h2⟩ := vals_pick r (sliceRange (sliceBounds l none (some k) its.toArray.size).1 (sliceBounds l none (some k) its.toArray.size).2.1 (sliceBounds l none (some k) its.toArray.size).2.2)
  have h3 := h1.length
  have h4 : zs.length ≤ xs.length := by
    rw [h3, hlen]
    unfold slicePick at hs
    rw [List.size_toArray] at hs
    simpa using hs
  refine ⟨.ref _, _, I5.laid (t' := s4.toks) (o := .lst zs) (fun b ob z => Heap.get?_push_of_some _ z) (Nat.le_refl _) ?_, rfl, q _ zs (I5.hok.fresh (Nat.le_refl _)) h4 h2⟩
  exact ⟨Nat.le_trans h4 hz, _, 0, h1, Heap.get?_push_size _ rfl⟩
end
end PD

namespace PD
open PySem PySem.Spec PyProof.Rows L2

/-! Phrasedesk, law_k11: what the other laws have, too -/
theorem qt {Q : V → Hp → Prop} {H : Hp} {b c : Bool} (h : b = c) (q : Q (.bl c) H) : Q (.bl b) H := by
  rw [h]
  exact q
theorem ivs {ns : List Int} {i : Nat} {x : Int} (h : ns[i]? = some x) : (ns.map V.int)[i]? = some (V.int x) := by
  rw [List.getElem?_map, h]
  rfl
def spNum (K : PySem.W.Frag) : Sp := fun vs H Q _ => ∃ (v : V) (t : Value) (b1 b2 : Bool), vs = [v] ∧ TyX K H v t ∧ PySem.W.kitOne K t (.type "int") = some b1 ∧ PySem.W.kitOne K t (.type "bool") = some b2 ∧ Q (.bl (b1 && !b2)) H
theorem sc_is_number : FnScope ["value"] ["value"] (defScope s_is_number) := ⟨rfl, rfl, rfl, by decide +kernel, rfl, by decide +kernel, by decide +kernel⟩
theorem c_is_number {P : Program} {w : World} {K : PySem.W.Frag} {mg : Str → Option Value} {base : Heap} (T : Tx K mg) : C8.Cal P w K mg base 1 "is_number" (spNum K) [] := by
  refine calD T.F_is_number T.g_is_number (fun _ _ _ _ _ _ us hl => match us, hl with | [_], _ => rfl) sc_is_number (fun vs H Q E h => ?_) (fun cdv A outer s H vs Q E hr h => ?_)
  · obtain ⟨v, t, b1, b2, rfl, _⟩ := h
    rfl
  · obtain ⟨v, t, b1, b2, rfl, ty, k1, k2, q⟩ := h
    refine ⟨_, (pss_one (ps_ret (pe_and (pe_callB call_isi (by rfl) T.f_isinstance (by decide +kernel) (pa_cons (pv 0) (pa_cons (pe_bltn (v := .ty "int") (by rfl) T.f_int (by decide +kernel) rfl) pa_nil))) (pe_one (pe_not (pe_callB call_isi (by rfl) T.f_isinstance (by decide +kernel) (pa_cons (pv 0) (pa_cons (pe_bltn (v := .ty "bool") (by rfl) T.f_bool (by decide +kernel) rfl) pa_nil)))))))), ?_⟩
    refine ⟨_, rfl, _, _, t, _, b1, rfl, .ty _, ty, k1, b1, rfl, ?_⟩
    cases b1 with
    | false => exact iteF q
    | true => exact iteT ⟨_, rfl, _, _, t, _, b2, rfl, .ty _, ty, k2, b2, rfl, q⟩
def spFrom : Sp := fun vs H Q _ => ∃ (a : Addr) (fr : List Int) (t : Nat) (x : Int), vs = [.ref a, .int (t : Int)] ∧ LsAt H a fr ∧ 0 < t ∧ fr[t - 1]? = some x ∧ Q (.int x) H
theorem sc_put_from : FnScope ["froms", "tongue"] ["froms", "tongue"] (defScope s_put_from) := ⟨rfl, rfl, rfl, by decide +kernel, rfl, by decide +kernel, by decide +kernel⟩
theorem c_put_from {P : Program} {w : World} {K : PySem.W.Frag} {mg : Str → Option Value} {base : Heap} (T : Tx K mg) : C8.Cal P w K mg base 1 "put_from" (spFrom) [] := by
  refine calD T.F_put_from T.g_put_from (fun _ _ _ _ _ _ us hl => match us, hl with | [_, _], _ => rfl) sc_put_from (fun vs H Q E h => ?_) (fun cdv A outer s H vs Q E hr h => ?_)
  · obtain ⟨a, fr, t, x, rfl, _⟩ := h
    rfl
  · obtain ⟨a, fr, t, x, rfl, ha, h0, hx, q⟩ := h
    refine ⟨_, (pss_one (ps_ret (pe_ix ix_list (pv 0) (pe_op op_sub (pv 1) pe_int) (fun _ _ => rfl)))), ?_⟩
    exact ⟨_, rfl, _, rfl, _, _, rfl, rfl, a, _, _, _, rfl, rfl, SqL.of ha, at_of (j := t - 1) (by omega) (ivs hx), q⟩
theorem getD_of {α : Type} {l : List α} {i : Nat} {d x : α} (h : l[i]? = some x) : l.getD i d = x := by
  rw [List.getD_eq_getElem?_getD, h]
  rfl
theorem map_some_app {o : Option (List Int)} {acc : List Int} {x : Int} : (o.map (x :: ·)).map (acc ++ ·) = o.map ((acc ++ [x]) ++ ·) := by
  cases o with
  | none => rfl
  | some r => simp
theorem small5000 {n : Nat} (h : n ≤ 5000) : n < sizeLine := Nat.lt_of_le_of_lt h (by decide)
theorem ivs_of {ns : List Int} {i : Nat} {x : V} (h : (ns.map V.int)[i]? = some x) : ∃ z, x = .int z ∧ ns[i]? = some z := by
  rw [List.getElem?_map] at h
  cases e : ns[i]? with
  | none =>
    rw [e] at h
    cases h
  | some z =>
    rw [e] at h
    exact ⟨z, (Option.some.inj h).symm, rfl⟩
theorem bl_of {b : Bool} (h : b = true) : V.bl b = V.bl true := by rw [h]
theorem all_true : ∀ n : Nat, (List.replicate n true).all id = true
  | 0 => rfl
  | n + 1 => by
    rw [List.replicate_succ]
    simp
structure Asked (H : Hp) (a : Addr) (fr : List Int) (p : Addr) (row : List Cell) (t : Nat) : Prop where
  ha : LsAt H a fr
  fo : FrOk fr
  hp : RowAt H p row
  ro : RowOk fr row
  ht : t ≤ fr.length
def spCellAt (K : PySem.W.Frag) : Sp := fun vs H Q _ => ∃ (a : Addr) (ns : List Int) (k : Int), vs = [.ref a, .int k] ∧ SqL K H a (ns.map V.int) ∧ 0 ≤ k ∧ ∀ z : Int, Q (.int z) H
theorem sc_law_cell_at : FnScope ["_law_script", "_law_k"] ["_law_script", "_law_k"] (defScope s_law_cell_at) := ⟨rfl, rfl, rfl, by decide +kernel, rfl, by decide +kernel, by decide +kernel⟩
theorem c_law_cell_at {P : Program} {w : World} {K : PySem.W.Frag} {mg : Str → Option Value} {base : Heap} (T : Tx K mg) : C8.Cal P w K mg base 1 "_law_cell_at" (spCellAt K) [] := by
  refine calD T.F_law_cell_at T.g_law_cell_at (fun _ _ _ _ _ _ us hl => match us, hl with | [_, _], _ => rfl) sc_law_cell_at (fun vs H Q E h => ?_) (fun cdv A outer s H vs Q E hr h => ?_)
  · obtain ⟨a, ns, k, rfl, _⟩ := h
    rfl
  · obtain ⟨a, ns, k, rfl, ha, h0, q⟩ := h
    refine ⟨_, (pss_cons (ps_if (pt_cmpR op_lt (pv 1) (pe_callB call_len_seq (by rfl) T.f_len (by decide +kernel) (pa_cons (pv 0) pa_nil)) (nomark _))
      (pss_one (ps_ret (pe_ix ix_list (pv 0) (pv 1) (fun _ _ => rfl))))
      pss_nil)
    (pss_one (ps_ret pe_int))), ?_⟩
    refine ⟨_, rfl, _, rfl, a, _, rfl, .inl ha, _, _, rfl, rfl, decide (k < ((ns.map V.int).length : Int)), rfl, ?_⟩
    by_cases h : k < ((ns.map V.int).length : Int)
    · rw [decide_eq_true h]
      have hl : k.toNat < ns.length := by
        rw [List.length_map] at h
        omega
      exact iteT ⟨_, rfl, _, rfl, a, _, _, _, rfl, rfl, ha, at_of (j := k.toNat) (by omega) (ivs (List.getElem?_eq_getElem hl)), q _⟩
    · rw [decide_eq_false h]
      exact iteF (q 0)
def prims : List Int := [1000003, 1000033, 1000037, 1000039, 1000081, 1000099, 1000117, 1000121, 1000133, 1000151, 1000159, 1000171, 1000183, 1000187, 1000193, 1000199]
theorem prims_at : ∀ j : Nat, j < 16 → ∃ p : Int, prims[j]? = some p ∧ p ≠ 0 := by
  intro j hj
  have h : ∀ j : _root_.Fin 16, ∃ p : Int, prims[j.val]? = some p ∧ p ≠ 0 := by
    intro j
    have e : j.val < prims.length := j.isLt
    refine ⟨prims[j.val], List.getElem?_eq_getElem e, ?_⟩
    revert j
    decide
  exact h ⟨j, hj⟩
theorem fmod_lo {x m : Int} (h : 0 < m) : 0 ≤ x.fmod m := by
  rw [Int.fmod_eq_emod_of_nonneg _ (by omega)]
  exact Int.emod_nonneg _ (by omega)
theorem fmod_hi {x m : Int} (h : 0 < m) : x.fmod m < m := by
  rw [Int.fmod_eq_emod_of_nonneg _ (by omega)]
  exact Int.emod_lt_of_pos _ h
def spDraw : Sp := fun vs H Q _ => ∃ (c k m : Int), vs = [.int c, .int k, .int m] ∧ 0 < m ∧ ∀ (H' : Hp) (z : Int), Same H H' → 0 ≤ z → z < m → Q (.int z) H'
theorem sc_law_draw : FnScope ["_law_cell", "_law_k", "_law_most", "_law_primes"] ["_law_cell", "_law_k", "_law_most"] (defScope s_law_draw) := ⟨rfl, rfl, rfl, by decide +kernel, rfl, by decide +kernel, by decide +kernel⟩
theorem c_law_draw {P : Program} {w : World} {K : PySem.W.Frag} {mg : Str → Option Value} {base : Heap} (T : Tx K mg) : C8.Cal P w K mg base 1 "_law_draw" (spDraw) [] := by
  refine calD T.F_law_draw T.g_law_draw (fun _ _ _ _ _ _ us hl => match us, hl with | [_, _, _], _ => rfl) sc_law_draw (fun vs H Q E h => ?_) (fun cdv A outer s H vs Q E hr h => ?_)
  · obtain ⟨c, k, m, rfl, _⟩ := h
    rfl
  · obtain ⟨c, k, m, rfl, h0, q⟩ := h
    refine ⟨_, (pss_cons (ps_set (i := 3) sc_law_draw.nd rfl (Or.inl rfl) (pe_tup (pa_cons pe_int (pa_cons pe_int (pa_cons pe_int (pa_cons pe_int (pa_cons pe_int (pa_cons pe_int (pa_cons pe_int (pa_cons pe_int (pa_cons pe_int (pa_cons pe_int (pa_cons pe_int (pa_cons pe_int (pa_cons pe_int (pa_cons pe_int (pa_cons pe_int (pa_cons pe_int pa_nil))))))))))))))))))
    (pss_one (ps_ret (pe_op op_modN (pe_op op_modN (pe_op op_add (pe_op op_mul (pv 0) pe_int) (pe_op op_mul (pv 1) pe_int)) (pe_ix ix_tup (pv 3) (pe_op op_modN (pv 1) pe_int) (fun _ _ => rfl))) (pv 2))))), ?_⟩
    refine ⟨(by show 16 ≤ sizeLine; decide), fun p np => ?_⟩
    have hk0 : 0 ≤ k.fmod 16 := fmod_lo (by decide)
    have hk1 : k.fmod 16 < 16 := fmod_hi (by decide)
    obtain ⟨y, ey, ny⟩ := prims_at (k.fmod 16).toNat (by omega)
    refine ⟨_, rfl, _, _, rfl, rfl, .inr ⟨by decide, by decide⟩, _, rfl, _, _, rfl, rfl, .inr ⟨by decide, by decide⟩, _, _, rfl, rfl, _, rfl, _, rfl, _, _, rfl, rfl, (show (16 : Int) ≠ 0 by decide), p, prims.map V.int, _, V.int y, rfl, rfl, SqT.of upd_same, at_of (j := (k.fmod 16).toNat) (by show k.fmod 16 = _; omega) (ivs ey), _, _, rfl, rfl, ny, _, rfl, _, _, rfl, rfl, by omega, ?_⟩
    exact q _ _ (same_upd np) (fmod_lo h0) (fmod_hi h0)
def spNumber : Sp := fun vs H Q _ => ∃ (c k m : Int), vs = [.int c, .int k, .int m] ∧ 0 ≤ k ∧ k ≤ 1000 ∧ 0 < m ∧ m ≤ 100000000000000000000 ∧ ∀ (H' : Hp) (z : Int), Same H H' → 0 ≤ z → z < m → Q (.int z) H'
def sevens : List Int := [1, 7, 49, 343, 2401]
theorem sevens_at : ∀ j : Nat, j < 5 → ∃ p : Int, sevens[j]? = some p ∧ 1 ≤ p ∧ p ≤ 2401 := by
  intro j hj
  have h : ∀ j : _root_.Fin 5, ∃ p : Int, sevens[j.val]? = some p ∧ 1 ≤ p ∧ p ≤ 2401 := by
    intro j
    have e : j.val < sevens.length := j.isLt
    refine ⟨sevens[j.val], List.getElem?_eq_getElem e, ?_⟩
    revert j
    decide
  exact h ⟨j, hj⟩
theorem e18 : (10 : Int) ^ ((18 : Int).toNat) = 1000000000000000000 := by decide
theorem mul_big {c k : Int} (h1 : -1000000000000000000 ≤ c) (h2 : c < 1000811284336359577647248616306026718125307353262274591) (k0 : 0 ≤ k) (k1 : k ≤ 1000) : CMulW (c + 977 * k) (c + 31 * k + 5) := by
  have p : (2 : Nat) ^ 200 = 1606938044258990275541962092341162602522202993782792835301376 := by decide
  refine wide_mul (a := 200) (b := 200) ?_ ?_ (by decide) (by decide) (by decide)
  · rw [p]
    omega
  · rw [p]
    omega
theorem fdiv_in {x d m : Int} (hd : 1 ≤ d) (hm : 0 < m) (h0 : 0 ≤ x) (h1 : x < d * m) : 0 ≤ x.fdiv d ∧ x.fdiv d < m := by
  rw [Int.fdiv_eq_ediv_of_nonneg _ (by omega)]
  exact ⟨Int.ediv_nonneg h0 (by omega), Int.ediv_lt_of_lt_mul (by omega) (by rw [Int.mul_comm]; exact h1)⟩
theorem sc_law_number : FnScope ["_law_cell", "_law_k", "_law_limit", "_law_d"] ["_law_cell", "_law_k", "_law_limit"] (defScope s_law_number) := ⟨rfl, rfl, rfl, by decide +kernel, rfl, by decide +kernel, by decide +kernel⟩
theorem c_law_number {P : Program} {w : World} {K : PySem.W.Frag} {mg : Str → Option Value} {base : Heap} (T : Tx K mg) : C8.Cal P w K mg base 2 "_law_number" (spNumber) [] := by
  refine calD T.F_law_number T.g_law_number (fun _ _ _ _ _ _ us hl => match us, hl with | [_, _, _], _ => rfl) sc_law_number (fun vs H Q E h => ?_) (fun cdv A outer s H vs Q E hr h => ?_)
  · obtain ⟨c, k, m, rfl, _⟩ := h
    rfl
  · obtain ⟨c, k, m, rfl, k0, k1, m0, m1, q⟩ := h
    refine ⟨_, (pss_cons (ps_if (pt_cmpR op_ge (pv 0) (pe_op op_pow pe_int pe_int) (nomark _))
      (pss_cons (ps_set (i := 3) sc_law_number.nd rfl (Or.inl rfl) (pe_ix ix_tup (pe_tup (pa_cons pe_int (pa_cons pe_int (pa_cons pe_int (pa_cons pe_int (pa_cons pe_int pa_nil)))))) (pe_op op_modN (pv 1) pe_int) (fun _ _ => rfl)))
      (pss_one (ps_ret (pe_op op_fdivN (pe_op op_modN (pe_op op_sub (pv 0) (pe_op op_pow pe_int pe_int)) (pe_op op_mul (pv 3) (pv 2))) (pv 3)))))
      pss_nil)
    (pss_cons (ps_if (pt_cmpR op_lt (pv 0) (pe_un un_neg (pe_op op_pow pe_int pe_int)) (nomark _))
      (pss_one (ps_set (i := 0) sc_law_number.nd rfl (Or.inl rfl) (pe_op op_modN (pv 0) pe_int)))
      pss_nil)
    (pss_one (ps_ret (pe_op op_modN (C8.pe_c (c_law_draw T) hr (by decide) rfl (pa_cons (pe_op op_mulW (pe_op op_add (pv 0) (pe_op op_mul pe_int (pv 1))) (pe_op op_add (pe_op op_add (pv 0) (pe_op op_mul pe_int (pv 1))) pe_int)) (pa_cons (pe_op op_add (pe_op op_modN (pv 1) pe_int) pe_int) (pa_cons pe_int pa_nil)))) (pv 2)))))), ?_⟩
    refine ⟨_, rfl, _, _, rfl, rfl, ⟨by decide, by decide, by decide⟩, _, _, rfl, rfl, decide ((10 : Int) ^ ((18 : Int).toNat) ≤ c), rfl, ?_⟩
    rw [e18]
    by_cases h : 1000000000000000000 ≤ c
    · rw [decide_eq_true h]
      refine iteT ⟨(by show 5 ≤ sizeLine; decide), fun p np => ?_⟩
      have hk0 : 0 ≤ k.fmod 5 := fmod_lo (by decide)
      have hk1 : k.fmod 5 < 5 := fmod_hi (by decide)
      obtain ⟨d, ed, d0, d1⟩ := sevens_at (k.fmod 5).toNat (by omega)
      refine ⟨_, rfl, _, _, rfl, rfl, (show (5 : Int) ≠ 0 by decide), p, sevens.map V.int, _, V.int d, rfl, rfl, SqT.of upd_same, at_of (j := (k.fmod 5).toNat) (by show k.fmod 5 = _; omega) (ivs ed), ?_⟩
      have dm : 0 < d * m := Int.mul_pos (by omega) m0
      refine ⟨_, rfl, _, _, rfl, rfl, ⟨by decide, by decide, by decide⟩, _, _, rfl, rfl, _, rfl, _, rfl, _, _, rfl, rfl, .inl ⟨by omega, by omega⟩, _, _, rfl, rfl, by omega, _, rfl, _, _, rfl, rfl, ⟨by omega, by omega⟩, ?_⟩
      obtain ⟨z0, z1⟩ := fdiv_in (x := (c - (10 : Int) ^ ((18 : Int).toNat)).fmod (d * m)) d0 m0 (fmod_lo dm) (fmod_hi dm)
      exact q _ _ (same_upd np) z0 z1
    · rw [decide_eq_false h]
      refine iteF ⟨_, rfl, _, _, rfl, rfl, ⟨by decide, by decide, by decide⟩, _, rfl, _, _, rfl, rfl, decide (c < -((10 : Int) ^ ((18 : Int).toNat))), rfl, ?_⟩
      rw [e18]
      have go : ∀ c' : Int, -1000000000000000000 ≤ c' → c' < 1000811284336359577647248616306026718125307353262274591 → CMulW (c' + 977 * k) (c' + 31 * k + 5) := fun c' h1 h2 => mul_big h1 h2 k0 k1
      have fin : ∀ (z : Int) (H' : Hp), Same H H' → Q (.int (z.fmod m)) H' := fun z H' s => q H' _ s (fmod_lo m0) (fmod_hi m0)
      by_cases h2 : c < -1000000000000000000
      · rw [decide_eq_true h2]
        refine iteT ⟨_, rfl, _, _, rfl, rfl, (show (1000811284336359577647248616306026718125307353262274591 : Int) ≠ 0 by decide), ?_⟩
        have b0 : 0 ≤ c.fmod 1000811284336359577647248616306026718125307353262274591 := fmod_lo (by decide)
        have b1 : c.fmod 1000811284336359577647248616306026718125307353262274591 < 1000811284336359577647248616306026718125307353262274591 := fmod_hi (by decide)
        refine ⟨_, rfl, _, rfl, _, _, rfl, rfl, .inl ⟨by decide, by decide⟩, _, _, rfl, rfl, _, rfl, _, rfl, _, _, rfl, rfl, .inl ⟨by decide, by decide⟩, _, _, rfl, rfl, _, _, rfl, rfl, _, _, rfl, rfl, go _ (by omega) b1, _, rfl, _, _, rfl, rfl, (show (9 : Int) ≠ 0 by decide), _, _, rfl, rfl, _, _, _, rfl, by decide, fun H1 z s1 z0 z1 => ?_⟩
        exact ⟨_, rfl, _, _, rfl, rfl, by omega, fin z H1 s1⟩
      · rw [decide_eq_false h2]
        refine iteF ?_
        refine ⟨_, rfl, _, rfl, _, _, rfl, rfl, .inl ⟨by decide, by decide⟩, _, _, rfl, rfl, _, rfl, _, rfl, _, _, rfl, rfl, .inl ⟨by decide, by decide⟩, _, _, rfl, rfl, _, _, rfl, rfl, _, _, rfl, rfl, go _ (by omega) (by omega), _, rfl, _, _, rfl, rfl, (show (9 : Int) ≠ 0 by decide), _, _, rfl, rfl, _, _, _, rfl, by decide, fun H1 z s1 z0 z1 => ?_⟩
        exact ⟨_, rfl, _, _, rfl, rfl, by omega, fin z H1 s1⟩

def spLawFroms (K : PySem.W.Frag) : Sp := fun vs H Q _ => ∃ (a : Addr) (ns : List Int) (b : Int), vs = [.ref a, .int b] ∧ SqL K H a (ns.map V.int) ∧ 0 ≤ b ∧ b ≤ 100 ∧ ∀ (H' : Hp) (l : Addr) (fr : List Int), Same H H' → H l = none → LsAt H' l fr → FrOk fr → Q (.ref l) H'
theorem sc_law_froms : FnScope ["_law_script", "_law_by", "_law_cell", "_law_kind", "_law_found", "_law_at"] ["_law_script", "_law_by"] (defScope s_law_froms) := ⟨rfl, rfl, rfl, by decide +kernel, rfl, by decide +kernel, by decide +kernel⟩
theorem c_law_froms {P : Program} {w : World} {K : PySem.W.Frag} {mg : Str → Option Value} {base : Heap} (T : Tx K mg) : C8.Cal P w K mg base 3 "_law_froms" (spLawFroms K) [] := by
  refine calD T.F_law_froms T.g_law_froms (fun _ _ _ _ _ _ us hl => match us, hl with | [_, _], _ => rfl) sc_law_froms (fun vs H Q E h => ?_) (fun cdv A outer s H vs Q E hr h => ?_)
  · obtain ⟨a, ns, b, rfl, _⟩ := h
    rfl
  · obtain ⟨a, ns, b, rfl, hS, b0, b1, q⟩ := h
    refine ⟨_, (pss_cons (ps_set (i := 2) sc_law_froms.nd rfl (Or.inl rfl) (C8.pe_c (c_law_cell_at T) hr (by decide) rfl (pa_cons (pv 0) (pa_cons (pv 1) pa_nil))))
    (pss_cons (ps_par (i := 3) (j := 4) (by rfl) sc_law_froms.nd rfl rfl (by decide) rfl rfl (pa_cons (C8.pe_c (c_law_number T) hr (by decide) rfl (pa_cons (pv 2) (pa_cons (pe_op op_add (pv 1) pe_int) (pa_cons pe_int pa_nil)))) (pa_cons (pe_lst pa_nil) pa_nil)) (by rfl))
    (pss_cons (ps_for PassesOwn.never rfl (pi_range1 (by rfl) T.f_range (pa_cons (pe_op op_add pe_int (C8.pe_c (c_law_number T) hr (by decide) rfl (pa_cons (pv 2) (pa_cons (pe_op op_add (pv 1) pe_int) (pa_cons pe_int pa_nil))))) pa_nil)) (pg_name (i := 5) sc_law_froms.nd rfl (Or.inl rfl))
      (pss_one (ps_expr (pe_bm PySem.F.plainAttrs_list PySem.F.slot_list_append PySem.F.type_list_append mt_append (pv 4) (pa_cons (pe_ix ix_tup (pe_tup (pa_cons (pv 5) (pa_cons pe_int (pa_cons (C8.pe_c (c_law_number T) hr (by decide) rfl (pa_cons (pe_op op_add (pv 2) (pe_op op_mul pe_int (pv 5))) (pa_cons (pe_op op_add (pv 5) pe_int) (pa_cons (pe_op op_add (pv 5) pe_int) pa_nil)))) pa_nil)))) (pv 3) (fun _ _ => rfl)) pa_nil)))))
    (pss_one (ps_ret (pv 4)))))), ?_⟩
    refine ⟨_, rfl, _, rfl, a, ns, b, rfl, hS, b0, fun cz => ?_⟩
    refine ⟨_, rfl, _, rfl, _, _, rfl, rfl, _, _, _, rfl, by omega, by omega, by decide, by decide, fun H1 kd s1 k0 k1 => ⟨Nat.zero_le _, fun l nl => ⟨_, _, rfl, ?_⟩⟩⟩
    have nl0 : H l = none := s1.free nl
    have s2 : Same H (upd H1 l (.lst [])) := s1.trans (same_upd nl)
    have hl2 : LsAt (upd H1 l (.lst [])) l [] := upd_same
    refine ⟨_, rfl, _, rfl, _, _, rfl, rfl, _, _, _, rfl, by omega, by omega, by decide, by decide, fun H3 z s3 z0 z1 => ⟨_, _, rfl, rfl, _, rfl, by omega, by omega, ?_⟩⟩
    refine for_range (lo := 0) (n := (1 + z).toNat) (fun i σ H4 => ∃ (fr : List Int) (va : Option V), σ = [some (.ref a), some (.int b), some (.int cz), some (.int kd), some (.ref l), va] ∧ Same H H4 ∧ LsAt H4 l fr ∧ fr.length = i ∧ ∀ (j : Nat) (x : Int), fr[j]? = some x → 0 ≤ x ∧ x ≤ (j : Int))
      ⟨[], none, rfl, s2.trans s3, hl2.same s3, rfl, fun j x e => by simp at e⟩ ?_ ?_
    · rintro i σ H4 hi ⟨fr, va, rfl, s4, hl, hn, he⟩
      refine ⟨_, rfl, .inl ⟨rfl, _, SqL.of hl⟩, _, rfl, _, rfl, _, rfl, _, _, rfl, rfl, .inl ⟨by decide, by decide⟩, _, _, rfl, rfl, _, rfl, _, _, rfl, rfl, _, rfl, _, _, rfl, rfl, _, _, _, rfl, by omega, by omega, by omega, by omega, fun H5 x s5 x0 x1 => ⟨(by show 3 ≤ sizeLine; decide), fun p np => ?_⟩⟩
      have hl5 : LsAt (upd H5 p (.tup [V.int (0 + (i : Int)), V.int 0, V.int x])) l fr := (hl.same s5).same (same_upd np)
      have fin : ∀ y : Int, 0 ≤ y → y ≤ (i : Int) → ∃ (fr' : List Int) (va : Option V), [some (V.ref a), some (V.int b), some (V.int cz), some (V.int kd), some (V.ref l), some (V.int (0 + (i : Int)))] = [some (V.ref a), some (V.int b), some (V.int cz), some (V.int kd), some (V.ref l), va] ∧
          Same H (upd (upd H5 p (.tup [V.int (0 + (i : Int)), V.int 0, V.int x])) l (.lst (fr.map V.int ++ [V.int y]))) ∧ LsAt (upd (upd H5 p (.tup [V.int (0 + (i : Int)), V.int 0, V.int x])) l (.lst (fr.map V.int ++ [V.int y]))) l fr' ∧ fr'.length = i + 1 ∧ ∀ (j : Nat) (x : Int), fr'[j]? = some x → 0 ≤ x ∧ x ≤ (j : Int) := by
        intro y y0 y1
        refine ⟨fr ++ [y], _, rfl, Same.chg ((s4.trans s5).trans (same_upd np)) nl0, ?_, by rw [List.length_append, hn]; rfl, ?_⟩
        · unfold LsAt
          rw [upd_same, List.map_append]
          rfl
        · intro j v e
          by_cases hj : j < fr.length
          · rw [List.getElem?_append_left hj] at e
            exact he j v e
          · rw [List.getElem?_append_right (by omega)] at e
            have ej : j - fr.length = 0 := by
              by_cases z : j - fr.length = 0
              · exact z
              · have : j - fr.length = (j - fr.length - 1) + 1 := by omega
                rw [this] at e
                simp at e
            rw [ej] at e
            cases (Option.some.inj e)
            exact ⟨y0, by omega⟩
      obtain ⟨y, ey, y0, y1⟩ : ∃ y : Int, [V.int (0 + (i : Int)), V.int 0, V.int x][kd.toNat]? = some (V.int y) ∧ 0 ≤ y ∧ y ≤ (i : Int) := by
        have hk : kd = 0 ∨ kd = 1 ∨ kd = 2 := by omega
        rcases hk with rfl | rfl | rfl
        · exact ⟨_, rfl, by omega, by omega⟩
        · exact ⟨_, rfl, by omega, by omega⟩
        · exact ⟨_, rfl, by omega, by omega⟩
      have hz : (fr.map V.int).length < sizeLine := by
        rw [List.length_map]
        exact small1000 (by omega)
      refine ⟨_, rfl, p, _, _, V.int y, rfl, rfl, SqT.of upd_same, at_of (j := kd.toNat) (by omega) ey, l, _, _, rfl, rfl, hl5, hz, ?_⟩
      exact fin y y0 y1
    · rintro σ H4 ⟨fr, va, rfl, s4, hl, hn, he⟩
      exact ⟨_, rfl, q H4 l fr s4 nl0 hl ⟨by omega, by omega, he⟩⟩
theorem brk_cases {H : Hp} {fr : List Int} {row : List Cell} {vs : List V} {t : Nat} (fo : FrOk fr) (ro : RowOk fr row) (hc : Cells H vs row) (h0 : 0 < t) (h1 : t ≤ fr.length) : ∃ v1 v2, vs[t]? = some v1 ∧ vs[up fr t]? = some v2 ∧
    ((v1 = .non ∧ brk fr row t = true) ∨ (∃ p1, v1 = .ref p1 ∧ v2 = .non ∧ brk fr row t = true) ∨
      ∃ p1 p2 n1 m1 n2 b2, v1 = .ref p1 ∧ v2 = .ref p2 ∧ H p1 = some (.tup [.int n1, .int m1]) ∧ H p2 = some (.tup [.int n2, oV b2]) ∧ brk fr row t = !decide (m1 = n2)) := by
  have hl1 : t < row.length := by rw [ro.len]; omega
  have hl2 : up fr t < row.length := by
    have := up_lt fo h0 h1
    rw [ro.len]
    omega
  obtain ⟨v1, e1, c1⟩ := hc.each t row[t] (List.getElem?_eq_getElem hl1)
  obtain ⟨v2, e2, c2⟩ := hc.each (up fr t) row[up fr t] (List.getElem?_eq_getElem hl2)
  have g1 : row.getD t none = row[t] := getD_of (List.getElem?_eq_getElem hl1)
  have g2 : row.getD (up fr t) none = row[up fr t] := getD_of (List.getElem?_eq_getElem hl2)
  refine ⟨v1, v2, e1, e2, ?_⟩
  unfold brk
  rw [g1, g2]
  cases q1 : row[t] with
  | none =>
    rw [q1] at c1
    exact .inl ⟨c1, rfl⟩
  | some c =>
    obtain ⟨n1, b1⟩ := c
    rw [q1] at c1
    obtain ⟨p1, rfl, k1⟩ := c1
    cases q2 : row[up fr t] with
    | none =>
      rw [q2] at c2
      exact .inr (.inl ⟨p1, rfl, c2, rfl⟩)
    | some d =>
      obtain ⟨n2, b2⟩ := d
      rw [q2] at c2
      obtain ⟨p2, rfl, k2⟩ := c2
      obtain ⟨m1, m2, em, _, _⟩ : ∃ a b, (some (n1, b1) : Cell) = some (a, some b) ∧ 0 ≤ a ∧ 0 ≤ b := by
        have et : row[t - 1 + 1]? = some (some (n1, b1)) := by
          rw [show t - 1 + 1 = t by omega, List.getElem?_eq_getElem hl1, q1]
        rcases ro.each (t - 1) _ et with z | z
        · cases z
        · exact z
      cases em
      refine .inr (.inr ⟨p1, p2, n1, m2, n2, b2, rfl, rfl, k1, k2, ?_⟩)
      show (!decide (some m2 = some n2)) = !decide (m2 = n2)
      by_cases z : m2 = n2
      · subst z
        simp
      · simp [z]
def spLawChain : Sp := fun vs H Q _ => ∃ (a : Addr) (fr : List Int) (p : Addr) (row : List Cell) (t : Nat), vs = [.ref a, .ref p, .int (t : Int)] ∧ Asked H a fr p row t ∧
  ∀ (H' : Hp) (l : Addr), Same H H' → H l = none → LsAt H' l ((chain fr row t).getD []) → Q (.ref l) H'
theorem dec_ne {x y : Int} : (!decide (V.int x = V.int y)) = !decide (y = x) := by
  by_cases z : x = y
  · subst z
    simp
  · have z1 : ¬ V.int x = V.int y := fun e => z (V.int.inj e)
    have z2 : ¬ y = x := fun e => z e.symm
    rw [decide_eq_false z1, decide_eq_false z2]
theorem sc_law_chain : FnScope ["_law_froms_here", "_law_row_here", "_law_tongue", "_law_found", "_law_turn", "_law_above"] ["_law_froms_here", "_law_row_here", "_law_tongue"] (defScope s_law_chain) := ⟨rfl, rfl, rfl, by decide +kernel, rfl, by decide +kernel, by decide +kernel⟩
theorem c_law_chain {P : Program} {w : World} {K : PySem.W.Frag} {mg : Str → Option Value} {base : Heap} (T : Tx K mg) : C8.Cal P w K mg base 1 "_law_chain" (spLawChain) [] := by
  refine calD T.F_law_chain T.g_law_chain (fun _ _ _ _ _ _ us hl => match us, hl with | [_, _, _], _ => rfl) sc_law_chain (fun vs H Q E h => ?_) (fun cdv A outer s H vs Q E hr h => ?_)
  · obtain ⟨a, fr, p, row, t, rfl, _⟩ := h
    rfl
  · obtain ⟨a, fr, p, row, t, rfl, hA, q⟩ := h
    refine ⟨_, (pss_cons (ps_set (i := 3) sc_law_chain.nd rfl (Or.inl rfl) (pe_lst pa_nil))
    (pss_cons (ps_for PassesOwn.never rfl (pi_range1 (by rfl) T.f_range (pa_cons (pe_callB call_len_seq (by rfl) T.f_len (by decide +kernel) (pa_cons (pv 1) pa_nil)) pa_nil)) (pg_name (i := 4) sc_law_chain.nd rfl (Or.inl rfl))
      (pss_cons (ps_expr (pe_bm PySem.F.plainAttrs_list PySem.F.slot_list_append PySem.F.type_list_append mt_append (pv 3) (pa_cons (pv 2) pa_nil)))
      (pss_cons (ps_if (pt_cmpR op_eq (pv 2) pe_int (nomark _))
        (pss_one (ps_ret (pe_lst pa_nil)))
        pss_nil)
      (pss_cons (ps_set (i := 5) sc_law_chain.nd rfl (Or.inl rfl) (pe_ix ix_list (pv 0) (pe_op op_sub (pv 2) pe_int) (fun _ _ => rfl)))
      (pss_cons (ps_if (PW.pt (pw_or (pt_cmpR op_isN (pe_ix ix_list (pv 1) (pv 2) (fun _ _ => rfl)) pe_non (nomark _)) (pw_or (pt_cmpR op_isN (pe_ix ix_list (pv 1) (pv 5) (fun _ _ => rfl)) pe_non (nomark _)) (pw_or1 (pt_cmpR op_ne (pe_ix ix_tup (pe_ix ix_list (pv 1) (pv 5) (fun _ _ => rfl)) pe_int (fun _ _ => rfl)) (pe_ix ix_tup (pe_ix ix_list (pv 1) (pv 2) (fun _ _ => rfl)) pe_int (fun _ _ => rfl)) (nomark _))))))
        (pss_one (ps_ret (pv 3)))
        pss_nil)
      (pss_one (ps_set (i := 2) sc_law_chain.nd rfl (Or.inl rfl) (pv 5))))))))
    (pss_one (ps_ret (pe_lst pa_nil))))), ?_⟩
    have fo := hA.fo
    have ro := hA.ro
    have hi7 := fo.hi
    obtain ⟨vs, hv, hc⟩ := hA.hp
    have ha := hA.ha
    have hln : vs.length = fr.length + 1 := by rw [hc.len, ro.len]
    refine ⟨Nat.zero_le _, fun l nl => ?_⟩
    have s0 : Same H (upd H l (.lst [])) := same_upd nl
    refine ⟨_, rfl, p, _, rfl, .inl (SqL.of (s0 _ _ hv)), _, rfl, by omega, by omega, ?_⟩
    refine for_range (lo := 0) (n := ((vs.length : Int)).toNat) (fun k σ H1 => ∃ (u : Nat) (acc : List Int) (v4 v5 : Option V), σ = [some (.ref a), some (.ref p), some (.int (u : Int)), some (.ref l), v4, v5] ∧ u ≤ fr.length ∧ Same H H1 ∧ LsAt H1 l acc ∧ acc.length = k ∧ k + u ≤ t ∧ chain fr row t = (chain fr row u).map (acc ++ ·))
      ⟨t, [], none, none, rfl, hA.ht, s0, upd_same, rfl, by omega, by simp⟩ ?_ ?_
    · rintro k σ H1 hk ⟨u, acc, v4, v5, rfl, hu, s1, hl, hn, hku, he⟩
      have hz : acc.length < sizeLine := small1000 (by have := hA.ht; omega)
      refine ⟨_, rfl, .inl ⟨rfl, _, SqL.of hl⟩, _, rfl, l, _, _, rfl, rfl, hl, by rw [List.length_map]; exact hz, ?_⟩
      have s2 : Same H (upd H1 l (.lst (acc.map V.int ++ [V.int (u : Int)]))) := Same.chg s1 nl
      have hl2 : LsAt (upd H1 l (.lst (acc.map V.int ++ [V.int (u : Int)]))) l (acc ++ [(u : Int)]) := by
        unfold LsAt
        rw [upd_same, List.map_append]
        rfl
      generalize upd H1 l (.lst (acc.map V.int ++ [V.int (u : Int)])) = H2 at s2 hl2 ⊢
      refine ⟨_, rfl, rfl, decide (u = 0), ?_, ?_⟩
      · have : decide (V.int (u : Int) = V.int 0) = decide (u = 0) := by
          rw [dec_int]
          by_cases z : u = 0
          · subst z
            rfl
          · rw [decide_eq_false z]
            exact beq_eq_false_iff_ne.mpr (by omega)
        exact congrArg V.bl this
      by_cases u0 : u = 0
      · rw [decide_eq_true u0]
        subst u0
        refine iteT ⟨Nat.zero_le _, fun m nm => ?_⟩
        refine q _ m (s2.trans (same_upd nm)) (s2.free nm) ?_
        rw [he, chain_zero]
        exact upd_same
      · rw [decide_eq_false u0]
        have u1 : 0 < u := by omega
        obtain ⟨x, ex, x0, xl, xu⟩ := fo.at u1 hu
        refine iteF ⟨_, rfl, _, rfl, _, _, rfl, rfl, a, _, _, V.int x, rfl, rfl, SqL.of (ha.same s2), at_of (j := u - 1) (by omega) (ivs ex), ?_⟩
        have hv2 : H2 p = some (.lst vs) := s2 _ _ hv
        obtain ⟨w1, w2, e1, e2, hw⟩ := brk_cases fo ro hc u1 hu
        have hs := chain_step (row := row) fo u1 hu
        have back : brk fr row u = true → LsAt H2 l ((chain fr row t).getD []) := fun hb => by
          rw [hb] at hs
          rw [he, hs]
          exact hl2
        refine ⟨_, rfl, _, rfl, p, _, _, w1, rfl, rfl, SqL.of hv2, at_of (j := u) rfl e1, rfl, decide (w1 = .non), rfl, ?_⟩
        rcases hw with ⟨rfl, hb⟩ | ⟨p1, rfl, rfl, hb⟩ | ⟨p1, p2, n1, m1, n2, b2, rfl, rfl, k1, k2, hb⟩
        · rw [decide_eq_true rfl]
          exact iteT ⟨_, rfl, q H2 l s2 nl (back hb)⟩
        · rw [decide_eq_false (by intro z; cases z)]
          refine iteF ⟨_, rfl, _, rfl, p, _, _, .non, rfl, rfl, SqL.of hv2, at_of (j := up fr u) xu e2, rfl, true, bl_of (decide_eq_true rfl), iteT ⟨_, rfl, q H2 l s2 nl (back hb)⟩⟩
        · rw [decide_eq_false (by intro z; cases z)]
          refine iteF ⟨_, rfl, _, rfl, p, _, _, .ref p2, rfl, rfl, SqL.of hv2, at_of (j := up fr u) xu e2, rfl, false, by rw [decide_eq_false (by intro z; cases z)], iteF ?_⟩
          refine ⟨_, rfl, _, rfl, p, _, _, .ref p2, rfl, rfl, SqL.of hv2, at_of (j := up fr u) xu e2, p2, _, _, _, rfl, rfl, SqT.of (s2 _ _ k2), atI_nat (j := 0) rfl, _, rfl, _, rfl, p, _, _, .ref p1, rfl, rfl, SqL.of hv2, at_of (j := u) rfl e1, p1, _, _, _, rfl, rfl, SqT.of (s2 _ _ k1), atI_nat (j := 1) rfl, rfl, !decide (m1 = n2), congrArg V.bl dec_ne, ?_⟩
          cases hbb : brk fr row u with
          | true =>
            rw [← hb, hbb]
            exact iteT ⟨_, rfl, q H2 l s2 nl (back hbb)⟩
          | false =>
            rw [← hb, hbb]
            rw [hbb] at hs
            refine iteF ⟨_, rfl, up fr u, acc ++ [(u : Int)], _, _, by rw [xu]; rfl, by have := up_lt fo u1 hu; omega, s2, hl2, by rw [List.length_append, hn]; rfl, by have := up_lt fo u1 hu; omega, ?_⟩
            rw [he, hs]
            exact map_some_app
    · rintro σ H1 ⟨u, acc, v4, v5, rfl, hu, s1, hl, hn, hku, he⟩
      exfalso
      have := hA.ht
      omega
def spSays : Sp := fun vs H Q _ => ∃ b c : Bool, vs = [.bl b, .bl c] ∧ Q (.bl (decide (b = c))) H
theorem sc_law_says : FnScope ["_law_said", "_law_due"] ["_law_said", "_law_due"] (defScope s_law_says) := ⟨rfl, rfl, rfl, by decide +kernel, rfl, by decide +kernel, by decide +kernel⟩
theorem c_law_says {P : Program} {w : World} {K : PySem.W.Frag} {mg : Str → Option Value} {base : Heap} (T : Tx K mg) : C8.Cal P w K mg base 1 "_law_says" (spSays) [] := by
  refine calD T.F_law_says T.g_law_says (fun _ _ _ _ _ _ us hl => match us, hl with | [_, _], _ => rfl) sc_law_says (fun vs H Q E h => ?_) (fun cdv A outer s H vs Q E hr h => ?_)
  · obtain ⟨b, c, rfl, _⟩ := h
    rfl
  · obtain ⟨b, c, rfl, q⟩ := h
    refine ⟨_, (pss_one (ps_ret (pe_and (pe_callB call_isi (by rfl) T.f_isinstance (by decide +kernel) (pa_cons (pv 0) (pa_cons (pe_bltn (v := .ty "bool") (by rfl) T.f_bool (by decide +kernel) rfl) pa_nil))) (pe_one (pe_cmpR op_eq (pv 0) (pv 1) (nomark _)))))), ?_⟩
    refine ⟨_, rfl, _, _, _, _, true, rfl, .ty _, .base (.bl b), is_ty (by decide +kernel), true, rfl, iteT ⟨_, rfl, _, rfl, rfl, qt ?_ q⟩⟩
    cases b <;> cases c <;> decide
def spText : Sp := fun vs H Q _ => ∃ n : Int, vs = [.int n] ∧ 0 ≤ n ∧ ∀ x : Str, TxOk x → Q (.str x) H
theorem sc_law_text : FnScope ["_law_number_here", "_law_letters", "_law_found", "_law_more", "_law_at"] ["_law_number_here"] (defScope s_law_text) := ⟨rfl, rfl, rfl, by decide +kernel, rfl, by decide +kernel, by decide +kernel⟩
theorem c_law_text {P : Program} {w : World} {K : PySem.W.Frag} {mg : Str → Option Value} {base : Heap} (T : Tx K mg) : C8.Cal P w K mg base 1 "_law_text" (spText) [] := by
  refine calD T.F_law_text T.g_law_text (fun _ _ _ _ _ _ us hl => match us, hl with | [_], _ => rfl) sc_law_text (fun vs H Q E h => ?_) (fun cdv A outer s H vs Q E hr h => ?_)
  · obtain ⟨n, rfl, _⟩ := h
    rfl
  · obtain ⟨n, rfl, n0, q⟩ := h
    refine ⟨_, (pss_cons (ps_par3 (i := 1) (j := 2) (l := 3) (by rfl) sc_law_text.nd rfl rfl rfl (by decide) (by decide) (by decide) rfl rfl rfl (pa_cons pe_str (pa_cons pe_str (pa_cons (pe_op op_fdivN (pv 0) pe_int) pa_nil))) (by rfl))
    (pss_cons (ps_for PassesOwn.never rfl (pi_range1 (by rfl) T.f_range (pa_cons (pe_op op_add pe_int (pe_op op_modN (pe_op op_fdivN (pv 0) pe_int) pe_int)) pa_nil)) (pg_name (i := 4) sc_law_text.nd rfl (Or.inl rfl))
      (pss_one (ps_set (i := 2) sc_law_text.nd rfl (Or.inl rfl) (pe_op op_add_str (pv 2) (pe_ix ix_str (pv 1) (pe_op op_modN (pe_op op_add (pe_op op_add (pe_op op_mul (pv 0) (pe_op op_add (pe_op op_mul pe_int (pv 4)) pe_int)) (pv 3)) (pv 4)) pe_int) (fun _ _ => rfl))))))
    (pss_one (ps_ret (pv 2))))), ?_⟩
    refine ⟨_, rfl, _, _, rfl, rfl, ⟨by decide, by decide⟩, _, _, _, rfl, ?_⟩
    have m0 : 0 ≤ (n.fdiv 26).fmod 6 := fmod_lo (by decide)
    have m1 : (n.fdiv 26).fmod 6 < 6 := fmod_hi (by decide)
    refine ⟨_, rfl, _, _, rfl, rfl, ⟨by decide, by decide⟩, _, _, rfl, rfl, (show (6 : Int) ≠ 0 by decide), _, _, rfl, rfl, _, rfl, by omega, by omega, ?_⟩
    generalize (n.fdiv 26).fmod 6 = m at m0 m1 ⊢
    refine for_range (lo := 0) (n := (1 + m).toNat) (fun i σ H4 => ∃ (x : Str) (va : Option V), σ = [some (.int n), some (.str "abcdefghijklmnopqrstuvwxyz"), some (.str x), some (.int (n.fdiv 156)), va] ∧ H4 = H ∧ x.length = i ∧ ∀ c ∈ x.cps.toList, 97 ≤ c ∧ c ≤ 122)
      ⟨Str.empty, none, rfl, rfl, rfl, fun c h => by cases h⟩ ?_ ?_
    · rintro i σ H4 hi ⟨x, va, rfl, rfl, hx, he⟩
      refine ⟨_, rfl, _, rfl, _, rfl, _, rfl, _, _, rfl, rfl, .inl ⟨by decide, by decide⟩, _, _, rfl, rfl, _, _, rfl, rfl, .inr ⟨by omega, by omega⟩, _, rfl, _, _, rfl, rfl, _, rfl, _, _, rfl, rfl, _, _, rfl, rfl, (show (26 : Int) ≠ 0 by decide), ?_⟩
      have k0 := fmod_lo (x := n * (2 * (0 + (i : Int)) + 1) + n.fdiv 156 + (0 + (i : Int))) (show (0 : Int) < 26 by decide)
      have k1 := fmod_hi (x := n * (2 * (0 + (i : Int)) + 1) + n.fdiv 156 + (0 + (i : Int))) (show (0 : Int) < 26 by decide)
      obtain ⟨k, hk⟩ : ∃ k, k = (n * (2 * (0 + (i : Int)) + 1) + n.fdiv 156 + (0 + (i : Int))).fmod 26 := ⟨_, rfl⟩
      rw [← hk] at k0 k1
      refine ⟨_, _, 97 + k.toNat, rfl, rfl, by decide, ?_, _, _, rfl, rfl, ?_, x ++ ⟨#[97 + k.toNat]⟩, _, rfl, rfl, ?_, ?_⟩
      · have z := atI_nat (az_at k.toNat (by omega))
        rw [show ((k.toNat : Nat) : Int) = k by omega, hk] at z
        rw [← hk] at z ⊢
        exact z
      · rw [hx]
        exact Nat.le_of_lt (small1000 (show i + 1 ≤ 1000 by omega))
      · rw [app_len, hx]
        rfl
      · intro c hc
        rw [app_cps] at hc
        rcases List.mem_append.mp hc with z | z
        · exact he c z
        · have : c = 97 + k.toNat := List.mem_singleton.mp z
          omega
    · rintro σ H4 ⟨x, va, rfl, rfl, hx, he⟩
      exact ⟨_, rfl, q x ⟨by omega, by omega, he⟩⟩
def spNew : Sp := fun vs H Q _ => vs = [] ∧ ∀ (H' : Hp) (o l d : Addr), Same H H' → H o = none → H l = none → H d = none → Here H' o l d De.none → Q (.ref o) H'
theorem sc_law_new : FnScope [] [] (defScope s_law_new) := ⟨rfl, rfl, rfl, by decide +kernel, rfl, by decide +kernel, by decide +kernel⟩
theorem c_law_new {P : Program} {w : World} {K : PySem.W.Frag} {mg : Str → Option Value} {base : Heap} (T : Tx K mg) : C8.Cal P w K mg base 1 "_law_new" (spNew) [] := by
  refine calD T.F_law_new T.g_law_new (fun _ _ _ _ _ _ us hl => match us, hl with | [], _ => rfl) sc_law_new (fun vs H Q E h => ?_) (fun cdv A outer s H vs Q E hr h => ?_)
  · obtain ⟨rfl, _⟩ := h
    rfl
  · obtain ⟨rfl, q⟩ := h
    refine ⟨_, (pss_one (ps_ret (pe_disp (pps_cons pe_str pe_int (pps_cons pe_str (pe_lst pa_nil) (pps_cons pe_str pe_dnewT pps_nil))) (by rfl) (by rfl) (fun z => by cases z) (by decide)))), ?_⟩
    refine fun o no => ⟨Nat.zero_le _, fun l nl d nd => ?_⟩
    have s1 : Same H (upd H o (.dK [])) := same_upd no
    have s2 := s1.trans (same_upd nl (o := .lst []))
    have s3 := s2.trans (same_upd nd (o := .dT []))
    have h0 : (upd (upd (upd H o (.dK [])) l (.lst [])) d (.dT [])) o = some (.dK []) := same_upd nd _ _ (same_upd nl _ _ upd_same)
    have h1 : (upd (upd (upd H o (.dK [])) l (.lst [])) d (.dT [])) l = some (.lst []) := same_upd nd _ _ upd_same
    have h2 : (upd (upd (upd H o (.dK [])) l (.lst [])) d (.dT [])) d = some (.dT []) := upd_same
    generalize upd (upd (upd H o (.dK [])) l (.lst [])) d (.dT []) = H3 at s3 h0 h1 h2 ⊢
    refine ⟨h0, [(kP, .int 0), (kU, .ref l), (kL, .ref d)], rfl, (show 3 ≤ 15 by decide), ?_⟩
    refine q (upd H3 o (.dK (topK 0 l d))) o l d (Same.chg s3 no) no (s1.free nl) (s2.free nd) ⟨upd_same, ⟨[], ?_, All2.nil⟩, ⟨[], ?_, Nat.zero_le _, fun _ _ => rfl⟩, Nat.zero_le _, fun _ _ => Nat.le_refl _⟩
    · rw [upd_ne (ne_of h1 h0 (fun z => nomatch z))]
      exact h1
    · rw [upd_ne (ne_of h2 h0 (fun z => nomatch z))]
      exact h2
theorem lieOf {H : Hp} {o l d : Addr} {S : De} (h : Here H o l d S) (p t : Nat) {b : Addr} (hb : H b = some (.tup ((ty p t).map kV))) : ∃ r, DGet H d (.ref b) r ∧ LieV H l r (S.lie p t) := by
  obtain ⟨kvs, h1, _, h2⟩ := h.lie
  exact ⟨_, DGet.t h1 hb, h2 p t⟩
theorem Here.isD {H : Hp} {o l d : Addr} {S : De} (h : Here H o l d S) : IsD H d := let ⟨kvs, h1, _, _⟩ := h.lie; .inr ⟨kvs, .inl h1⟩
theorem last_at {ns : List Int} {k : Int} (h : ns.getLast? = some k) : atI (ns.map V.int) (-1) = some (V.int k) := by
  obtain ⟨ys, rfl⟩ := List.getLast?_eq_some_iff.mp h
  rw [List.map_append]
  exact atI_last _ _
def spNow : Sp := fun vs H Q _ => ∃ (o l d : Addr) (S : De) (p t : Nat), vs = [.ref o, .int p, .int t] ∧ Here H o l d S ∧ ∀ H' : Hp, Same H H' → Q (oV (S.now p t)) H'
theorem sc_law_now : FnScope ["_law_here", "_law_phrase", "_law_tongue", "_law_some"] ["_law_here", "_law_phrase", "_law_tongue"] (defScope s_law_now) := ⟨rfl, rfl, rfl, by decide +kernel, rfl, by decide +kernel, by decide +kernel⟩
theorem c_law_now {P : Program} {w : World} {K : PySem.W.Frag} {mg : Str → Option Value} {base : Heap} (T : Tx K mg) : C8.Cal P w K mg base 1 "_law_now" (spNow) [] := by
  refine calD T.F_law_now T.g_law_now (fun _ _ _ _ _ _ us hl => match us, hl with | [_, _, _], _ => rfl) sc_law_now (fun vs H Q E h => ?_) (fun cdv A outer s H vs Q E hr h => ?_)
  · obtain ⟨o, l, d, S, p, t, rfl, _⟩ := h
    rfl
  · obtain ⟨o, l, d, S, p, t, rfl, hh, q⟩ := h
    refine ⟨_, (pss_cons (ps_set (i := 3) sc_law_now.nd rfl (Or.inl rfl) (pe_dget2 (hu_of hr) (pe_dget (hu_of hr) (pv 0) pe_str (fun _ _ => rfl)) (pe_tup (pa_cons (pv 1) (pa_cons (pv 2) pa_nil))) (pe_lst pa_nil) ⟨rfl, rfl, rfl, rfl⟩))
    (pss_one (ps_ret (pe_ifExp (pt_cmpR (op_neD hr.units) (pv 3) (pe_lst pa_nil) (nomark _)) (pe_ix ix_list (pv 3) (pe_un un_neg pe_int) (fun _ _ => rfl)) pe_non)))), ?_⟩
    refine ⟨_, rfl, o, _, rfl, DGet.k (k := kL) hh.top, d, rfl, hh.isD, _, rfl, _, rfl, (by show 2 ≤ sizeLine; decide), fun b nb => ⟨Nat.zero_le _, fun e ne => ?_⟩⟩
    have s2 : Same H (upd (upd H b (.tup [V.int (p : Int), V.int (t : Int)])) e (.lst [])) := (same_upd nb).trans (same_upd ne)
    have hb : (upd (upd H b (.tup [V.int (p : Int), V.int (t : Int)])) e (.lst [])) b = some (.tup ((ty p t).map kV)) := same_upd ne _ _ upd_same
    have he : LsAt (upd (upd H b (.tup [V.int (p : Int), V.int (t : Int)])) e (.lst [])) e [] := upd_same
    generalize upd (upd H b (.tup [V.int (p : Int), V.int (t : Int)])) e (.lst []) = H3 at s2 hb he ⊢
    obtain ⟨r, g, lv⟩ := lieOf (hh.same s2) p t hb
    have key : ∃ (a : Addr), r.getD (.ref e) = .ref a ∧ LsAt H3 a (S.lie p t) := by
      cases r with
      | none => exact ⟨e, rfl, by rw [show S.lie p t = [] from lv]; exact he⟩
      | some v =>
        obtain ⟨a, h1, _, h2⟩ := lv
        exact ⟨a, h1, h2⟩
    obtain ⟨a, ea, ha⟩ := key
    refine ⟨r, g, ?_⟩
    rw [ea]
    refine ⟨_, rfl, Nat.zero_le _, fun f nf => ⟨_, _, dp_ints (ha.same (same_upd nf)), dp_ints (ns := []) upd_same, shaped_ints _, shaped_ints _, !decide (S.lie p t = []), by rw [eqv_ints], ?_⟩⟩
    have q' := q _ (s2.trans (same_upd nf (o := .lst [])))
    unfold De.now at q'
    cases el : (S.lie p t).getLast? with
    | none =>
      have e0 : S.lie p t = [] := List.getLast?_eq_none_iff.mp el
      rw [decide_eq_true e0]
      rw [el] at q'
      exact iteF q'
    | some k =>
      have e0 : ¬ S.lie p t = [] := fun z => by
        rw [z] at el
        cases el
      rw [decide_eq_false e0]
      rw [el] at q'
      exact iteT ⟨_, rfl, _, rfl, a, _, _, _, rfl, rfl, SqL.of (ha.same (same_upd nf)), last_at el, q'⟩
def spRowOf : Sp := fun vs H Q _ => ∃ (o l d : Addr) (S : De) (f : Addr) (fr : List Int) (p : Nat), vs = [.ref o, .ref f, .int p] ∧ Here H o l d S ∧ S.Num ∧ LsAt H f fr ∧ fr.length ≤ 100 ∧
  ∀ (H' : Hp) (a : Addr), Same H H' → H a = none → RowAt H' a (S.row (fr.length + 1) p) → Q (.ref a) H'
theorem sc_law_row : FnScope ["_law_here", "_law_froms_here", "_law_phrase", "_law_found", "_law_tongue", "_law_number_here"] ["_law_here", "_law_froms_here", "_law_phrase"] (defScope s_law_row) := ⟨rfl, rfl, rfl, by decide +kernel, rfl, by decide +kernel, by decide +kernel⟩
theorem c_law_row {P : Program} {w : World} {K : PySem.W.Frag} {mg : Str → Option Value} {base : Heap} (T : Tx K mg) : C8.Cal P w K mg base 2 "_law_row" (spRowOf) [] := by
  refine calD T.F_law_row T.g_law_row (fun _ _ _ _ _ _ us hl => match us, hl with | [_, _, _], _ => rfl) sc_law_row (fun vs H Q E h => ?_) (fun cdv A outer s H vs Q E hr h => ?_)
  · obtain ⟨o, l, d, S, f, fr, p, rfl, _⟩ := h
    rfl
  · obtain ⟨o, l, d, S, f, fr, p, rfl, hh, hN, hf, h100, q⟩ := h
    refine ⟨_, (pss_cons (ps_set (i := 3) sc_law_row.nd rfl (Or.inl rfl) (pe_lst pa_nil))
    (pss_cons (ps_for PassesOwn.never rfl (pi_range1 (by rfl) T.f_range (pa_cons (pe_op op_add (pe_callB call_len_seq (by rfl) T.f_len (by decide +kernel) (pa_cons (pv 1) pa_nil)) pe_int) pa_nil)) (pg_name (i := 4) sc_law_row.nd rfl (Or.inl rfl))
      (pss_cons (ps_set (i := 5) sc_law_row.nd rfl (Or.inl rfl) (C8.pe_c (c_law_now T) hr (by decide) rfl (pa_cons (pv 0) (pa_cons (pv 2) (pa_cons (pv 4) pa_nil)))))
      (pss_one (ps_expr (pe_bm PySem.F.plainAttrs_list PySem.F.slot_list_append PySem.F.type_list_append mt_append (pv 3) (pa_cons (pe_ifExp (pt_cmpR op_isN (pv 5) pe_non (nomark _)) pe_non (pe_tup (pa_cons (pv 5) (pa_cons (pe_ix ix_tup (pe_ix ix_list (pe_dget (hu_of hr) (pv 0) pe_str (fun _ _ => rfl)) (pv 5) (fun _ _ => rfl)) pe_int (fun _ _ => rfl)) pa_nil)))) pa_nil))))))
    (pss_one (ps_ret (pv 3))))), ?_⟩
    refine ⟨Nat.zero_le _, fun D nD => ?_⟩
    refine ⟨_, rfl, f, _, rfl, .inl (SqL.of (hf.same (same_upd nD))), _, _, rfl, rfl, _, rfl, by rw [List.length_map]; omega, by rw [List.length_map]; omega, ?_⟩
    refine for_range (lo := 0) (n := ((fr.map V.int).length + 1 : Int).toNat) (fun i σ H4 => ∃ va vb : Option V, σ = [some (.ref o), some (.ref f), some (.int p), some (.ref D), va, vb] ∧ Same H H4 ∧ RowAt H4 D (S.row i p)) ⟨none, none, rfl, same_upd nD, ⟨[], upd_same, ⟨rfl, fun i c e => by simp [De.row] at e⟩⟩⟩ ?_ ?_
    · rintro i σ H4 hi ⟨va, vb, rfl, s4, hr4⟩
      rw [List.length_map] at hi
      have ei : (0 + (i : Int)) = (i : Int) := Int.zero_add _
      rw [ei]
      refine ⟨_, rfl, _, rfl, _, rfl, o, l, d, S, p, i, rfl, hh.same s4, fun H5 s5 => ?_⟩
      have s45 := s4.trans s5
      obtain ⟨ws, hw, hcs⟩ := hr4.same s5
      have hlen : ws.length < sizeLine := by
        rw [hcs.len]
        unfold De.row
        rw [List.length_map, List.length_range]
        exact small1000 (by omega)
      have step : ∀ (H6 : Hp) (v : V), Same H5 H6 → CellV H6 v (S.cell p i) → Same H (upd H6 D (.lst (ws ++ [v]))) ∧ RowAt (upd H6 D (.lst (ws ++ [v]))) D (S.row (i + 1) p) := by
        intro H6 v s6 hc
        refine ⟨Same.chg (s45.trans s6) nD, ?_⟩
        have z := RowAt.snoc ((hr4.same s5).same s6) (s6 _ _ hw) hc
        unfold De.row at z ⊢
        rw [List.range_succ, List.map_append]
        exact z
      refine ⟨_, rfl, .inl ⟨rfl, _, SqL.of hw⟩, _, rfl, rfl, decide (oV (S.now p i) = .non), rfl, ?_⟩
      cases en : S.now p i with
      | none =>
        rw [show oV (none : Option Int) = .non from rfl, decide_eq_true rfl]
        obtain ⟨g1, g2⟩ := step H5 .non (Same.refl _) (by unfold De.cell; rw [en]; rfl)
        exact iteT ⟨D, _, _, rfl, rfl, hw, hlen, _, _, rfl, g1, g2⟩
      | some k =>
        rw [show oV (some k) = .int k from rfl, decide_eq_false (by intro z; cases z)]
        obtain ⟨k0, u, eu, _, _⟩ := hN.now en
        have hh5 := hh.same s45
        obtain ⟨vs, b, h1, h2, h3⟩ := hh5.put_at k0 eu
        refine iteF ⟨_, rfl, _, rfl, o, _, rfl, DGet.k (k := kU) hh5.top, _, rfl, l, _, _, _, rfl, rfl, SqL.of h1, h2, b, _, _, _, rfl, rfl, SqT.of h3, atI_nat (j := 3) rfl, (by show 2 ≤ sizeLine; decide), fun c nc => ?_⟩
        obtain ⟨g1, g2⟩ := step _ (.ref c) (same_upd nc (o := .tup [.int k, oV u.s])) (by
          unfold De.cell
          rw [en]
          show CellV _ _ (some (k, (S.pt k).s))
          rw [De.pt_at eu]
          exact ⟨c, rfl, upd_same⟩)
        exact ⟨D, _, _, rfl, rfl, same_upd nc _ _ hw, hlen, _, _, rfl, g1, g2⟩
    · rintro σ H4 ⟨va, vb, rfl, s4, hr4⟩
      refine ⟨_, rfl, q H4 D s4 nD ?_⟩
      rw [show ((fr.map V.int).length + 1 : Int).toNat = fr.length + 1 by rw [List.length_map]; omega] at hr4
      exact hr4
def spEver : Sp := fun vs H Q _ => ∃ (o l d : Addr) (S : De) (p t : Nat), vs = [.ref o, .int p, .int t] ∧ Here H o l d S ∧ ∀ (H' : Hp) (a : Addr), Same H H' → H a = none → EvAt H' a (S.ever p t) → Q (.ref a) H'
theorem dec_nat {x y : Nat} : decide (V.int (x : Int) = V.int (y : Int)) = decide (x = y) := by
  by_cases z : x = y
  · subst z
    simp
  · have z1 : ¬ V.int (x : Int) = V.int (y : Int) := fun e => z (by have := V.int.inj e; omega)
    rw [decide_eq_false z1, decide_eq_false z]
theorem sc_law_ever : FnScope ["_law_here", "_law_phrase", "_law_tongue", "_law_found", "_law_number_here", "_law_one"] ["_law_here", "_law_phrase", "_law_tongue"] (defScope s_law_ever) := ⟨rfl, rfl, rfl, by decide +kernel, rfl, by decide +kernel, by decide +kernel⟩
theorem c_law_ever {P : Program} {w : World} {K : PySem.W.Frag} {mg : Str → Option Value} {base : Heap} (T : Tx K mg) : C8.Cal P w K mg base 1 "_law_ever" (spEver) [] := by
  refine calD T.F_law_ever T.g_law_ever (fun _ _ _ _ _ _ us hl => match us, hl with | [_, _, _], _ => rfl) sc_law_ever (fun vs H Q E h => ?_) (fun cdv A outer s H vs Q E hr h => ?_)
  · obtain ⟨o, l, d, S, p, t, rfl, _⟩ := h
    rfl
  · obtain ⟨o, l, d, S, p, t, rfl, hh, q⟩ := h
    refine ⟨_, (pss_cons (ps_set (i := 3) sc_law_ever.nd rfl (Or.inl rfl) (pe_lst pa_nil))
    (pss_cons (ps_for PassesOwn.never rfl (pi_enum (by rfl) T.f_enumerate (pa_cons (pe_dget (hu_of hr) (pv 0) pe_str (fun _ _ => rfl)) pa_nil)) (pg_tup rfl (pgs_cons (pg_name (i := 4) sc_law_ever.nd rfl (Or.inl rfl)) (pgs_cons (pg_name (i := 5) sc_law_ever.nd rfl (Or.inl rfl)) pgs_nil)))
      (pss_one (ps_if (PW.pt (pw_and (pt_cmpR op_eq (pe_ix ix_tup (pv 5) pe_int (fun _ _ => rfl)) (pv 1) (nomark _)) (pw_and1 (pt_cmpR op_eq (pe_ix ix_tup (pv 5) pe_int (fun _ _ => rfl)) (pv 2) (nomark _)))))
        (pss_one (ps_expr (pe_bm PySem.F.plainAttrs_list PySem.F.slot_list_append PySem.F.type_list_append mt_append (pv 3) (pa_cons (pe_tup (pa_cons (pv 4) (pa_cons (pe_ix ix_tup (pv 5) pe_int (fun _ _ => rfl)) pa_nil))) pa_nil))))
        pss_nil)))
    (pss_one (ps_ret (pv 3))))), ?_⟩
    refine ⟨Nat.zero_le _, fun D nD => ?_⟩
    have s0 : Same H (upd H D (.lst [])) := same_upd nD
    obtain ⟨vs, hv, ha⟩ := hh.puts
    have few := hh.few
    refine ⟨_, rfl, o, _, rfl, DGet.k (k := kU) (hh.same s0).top, l, _, rfl, SqL.of (s0 _ _ hv), ?_⟩
    refine for_it (walk_enum (K := K) (a := l) (xs := vs)) (fun i σ H4 => ∃ va vb : Option V, σ = [some (.ref o), some (.int p), some (.int t), some (.ref D), va, vb] ∧ Same H H4 ∧ EvAt H4 D (evG p t 0 (S.puts.take i))) ⟨none, none, rfl, s0, ⟨[], upd_same, All2.nil⟩⟩ (fun i σ H4 _ ⟨_, _, _, s4, _⟩ => SqL.of (s4 _ _ hv)) ?_ ?_
    · rintro i v σ H4 H5 hi ⟨va, vb, rfl, s4, hE⟩ ⟨U, x, y, rfl, nU, rfl, e1, e2⟩
      cases (Option.some.inj e1)
      obtain ⟨u, eu, b, rfl, hb⟩ := ha.at e2
      have sU : Same H4 (upd H4 U (.tup [V.int (i : Nat), V.ref b])) := same_upd nU
      have hb5 := s4.trans sU _ _ hb
      have hE5 := hE.same sU
      have s5 := s4.trans sU
      have e6 : S.puts.take (i + 1) = S.puts.take i ++ [u] := by rw [List.take_add_one, eu]; rfl
      have li : (S.puts.take i).length = i := by
        rw [List.length_take]
        have := (List.getElem?_eq_some_iff.mp eu).1
        omega
      refine ⟨U, _, rfl, .inl (.inl upd_same), rfl, _, _, rfl, _, _, rfl, rfl, ?_⟩
      generalize upd H4 U (.tup [V.int (i : Nat), V.ref b]) = H5 at hb5 hE5 s5 ⊢
      refine ⟨_, rfl, b, _, _, _, rfl, rfl, SqT.of hb5, atI_nat (j := 0) rfl, _, rfl, rfl, decide (u.p = p), congrArg V.bl dec_nat, ?_⟩
      have no : ¬ (u.p = p ∧ u.t = t) → EvAt H5 D (evG p t 0 (S.puts.take (i + 1))) := by
        intro c
        rw [e6, evG_snoc, if_neg c, List.append_nil]
        exact hE5
      by_cases c1 : u.p = p
      · rw [decide_eq_true c1]
        refine iteT ⟨_, rfl, b, _, _, _, rfl, rfl, SqT.of hb5, atI_nat (j := 1) rfl, _, rfl, rfl, decide (u.t = t), congrArg V.bl dec_nat, ?_⟩
        by_cases c2 : u.t = t
        · rw [decide_eq_true c2]
          obtain ⟨ws, hw, hws⟩ := id hE5
          have hlen : ws.length < sizeLine := by
            rw [hws.len]
            have := evG_len (p := p) (t := t) (l := S.puts.take i) (k := 0)
            rw [li] at this
            have := (List.getElem?_eq_some_iff.mp eu).1
            exact small5000 (by omega)
          refine iteT ⟨_, rfl, .inl ⟨rfl, _, SqL.of hw⟩, _, rfl, _, rfl, b, _, _, _, rfl, rfl, SqT.of hb5, atI_nat (j := 2) rfl, (by show 2 ≤ sizeLine; decide), fun c nc => ?_⟩
          refine ⟨D, _, _, rfl, rfl, same_upd nc _ _ hw, hlen, _, _, rfl, Same.chg (s5.trans (same_upd nc)) nD, ?_⟩
          have z := EvAt.snoc (hE5.same (same_upd nc (o := .tup [V.int (i : Nat), V.str u.x]))) (same_upd nc _ _ hw) (v := .ref c) (e := ((i : Int), u.x)) ⟨c, rfl, upd_same⟩
          rw [e6, evG_snoc, if_pos ⟨c1, c2⟩, li, Nat.zero_add]
          exact z
        · rw [decide_eq_false c2]
          exact iteF ⟨_, _, rfl, s5, no (fun z => c2 z.2)⟩
      · rw [decide_eq_false c1]
        exact iteF (iteF ⟨_, _, rfl, s5, no (fun z => c1 z.1)⟩)
    · rintro σ H4 ⟨va, vb, rfl, s4, hE⟩
      rw [ha.len, List.take_length] at hE
      exact ⟨_, rfl, q H4 D s4 nD hE⟩
def spPutL : Sp := fun vs H Q _ => ∃ (o l d : Addr) (S : De) (p t : Nat) (x : Str) (s : Option Int), vs = [.ref o, .int p, .int t, .str x, oV s] ∧ Here H o l d S ∧ S.puts.length < 5000 ∧
  ∀ H' : Hp, Off o l d H H' → Still H H' d → Here H' o l d (S.lay p t x s) → Q (.int (S.puts.length : Int)) H'
theorem sc_law_put : FnScope ["_law_here", "_law_phrase", "_law_tongue", "_law_text_here", "_law_seen"] ["_law_here", "_law_phrase", "_law_tongue", "_law_text_here", "_law_seen"] (defScope s_law_put) := ⟨rfl, rfl, rfl, by decide +kernel, rfl, by decide +kernel, by decide +kernel⟩
theorem c_law_put {P : Program} {w : World} {K : PySem.W.Frag} {mg : Str → Option Value} {base : Heap} (T : Tx K mg) : C8.Cal P w K mg base 1 "_law_put" (spPutL) [] := by
  refine calD T.F_law_put T.g_law_put (fun _ _ _ _ _ _ us hl => match us, hl with | [_, _, _, _, _], _ => rfl) sc_law_put (fun vs H Q E h => ?_) (fun cdv A outer s H vs Q E hr h => ?_)
  · obtain ⟨o, l, d, S, p, t, x, s, rfl, _⟩ := h
    rfl
  · obtain ⟨o, l, d, S, p, t, x, s, rfl, hh, fw, q⟩ := h
    refine ⟨_, (pss_cons (ps_expr (pe_bm PySem.F.plainAttrs_list PySem.F.slot_list_append PySem.F.type_list_append mt_append (pe_dget (hu_of hr) (pv 0) pe_str (fun _ _ => rfl)) (pa_cons (pe_tup (pa_cons (pv 1) (pa_cons (pv 2) (pa_cons (pv 3) (pa_cons (pv 4) pa_nil))))) pa_nil)))
    (pss_cons (ps_dput (hu_of hr) (pe_dget (hu_of hr) (pv 0) pe_str (fun _ _ => rfl)) (pe_tup (pa_cons (pv 1) (pa_cons (pv 2) pa_nil))) (pe_op op_cat (pe_dget2 (hu_of hr) (pe_dget (hu_of hr) (pv 0) pe_str (fun _ _ => rfl)) (pe_tup (pa_cons (pv 1) (pa_cons (pv 2) pa_nil))) (pe_lst pa_nil) ⟨rfl, rfl, rfl, rfl⟩) (pe_lst (pa_cons (pe_op op_sub (pe_callB call_len_seq (by rfl) T.f_len (by decide +kernel) (pa_cons (pe_dget (hu_of hr) (pv 0) pe_str (fun _ _ => rfl)) pa_nil)) pe_int) pa_nil))) rfl)
    (pss_one (ps_ret (pe_op op_sub (pe_callB call_len_seq (by rfl) T.f_len (by decide +kernel) (pa_cons (pe_dget (hu_of hr) (pv 0) pe_str (fun _ _ => rfl)) pa_nil)) pe_int))))), ?_⟩
    obtain ⟨vs, hv, ha⟩ := hh.puts
    have hlen : vs.length < sizeLine := by
      rw [ha.len]
      exact small5000 (by omega)
    refine ⟨_, rfl, o, _, rfl, DGet.k (k := kU) hh.top, .inl ⟨rfl, _, SqL.of hv⟩, _, rfl, _, rfl, _, rfl, _, rfl, (by show 4 ≤ sizeLine; decide), fun b nb => ?_⟩
    have s1 : Same H (upd H b (.tup [V.int (p : Int), V.int (t : Int), V.str x, oV s])) := same_upd nb
    have hb1 : (upd H b (.tup [V.int (p : Int), V.int (t : Int), V.str x, oV s])) b = some (.tup [V.int (p : Int), V.int (t : Int), V.str x, oV s]) := upd_same
    generalize upd H b (.tup [V.int (p : Int), V.int (t : Int), V.str x, oV s]) = H1 at s1 hb1 ⊢
    have hv1 := s1 _ _ hv
    have hh1 := hh.same s1
    obtain ⟨n1, n2, n3⟩ := hh.ne
    refine ⟨l, _, _, rfl, rfl, hv1, hlen, ?_⟩
    obtain ⟨kvs, hd0, hk, hL0⟩ := hh.lie
    have hd := s1 _ _ hd0
    have hL := fun p t => (hL0 p t).same s1
    have al2 : ∀ c x, H c = some x → ∃ y, (upd H1 l (.lst (vs ++ [.ref b]))) c = some y := by
      intro c x ec
      by_cases cl : c = l
      · rw [cl]
        exact ⟨_, upd_same⟩
      · rw [upd_ne cl]
        exact ⟨x, s1 _ _ ec⟩
    have top2 : (upd H1 l (.lst (vs ++ [.ref b]))) o = some (.dK (topK S.n l d)) := by
      rw [upd_ne n1]
      exact hh1.top
    have hd2 : (upd H1 l (.lst (vs ++ [.ref b]))) d = some (.dT kvs) := by
      rw [upd_ne (Ne.symm n3)]
      exact hd
    have hl2 : (upd H1 l (.lst (vs ++ [.ref b]))) l = some (.lst (vs ++ [.ref b])) := upd_same
    have hL2 : LieV (upd H1 l (.lst (vs ++ [.ref b]))) l (valV kvs (ty p t)) (S.lie p t) := by
      have z := hL p t
      cases ev : valV kvs (ty p t) with
      | none =>
        rw [ev] at z
        exact z
      | some v =>
        rw [ev] at z
        obtain ⟨a, e1, e2, e3⟩ := z
        refine ⟨a, e1, e2, ?_⟩
        unfold LsAt
        rw [upd_ne e2]
        exact e3
    have lay := fun H3 s3 a kvs => @Here.lay H H1 H3 o l d b a S vs kvs p t x s hh fw s1 hb1 hv1 s3
    generalize upd H1 l (.lst (vs ++ [.ref b])) = H2 at top2 hd2 hl2 hL2 lay al2 ⊢
    refine ⟨_, rfl, o, _, rfl, DGet.k (k := kL) top2, d, rfl, .inr ⟨_, .inl hd2⟩, _, rfl, _, rfl, (by show 2 ≤ sizeLine; decide), fun c nc => ⟨Nat.zero_le _, fun e ne => ?_⟩⟩
    have s3 : Same H2 (upd (upd H2 c (.tup [V.int (p : Int), V.int (t : Int)])) e (.lst [])) := (same_upd nc).trans (same_upd ne)
    have hc3 : (upd (upd H2 c (.tup [V.int (p : Int), V.int (t : Int)])) e (.lst [])) c = some (.tup ((ty p t).map kV)) := same_upd ne _ _ upd_same
    have he3 : LsAt (upd (upd H2 c (.tup [V.int (p : Int), V.int (t : Int)])) e (.lst [])) e [] := upd_same
    generalize upd (upd H2 c (.tup [V.int (p : Int), V.int (t : Int)])) e (.lst []) = H3 at s3 hc3 he3 ⊢
    have key : ∃ (a : Addr), (valV kvs (ty p t)).getD (.ref e) = .ref a ∧ LsAt H3 a (S.lie p t) := by
      cases er : valV kvs (ty p t) with
      | none =>
        rw [er] at hL2
        exact ⟨e, rfl, by rw [show S.lie p t = [] from hL2]; exact he3⟩
      | some v =>
        rw [er] at hL2
        obtain ⟨a, h1, _, h2⟩ := hL2
        exact ⟨a, h1, h2.same s3⟩
    obtain ⟨a, ea, ha3⟩ := key
    refine ⟨_, DGet.t (s3 _ _ hd2) hc3, ?_⟩
    rw [ea]
    have ev : (((vs ++ [V.ref b]).length : Nat) : Int) - 1 = (S.puts.length : Int) := by
      rw [List.length_append, List.length_singleton, ha.len]
      omega
    refine ⟨_, rfl, o, _, rfl, DGet.k (k := kU) (s3 _ _ top2), l, _, rfl, .inl (SqL.of (s3 _ _ hl2)), _, _, rfl, rfl, (by show 1 ≤ sizeLine; decide), fun g ng => ?_⟩
    have s4 := s3.trans (same_upd ng (o := .lst [V.int (((vs ++ [V.ref b]).length : Nat) - 1)]))
    have hg4 : (upd H3 g (.lst [V.int (((vs ++ [V.ref b]).length : Nat) - 1)])) g = some (.lst [V.int (((vs ++ [V.ref b]).length : Nat) - 1)]) := upd_same
    have ha4 : LsAt (upd H3 g (.lst [V.int (((vs ++ [V.ref b]).length : Nat) - 1)])) a (S.lie p t) := ha3.same (same_upd ng)
    refine ⟨a, g, _, _, rfl, rfl, ha4, hg4, ?_, fun r nr => ?_⟩
    · have := hh.lens p t
      rw [List.length_map]
      exact Nat.le_of_lt (small5000 (show (S.lie p t).length + 1 ≤ 5000 by omega))
    have s5 := s4.trans (same_upd nr (o := .lst ((S.lie p t).map V.int ++ [V.int (((vs ++ [V.ref b]).length : Nat) - 1)])))
    have hr5 : LsAt (upd (upd H3 g (.lst [V.int (((vs ++ [V.ref b]).length : Nat) - 1)])) r (.lst ((S.lie p t).map V.int ++ [V.int (((vs ++ [V.ref b]).length : Nat) - 1)]))) r (S.lie p t ++ [(S.puts.length : Int)]) := by
      unfold LsAt
      rw [upd_same, List.map_append, ev]
      rfl
    have news : ∀ c x, H c = some x → c ≠ r := by
      rintro c x ec rfl
      obtain ⟨y, ey⟩ := al2 c x ec
      rw [s4 _ _ ey] at nr
      cases nr
    have nrl : r ≠ l := Ne.symm (ne_of_none (s4 _ _ hl2) nr)
    generalize upd (upd H3 g (.lst [V.int (((vs ++ [V.ref b]).length : Nat) - 1)])) r (.lst ((S.lie p t).map V.int ++ [V.int (((vs ++ [V.ref b]).length : Nat) - 1)])) = H5 at s5 hr5 ⊢
    refine ⟨_, rfl, o, _, rfl, DGet.k (k := kL) (s5 _ _ top2), _, rfl, _, rfl, (by show 2 ≤ sizeLine; decide), fun c2 nc2 => ?_⟩
    have s6 := s5.trans (same_upd nc2 (o := .tup [V.int (p : Int), V.int (t : Int)]))
    have hc6 : (upd H5 c2 (.tup [V.int (p : Int), V.int (t : Int)])) c2 = some (.tup ((ty p t).map kV)) := upd_same
    have hr6 := hr5.same (same_upd nc2 (o := .tup [V.int (p : Int), V.int (t : Int)]))
    generalize upd H5 c2 (.tup [V.int (p : Int), V.int (t : Int)]) = H6 at s6 hc6 hr6 ⊢
    obtain ⟨f1, f2⟩ := lay H6 s6 r kvs (s6 _ _ hd2) nrl hr6
    refine ⟨d, _, rfl, DPut.t (s6 _ _ hd2) hc6 (small5000 (by omega)), ?_⟩
    have hl7 : (upd H6 d (.dT (putK kvs (ty p t) (.ref r)))) l = some (.lst (vs ++ [.ref b])) := by
      rw [upd_ne n3]
      exact s6 _ _ hl2
    refine ⟨_, rfl, o, _, rfl, DGet.k (k := kU) f1.top, l, _, rfl, .inl (SqL.of hl7), _, _, rfl, rfl, ?_⟩
    have z := q _ f2 (still_put hh hd0 news) f1
    rw [← ev] at z
    exact z

def spLikes : Sp := fun vs H Q _ => ∃ (o l d : Addr) (S : De) (f : Addr) (fr : List Int) (p t : Nat), vs = [.ref o, .ref f, .int p, .int t] ∧ Here H o l d S ∧ S.Ok fr ∧ LsAt H f fr ∧ FrOk fr ∧ 0 < t ∧ t ≤ fr.length ∧
  ∀ (H' : Hp) (a : Addr) (ts : List Str), Same H H' → H a = none → H' a = some (.lst (ts.map V.str)) → sortedS ts = true → ts.Nodup → (∀ y, y ∈ ts ↔ y ∈ S.found fr p t S.n) → Q (.ref a) H'
theorem sc_law_likes : FnScope ["_law_here", "_law_froms_here", "_law_phrase", "_law_tongue", "_law_above", "_law_found", "_law_mine", "_law_other", "_law_theirs", "_law_row_here", "_law_puts"] ["_law_here", "_law_froms_here", "_law_phrase", "_law_tongue"] (defScope s_law_likes) := ⟨rfl, rfl, rfl, by decide +kernel, rfl, by decide +kernel, by decide +kernel⟩
theorem c_law_likes {P : Program} {w : World} {K : PySem.W.Frag} {mg : Str → Option Value} {base : Heap} (T : Tx K mg) : C8.Cal P w K mg base 3 "_law_likes" (spLikes) [] := by
  refine calD T.F_law_likes T.g_law_likes (fun _ _ _ _ _ _ us hl => match us, hl with | [_, _, _, _], _ => rfl) sc_law_likes (fun vs H Q E h => ?_) (fun cdv A outer s H vs Q E hr h => ?_)
  · obtain ⟨o, l, d, S, f, fr, p, t, rfl, _⟩ := h
    rfl
  · obtain ⟨o, l, d, S, f, fr, p, t, rfl, hh, ok, hf, fo, t0, t1, q⟩ := h
    refine ⟨_, (pss_cons (ps_par (i := 4) (j := 5) (by rfl) sc_law_likes.nd rfl rfl (by decide) rfl rfl (pa_cons (pe_ix ix_list (pv 1) (pe_op op_sub (pv 3) pe_int) (fun _ _ => rfl)) (pa_cons (pe_lst pa_nil) pa_nil)) (by rfl))
    (pss_cons (ps_set (i := 6) sc_law_likes.nd rfl (Or.inl rfl) (C8.pe_c (c_law_now T) hr (by decide) rfl (pa_cons (pv 0) (pa_cons (pv 2) (pa_cons (pv 4) pa_nil)))))
    (pss_cons (ps_for PassesOwn.never rfl (pi_range1 (by rfl) T.f_range (pa_cons (pe_dget (hu_of hr) (pv 0) pe_str (fun _ _ => rfl)) pa_nil)) (pg_name (i := 7) sc_law_likes.nd rfl (Or.inl rfl))
      (pss_cons (ps_set (i := 8) sc_law_likes.nd rfl (Or.inl rfl) (C8.pe_c (c_law_now T) hr (by decide) rfl (pa_cons (pv 0) (pa_cons (pv 7) (pa_cons (pv 4) pa_nil)))))
      (pss_one (ps_if (PW.pt (pw_and (pt_cmpR op_ne (pv 7) (pv 2) (nomark _)) (pw_and (pt_cmpR op_notN (pv 6) pe_non (nomark _)) (pw_and1 (pt_cmpR op_notN (pv 8) pe_non (nomark _))))))
        (pss_cons (ps_par (i := 9) (j := 10) (by rfl) sc_law_likes.nd rfl rfl (by decide) rfl rfl (pa_cons (C8.pe_c (c_law_row T) hr (by decide) rfl (pa_cons (pv 0) (pa_cons (pv 1) (pa_cons (pv 7) pa_nil)))) (pa_cons (pe_dget (hu_of hr) (pv 0) pe_str (fun _ _ => rfl)) pa_nil)) (by rfl))
        (pss_one (ps_if (PW.pt (pw_and (pt_cmpR op_eq (pe_ix ix_tup (pe_ix ix_list (pv 10) (pv 6) (fun _ _ => rfl)) pe_int (fun _ _ => rfl)) (pe_ix ix_tup (pe_ix ix_list (pv 10) (pv 8) (fun _ _ => rfl)) pe_int (fun _ _ => rfl)) (nomark _)) (pw_and1 (pt_cmpR (op_eqD hr.units) (C8.pe_c (c_law_chain T) hr (by decide) rfl (pa_cons (pv 1) (pa_cons (pv 9) (pa_cons (pv 3) pa_nil)))) (pe_lst pa_nil) (nomark _)))))
          (pss_one (ps_expr (pe_bm PySem.F.plainAttrs_list PySem.F.slot_list_append PySem.F.type_list_append mt_append (pv 5) (pa_cons (pe_ix ix_tup (pe_ix ix_list (pe_dget (hu_of hr) (pv 0) pe_str (fun _ _ => rfl)) (C8.pe_c (c_law_now T) hr (by decide) rfl (pa_cons (pv 0) (pa_cons (pv 7) (pa_cons (pv 3) pa_nil)))) (fun _ _ => rfl)) pe_int (fun _ _ => rfl)) pa_nil))))
          pss_nil)))
        pss_nil))))
    (pss_one (ps_ret (pe_srt rfl (by rfl) T.f_sorted (by rfl) T.f_set (pv 5))))))), ?_⟩
    obtain ⟨x, ex, x0, xl, xu⟩ := fo.at t0 t1
    have hi7 := fo.hi
    have n6 := ok.six
    refine ⟨_, rfl, _, rfl, _, _, rfl, rfl, f, _, _, V.int x, rfl, rfl, SqL.of hf, at_of (j := t - 1) (by omega) (ivs ex), Nat.zero_le _, fun D nD => ⟨_, _, rfl, ?_⟩⟩
    subst xu
    have s0 : Same H (upd H D (.lst [])) := same_upd nD
    have hD0 : (upd H D (.lst [])) D = some (.lst (([] : List Str).map V.str)) := upd_same
    generalize upd H D (.lst []) = H0 at s0 hD0 ⊢
    refine ⟨_, rfl, _, rfl, _, rfl, o, l, d, S, p, up fr t, rfl, hh.same s0, fun H1 s1 => ?_⟩
    have s01 := s0.trans s1
    refine ⟨_, rfl, o, _, rfl, DGet.k (k := kP) (hh.same s01).top, _, rfl, by omega, by omega, ?_⟩
    refine for_range (lo := 0) (n := (S.n : Int).toNat) (fun i σ H4 => ∃ va vb vc vd : Option V, σ = [some (.ref o), some (.ref f), some (.int p), some (.int t), some (.int (up fr t)), some (.ref D), some (oV (S.now p (up fr t))), va, vb, vc, vd] ∧ Same H H4 ∧ H4 D = some (.lst ((S.found fr p t i).map V.str))) ⟨none, none, none, none, rfl, s01, s1 _ _ hD0⟩ ?_ ?_
    · rintro i σ H4 hi ⟨va, vb, vc, vd, rfl, s4, hD4⟩
      have hin : i < S.n := by omega
      rw [show (0 + (i : Int)) = (i : Int) from Int.zero_add _]
      refine ⟨_, rfl, _, rfl, _, rfl, o, l, d, S, i, up fr t, rfl, hh.same s4, fun H5 s5 => ?_⟩
      have s45 := s4.trans s5
      have hD5 := s5 _ _ hD4
      have no : ∀ (H6 : Hp) (vc vd : Option V), Same H5 H6 → S.like fr p t i = false → ∃ va vb vc' vd' : Option V, [some (V.ref o), some (V.ref f), some (V.int p), some (V.int t), some (V.int (up fr t)), some (V.ref D), some (oV (S.now p (up fr t))), some (V.int i), some (oV (S.now i (up fr t))), vc, vd] = [some (.ref o), some (.ref f), some (.int p), some (.int t), some (.int (up fr t)), some (.ref D), some (oV (S.now p (up fr t))), va, vb, vc', vd'] ∧ Same H H6 ∧ H6 D = some (.lst ((S.found fr p t (i + 1)).map V.str)) := by
        intro H6 vc vd s6 e
        refine ⟨_, _, _, _, rfl, s45.trans s6, ?_⟩
        rw [De.found_no e]
        exact s6 _ _ hD5
      refine ⟨_, rfl, _, rfl, rfl, !decide (i = p), ?_, ?_⟩
      · exact congrArg (fun b => V.bl (!b)) dec_nat
      by_cases c1 : i = p
      · rw [decide_eq_true c1]
        refine iteF (iteF (no H5 _ _ (Same.refl _) ?_))
        unfold De.like
        rw [decide_eq_false (fun z => z c1), Bool.false_and]
      rw [decide_eq_false c1]
      refine iteT ⟨_, rfl, rfl, !decide (oV (S.now p (up fr t)) = .non), rfl, ?_⟩
      cases em : S.now p (up fr t) with
      | none =>
        rw [em] at no
        refine iteF (iteF (no H5 _ _ (Same.refl _) ?_))
        unfold De.like
        rw [em, Option.isSome_none, Bool.false_and, Bool.and_false]
      | some m =>
      rw [em] at no
      refine iteT ⟨_, rfl, rfl, !decide (oV (S.now i (up fr t)) = .non), rfl, ?_⟩
      cases eh : S.now i (up fr t) with
      | none =>
        rw [eh] at no
        refine iteF (no H5 _ _ (Same.refl _) ?_)
        unfold De.like
        rw [eh, Option.isSome_none, Bool.false_and, Bool.and_false, Bool.and_false]
      | some h =>
      rw [eh] at no
      obtain ⟨m0, um, eum, _, _⟩ := ok.num.now em
      obtain ⟨h0, uh, euh, _, _⟩ := ok.num.now eh
      have lk : S.like fr p t i = (decide (um.x = uh.x) && (chain fr (S.row (fr.length + 1) i) t).isNone) := by
        unfold De.like De.tx
        rw [em, eh, decide_eq_true c1, Option.isSome_some, Option.isSome_some, Bool.true_and, Bool.true_and, Bool.true_and]
        show (decide ((S.pt m).x = (S.pt h).x) && _) = _
        rw [De.pt_at eum, De.pt_at euh]
      refine iteT ⟨_, rfl, _, rfl, _, rfl, o, l, d, S, f, fr, i, rfl, hh.same s45, ok.num, hf.same s45, by omega, fun H6 r s6 nr hr6 => ?_⟩
      have s06 := s45.trans s6
      have hh6 := hh.same s06
      obtain ⟨vs, bm, hl6, am, hm⟩ := hh6.put_at m0 eum
      obtain ⟨vs', bh, hl6', ah, hhh⟩ := hh6.put_at h0 euh
      rw [hl6] at hl6'
      cases (HO.lst.inj (Option.some.inj hl6'))
      refine ⟨_, rfl, o, _, rfl, DGet.k (k := kU) hh6.top, _, _, rfl, ?_⟩
      refine ⟨_, rfl, _, rfl, l, _, _, _, rfl, rfl, SqL.of hl6, am, bm, _, _, _, rfl, rfl, SqT.of hm, atI_nat (j := 2) rfl, _, rfl, _, rfl, l, _, _, _, rfl, rfl, SqL.of hl6, ah, bh, _, _, _, rfl, rfl, SqT.of hhh, atI_nat (j := 2) rfl, rfl, decide (um.x = uh.x), ?_, ?_⟩
      · refine congrArg V.bl ?_
        by_cases z : um.x = uh.x
        · rw [decide_eq_true z, decide_eq_true (congrArg V.str z)]
        · rw [decide_eq_false z, decide_eq_false (fun y => z (V.str.inj y))]
      by_cases c2 : um.x = uh.x
      · rw [decide_eq_true c2]
        rw [decide_eq_true c2, Bool.true_and] at lk
        refine iteT ⟨_, rfl, _, rfl, _, rfl, f, fr, r, _, t, rfl, ⟨hf.same s06, fo, hr6, ok.row hin, t1⟩, fun H7 ch s7 nch hch => ⟨Nat.zero_le _, fun g ng => ⟨_, _, dp_ints (hch.same (same_upd ng)), dp_ints (ns := []) upd_same, shaped_ints _, shaped_ints _, (chain fr (S.row (fr.length + 1) i) t).isNone, ?_, ?_⟩⟩⟩
        · rw [eqv_ints]
          refine congrArg V.bl ?_
          cases ec : chain fr (S.row (fr.length + 1) i) t with
          | none => rfl
          | some c =>
            have := (chain_mem fo t c t1 ec).1
            exact decide_eq_false this
        have s68 : Same H6 (upd H7 g (.lst [])) := s7.trans (same_upd ng)
        cases ec : chain fr (S.row (fr.length + 1) i) t with
        | some c =>
          rw [ec] at lk
          exact iteF (no _ _ _ (s6.trans s68) lk)
        | none =>
          rw [ec] at lk
          obtain ⟨k, ek⟩ := De.fresh_now fo t0 t1 ec
          obtain ⟨k0, uk, euk, _, _⟩ := ok.num.now ek
          have s08 := s06.trans s68
          have hD8 := s68 _ _ (s6 _ _ hD5)
          generalize upd H7 g (.lst []) = H8 at s68 s08 hD8 ⊢
          refine iteT ⟨_, rfl, .inl ⟨rfl, _, SqL.of hD8⟩, _, rfl, o, _, rfl, DGet.k (k := kU) (hh.same s08).top, _, rfl, _, rfl, _, rfl, o, l, d, S, i, t, rfl, hh.same s08, fun H9 s9 => ?_⟩
          have s09 := s08.trans s9
          obtain ⟨ws, bk, hl9, ak, hk⟩ := (hh.same s09).put_at k0 euk
          rw [ek]
          have fl := De.found_len (fr := fr) (S := S) (p := p) (t := t) (i := i)
          refine ⟨l, _, _, _, rfl, rfl, SqL.of hl9, ak, bk, _, _, _, rfl, rfl, SqT.of hk, atI_nat (j := 2) rfl, D, _, _, rfl, rfl, s9 _ _ hD8, ?_, _, _, _, _, rfl, Same.chg s09 nD, ?_⟩
          · rw [List.length_map]
            exact small1000 (by omega)
          · rw [upd_same, De.found_yes lk, List.map_append]
            unfold De.tx
            rw [ek]
            show _ = some (HO.lst (_ ++ [V.str (S.pt k).x]))
            rw [De.pt_at euk]
      · rw [decide_eq_false c2]
        rw [decide_eq_false c2, Bool.false_and] at lk
        exact iteF (iteF (no H6 _ _ s6 lk))
    · rintro σ H4 ⟨va, vb, vc, vd, rfl, s4, hD4⟩
      rw [show (S.n : Int).toNat = S.n by omega] at hD4
      have fl := De.found_len (fr := fr) (S := S) (p := p) (t := t) (i := S.n)
      refine ⟨_, rfl, D, _, rfl, SqL.of hD4, by omega, fun ts a srt nd mem na => ?_⟩
      exact q _ a ts (s4.trans (same_upd na)) (s4.free na) upd_same srt nd mem

def spDeed (K : PySem.W.Frag) : Sp := fun vs H Q _ => ∃ (a : Addr) (ns : List Int) (b at_ : Int) (o l d : Addr) (S : De) (f : Addr) (fr : List Int), vs = [.ref a, .int b, .int at_, .ref o, .ref f] ∧ SqL K H a (ns.map V.int) ∧ 0 ≤ b ∧ b ≤ 100 ∧ 0 ≤ at_ ∧ at_ ≤ 100 ∧ Here H o l d S ∧ S.Ok fr ∧ LsAt H f fr ∧ FrOk fr ∧
  ∀ (H' : Hp) (q : Addr) (dd : Deed), Same H H' → H q = none → H' q = some (.tup dd.vals) → S.May fr dd → (S.n = 0 → ∃ x, dd = .phrase x) → Q (.ref q) H'
theorem sc_law_deed : FnScope ["_law_script", "_law_by", "_law_at", "_law_here", "_law_froms_here", "_law_cell", "_law_kind", "_law_count", "_law_text_here", "_law_phrase", "_law_tongue", "_law_lying", "_law_seen", "_law_some", "_law_number_here", "_law_one"] ["_law_script", "_law_by", "_law_at", "_law_here", "_law_froms_here"] (defScope s_law_deed) := ⟨rfl, rfl, rfl, by decide +kernel, rfl, by decide +kernel, by decide +kernel⟩
theorem c_law_deed {P : Program} {w : World} {K : PySem.W.Frag} {mg : Str → Option Value} {base : Heap} (T : Tx K mg) : C8.Cal P w K mg base 3 "_law_deed" (spDeed K) [] := by
  refine calD T.F_law_deed T.g_law_deed (fun _ _ _ _ _ _ us hl => match us, hl with | [_, _, _, _, _], _ => rfl) sc_law_deed (fun vs H Q E h => ?_) (fun cdv A outer s H vs Q E hr h => ?_)
  · obtain ⟨a, ns, b, at_, o, l, d, S, f, fr, rfl, _⟩ := h
    rfl
  · obtain ⟨a, ns, b, at_, o, l, d, S, f, fr, rfl, hS, b0, b1, a0, a1, hh, ok, hf, fo, q⟩ := h
    refine ⟨_, (pss_cons (ps_set (i := 5) sc_law_deed.nd rfl (Or.inl rfl) (pe_op op_add (C8.pe_c (c_law_cell_at T) hr (by decide) rfl (pa_cons (pv 0) (pa_cons (pe_op op_add (pv 1) (pe_op op_modN (pv 2) pe_int)) pa_nil))) (pe_op op_mul pe_int (pv 2))))
    (pss_cons (ps_par (i := 6) (j := 7) (by rfl) sc_law_deed.nd rfl rfl (by decide) rfl rfl (pa_cons (C8.pe_c (c_law_number T) hr (by decide) rfl (pa_cons (pv 5) (pa_cons (pv 2) (pa_cons pe_int pa_nil)))) (pa_cons (pe_dget (hu_of hr) (pv 3) pe_str (fun _ _ => rfl)) pa_nil)) (by rfl))
    (pss_cons (ps_set (i := 8) sc_law_deed.nd rfl (Or.inl rfl) (C8.pe_c (c_law_text T) hr (by decide) rfl (pa_cons (C8.pe_c (c_law_number T) hr (by decide) rfl (pa_cons (pv 5) (pa_cons (pe_op op_add (pv 2) pe_int) (pa_cons (pe_ix ix_tup (pe_tup (pa_cons pe_int (pa_cons pe_int pa_nil))) (C8.pe_c (c_law_number T) hr (by decide) rfl (pa_cons (pe_op op_add (pv 5) pe_int) (pa_cons (pe_op op_add (pv 2) pe_int) (pa_cons pe_int pa_nil)))) (fun _ _ => rfl)) pa_nil)))) pa_nil)))
    (C8.pss_cut (ps_if (PW.pt (pw_or (pt_cmpR op_eq (pv 7) pe_int (nomark _)) (pw_or1 (PW.pt (pw_and (pt_cmpR op_lt (pv 6) pe_int (nomark _)) (pw_and1 (pt_cmpR op_lt (pv 7) pe_int (nomark _))))))))
      (pss_one (ps_ret (pe_tup (pa_cons pe_str (pa_cons (pv 8) pa_nil)))))
      pss_nil)
    (pss_cons (ps_par (i := 9) (j := 10) (by rfl) sc_law_deed.nd rfl rfl (by decide) rfl rfl (pa_cons (C8.pe_c (c_law_number T) hr (by decide) rfl (pa_cons (pv 5) (pa_cons (pe_op op_add (pv 2) pe_int) (pa_cons (pv 7) pa_nil)))) (pa_cons (C8.pe_c (c_law_number T) hr (by decide) rfl (pa_cons (pv 5) (pa_cons (pe_op op_add (pv 2) pe_int) (pa_cons (pe_op op_add (pe_callB call_len_seq (by rfl) T.f_len (by decide +kernel) (pa_cons (pv 4) pa_nil)) pe_int) pa_nil)))) pa_nil)) (by rfl))
    (C8.pss_cut (ps_if (PW.pt (pw_and (pt_cmpR op_eq (pv 6) pe_int (nomark _)) (pw_and1 (pt_cmpR op_gt (pv 10) pe_int (nomark _)))))
      (pss_one (ps_ret (pe_tup (pa_cons pe_str (pa_cons (pv 10) pa_nil)))))
      pss_nil)
    (pss_cons (ps_set (i := 11) sc_law_deed.nd rfl (Or.inl rfl) (pe_dget2 (hu_of hr) (pe_dget (hu_of hr) (pv 3) pe_str (fun _ _ => rfl)) (pe_tup (pa_cons (pv 9) (pa_cons (pv 10) pa_nil))) (pe_lst pa_nil) ⟨rfl, rfl, rfl, rfl⟩))
    (C8.pss_cut (ps_if (PW.pt (pw_and (pt_cmpR op_lt (pv 6) pe_int (nomark _)) (pw_and1 (pt_cmpR op_gt (pe_callB call_len_seq (by rfl) T.f_len (by decide +kernel) (pa_cons (pv 11) pa_nil)) (pe_callTy call_int1 (by rfl) T.f_int (by decide +kernel) (pa_cons (pe_cmpR op_eq (pv 10) pe_int (nomark _)) pa_nil)) (nomark _)))))
      (pss_one (ps_ret (pe_tup (pa_cons pe_str (pa_cons (pv 9) (pa_cons (pv 10) pa_nil))))))
      pss_nil)
    (pss_cons (ps_set (i := 12) sc_law_deed.nd rfl (Or.inl rfl) pe_non)
    (C8.pss_cut (ps_if (pt_cmpR op_gt (pv 10) pe_int (nomark _))
      (pss_cons (ps_setLc (i := 13) (own := [("_law_number_here", 14), ("_law_one", 15)]) (g := gTup K 2 (gCons (gName 14) (gCons (gName 15) (gNil)))) (tt := tYes) (by rfl) sc_law_deed.nd rfl rfl (sw_true rfl rfl rfl (by decide +kernel)) (pi_list (C8.pe_c (c_law_ever T) hr (by decide) rfl (pa_cons (pv 3) (pa_cons (pv 9) (pa_cons (pe_ix ix_list (pv 4) (pe_op op_sub (pv 10) pe_int) (fun _ _ => rfl)) pa_nil))))) (blkOk_by (own := [("_law_number_here", 14), ("_law_one", 15)]) (N := ["_law_script", "_law_by", "_law_at", "_law_here", "_law_froms_here", "_law_cell", "_law_kind", "_law_count", "_law_text_here", "_law_phrase", "_law_tongue", "_law_lying", "_law_seen", "_law_some", "_law_number_here", "_law_one"]) (sc := defScope s_law_deed) (by decide +kernel)) (fun _ _ _ _ _ => (pg_tup rfl (pgs_cons (pg_name (i := 14) sc_law_deed.nd rfl (Or.inl rfl) (Or.inr rfl)) (pgs_cons (pg_name (i := 15) sc_law_deed.nd rfl (Or.inl rfl) (Or.inr rfl)) pgs_nil)))) (fun _ _ _ _ _ => pts_nil) (fun _ _ _ _ _ => (pv 14)))
      (pss_cons (ps_set (i := 12) sc_law_deed.nd rfl (Or.inl rfl) (C8.pe_c (c_law_now T) hr (by decide) rfl (pa_cons (pv 3) (pa_cons (pv 9) (pa_cons (pe_ix ix_list (pv 4) (pe_op op_sub (pv 10) pe_int) (fun _ _ => rfl)) pa_nil)))))
      (pss_cons (ps_if (pt_cmpR (op_eqD hr.units) (pv 13) (pe_lst pa_nil) (nomark _))
        (pss_one (ps_ret (pe_tup (pa_cons pe_str (pa_cons (pv 9) (pa_cons pe_int (pa_cons (pv 8) (pa_cons pe_non (pa_cons (C8.pe_c (c_law_now T) hr (by decide) rfl (pa_cons (pv 3) (pa_cons (pv 9) (pa_cons pe_int pa_nil)))) pa_nil)))))))))
        pss_nil)
      (pss_one (ps_set (i := 12) sc_law_deed.nd rfl (Or.inl rfl) (pe_ifExp (PW.pt (pw_or (pt_cmpR op_gt (pv 6) pe_int (nomark _)) (pw_or1 (pt_cmpR op_isN (pv 12) pe_non (nomark _))))) (pe_ix ix_list (pv 13) (C8.pe_c (c_law_number T) hr (by decide) rfl (pa_cons (pv 5) (pa_cons (pe_op op_add (pv 2) pe_int) (pa_cons (pe_callB call_len_seq (by rfl) T.f_len (by decide +kernel) (pa_cons (pv 13) pa_nil)) pa_nil)))) (fun _ _ => rfl)) (pv 12)))))))
      pss_nil)
    (pss_one (ps_ret (pe_tup (pa_cons pe_str (pa_cons (pv 9) (pa_cons (pv 10) (pa_cons (pv 8) (pa_cons (pv 12) (pa_cons (C8.pe_c (c_law_now T) hr (by decide) rfl (pa_cons (pv 3) (pa_cons (pv 9) (pa_cons (pv 10) pa_nil)))) pa_nil))))))))))))))))))), ?_⟩
    have hi7 := fo.hi
    have n6 := ok.six
    have m0 : 0 ≤ Int.fmod at_ 9 := fmod_lo (by decide)
    refine ⟨_, rfl, _, rfl, _, rfl, _, _, rfl, rfl, (show (9 : Int) ≠ 0 by decide), _, _, rfl, rfl, a, ns, _, rfl, hS, by omega, fun cy => ⟨_, rfl, _, _, rfl, rfl, .inl ⟨by decide, by decide⟩, _, _, rfl, rfl, ?_⟩⟩
    refine ⟨_, rfl, _, rfl, _, _, _, rfl, by omega, by omega, by decide, by decide, fun H1 kd s1 k0 k1 => ⟨_, rfl, o, _, rfl, DGet.k (k := kP) (hh.same s1).top, _, _, rfl, ?_⟩⟩
    refine ⟨_, rfl, _, rfl, _, _, rfl, rfl, (by show 2 ≤ sizeLine; decide), fun t2 nt2 => ?_⟩
    have s2 := s1.trans (same_upd nt2 (o := .tup [V.int 3, V.int 936]))
    have ht2 : (upd H1 t2 (.tup [V.int 3, V.int 936])) t2 = some (.tup [V.int 3, V.int 936]) := upd_same
    generalize upd H1 t2 (.tup [V.int 3, V.int 936]) = H2 at s2 ht2 ⊢
    refine ⟨_, rfl, _, _, rfl, rfl, _, rfl, _, _, rfl, rfl, _, _, _, rfl, by omega, by omega, by decide, by decide, fun H3 z s3 z0 z1 => ?_⟩
    obtain ⟨lm, elm, lm0, lm1⟩ : ∃ y : Int, [V.int 3, V.int 936][z.toNat]? = some (V.int y) ∧ 0 < y ∧ y ≤ 100000000000000000000 := by
      have hk : z = 0 ∨ z = 1 := by omega
      rcases hk with rfl | rfl
      · exact ⟨_, rfl, by decide, by decide⟩
      · exact ⟨_, rfl, by decide, by decide⟩
    refine ⟨t2, _, _, V.int lm, rfl, rfl, SqT.of (s3 _ _ ht2), at_of (j := z.toNat) (by omega) elm, _, _, _, rfl, by omega, by omega, lm0, lm1, fun H4 y s4 y0 y1 => ⟨_, rfl, y0, fun x tx => ?_⟩⟩
    have s04 := (s2.trans s3).trans s4
    have hh4 := hh.same s04
    -- a phrase
    have ph : S.n < 6 → ∀ (t3 : Addr), H4 t3 = none → Q (.ref t3) (upd H4 t3 (.tup [V.str "phrase", V.str x])) := fun n6 t3 n3 => q _ t3 (.phrase x) (s04.trans (same_upd n3)) (s04.free n3) upd_same ⟨n6, tx⟩ fun _ => ⟨x, rfl⟩
    refine ⟨fun σ' H' => 0 < S.n ∧ H' = H4 ∧ σ' = [some (.ref a), some (.int b), some (.int at_), some (.ref o), some (.ref f), some (.int (cy + 31 * at_)), some (.int kd), some (.int S.n), some (.str x), none, none, none, none, none, none, none], ?_, ?_⟩
    · refine ⟨_, rfl, rfl, decide (S.n = 0), congrArg V.bl (dec_nat (y := 0)), ?_⟩
      by_cases c0 : S.n = 0
      · rw [decide_eq_true c0]
        exact iteT ⟨_, rfl, (by show 2 ≤ sizeLine; decide), fun t3 n3 => ph (by omega) t3 n3⟩
      rw [decide_eq_false c0]
      refine iteF ⟨_, rfl, _, _, rfl, rfl, decide (kd < 2), rfl, ?_⟩
      by_cases c1 : kd < 2
      · rw [decide_eq_true c1]
        refine iteT ⟨_, rfl, _, _, rfl, rfl, decide ((S.n : Int) < 6), rfl, ?_⟩
        by_cases c2 : (S.n : Int) < 6
        · rw [decide_eq_true c2]
          exact iteT ⟨_, rfl, (by show 2 ≤ sizeLine; decide), fun t3 n3 => ph (by omega) t3 n3⟩
        · rw [decide_eq_false c2]
          exact iteF ⟨by omega, rfl, rfl⟩
      · rw [decide_eq_false c1]
        exact iteF (iteF ⟨by omega, rfl, rfl⟩)
    rintro σ' H' ⟨c0, rfl, rfl⟩
    refine ⟨_, rfl, _, rfl, _, _, rfl, rfl, _, rfl, _, _, _, rfl, by omega, by omega, by omega, by omega, fun H5 pi s5 p0 p1 => ?_⟩
    refine ⟨_, rfl, _, rfl, _, _, rfl, rfl, _, rfl, f, _, rfl, .inl (SqL.of ((hf.same s04).same s5)), _, _, rfl, rfl, _, _, _, rfl, by omega, by omega, by rw [List.length_map]; omega, by rw [List.length_map]; omega, fun H6 ti s6 t0 t1 => ⟨_, _, rfl, ?_⟩⟩
    rw [List.length_map] at t1
    obtain ⟨p, rfl⟩ : ∃ p : Nat, pi = (p : Int) := ⟨pi.toNat, by omega⟩
    obtain ⟨t, rfl⟩ : ∃ t : Nat, ti = (t : Int) := ⟨ti.toNat, by omega⟩
    have hp : p < S.n := by omega
    have ht : t ≤ fr.length := by omega
    have s06 := (s04.trans s5).trans s6
    clear s5 s6
    -- a filling
    refine ⟨fun σ' H' => H' = H6 ∧ σ' = [some (.ref a), some (.int b), some (.int at_), some (.ref o), some (.ref f), some (.int (cy + 31 * at_)), some (.int kd), some (.int S.n), some (.str x), some (.int p), some (.int t), none, none, none, none, none], ?_, ?_⟩
    · refine ⟨_, rfl, rfl, decide (V.int kd = V.int 2), rfl, ?_⟩
      by_cases c1 : V.int kd = V.int 2
      · rw [decide_eq_true c1]
        refine iteT ⟨_, rfl, _, _, rfl, rfl, decide ((0 : Int) < (t : Int)), rfl, ?_⟩
        by_cases c2 : (0 : Int) < (t : Int)
        · rw [decide_eq_true c2]
          exact iteT ⟨_, rfl, (by show 2 ≤ sizeLine; decide), fun t3 n3 => q _ t3 (.fill t) (s06.trans (same_upd n3)) (s06.free n3) upd_same ⟨by omega, ht⟩ fun z => by omega⟩
        · rw [decide_eq_false c2]
          exact iteF ⟨rfl, rfl⟩
      · rw [decide_eq_false c1]
        exact iteF (iteF ⟨rfl, rfl⟩)
    rintro σ' H' ⟨rfl, rfl⟩
    have hh6 := hh.same s06
    refine ⟨_, rfl, o, _, rfl, DGet.k (k := kL) hh6.top, d, rfl, hh6.isD, _, rfl, _, rfl, (by show 2 ≤ sizeLine; decide), fun c nc => ⟨Nat.zero_le _, fun e ne => ?_⟩⟩
    have s7 := s06.trans ((same_upd nc (o := .tup [V.int (p : Int), V.int (t : Int)])).trans (same_upd ne (o := .lst [])))
    have hb7 : (upd (upd H' c (.tup [V.int (p : Int), V.int (t : Int)])) e (.lst [])) c = some (.tup ((ty p t).map kV)) := same_upd ne _ _ upd_same
    have he7 : LsAt (upd (upd H' c (.tup [V.int (p : Int), V.int (t : Int)])) e (.lst [])) e [] := upd_same
    generalize upd (upd H' c (.tup [V.int (p : Int), V.int (t : Int)])) e (.lst []) = H7 at s7 hb7 he7 ⊢
    obtain ⟨r, g, lv⟩ := lieOf (hh.same s7) p t hb7
    have key : ∃ (a : Addr), r.getD (.ref e) = .ref a ∧ LsAt H7 a (S.lie p t) := by
      cases r with
      | none => exact ⟨e, rfl, by rw [show S.lie p t = [] from lv]; exact he7⟩
      | some v =>
        obtain ⟨a, h1, _, h2⟩ := lv
        exact ⟨a, h1, h2⟩
    obtain ⟨ly, ea, hly⟩ := key
    refine ⟨r, g, ?_⟩
    rw [ea]
    -- taken back
    refine ⟨fun σ' H' => H' = H7 ∧ σ' = [some (.ref a), some (.int b), some (.int at_), some (.ref o), some (.ref f), some (.int (cy + 31 * at_)), some (.int kd), some (.int S.n), some (.str x), some (.int p), some (.int t), some (.ref ly), none, none, none, none], ?_, ?_⟩
    · refine ⟨_, rfl, _, _, rfl, rfl, decide (kd < 4), rfl, ?_⟩
      by_cases c1 : kd < 4
      · rw [decide_eq_true c1]
        refine iteT ⟨_, rfl, ly, _, rfl, .inl (SqL.of hly), _, rfl, rfl, .inr ⟨decide (t = 0), by rw [show decide (V.int (t : Int) = V.int 0) = decide (t = 0) from dec_nat (y := 0)], ?_⟩⟩
        refine ⟨_, _, rfl, rfl, decide ((if t = 0 then 1 else 0) < (S.lie p t).length), ?_, ?_⟩
        · refine congrArg V.bl ?_
          rw [List.length_map]
          by_cases c2 : t = 0
          · rw [decide_eq_true c2, if_pos c2]
            exact decide_eq_decide.mpr (by rw [if_pos rfl]; omega)
          · rw [decide_eq_false c2, if_neg c2]
            exact decide_eq_decide.mpr (by rw [if_neg (by decide)]; omega)
        by_cases c3 : (if t = 0 then 1 else 0) < (S.lie p t).length
        · rw [decide_eq_true c3]
          exact iteT ⟨_, rfl, _, rfl, (by show 3 ≤ sizeLine; decide), fun t3 n3 => q _ t3 (.back p t) (s7.trans (same_upd n3)) (s7.free n3) upd_same ⟨hp, ht, c3⟩ fun z => by omega⟩
        · rw [decide_eq_false c3]
          exact iteF ⟨rfl, rfl⟩
      · rw [decide_eq_false c1]
        exact iteF (iteF ⟨rfl, rfl⟩)
    rintro σ' H' ⟨rfl, rfl⟩
    -- what it is put from
    refine ⟨fun σ' H8 => ∃ (se : Option Int) (v13 v14 v15 : Option V), Same H' H8 ∧ S.Seen fr p t se ∧ σ' = [some (.ref a), some (.int b), some (.int at_), some (.ref o), some (.ref f), some (.int (cy + 31 * at_)), some (.int kd), some (.int S.n), some (.str x), some (.int p), some (.int t), some (.ref ly), some (oV se), v13, v14, v15], ?_, ?_⟩
    · refine ⟨_, rfl, _, _, rfl, rfl, decide ((0 : Int) < (t : Int)), rfl, ?_⟩
      by_cases c1 : (0 : Int) < (t : Int)
      · rw [decide_eq_true c1]
        obtain ⟨xx, ex, x0, xl, xu⟩ := fo.at (t := t) (by omega) ht
        subst xu
        refine iteT ⟨_, rfl, _, rfl, _, rfl, _, rfl, _, _, rfl, rfl, f, _, _, _, rfl, rfl, SqL.of (hf.same s7), at_of (j := t - 1) (by omega) (ivs ex), o, l, d, S, p, up fr t, rfl, hh.same s7, fun H8 ev s8 nev hev => ?_⟩
        obtain ⟨ws, hws, hal⟩ := hev
        have elen : (S.ever p (up fr t)).length ≤ 5000 := by
          have h1 := evG_len (p := p) (t := up fr t) (l := S.puts) (k := 0)
          have h2 := hh.few
          unfold De.ever
          omega
        refine ⟨ev, rfl, ⟨_, SqL.of hws⟩, fun D nD => ?_⟩
        refine lc_list (K := K) (a := ev) (xs := ws) (fun i H1 => Same H8 H1 ∧ LsAt H1 D (((S.ever p (up fr t)).take i).map (·.1))) ⟨same_upd nD, upd_same⟩ (fun i H1 _ z => SqL.of (z.1 _ _ hws)) ?_ ?_
        · rintro i v H1 hv ⟨s9, hD⟩
          obtain ⟨e, ee, u, rfl, hu⟩ := hal.at hv
          refine ⟨u, _, rfl, .inl (.inl (s9 _ _ hu)), rfl, _, _, rfl, _, _, rfl, rfl, rfl, _, rfl, _, hD, ?_, Same.chg s9 nD, ?_⟩
          · rw [List.length_map, List.length_map, List.length_take]
            exact small5000 (by omega)
          · unfold LsAt
            rw [upd_same, List.take_add_one, ee, Option.toList_some, List.map_append, List.map_append]
            rfl
        rintro H9 ⟨s9, hD⟩
        rw [hal.len, List.take_length] at hD
        have s79 := s8.trans s9
        have s09 := s7.trans s79
        refine ⟨_, rfl, _, rfl, _, rfl, _, rfl, _, _, rfl, rfl, f, _, _, _, rfl, rfl, SqL.of (hf.same s09), at_of (j := t - 1) (by omega) (ivs ex), o, l, d, S, p, up fr t, rfl, hh.same s09, fun H10 s10 => ?_⟩
        refine ⟨_, rfl, Nat.zero_le _, fun g' ng => ⟨_, _, dp_ints ((hD.same s10).same (same_upd ng)), dp_ints (ns := []) upd_same, shaped_ints _, shaped_ints _, decide ((S.ever p (up fr t)).map (·.1) = []), by rw [eqv_ints], ?_⟩⟩
        have s11 := (s79.trans s10).trans (same_upd ng (o := .lst []))
        have hD11 := (hD.same s10).same (same_upd ng (o := .lst []))
        generalize upd H10 g' (.lst []) = H11 at s11 hD11 ⊢
        have s011 := s7.trans s11
        by_cases c2 : (S.ever p (up fr t)).map (·.1) = []
        · rw [decide_eq_true c2]
          refine iteT ⟨_, rfl, _, rfl, _, rfl, _, rfl, o, l, d, S, p, 0, rfl, hh.same s011, fun H12 s12 => ⟨(by show 6 ≤ sizeLine; decide), fun t3 n3 => ?_⟩⟩
          exact q _ t3 (.put p 0 x none (S.now p 0)) ((s011.trans s12).trans (same_upd n3)) ((s011.trans s12).free n3) upd_same ⟨hp, by omega, tx, rfl, fun _ => rfl, fun z => by omega⟩ fun z => by omega
        rw [decide_eq_false c2]
        have l0 : 0 < ((S.ever p (up fr t)).map (·.1)).length := List.length_pos_iff.mpr c2
        have l1 : ((S.ever p (up fr t)).map (·.1)).length ≤ 5000 := by rw [List.length_map]; exact elen
        -- one of all that was ever put
        have ofEver : ∀ z : Int, 0 ≤ z → z < (((S.ever p (up fr t)).map (·.1)).length : Int) → ∃ k : Int, ((S.ever p (up fr t)).map (·.1))[z.toNat]? = some k ∧ S.Seen fr p t (some k) := by
          intro z z0 z1
          have zl : z.toNat < ((S.ever p (up fr t)).map (·.1)).length := by omega
          have zl' : z.toNat < (S.ever p (up fr t)).length := by
            rw [List.length_map] at zl
            exact zl
          refine ⟨((S.ever p (up fr t))[z.toNat]).1, ?_, fun y => by omega, fun _ => ?_⟩
          · rw [List.getElem?_map, List.getElem?_eq_getElem zl']
            rfl
          · obtain ⟨j, ej, v, h1, h2, h3⟩ := De.seen_ever (List.getElem_mem zl')
            exact ⟨j, congrArg some ej, v, h1, h2, h3⟩
        refine iteF ⟨_, rfl, _, _, rfl, rfl, decide (8 < kd), rfl, ?_⟩
        by_cases c3 : 8 < kd
        · rw [decide_eq_true c3]
          refine iteT ⟨_, rfl, _, rfl, _, rfl, _, _, rfl, rfl, _, rfl, D, _, rfl, .inl (SqL.of hD11), _, _, _, rfl, by omega, by omega, by rw [List.length_map]; omega, by rw [List.length_map]; omega, fun H12 z s12 z0 z1 => ?_⟩
          rw [List.length_map] at z1
          obtain ⟨k, ek, sk⟩ := ofEver z z0 z1
          exact ⟨D, _, _, V.int k, rfl, rfl, SqL.of (hD11.same s12), at_of (j := z.toNat) (by omega) (ivs ek), some k, _, _, _, s11.trans s12, sk, rfl⟩
        rw [decide_eq_false c3]
        refine iteF ⟨_, rfl, rfl, decide (oV (S.now p (up fr t)) = .non), rfl, ?_⟩
        cases en : S.now p (up fr t) with
        | none =>
          refine iteT ⟨_, rfl, _, rfl, _, rfl, _, _, rfl, rfl, _, rfl, D, _, rfl, .inl (SqL.of hD11), _, _, _, rfl, by omega, by omega, by rw [List.length_map]; omega, by rw [List.length_map]; omega, fun H12 z s12 z0 z1 => ?_⟩
          rw [List.length_map] at z1
          obtain ⟨k, ek, sk⟩ := ofEver z z0 z1
          exact ⟨D, _, _, V.int k, rfl, rfl, SqL.of (hD11.same s12), at_of (j := z.toNat) (by omega) (ivs ek), some k, _, _, _, s11.trans s12, sk, rfl⟩
        | some k =>
          refine iteF ⟨_, rfl, some k, _, _, _, s11, ⟨fun y => by omega, fun _ => ?_⟩, rfl⟩
          obtain ⟨j, ej, v, h1, h2, h3⟩ := ok.seen_now en
          exact ⟨j, congrArg some ej, v, h1, h2, h3⟩
      · rw [decide_eq_false c1]
        exact iteF ⟨none, none, none, none, Same.refl _, ⟨fun _ => rfl, fun z => by omega⟩, rfl⟩
    rintro σ' H8 ⟨se, v13, v14, v15, s8, sn, rfl⟩
    refine ⟨_, rfl, _, rfl, _, rfl, _, rfl, _, rfl, _, rfl, _, rfl, o, l, d, S, p, t, rfl, (hh.same s7).same s8, fun H9 s9 => ⟨(by show 6 ≤ sizeLine; decide), fun t3 n3 => ?_⟩⟩
    exact q _ t3 (.put p t x se (S.now p t)) (((s7.trans s8).trans s9).trans (same_upd n3)) (((s7.trans s8).trans s9).free n3) upd_same ⟨hp, ht, tx, rfl, sn⟩ fun z => by omega

def ResV (H : Hp) (v : V) : Res → Prop
  | .num k => v = .int k
  | .many l => ∃ a, v = .ref a ∧ LsAt H a l
def spCome : Sp := fun vs H Q _ => ∃ (o l d : Addr) (S : De) (f : Addr) (fr : List Int) (q : Addr) (dd : Deed), vs = [.ref o, .ref f, .ref q] ∧ Here H o l d S ∧ S.Ok fr ∧ S.puts.length ≤ 4000 ∧ LsAt H f fr ∧ f ≠ l ∧ FrOk fr ∧ H q = some (.tup dd.vals) ∧ S.May fr dd ∧
  ∀ (H' : Hp) (r : Addr) (v : V) (ll : Addr), Off o l d H H' → Still H H' d → Here H' o l d (S.come fr dd).1 → H r = none → H' r = some (.tup [v, .ref ll]) → ResV H' v (S.come fr dd).2.1 → H ll = none → LnAt H' ll (S.come fr dd).2.2 → Q (.ref r) H'
theorem cutLast (ns : List Int) : cutV (ns.map V.int) none (some (-1)) = ns.dropLast.map V.int := by
  unfold cutV
  rw [HT.sIx_none, List.drop_zero, Nat.sub_zero, List.map_dropLast, List.dropLast_eq_take]
  congr 1
  show (if (-1 : Int) < 0 then ((-1 : Int) + ((ns.map V.int).length : Int)).toNat else min (-1 : Int).toNat (ns.map V.int).length) = _
  rw [if_pos (by decide)]
  omega
theorem ln_one {H : Hp} {a b : Addr} {n : Line} (hb : H b = some (.tup n.vals)) (na : H a = none) : LnAt (upd H a (.lst [.ref b])) a [n] := ⟨_, upd_same, All2.cons ⟨b, rfl, same_upd na _ _ hb⟩ All2.nil⟩
theorem sc_law_come : FnScope ["_law_here", "_law_froms_here", "_law_deed_here", "_law_found", "_law_lines", "_law_tongue", "_law_phrase", "_law_number_here", "_law_lying", "_law_row_here", "_law_some", "_law_above", "_law_line"] ["_law_here", "_law_froms_here", "_law_deed_here"] (defScope s_law_come) := ⟨rfl, rfl, rfl, by decide +kernel, rfl, by decide +kernel, by decide +kernel⟩
theorem c_law_come {P : Program} {w : World} {K : PySem.W.Frag} {mg : Str → Option Value} {base : Heap} (T : Tx K mg) : C8.Cal P w K mg base 4 "_law_come" (spCome) [] := by
  refine calD T.F_law_come T.g_law_come (fun _ _ _ _ _ _ us hl => match us, hl with | [_, _, _], _ => rfl) sc_law_come (fun vs H Q E h => ?_) (fun cdv A outer s H vs Q E hr h => ?_)
  · obtain ⟨o, l, d, S, f, fr, q, dd, rfl, _⟩ := h
    rfl
  · obtain ⟨o, l, d, S, f, fr, q, dd, rfl, hh, ok, few, hf, nfl, fo, hq, may, k⟩ := h
    cases dd with
    | phrase x =>
      refine ⟨_, (pss_cons (ps_if (pt_cmpR op_eq (pe_ix ix_tup (pv 2) pe_int (fun _ _ => rfl)) pe_str (nomark _))
      (pss_cons (ps_dput (hu_of hr) (pv 0) pe_str (pe_op op_add (pe_dget (hu_of hr) (pv 0) pe_str (fun _ _ => rfl)) pe_int) rfl)
      (pss_cons (ps_set (i := 7) sc_law_come.nd rfl (Or.inl rfl) (C8.pe_c (c_law_put T) hr (by decide) rfl (pa_cons (pv 0) (pa_cons (pe_op op_sub (pe_dget (hu_of hr) (pv 0) pe_str (fun _ _ => rfl)) pe_int) (pa_cons pe_int (pa_cons (pe_ix ix_tup (pv 2) pe_int (fun _ _ => rfl)) (pa_cons pe_non pa_nil)))))))
      (pss_one (ps_ret (pe_tup (pa_cons (pe_op op_sub (pe_dget (hu_of hr) (pv 0) pe_str (fun _ _ => rfl)) pe_int) (pa_cons (pe_lst (pa_cons (pe_tup (pa_cons pe_str (pa_cons (pe_op op_sub (pe_dget (hu_of hr) (pv 0) pe_str (fun _ _ => rfl)) pe_int) (pa_cons (pe_ix ix_tup (pv 2) pe_int (fun _ _ => rfl)) (pa_cons (pv 7) pa_nil))))) pa_nil)) pa_nil)))))))
      pss_nil)
    (pss_cons (ps_if (pt_cmpR op_eq (pe_ix ix_tup (pv 2) pe_int (fun _ _ => rfl)) pe_str (nomark _))
      (pss_cons (ps_set (i := 7) sc_law_come.nd rfl (Or.inl rfl) (C8.pe_c (c_law_put T) hr (by decide) rfl (pa_cons (pv 0) (pa_cons (pe_ix ix_tup (pv 2) pe_int (fun _ _ => rfl)) (pa_cons (pe_ix ix_tup (pv 2) pe_int (fun _ _ => rfl)) (pa_cons (pe_ix ix_tup (pv 2) pe_int (fun _ _ => rfl)) (pa_cons (pe_ix ix_tup (pv 2) pe_int (fun _ _ => rfl)) pa_nil)))))))
      (pss_one (ps_ret (pe_tup (pa_cons (pv 7) (pa_cons (pe_lst (pa_cons (pe_op op_catT (pv 2) (pe_tup (pa_cons (pv 7) pa_nil))) pa_nil)) pa_nil))))))
      pss_nil)
    (pss_cons (ps_if (pt_cmpR op_eq (pe_ix ix_tup (pv 2) pe_int (fun _ _ => rfl)) pe_str (nomark _))
      (pss_cons (ps_set (i := 8) sc_law_come.nd rfl (Or.inl rfl) (pe_dget (hu_of hr) (pe_dget (hu_of hr) (pv 0) pe_str (fun _ _ => rfl)) (pe_tup (pa_cons (pe_ix ix_tup (pv 2) pe_int (fun _ _ => rfl)) (pa_cons (pe_ix ix_tup (pv 2) pe_int (fun _ _ => rfl)) pa_nil))) (fun _ _ => rfl)))
      (pss_cons (ps_dput (hu_of hr) (pe_dget (hu_of hr) (pv 0) pe_str (fun _ _ => rfl)) (pe_tup (pa_cons (pe_ix ix_tup (pv 2) pe_int (fun _ _ => rfl)) (pa_cons (pe_ix ix_tup (pv 2) pe_int (fun _ _ => rfl)) pa_nil))) (pe_slice sl_list (pv 8) po_none (po_some (pe_un un_neg pe_int))) rfl)
      (pss_one (ps_ret (pe_tup (pa_cons (pe_ix ix_list (pv 8) (pe_un un_neg pe_int) (fun _ _ => rfl)) (pa_cons (pe_lst (pa_cons (pe_op op_catT (pv 2) (pe_tup (pa_cons (pe_ix ix_list (pv 8) (pe_un un_neg pe_int) (fun _ _ => rfl)) pa_nil))) pa_nil)) pa_nil)))))))
      pss_nil)
    (pss_cons (ps_par3 (i := 3) (j := 4) (l := 5) (by rfl) sc_law_come.nd rfl rfl rfl (by decide) (by decide) (by decide) rfl rfl rfl (pa_cons (pe_lst pa_nil) (pa_cons (pe_lst pa_nil) (pa_cons (pe_ix ix_tup (pv 2) pe_int (fun _ _ => rfl)) pa_nil))) (by rfl))
    (pss_cons (ps_for PassesOwn.never rfl (pi_range1 (by rfl) T.f_range (pa_cons (pe_dget (hu_of hr) (pv 0) pe_str (fun _ _ => rfl)) pa_nil)) (pg_name (i := 6) sc_law_come.nd rfl (Or.inl rfl))
      (pss_cons (ps_par (i := 9) (j := 10) (by rfl) sc_law_come.nd rfl rfl (by decide) rfl rfl (pa_cons (C8.pe_c (c_law_row T) hr (by decide) rfl (pa_cons (pv 0) (pa_cons (pv 1) (pa_cons (pv 6) pa_nil)))) (pa_cons (C8.pe_c (c_law_likes T) hr (by decide) rfl (pa_cons (pv 0) (pa_cons (pv 1) (pa_cons (pv 6) (pa_cons (pv 5) pa_nil))))) pa_nil)) (by rfl))
      (pss_cons (ps_set (i := 11) sc_law_come.nd rfl (Or.inl rfl) (pe_ix ix_list (pv 1) (pe_op op_sub (pv 5) pe_int) (fun _ _ => rfl)))
      (pss_one (ps_if (PW.pt (pw_and (pt_cmpR (op_eqD hr.units) (C8.pe_c (c_law_chain T) hr (by decide) rfl (pa_cons (pv 1) (pa_cons (pv 9) (pa_cons (pv 11) pa_nil)))) (pe_lst pa_nil) (nomark _)) (pw_and (pt_cmpR (op_neD hr.units) (C8.pe_c (c_law_chain T) hr (by decide) rfl (pa_cons (pv 1) (pa_cons (pv 9) (pa_cons (pv 5) pa_nil)))) (pe_lst pa_nil) (nomark _)) (pw_and1 (pt_cmpR op_eq (pe_callB call_len_seq (by rfl) T.f_len (by decide +kernel) (pa_cons (pv 10) pa_nil)) pe_int (nomark _))))))
        (pss_cons (ps_set (i := 12) sc_law_come.nd rfl (Or.inl rfl) (pe_tup (pa_cons pe_str (pa_cons (pv 6) (pa_cons (pv 5) (pa_cons (pe_ix ix_list (pv 10) pe_int (fun _ _ => rfl)) (pa_cons (pe_ix ix_tup (pe_ix ix_list (pv 9) (pv 11) (fun _ _ => rfl)) pe_int (fun _ _ => rfl)) (pa_cons (C8.pe_c (c_law_now T) hr (by decide) rfl (pa_cons (pv 0) (pa_cons (pv 6) (pa_cons (pv 5) pa_nil)))) pa_nil))))))))
        (pss_cons (ps_expr (pe_bm PySem.F.plainAttrs_list PySem.F.slot_list_append PySem.F.type_list_append mt_append (pv 4) (pa_cons (pe_op op_catT (pv 12) (pe_tup (pa_cons (C8.pe_c (c_law_put T) hr (by decide) rfl (pa_cons (pv 0) (pa_cons (pv 6) (pa_cons (pv 5) (pa_cons (pe_ix ix_list (pv 10) pe_int (fun _ _ => rfl)) (pa_cons (pe_ix ix_tup (pe_ix ix_list (pv 9) (pv 11) (fun _ _ => rfl)) pe_int (fun _ _ => rfl)) pa_nil)))))) pa_nil))) pa_nil)))
        (pss_one (ps_expr (pe_bm PySem.F.plainAttrs_list PySem.F.slot_list_append PySem.F.type_list_append mt_append (pv 3) (pa_cons (pv 6) pa_nil))))))
        pss_nil)))))
    (pss_one (ps_ret (pe_tup (pa_cons (pv 3) (pa_cons (pv 4) pa_nil)))))))))), ?_⟩
      obtain ⟨n6, tx⟩ := may
      refine ⟨_, rfl, q, _, _, _, rfl, rfl, SqT.of hq, atI_nat (j := 0) rfl, rfl, true, rfl, iteT ⟨_, rfl, o, _, rfl, DGet.k (k := kP) hh.top, _, _, rfl, rfl, _, rfl, o, _, rfl, DPut.k (k := kP) hh.top (show 3 < sizeLine by decide), ?_⟩⟩
      have h1 := hh.one
      have o1 : Off o l d H (upd H o (.dK (topK (S.n + 1) l d))) := off_o
      have st1 : Still H (upd H o (.dK (topK (S.n + 1) l d))) d := fun R _ z => z.eq (upd_ne (Ne.symm hh.ne.2.1))
      have hq1 := o1.tup hh hq
      have en : ((S.n + 1 : Nat) : Int) - 1 = (S.n : Int) := by omega
      refine ⟨_, rfl, _, rfl, o, _, rfl, DGet.k (k := kP) h1.top, _, _, rfl, rfl, _, rfl, q, _, _, _, rfl, rfl, SqT.of hq1, atI_nat (j := 1) rfl, o, l, d, S.more, S.n, 0, x, none, ?_, h1, (show S.puts.length < 5000 by omega), fun H2 o2 st2 h2 => ?_⟩
      · show [V.ref o, V.int (((S.n + 1 : Nat) : Int) - 1), V.int 0, V.str x, V.non] ++ [] = _
        rw [en]
        rfl
      have hq2 := o2.tup h1 hq1
      have o12 := o1.trans o2
      have st12 := st1.trans st2 (o1.there h1)
      refine ⟨_, rfl, o, _, rfl, DGet.k (k := kP) h2.top, _, _, rfl, rfl, _, rfl, o, _, rfl, DGet.k (k := kP) h2.top, _, _, rfl, rfl, _, rfl, q, _, _, _, rfl, rfl, SqT.of hq2, atI_nat (j := 1) rfl, _, rfl, (by show 4 ≤ sizeLine; decide), fun a na => ⟨(by show 1 ≤ sizeLine; decide), fun b nb => ⟨(by show 2 ≤ sizeLine; decide), fun r nr => ?_⟩⟩⟩
      have sa : Same H2 (upd H2 a (.tup [V.str "phrase", V.int (((S.n + 1 : Nat) : Int) - 1), V.str x, V.int (S.puts.length : Int)])) := same_upd na
      have hla := ln_one (n := .phrase S.n x (S.puts.length : Int)) (H := upd H2 a (.tup [V.str "phrase", V.int (((S.n + 1 : Nat) : Int) - 1), V.str x, V.int (S.puts.length : Int)])) (a := b) (b := a) (by rw [upd_same, en]; rfl) nb
      have sr := (sa.trans (same_upd nb (o := .lst [V.ref a]))).trans (same_upd nr (o := .tup [V.int (((S.n + 1 : Nat) : Int) - 1), V.ref b]))
      exact k _ r _ b (o12.same sr) (st12.trans (Still.same h2 sr) (o12.there h2)) (h2.same sr) (o12.gone h2 (sa.free ((same_upd nb).free nr))) upd_same (congrArg V.int en) (o12.gone h2 (sa.free nb)) (hla.same (same_upd nr))
    | put p t x s0 ov =>
      refine ⟨_, (pss_cons (ps_if (pt_cmpR op_eq (pe_ix ix_tup (pv 2) pe_int (fun _ _ => rfl)) pe_str (nomark _))
      (pss_cons (ps_dput (hu_of hr) (pv 0) pe_str (pe_op op_add (pe_dget (hu_of hr) (pv 0) pe_str (fun _ _ => rfl)) pe_int) rfl)
      (pss_cons (ps_set (i := 7) sc_law_come.nd rfl (Or.inl rfl) (C8.pe_c (c_law_put T) hr (by decide) rfl (pa_cons (pv 0) (pa_cons (pe_op op_sub (pe_dget (hu_of hr) (pv 0) pe_str (fun _ _ => rfl)) pe_int) (pa_cons pe_int (pa_cons (pe_ix ix_tup (pv 2) pe_int (fun _ _ => rfl)) (pa_cons pe_non pa_nil)))))))
      (pss_one (ps_ret (pe_tup (pa_cons (pe_op op_sub (pe_dget (hu_of hr) (pv 0) pe_str (fun _ _ => rfl)) pe_int) (pa_cons (pe_lst (pa_cons (pe_tup (pa_cons pe_str (pa_cons (pe_op op_sub (pe_dget (hu_of hr) (pv 0) pe_str (fun _ _ => rfl)) pe_int) (pa_cons (pe_ix ix_tup (pv 2) pe_int (fun _ _ => rfl)) (pa_cons (pv 7) pa_nil))))) pa_nil)) pa_nil)))))))
      pss_nil)
    (pss_cons (ps_if (pt_cmpR op_eq (pe_ix ix_tup (pv 2) pe_int (fun _ _ => rfl)) pe_str (nomark _))
      (pss_cons (ps_set (i := 7) sc_law_come.nd rfl (Or.inl rfl) (C8.pe_c (c_law_put T) hr (by decide) rfl (pa_cons (pv 0) (pa_cons (pe_ix ix_tup (pv 2) pe_int (fun _ _ => rfl)) (pa_cons (pe_ix ix_tup (pv 2) pe_int (fun _ _ => rfl)) (pa_cons (pe_ix ix_tup (pv 2) pe_int (fun _ _ => rfl)) (pa_cons (pe_ix ix_tup (pv 2) pe_int (fun _ _ => rfl)) pa_nil)))))))
      (pss_one (ps_ret (pe_tup (pa_cons (pv 7) (pa_cons (pe_lst (pa_cons (pe_op op_catT (pv 2) (pe_tup (pa_cons (pv 7) pa_nil))) pa_nil)) pa_nil))))))
      pss_nil)
    (pss_cons (ps_if (pt_cmpR op_eq (pe_ix ix_tup (pv 2) pe_int (fun _ _ => rfl)) pe_str (nomark _))
      (pss_cons (ps_set (i := 8) sc_law_come.nd rfl (Or.inl rfl) (pe_dget (hu_of hr) (pe_dget (hu_of hr) (pv 0) pe_str (fun _ _ => rfl)) (pe_tup (pa_cons (pe_ix ix_tup (pv 2) pe_int (fun _ _ => rfl)) (pa_cons (pe_ix ix_tup (pv 2) pe_int (fun _ _ => rfl)) pa_nil))) (fun _ _ => rfl)))
      (pss_cons (ps_dput (hu_of hr) (pe_dget (hu_of hr) (pv 0) pe_str (fun _ _ => rfl)) (pe_tup (pa_cons (pe_ix ix_tup (pv 2) pe_int (fun _ _ => rfl)) (pa_cons (pe_ix ix_tup (pv 2) pe_int (fun _ _ => rfl)) pa_nil))) (pe_slice sl_list (pv 8) po_none (po_some (pe_un un_neg pe_int))) rfl)
      (pss_one (ps_ret (pe_tup (pa_cons (pe_ix ix_list (pv 8) (pe_un un_neg pe_int) (fun _ _ => rfl)) (pa_cons (pe_lst (pa_cons (pe_op op_catT (pv 2) (pe_tup (pa_cons (pe_ix ix_list (pv 8) (pe_un un_neg pe_int) (fun _ _ => rfl)) pa_nil))) pa_nil)) pa_nil)))))))
      pss_nil)
    (pss_cons (ps_par3 (i := 3) (j := 4) (l := 5) (by rfl) sc_law_come.nd rfl rfl rfl (by decide) (by decide) (by decide) rfl rfl rfl (pa_cons (pe_lst pa_nil) (pa_cons (pe_lst pa_nil) (pa_cons (pe_ix ix_tup (pv 2) pe_int (fun _ _ => rfl)) pa_nil))) (by rfl))
    (pss_cons (ps_for PassesOwn.never rfl (pi_range1 (by rfl) T.f_range (pa_cons (pe_dget (hu_of hr) (pv 0) pe_str (fun _ _ => rfl)) pa_nil)) (pg_name (i := 6) sc_law_come.nd rfl (Or.inl rfl))
      (pss_cons (ps_par (i := 9) (j := 10) (by rfl) sc_law_come.nd rfl rfl (by decide) rfl rfl (pa_cons (C8.pe_c (c_law_row T) hr (by decide) rfl (pa_cons (pv 0) (pa_cons (pv 1) (pa_cons (pv 6) pa_nil)))) (pa_cons (C8.pe_c (c_law_likes T) hr (by decide) rfl (pa_cons (pv 0) (pa_cons (pv 1) (pa_cons (pv 6) (pa_cons (pv 5) pa_nil))))) pa_nil)) (by rfl))
      (pss_cons (ps_set (i := 11) sc_law_come.nd rfl (Or.inl rfl) (pe_ix ix_list (pv 1) (pe_op op_sub (pv 5) pe_int) (fun _ _ => rfl)))
      (pss_one (ps_if (PW.pt (pw_and (pt_cmpR (op_eqD hr.units) (C8.pe_c (c_law_chain T) hr (by decide) rfl (pa_cons (pv 1) (pa_cons (pv 9) (pa_cons (pv 11) pa_nil)))) (pe_lst pa_nil) (nomark _)) (pw_and (pt_cmpR (op_neD hr.units) (C8.pe_c (c_law_chain T) hr (by decide) rfl (pa_cons (pv 1) (pa_cons (pv 9) (pa_cons (pv 5) pa_nil)))) (pe_lst pa_nil) (nomark _)) (pw_and1 (pt_cmpR op_eq (pe_callB call_len_seq (by rfl) T.f_len (by decide +kernel) (pa_cons (pv 10) pa_nil)) pe_int (nomark _))))))
        (pss_cons (ps_set (i := 12) sc_law_come.nd rfl (Or.inl rfl) (pe_tup (pa_cons pe_str (pa_cons (pv 6) (pa_cons (pv 5) (pa_cons (pe_ix ix_list (pv 10) pe_int (fun _ _ => rfl)) (pa_cons (pe_ix ix_tup (pe_ix ix_list (pv 9) (pv 11) (fun _ _ => rfl)) pe_int (fun _ _ => rfl)) (pa_cons (C8.pe_c (c_law_now T) hr (by decide) rfl (pa_cons (pv 0) (pa_cons (pv 6) (pa_cons (pv 5) pa_nil)))) pa_nil))))))))
        (pss_cons (ps_expr (pe_bm PySem.F.plainAttrs_list PySem.F.slot_list_append PySem.F.type_list_append mt_append (pv 4) (pa_cons (pe_op op_catT (pv 12) (pe_tup (pa_cons (C8.pe_c (c_law_put T) hr (by decide) rfl (pa_cons (pv 0) (pa_cons (pv 6) (pa_cons (pv 5) (pa_cons (pe_ix ix_list (pv 10) pe_int (fun _ _ => rfl)) (pa_cons (pe_ix ix_tup (pe_ix ix_list (pv 9) (pv 11) (fun _ _ => rfl)) pe_int (fun _ _ => rfl)) pa_nil)))))) pa_nil))) pa_nil)))
        (pss_one (ps_expr (pe_bm PySem.F.plainAttrs_list PySem.F.slot_list_append PySem.F.type_list_append mt_append (pv 3) (pa_cons (pv 6) pa_nil))))))
        pss_nil)))))
    (pss_one (ps_ret (pe_tup (pa_cons (pv 3) (pa_cons (pv 4) pa_nil)))))))))), ?_⟩
      obtain ⟨hp, ht, tx, eo, sn⟩ := may
      refine ⟨_, rfl, q, _, _, _, rfl, rfl, SqT.of hq, atI_nat (j := 0) rfl, rfl, false, rfl, iteF ⟨_, rfl, q, _, _, _, rfl, rfl, SqT.of hq, atI_nat (j := 0) rfl, rfl, true, rfl, iteT ?_⟩⟩
      refine ⟨_, rfl, _, rfl, q, _, _, _, rfl, rfl, SqT.of hq, atI_nat (j := 1) rfl, _, rfl, q, _, _, _, rfl, rfl, SqT.of hq, atI_nat (j := 2) rfl, _, rfl, q, _, _, _, rfl, rfl, SqT.of hq, atI_nat (j := 3) rfl, _, rfl, q, _, _, _, rfl, rfl, SqT.of hq, atI_nat (j := 4) rfl, o, l, d, S, p, t, x, s0, rfl, hh, by omega, fun H2 o2 st2 h2 => ?_⟩
      have hq2 := o2.tup hh hq
      refine ⟨_, rfl, _, rfl, _, rfl, (by show 1 ≤ sizeLine; decide), fun a na => ⟨q, a, _, _, rfl, rfl, SqT.of (same_upd na _ _ hq2), SqT.of upd_same, (fun z => nomatch z), (by show 7 ≤ sizeLine; decide), (fun z => nomatch z), fun _ b nb => ⟨(by show 1 ≤ sizeLine; decide), fun c nc => ⟨(by show 2 ≤ sizeLine; decide), fun r nr => ?_⟩⟩⟩⟩
      have sa : Same H2 (upd H2 a (.tup [V.int (S.puts.length : Int)])) := same_upd na
      have sb := sa.trans (same_upd nb (o := .tup (Line.put p t x s0 ov (S.puts.length : Int)).vals))
      have hlc := ln_one (n := .put p t x s0 ov (S.puts.length : Int)) (H := upd (upd H2 a (.tup [V.int (S.puts.length : Int)])) b (.tup (Line.put p t x s0 ov (S.puts.length : Int)).vals)) (a := c) (b := b) upd_same nc
      have sc := sb.trans (same_upd nc (o := .lst [V.ref b]))
      have sr := sc.trans (same_upd nr (o := .tup [V.int (S.puts.length : Int), V.ref c]))
      exact k _ r _ c (o2.same sr) (st2.trans (Still.same h2 sr) (o2.there h2)) (h2.same sr) (o2.gone h2 (sc.free nr)) upd_same rfl (o2.gone h2 (sb.free nc)) (hlc.same (same_upd nr))
    | back p t =>
      refine ⟨_, (pss_cons (ps_if (pt_cmpR op_eq (pe_ix ix_tup (pv 2) pe_int (fun _ _ => rfl)) pe_str (nomark _))
      (pss_cons (ps_dput (hu_of hr) (pv 0) pe_str (pe_op op_add (pe_dget (hu_of hr) (pv 0) pe_str (fun _ _ => rfl)) pe_int) rfl)
      (pss_cons (ps_set (i := 7) sc_law_come.nd rfl (Or.inl rfl) (C8.pe_c (c_law_put T) hr (by decide) rfl (pa_cons (pv 0) (pa_cons (pe_op op_sub (pe_dget (hu_of hr) (pv 0) pe_str (fun _ _ => rfl)) pe_int) (pa_cons pe_int (pa_cons (pe_ix ix_tup (pv 2) pe_int (fun _ _ => rfl)) (pa_cons pe_non pa_nil)))))))
      (pss_one (ps_ret (pe_tup (pa_cons (pe_op op_sub (pe_dget (hu_of hr) (pv 0) pe_str (fun _ _ => rfl)) pe_int) (pa_cons (pe_lst (pa_cons (pe_tup (pa_cons pe_str (pa_cons (pe_op op_sub (pe_dget (hu_of hr) (pv 0) pe_str (fun _ _ => rfl)) pe_int) (pa_cons (pe_ix ix_tup (pv 2) pe_int (fun _ _ => rfl)) (pa_cons (pv 7) pa_nil))))) pa_nil)) pa_nil)))))))
      pss_nil)
    (pss_cons (ps_if (pt_cmpR op_eq (pe_ix ix_tup (pv 2) pe_int (fun _ _ => rfl)) pe_str (nomark _))
      (pss_cons (ps_set (i := 7) sc_law_come.nd rfl (Or.inl rfl) (C8.pe_c (c_law_put T) hr (by decide) rfl (pa_cons (pv 0) (pa_cons (pe_ix ix_tup (pv 2) pe_int (fun _ _ => rfl)) (pa_cons (pe_ix ix_tup (pv 2) pe_int (fun _ _ => rfl)) (pa_cons (pe_ix ix_tup (pv 2) pe_int (fun _ _ => rfl)) (pa_cons (pe_ix ix_tup (pv 2) pe_int (fun _ _ => rfl)) pa_nil)))))))
      (pss_one (ps_ret (pe_tup (pa_cons (pv 7) (pa_cons (pe_lst (pa_cons (pe_op op_catT (pv 2) (pe_tup (pa_cons (pv 7) pa_nil))) pa_nil)) pa_nil))))))
      pss_nil)
    (pss_cons (ps_if (pt_cmpR op_eq (pe_ix ix_tup (pv 2) pe_int (fun _ _ => rfl)) pe_str (nomark _))
      (pss_cons (ps_set (i := 8) sc_law_come.nd rfl (Or.inl rfl) (pe_dget (hu_of hr) (pe_dget (hu_of hr) (pv 0) pe_str (fun _ _ => rfl)) (pe_tup (pa_cons (pe_ix ix_tup (pv 2) pe_int (fun _ _ => rfl)) (pa_cons (pe_ix ix_tup (pv 2) pe_int (fun _ _ => rfl)) pa_nil))) (fun _ _ => rfl)))
      (pss_cons (ps_dput (hu_of hr) (pe_dget (hu_of hr) (pv 0) pe_str (fun _ _ => rfl)) (pe_tup (pa_cons (pe_ix ix_tup (pv 2) pe_int (fun _ _ => rfl)) (pa_cons (pe_ix ix_tup (pv 2) pe_int (fun _ _ => rfl)) pa_nil))) (pe_slice sl_list (pv 8) po_none (po_some (pe_un un_neg pe_int))) rfl)
      (pss_one (ps_ret (pe_tup (pa_cons (pe_ix ix_list (pv 8) (pe_un un_neg pe_int) (fun _ _ => rfl)) (pa_cons (pe_lst (pa_cons (pe_op op_catT (pv 2) (pe_tup (pa_cons (pe_ix ix_list (pv 8) (pe_un un_neg pe_int) (fun _ _ => rfl)) pa_nil))) pa_nil)) pa_nil)))))))
      pss_nil)
    (pss_cons (ps_par3 (i := 3) (j := 4) (l := 5) (by rfl) sc_law_come.nd rfl rfl rfl (by decide) (by decide) (by decide) rfl rfl rfl (pa_cons (pe_lst pa_nil) (pa_cons (pe_lst pa_nil) (pa_cons (pe_ix ix_tup (pv 2) pe_int (fun _ _ => rfl)) pa_nil))) (by rfl))
    (pss_cons (ps_for PassesOwn.never rfl (pi_range1 (by rfl) T.f_range (pa_cons (pe_dget (hu_of hr) (pv 0) pe_str (fun _ _ => rfl)) pa_nil)) (pg_name (i := 6) sc_law_come.nd rfl (Or.inl rfl))
      (pss_cons (ps_par (i := 9) (j := 10) (by rfl) sc_law_come.nd rfl rfl (by decide) rfl rfl (pa_cons (C8.pe_c (c_law_row T) hr (by decide) rfl (pa_cons (pv 0) (pa_cons (pv 1) (pa_cons (pv 6) pa_nil)))) (pa_cons (C8.pe_c (c_law_likes T) hr (by decide) rfl (pa_cons (pv 0) (pa_cons (pv 1) (pa_cons (pv 6) (pa_cons (pv 5) pa_nil))))) pa_nil)) (by rfl))
      (pss_cons (ps_set (i := 11) sc_law_come.nd rfl (Or.inl rfl) (pe_ix ix_list (pv 1) (pe_op op_sub (pv 5) pe_int) (fun _ _ => rfl)))
      (pss_one (ps_if (PW.pt (pw_and (pt_cmpR (op_eqD hr.units) (C8.pe_c (c_law_chain T) hr (by decide) rfl (pa_cons (pv 1) (pa_cons (pv 9) (pa_cons (pv 11) pa_nil)))) (pe_lst pa_nil) (nomark _)) (pw_and (pt_cmpR (op_neD hr.units) (C8.pe_c (c_law_chain T) hr (by decide) rfl (pa_cons (pv 1) (pa_cons (pv 9) (pa_cons (pv 5) pa_nil)))) (pe_lst pa_nil) (nomark _)) (pw_and1 (pt_cmpR op_eq (pe_callB call_len_seq (by rfl) T.f_len (by decide +kernel) (pa_cons (pv 10) pa_nil)) pe_int (nomark _))))))
        (pss_cons (ps_set (i := 12) sc_law_come.nd rfl (Or.inl rfl) (pe_tup (pa_cons pe_str (pa_cons (pv 6) (pa_cons (pv 5) (pa_cons (pe_ix ix_list (pv 10) pe_int (fun _ _ => rfl)) (pa_cons (pe_ix ix_tup (pe_ix ix_list (pv 9) (pv 11) (fun _ _ => rfl)) pe_int (fun _ _ => rfl)) (pa_cons (C8.pe_c (c_law_now T) hr (by decide) rfl (pa_cons (pv 0) (pa_cons (pv 6) (pa_cons (pv 5) pa_nil)))) pa_nil))))))))
        (pss_cons (ps_expr (pe_bm PySem.F.plainAttrs_list PySem.F.slot_list_append PySem.F.type_list_append mt_append (pv 4) (pa_cons (pe_op op_catT (pv 12) (pe_tup (pa_cons (C8.pe_c (c_law_put T) hr (by decide) rfl (pa_cons (pv 0) (pa_cons (pv 6) (pa_cons (pv 5) (pa_cons (pe_ix ix_list (pv 10) pe_int (fun _ _ => rfl)) (pa_cons (pe_ix ix_tup (pe_ix ix_list (pv 9) (pv 11) (fun _ _ => rfl)) pe_int (fun _ _ => rfl)) pa_nil)))))) pa_nil))) pa_nil)))
        (pss_one (ps_expr (pe_bm PySem.F.plainAttrs_list PySem.F.slot_list_append PySem.F.type_list_append mt_append (pv 3) (pa_cons (pv 6) pa_nil))))))
        pss_nil)))))
    (pss_one (ps_ret (pe_tup (pa_cons (pv 3) (pa_cons (pv 4) pa_nil)))))))))), ?_⟩
      obtain ⟨hp, ht, hlt⟩ := may
      refine ⟨_, rfl, q, _, _, _, rfl, rfl, SqT.of hq, atI_nat (j := 0) rfl, rfl, false, rfl, iteF ⟨_, rfl, q, _, _, _, rfl, rfl, SqT.of hq, atI_nat (j := 0) rfl, rfl, false, rfl, iteF ⟨_, rfl, q, _, _, _, rfl, rfl, SqT.of hq, atI_nat (j := 0) rfl, rfl, true, rfl, iteT ?_⟩⟩⟩
      obtain ⟨kvs, hd, hk, hL⟩ := hh.lie
      obtain ⟨n1, n2, n3⟩ := hh.ne
      have ne0 : S.lie p t ≠ [] := fun z => by
        rw [z] at hlt
        exact absurd hlt (Nat.not_lt_zero _)
      obtain ⟨y, ly, ey, ely, nly, hly⟩ : ∃ v a, valV kvs (ty p t) = some v ∧ v = .ref a ∧ a ≠ l ∧ LsAt H a (S.lie p t) := by
        have z := hL p t
        cases ev : valV kvs (ty p t) with
        | none =>
          rw [ev] at z
          exact absurd z ne0
        | some v =>
          rw [ev] at z
          obtain ⟨a, h1, h2, h3⟩ := z
          exact ⟨v, a, rfl, h1, h2, h3⟩
      subst ely
      obtain ⟨j, ej⟩ : ∃ j, S.now p t = some j := by
        cases e : S.now p t with
        | none => exact absurd (List.getLast?_eq_none_iff.mp e) ne0
        | some j => exact ⟨j, rfl⟩
      refine ⟨_, rfl, o, _, rfl, DGet.k (k := kL) hh.top, _, rfl, q, _, _, _, rfl, rfl, SqT.of hq, atI_nat (j := 1) rfl, _, rfl, q, _, _, _, rfl, rfl, SqT.of hq, atI_nat (j := 2) rfl, (by show 2 ≤ sizeLine; decide), fun c1 nc1 => ?_⟩
      have s1 : Same H (upd H c1 (.tup [V.int (p : Int), V.int (t : Int)])) := same_upd nc1
      have hc1 : (upd H c1 (.tup [V.int (p : Int), V.int (t : Int)])) c1 = some (.tup ((ty p t).map kV)) := upd_same
      refine ⟨d, _, rfl, ey ▸ DGet.t (s1 _ _ hd) hc1, ?_⟩
      generalize upd H c1 (.tup [V.int (p : Int), V.int (t : Int)]) = H1 at s1 hc1 ⊢
      refine ⟨_, rfl, _, rfl, _, rfl, ly, _, rfl, SqL.of (hly.same s1), fun e ne => ?_⟩
      have s2 : Same H (upd H1 e (.lst (cutV ((S.lie p t).map V.int) none (some (-1))))) := s1.trans (same_upd ne)
      have he2 : LsAt (upd H1 e (.lst (cutV ((S.lie p t).map V.int) none (some (-1))))) e (S.lie p t).dropLast := by
        unfold LsAt
        rw [upd_same, cutLast]
      have nel : e ≠ l := by
        obtain ⟨vs, hv, _⟩ := hh.puts
        exact Ne.symm (ne_of_none (s1 _ _ hv) ne)
      have newe : ∀ b x, H b = some x → b ≠ e := fun b x eb => ne_of_none (s1 _ _ eb) ne
      generalize upd H1 e (.lst (cutV ((S.lie p t).map V.int) none (some (-1)))) = H2 at s2 he2 ⊢
      refine ⟨_, rfl, o, _, rfl, DGet.k (k := kL) (hh.same s2).top, _, rfl, q, _, _, _, rfl, rfl, SqT.of (s2 _ _ hq), atI_nat (j := 1) rfl, _, rfl, q, _, _, _, rfl, rfl, SqT.of (s2 _ _ hq), atI_nat (j := 2) rfl, (by show 2 ≤ sizeLine; decide), fun c3 nc3 => ?_⟩
      have s3 : Same H (upd H2 c3 (.tup [V.int (p : Int), V.int (t : Int)])) := s2.trans (same_upd nc3)
      have hc3 : (upd H2 c3 (.tup [V.int (p : Int), V.int (t : Int)])) c3 = some (.tup ((ty p t).map kV)) := upd_same
      have he3 := he2.same (same_upd nc3 (o := .tup [V.int (p : Int), V.int (t : Int)]))
      generalize upd H2 c3 (.tup [V.int (p : Int), V.int (t : Int)]) = H3 at s3 hc3 he3 ⊢
      obtain ⟨h4, o4⟩ := hh.back s3 (s3 _ _ hd) (by rw [ey]; rfl) nel he3
      have st4 : Still H (upd H3 d (.dT (putK kvs (ty p t) (.ref e)))) d := still_put hh hd newe
      refine ⟨d, _, rfl, DPut.t (s3 _ _ hd) hc3 (small5000 (by omega)), ?_⟩
      have hq4 := o4.tup hh hq
      have hly4 := o4.ls hh nly hly
      generalize upd H3 d (.dT (putK kvs (ty p t) (.ref e))) = H4 at h4 o4 st4 hq4 hly4 ⊢
      refine ⟨_, rfl, _, rfl, ly, _, _, _, rfl, rfl, SqL.of hly4, last_at ej, _, rfl, _, rfl, _, rfl, ly, _, _, _, rfl, rfl, SqL.of hly4, last_at ej, (by show 1 ≤ sizeLine; decide), fun a na => ⟨q, a, _, _, rfl, rfl, SqT.of (same_upd na _ _ hq4), SqT.of upd_same, (fun z => nomatch z), (by show 4 ≤ sizeLine; decide), (fun z => nomatch z), fun _ b nb => ⟨(by show 1 ≤ sizeLine; decide), fun c nc => ⟨(by show 2 ≤ sizeLine; decide), fun r nr => ?_⟩⟩⟩⟩
      have sa : Same H4 (upd H4 a (.tup [V.int j])) := same_upd na
      have sb := sa.trans (same_upd nb (o := .tup (Line.back p t j).vals))
      have hlc := ln_one (n := .back p t j) (H := upd (upd H4 a (.tup [V.int j])) b (.tup (Line.back p t j).vals)) (a := c) (b := b) upd_same nc
      have sc := sb.trans (same_upd nc (o := .lst [V.ref b]))
      have sr := sc.trans (same_upd nr (o := .tup [V.int j, V.ref c]))
      have ec : S.come fr (.back p t) = (S.off p t, .num j, [.back p t j]) := by
        show (S.off p t, Res.num ((S.now p t).getD 0), [Line.back p t ((S.now p t).getD 0)]) = _
        rw [ej]
        rfl
      rw [ec] at k
      exact k _ r _ c (o4.same sr) (st4.trans (Still.same h4 sr) (o4.there h4)) (h4.same sr) (o4.gone h4 (sc.free nr)) upd_same rfl (o4.gone h4 (sb.free nc)) (hlc.same (same_upd nr))
    | fill t =>
      refine ⟨_, (pss_cons (ps_if (pt_cmpR op_eq (pe_ix ix_tup (pv 2) pe_int (fun _ _ => rfl)) pe_str (nomark _))
      (pss_cons (ps_dput (hu_of hr) (pv 0) pe_str (pe_op op_add (pe_dget (hu_of hr) (pv 0) pe_str (fun _ _ => rfl)) pe_int) rfl)
      (pss_cons (ps_set (i := 7) sc_law_come.nd rfl (Or.inl rfl) (C8.pe_c (c_law_put T) hr (by decide) rfl (pa_cons (pv 0) (pa_cons (pe_op op_sub (pe_dget (hu_of hr) (pv 0) pe_str (fun _ _ => rfl)) pe_int) (pa_cons pe_int (pa_cons (pe_ix ix_tup (pv 2) pe_int (fun _ _ => rfl)) (pa_cons pe_non pa_nil)))))))
      (pss_one (ps_ret (pe_tup (pa_cons (pe_op op_sub (pe_dget (hu_of hr) (pv 0) pe_str (fun _ _ => rfl)) pe_int) (pa_cons (pe_lst (pa_cons (pe_tup (pa_cons pe_str (pa_cons (pe_op op_sub (pe_dget (hu_of hr) (pv 0) pe_str (fun _ _ => rfl)) pe_int) (pa_cons (pe_ix ix_tup (pv 2) pe_int (fun _ _ => rfl)) (pa_cons (pv 7) pa_nil))))) pa_nil)) pa_nil)))))))
      pss_nil)
    (pss_cons (ps_if (pt_cmpR op_eq (pe_ix ix_tup (pv 2) pe_int (fun _ _ => rfl)) pe_str (nomark _))
      (pss_cons (ps_set (i := 7) sc_law_come.nd rfl (Or.inl rfl) (C8.pe_c (c_law_put T) hr (by decide) rfl (pa_cons (pv 0) (pa_cons (pe_ix ix_tup (pv 2) pe_int (fun _ _ => rfl)) (pa_cons (pe_ix ix_tup (pv 2) pe_int (fun _ _ => rfl)) (pa_cons (pe_ix ix_tup (pv 2) pe_int (fun _ _ => rfl)) (pa_cons (pe_ix ix_tup (pv 2) pe_int (fun _ _ => rfl)) pa_nil)))))))
      (pss_one (ps_ret (pe_tup (pa_cons (pv 7) (pa_cons (pe_lst (pa_cons (pe_op op_catT (pv 2) (pe_tup (pa_cons (pv 7) pa_nil))) pa_nil)) pa_nil))))))
      pss_nil)
    (pss_cons (ps_if (pt_cmpR op_eq (pe_ix ix_tup (pv 2) pe_int (fun _ _ => rfl)) pe_str (nomark _))
      (pss_cons (ps_set (i := 8) sc_law_come.nd rfl (Or.inl rfl) (pe_dget (hu_of hr) (pe_dget (hu_of hr) (pv 0) pe_str (fun _ _ => rfl)) (pe_tup (pa_cons (pe_ix ix_tup (pv 2) pe_int (fun _ _ => rfl)) (pa_cons (pe_ix ix_tup (pv 2) pe_int (fun _ _ => rfl)) pa_nil))) (fun _ _ => rfl)))
      (pss_cons (ps_dput (hu_of hr) (pe_dget (hu_of hr) (pv 0) pe_str (fun _ _ => rfl)) (pe_tup (pa_cons (pe_ix ix_tup (pv 2) pe_int (fun _ _ => rfl)) (pa_cons (pe_ix ix_tup (pv 2) pe_int (fun _ _ => rfl)) pa_nil))) (pe_slice sl_list (pv 8) po_none (po_some (pe_un un_neg pe_int))) rfl)
      (pss_one (ps_ret (pe_tup (pa_cons (pe_ix ix_list (pv 8) (pe_un un_neg pe_int) (fun _ _ => rfl)) (pa_cons (pe_lst (pa_cons (pe_op op_catT (pv 2) (pe_tup (pa_cons (pe_ix ix_list (pv 8) (pe_un un_neg pe_int) (fun _ _ => rfl)) pa_nil))) pa_nil)) pa_nil)))))))
      pss_nil)
    (pss_cons (ps_par3 (i := 3) (j := 4) (l := 5) (by rfl) sc_law_come.nd rfl rfl rfl (by decide) (by decide) (by decide) rfl rfl rfl (pa_cons (pe_lst pa_nil) (pa_cons (pe_lst pa_nil) (pa_cons (pe_ix ix_tup (pv 2) pe_int (fun _ _ => rfl)) pa_nil))) (by rfl))
    (pss_cons (ps_for PassesOwn.never rfl (pi_range1 (by rfl) T.f_range (pa_cons (pe_dget (hu_of hr) (pv 0) pe_str (fun _ _ => rfl)) pa_nil)) (pg_name (i := 6) sc_law_come.nd rfl (Or.inl rfl))
      (pss_cons (ps_par (i := 9) (j := 10) (by rfl) sc_law_come.nd rfl rfl (by decide) rfl rfl (pa_cons (C8.pe_c (c_law_row T) hr (by decide) rfl (pa_cons (pv 0) (pa_cons (pv 1) (pa_cons (pv 6) pa_nil)))) (pa_cons (C8.pe_c (c_law_likes T) hr (by decide) rfl (pa_cons (pv 0) (pa_cons (pv 1) (pa_cons (pv 6) (pa_cons (pv 5) pa_nil))))) pa_nil)) (by rfl))
      (pss_cons (ps_set (i := 11) sc_law_come.nd rfl (Or.inl rfl) (pe_ix ix_list (pv 1) (pe_op op_sub (pv 5) pe_int) (fun _ _ => rfl)))
      (pss_one (ps_if (PW.pt (pw_and (pt_cmpR (op_eqD hr.units) (C8.pe_c (c_law_chain T) hr (by decide) rfl (pa_cons (pv 1) (pa_cons (pv 9) (pa_cons (pv 11) pa_nil)))) (pe_lst pa_nil) (nomark _)) (pw_and (pt_cmpR (op_neD hr.units) (C8.pe_c (c_law_chain T) hr (by decide) rfl (pa_cons (pv 1) (pa_cons (pv 9) (pa_cons (pv 5) pa_nil)))) (pe_lst pa_nil) (nomark _)) (pw_and1 (pt_cmpR op_eq (pe_callB call_len_seq (by rfl) T.f_len (by decide +kernel) (pa_cons (pv 10) pa_nil)) pe_int (nomark _))))))
        (pss_cons (ps_set (i := 12) sc_law_come.nd rfl (Or.inl rfl) (pe_tup (pa_cons pe_str (pa_cons (pv 6) (pa_cons (pv 5) (pa_cons (pe_ix ix_list (pv 10) pe_int (fun _ _ => rfl)) (pa_cons (pe_ix ix_tup (pe_ix ix_list (pv 9) (pv 11) (fun _ _ => rfl)) pe_int (fun _ _ => rfl)) (pa_cons (C8.pe_c (c_law_now T) hr (by decide) rfl (pa_cons (pv 0) (pa_cons (pv 6) (pa_cons (pv 5) pa_nil)))) pa_nil))))))))
        (pss_cons (ps_expr (pe_bm PySem.F.plainAttrs_list PySem.F.slot_list_append PySem.F.type_list_append mt_append (pv 4) (pa_cons (pe_op op_catT (pv 12) (pe_tup (pa_cons (C8.pe_c (c_law_put T) hr (by decide) rfl (pa_cons (pv 0) (pa_cons (pv 6) (pa_cons (pv 5) (pa_cons (pe_ix ix_list (pv 10) pe_int (fun _ _ => rfl)) (pa_cons (pe_ix ix_tup (pe_ix ix_list (pv 9) (pv 11) (fun _ _ => rfl)) pe_int (fun _ _ => rfl)) pa_nil)))))) pa_nil))) pa_nil)))
        (pss_one (ps_expr (pe_bm PySem.F.plainAttrs_list PySem.F.slot_list_append PySem.F.type_list_append mt_append (pv 3) (pa_cons (pv 6) pa_nil))))))
        pss_nil)))))
    (pss_one (ps_ret (pe_tup (pa_cons (pv 3) (pa_cons (pv 4) pa_nil)))))))))), ?_⟩
      obtain ⟨t0, t1⟩ := may
      have up1 := up_lt fo t0 t1
      have n6 := ok.six
      have hi7 := fo.hi
      obtain ⟨xx, ex, x0, xl, xu⟩ := fo.at t0 t1
      subst xu
      refine ⟨_, rfl, q, _, _, _, rfl, rfl, SqT.of hq, atI_nat (j := 0) rfl, rfl, false, rfl, iteF ⟨_, rfl, q, _, _, _, rfl, rfl, SqT.of hq, atI_nat (j := 0) rfl, rfl, false, rfl, iteF ⟨_, rfl, q, _, _, _, rfl, rfl, SqT.of hq, atI_nat (j := 0) rfl, rfl, false, rfl, iteF ?_⟩⟩⟩
      refine ⟨Nat.zero_le _, fun F nF => ⟨Nat.zero_le _, fun L nL => ?_⟩⟩
      have s1 : Same H (upd H F (.lst [])) := same_upd nF
      have s2 : Same H (upd (upd H F (.lst [])) L (.lst [])) := s1.trans (same_upd nL)
      have hF2 : LsAt (upd (upd H F (.lst [])) L (.lst [])) F [] := same_upd nL _ _ upd_same
      have hL2 : LnAt (upd (upd H F (.lst [])) L (.lst [])) L [] := ⟨[], upd_same, All2.nil⟩
      have nFL : F ≠ L := ne_of_none upd_same nL
      have nL0 : H L = none := s1.free nL
      obtain ⟨vsl, hvl, _⟩ := hh.puts
      have nFl : F ≠ l := Ne.symm (ne_of_none hvl nF)
      have nLl : L ≠ l := Ne.symm (ne_of_none hvl nL0)
      have av1 : Avoid (upd (upd H F (.lst [])) L (.lst [])) d (· = F) := by
        obtain ⟨kvs, h1, _⟩ := hh.lie
        exact (hh.new nF).eq (by rw [s2 _ _ h1, h1])
      have av2 : Avoid (upd (upd H F (.lst [])) L (.lst [])) d (· = L) := by
        obtain ⟨kvs, h1, _⟩ := hh.lie
        exact (hh.new nL0).eq (by rw [s2 _ _ h1, h1])
      have hh2 := hh.same s2
      generalize upd (upd H F (.lst [])) L (.lst []) = H2 at s2 hF2 hL2 av1 av2 hh2 ⊢
      refine ⟨_, rfl, q, _, _, _, rfl, rfl, SqT.of (s2 _ _ hq), atI_nat (j := 1) rfl, _, _, _, rfl, ?_⟩
      refine ⟨_, rfl, o, _, rfl, DGet.k (k := kP) hh2.top, _, rfl, by omega, by omega, ?_⟩
      refine for_range (lo := 0) (n := (S.n : Int).toNat) (fun i σ H4 => ∃ v6 v9 v10 v11 v12 : Option V, σ = [some (.ref o), some (.ref f), some (.ref q), some (.ref F), some (.ref L), some (.int t), v6, none, none, v9, v10, v11, v12] ∧ Off o l d H H4 ∧ Still H H4 d ∧ Here H4 o l d (S.fillTo fr t i).1 ∧ LsAt H4 F (S.fillTo fr t i).2.1 ∧ LnAt H4 L (S.fillTo fr t i).2.2 ∧ Avoid H4 d (· = F) ∧ Avoid H4 d (· = L))
        ⟨none, none, none, none, none, rfl, Off.refl.same s2, Still.same hh s2, hh2, hF2, hL2, av1, av2⟩ ?_ ?_
      · rintro i σ H4 hi ⟨v6, v9, v10, v11, v12, rfl, o4, st4, h4, hF4, hL4, avF, avL⟩
        have hin : i < S.n := by omega
        rw [show (0 + (i : Int)) = (i : Int) from Int.zero_add _]
        have fk := fillTo_ok ok fo t0 t1 i (by omega)
        rw [De.fillTo_succ]
        generalize S.fillTo fr t i = A at h4 hF4 hL4 fk ⊢
        have An := fk.n
        have hf4 := o4.ls hh nfl hf
        refine ⟨_, rfl, _, rfl, _, rfl, o, l, d, A.1, f, fr, i, rfl, h4, fk.ok.num, hf4, by omega, fun H5 r s5 nr hr5 => ?_⟩
        refine ⟨_, rfl, _, rfl, _, rfl, _, rfl, o, l, d, A.1, f, fr, i, t, rfl, h4.same s5, fk.ok, LsAt.same s5 hf4, fo, t0, t1, fun H6 a ts s6 na ha srt nd mem => ⟨_, _, rfl, ?_⟩⟩
        have s46 := s5.trans s6
        have hf6 := LsAt.same s46 hf4
        have hr6 := hr5.same s6
        have rok := fk.ok.row (p := i) (by omega)
        refine ⟨_, rfl, _, rfl, _, _, rfl, rfl, f, _, _, _, rfl, rfl, SqL.of hf6, at_of (j := t - 1) (by omega) (ivs ex), ?_⟩
        refine ⟨_, rfl, _, rfl, _, rfl, f, fr, r, _, up fr t, rfl, ⟨hf6, fo, hr6, rok, by omega⟩, fun H7 c7 s7 nc7 hc7 => ⟨Nat.zero_le _, fun g7 ng7 => ⟨_, _, dp_ints (hc7.same (same_upd ng7)), dp_ints (ns := []) upd_same, shaped_ints _, shaped_ints _, (chain fr (A.1.row (fr.length + 1) i) (up fr t)).isNone, ?_, ?_⟩⟩⟩
        · rw [eqv_ints]
          refine congrArg V.bl ?_
          cases ec : chain fr (A.1.row (fr.length + 1) i) (up fr t) with
          | none => rfl
          | some c => exact decide_eq_false (chain_mem fo _ c (by omega) ec).1
        have s48 : Same H4 (upd H7 g7 (.lst [])) := (s46.trans s7).trans (same_upd ng7)
        have s68 : Same H6 (upd H7 g7 (.lst [])) := s7.trans (same_upd ng7)
        generalize upd H7 g7 (.lst []) = H8 at s48 s68 ⊢
        have no : ∀ (H9 : Hp) (w9 w10 w11 : Option V), Same H4 H9 → De.fillOne fr t A i = A → ∃ v6 v9 v10 v11 v12' : Option V, [some (V.ref o), some (V.ref f), some (V.ref q), some (V.ref F), some (V.ref L), some (V.int t), some (V.int i), none, none, w9, w10, w11, v12] = [some (.ref o), some (.ref f), some (.ref q), some (.ref F), some (.ref L), some (.int t), v6, none, none, v9, v10, v11, v12'] ∧ Off o l d H H9 ∧ Still H H9 d ∧ Here H9 o l d (De.fillOne fr t A i).1 ∧ LsAt H9 F (De.fillOne fr t A i).2.1 ∧ LnAt H9 L (De.fillOne fr t A i).2.2 ∧ Avoid H9 d (· = F) ∧ Avoid H9 d (· = L) := by
          intro H9 w9 w10 w11 s9 e
          rw [e]
          obtain ⟨kvs, hk, _⟩ := h4.lie
          exact ⟨_, _, _, _, _, rfl, o4.same s9, st4.trans (Still.same h4 s9) (o4.there h4), h4.same s9, hF4.same s9, hL4.same s9, avF.eq (by rw [s9 _ _ hk, hk]), avL.eq (by rw [s9 _ _ hk, hk])⟩
        by_cases e1 : ¬ chain fr (A.1.row (fr.length + 1) i) (up fr t) = none
        · rw [Option.isNone_eq_false_iff.mpr (Option.isSome_iff_ne_none.mpr e1)]
          exact iteF (iteF (no H8 _ _ _ s48 (De.fill_no (.inl e1))))
        have e1 := Classical.not_not.mp e1
        rw [e1]
        refine iteT ⟨_, rfl, _, rfl, _, rfl, f, fr, r, _, t, rfl, ⟨hf6.same s68, fo, hr6.same s68, rok, t1⟩, fun H9 c9 s9 nc9 hc9 => ⟨Nat.zero_le _, fun g9 ng9 => ⟨_, _, dp_ints (hc9.same (same_upd ng9)), dp_ints (ns := []) upd_same, shaped_ints _, shaped_ints _, (chain fr (A.1.row (fr.length + 1) i) t).isSome, ?_, ?_⟩⟩⟩
        · rw [eqv_ints]
          refine congrArg V.bl ?_
          cases ec : chain fr (A.1.row (fr.length + 1) i) t with
          | none => rfl
          | some c =>
            show (!decide (c = [])) = true
            rw [decide_eq_false (chain_mem fo _ c t1 ec).1]
            rfl
        have s410 : Same H4 (upd H9 g9 (.lst [])) := (s48.trans s9).trans (same_upd ng9)
        have s610 : Same H6 (upd H9 g9 (.lst [])) := (s68.trans s9).trans (same_upd ng9)
        generalize upd H9 g9 (.lst []) = H10 at s410 s610 ⊢
        by_cases e2 : chain fr (A.1.row (fr.length + 1) i) t = none
        · rw [e2]
          exact iteF (iteF (no H10 _ _ _ s410 (De.fill_no (.inr (.inl e2)))))
        rw [Option.isSome_iff_ne_none.mpr e2]
        refine iteT ⟨_, rfl, a, _, rfl, .inl (SqL.of (s610 _ _ ha)), rfl, decide (ts.length = 1), ?_, ?_⟩
        · rw [List.length_map]
          exact congrArg V.bl (dec_nat (y := 1))
        rcases (only_list nd mem).symm with ⟨e3, e4⟩ | ⟨x, rfl, e3⟩
        · rw [decide_eq_false e3]
          exact iteF (no H10 _ _ _ s410 (De.fill_no (.inr (.inr e4))))
        obtain ⟨kk0, ek⟩ := fk.ok.above fo (p := i) (by omega) (by omega) e1
        obtain ⟨wr, hwr, hcr⟩ := hr6
        obtain ⟨w, ew, cw⟩ := hcr.each (up fr t) _ (De.row_at (by omega))
        unfold De.cell at cw
        rw [ek] at cw
        obtain ⟨b2, rfl, hb2⟩ := cw
        have hw10 := s610 _ _ hwr
        have hb10 := s610 _ _ hb2
        have ha10 := s610 _ _ ha
        rw [De.fill_yes e1 e2 e3, ek]
        refine iteT ⟨_, rfl, _, rfl, _, rfl, a, _, _, _, rfl, rfl, SqL.of ha10, atI_nat (j := 0) rfl, _, rfl, _, rfl, r, _, _, _, rfl, rfl, SqL.of hw10, at_of (j := up fr t) rfl ew, b2, _, _, _, rfl, rfl, SqT.of hb10, atI_nat (j := 0) rfl, _, rfl, _, rfl, _, rfl, o, l, d, A.1, i, t, rfl, h4.same s410, fun H11 s11 => ⟨(by show 6 ≤ sizeLine; decide), fun ln nln => ?_⟩⟩
        have s412 : Same H4 (upd H11 ln (.tup [V.str "put", V.int (i : Int), V.int (t : Int), V.str x, V.int kk0, oV (A.1.now i t)])) := (s410.trans s11).trans (same_upd nln)
        have s1012 : Same H10 (upd H11 ln (.tup [V.str "put", V.int (i : Int), V.int (t : Int), V.str x, V.int kk0, oV (A.1.now i t)])) := s11.trans (same_upd nln)
        have hln : (upd H11 ln (.tup [V.str "put", V.int (i : Int), V.int (t : Int), V.str x, V.int kk0, oV (A.1.now i t)])) ln = some (.tup [V.str "put", V.int (i : Int), V.int (t : Int), V.str x, V.int kk0, oV (A.1.now i t)]) := upd_same
        generalize upd H11 ln (.tup [V.str "put", V.int (i : Int), V.int (t : Int), V.str x, V.int kk0, oV (A.1.now i t)]) = H12 at s412 s1012 hln ⊢
        have h12 := h4.same s412
        have hL12 := hL4.same s412
        obtain ⟨wl, hwl, hal⟩ := id hL12
        have al := fk.len
        refine ⟨_, rfl, .inl ⟨rfl, _, SqL.of hwl⟩, _, rfl, _, rfl, _, rfl, _, rfl, _, rfl, a, _, _, _, rfl, rfl, SqL.of (s1012 _ _ ha10), atI_nat (j := 0) rfl, _, rfl, _, rfl, r, _, _, _, rfl, rfl, SqL.of (s1012 _ _ hw10), at_of (j := up fr t) rfl ew, b2, _, _, _, rfl, rfl, SqT.of (s1012 _ _ hb10), atI_nat (j := 0) rfl, o, l, d, A.1, i, t, x, some kk0, rfl, h12, by omega, fun H13 o13 st13 h13 => ⟨(by show 1 ≤ sizeLine; decide), fun u nu => ?_⟩⟩
        have hln13 := o13.tup h12 hln
        have hL13 := hL12.off o13 h12 nLl
        have hF13 : LsAt H13 F A.2.1 := o13.ls h12 nFl (hF4.same s412)
        have o413 := o4.trans ((Off.refl.same s412).trans o13)
        obtain ⟨kvs4, hk4, _⟩ := h4.lie
        have av12 : ∀ R, Avoid H4 d R → Avoid H12 d R := fun R z => z.eq (by rw [s412 _ _ hk4, hk4])
        have avF13 := st13 (· = F) (fun c z => by rw [z]; exact ⟨_, hF4.same s412⟩) (av12 _ avF)
        have avL13 := st13 (· = L) (fun c z => by rw [z]; exact ⟨_, hwl⟩) (av12 _ avL)
        have st413 : Still H H13 d := (st4.trans (Still.same h4 s412) (o4.there h4)).trans st13 ((o4.same s412).there h12)
        refine ⟨ln, u, _, _, rfl, rfl, SqT.of (same_upd nu _ _ hln13), SqT.of upd_same, (fun z => nomatch z), (by show 7 ≤ sizeLine; decide), (fun z => nomatch z), fun _ v nv => ?_⟩
        have s14 : Same H13 (upd (upd H13 u (.tup [V.int (A.1.puts.length : Int)])) v (.tup (Line.put i t x (some kk0) (A.1.now i t) (A.1.puts.length : Int)).vals)) := (same_upd nu).trans (same_upd nv)
        have hv14 : (upd (upd H13 u (.tup [V.int (A.1.puts.length : Int)])) v (.tup (Line.put i t x (some kk0) (A.1.now i t) (A.1.puts.length : Int)).vals)) v = some (.tup (Line.put i t x (some kk0) (A.1.now i t) (A.1.puts.length : Int)).vals) := upd_same
        have hL14 := hL13.same s14
        have h14 := h13.same s14
        have hF14 := hF13.same s14
        have o414 := o413.same s14
        obtain ⟨kvs13, hk13, _⟩ := h13.lie
        have av14 : ∀ R, Avoid H13 d R → Avoid (upd (upd H13 u (.tup [V.int (A.1.puts.length : Int)])) v (.tup (Line.put i t x (some kk0) (A.1.now i t) (A.1.puts.length : Int)).vals)) d R := fun R z => z.eq (by rw [s14 _ _ hk13, hk13])
        have avF14 := av14 _ avF13
        have avL14 := av14 _ avL13
        have st414 := st413.trans (Still.same h13 s14) (o413.there h13)
        obtain ⟨wl', hwl', hal'⟩ := id hL14
        have lsz : wl'.length < sizeLine := by
          rw [hal'.len]
          have := fk.l
          exact small1000 (by omega)
        refine ⟨L, _, _, rfl, rfl, hwl', lsz, ?_⟩
        obtain ⟨h15, av15⟩ := h14.chg (x := .lst (wl' ++ [V.ref v])) nLl hwl' avL14
        have hL15 := hL14.snoc hwl' (v := .ref v) (e := .put i t x (some kk0) (A.1.now i t) (A.1.puts.length : Int)) ⟨v, rfl, hv14⟩
        have hF15 : LsAt (upd (upd (upd H13 u (.tup [V.int (A.1.puts.length : Int)])) v (.tup (Line.put i t x (some kk0) (A.1.now i t) (A.1.puts.length : Int)).vals)) L (.lst (wl' ++ [V.ref v]))) F A.2.1 := by
          unfold LsAt
          rw [upd_ne nFL]
          exact hF14
        have o415 : Off o l d H (upd (upd (upd H13 u (.tup [V.int (A.1.puts.length : Int)])) v (.tup (Line.put i t x (some kk0) (A.1.now i t) (A.1.puts.length : Int)).vals)) L (.lst (wl' ++ [V.ref v]))) := o414.chg nL0
        have st415 : Still H (upd (upd (upd H13 u (.tup [V.int (A.1.puts.length : Int)])) v (.tup (Line.put i t x (some kk0) (A.1.now i t) (A.1.puts.length : Int)).vals)) L (.lst (wl' ++ [V.ref v]))) d := fun R z y => av15 R (st414 R z y)
        have avF15 := av15 _ avF14
        have avL15 := av15 _ avL14
        have fsz : (A.2.1.map V.int).length < sizeLine := by
          rw [List.length_map]
          have := fk.f
          exact small1000 (by omega)
        refine ⟨_, rfl, .inl ⟨rfl, _, SqL.of hF15⟩, _, rfl, F, _, _, rfl, rfl, hF15, fsz, ?_⟩
        obtain ⟨h16, av16⟩ := h15.chg (x := .lst (A.2.1.map V.int ++ [V.int (i : Int)])) nFl hF15 avF15
        refine ⟨_, _, _, _, _, rfl, o415.chg nF, fun R z y => av16 R (st415 R z y), h16, ?_, hL15.upd (Ne.symm nFL) hF15, av16 _ avF15, av16 _ avL15⟩
        unfold LsAt
        rw [upd_same, List.map_append]
        rfl
      · rintro σ H4 ⟨v6, v9, v10, v11, v12, rfl, o4, st4, h4, hF4, hL4, avF, avL⟩
        rw [show (S.n : Int).toNat = S.n by omega] at h4 hF4 hL4
        refine ⟨_, rfl, _, rfl, (by show 2 ≤ sizeLine; decide), fun r nr => ?_⟩
        have sr : Same H4 (upd H4 r (.tup [V.ref F, V.ref L])) := same_upd nr
        exact k _ r _ L (o4.same sr) (st4.trans (Still.same h4 sr) (o4.there h4)) (h4.same sr) (o4.gone h4 nr) upd_same ⟨F, rfl, hF4.same sr⟩ nL0 (hL4.same sr)


end PD

namespace PD
open PySem PySem.Spec PyProof.Rows L2

/-! Phrasedesk: whether a line fits, by the law's own state -/
--# _law_fits
theorem one_lt {c d : Nat} : decide (([c] : List Nat) < [d]) = decide (c < d) := by
  refine decide_eq_decide.mpr ?_
  constructor
  · intro h
    cases h with
    | rel h => exact h
    | cons h => cases h
  · intro h
    exact List.Lex.rel h
theorem eqv_o : ∀ a b : Option Int, PyData.eqv (dO a) (dO b) = decide (a = b)
  | none, none => by simp [dO, PyData.eqv]
  | none, some j => by simp [dO, PyData.eqv]
  | some i, none => by simp [dO, PyData.eqv]
  | some i, some j => by
    have : (i == j) = decide (i = j) := by
      by_cases e : i = j
      · subst e
        simp
      · rw [decide_eq_false e]
        exact beq_eq_false_iff_ne.mpr e
    simp [dO, PyData.eqv, this]
theorem any_os (s : Option Int) : ∀ l : List (Option Int), ((l.map dO).any fun z => PyData.eqv z (dO s)) = decide (s ∈ l)
  | [] => rfl
  | a :: r => by
    rw [List.map_cons, List.any_cons, any_os s r, eqv_o]
    by_cases e : a = s
    · subst e
      simp
    · have e2 : ¬ s = a := fun z => e z.symm
      simp [e, e2]
theorem shaped_o (s : Option Int) : SeqAt.shaped (dO s) = true := by cases s <;> rfl
theorem lay_os : ∀ l : List (Option Int), PyData.canLayAll0 (l.map dO) = true
  | [] => rfl
  | a :: r => by
    rw [List.map_cons]
    have h : (dO a).canLay0 = true := by cases a <;> rfl
    simp [PyData.canLayAll0, h, lay_os r]
theorem depth_os : ∀ l : List (Option Int), PyData.depthAll (l.map dO) = 0
  | [] => rfl
  | a :: r => by
    rw [List.map_cons]
    have h : (dO a).depth = 0 := by cases a <;> rfl
    simp [PyData.depthAll, h, depth_os r]
theorem dpa_os {K : PySem.W.Frag} {H : Hp} : ∀ l : List (Option Int), DpAll K H (l.map oV) (l.map dO)
  | [] => .nil
  | a :: r => .cons (dp_o a) (dpa_os r)
theorem shaped_os (l : List (Option Int)) : SeqAt.shaped (.list (l.map dO)) = true := by
  unfold SeqAt.shaped
  simp only [PyData.canLay0, lay_os, PyData.depth, depth_os]
  decide
def spFits : Sp := fun vs H Q _ => ∃ (o l d : Addr) (S : De) (f : Addr) (fr : List Int) (q : Addr) (n : Tl), vs = [.ref o, .ref f, .ref q] ∧ Here H o l d S ∧ S.Ok fr ∧ LsAt H f fr ∧ FrOk fr ∧ H q = some (.tup n.vals) ∧ n.Low ∧ ∀ H' : Hp, Same H H' → Q (.bl (S.fits fr n)) H'
theorem sc_law_fits : FnScope ["_law_here", "_law_froms_here", "_law_line", "_law_number_here", "_law_some", "_law_good", "_law_text_here", "_law_lying", "_law_one", "_law_sign"] ["_law_here", "_law_froms_here", "_law_line"] (defScope s_law_fits) := ⟨rfl, rfl, rfl, by decide +kernel, rfl, by decide +kernel, by decide +kernel⟩
theorem c_law_fits {P : Program} {w : World} {K : PySem.W.Frag} {mg : Str → Option Value} {base : Heap} (T : Tx K mg) : C8.Cal P w K mg base 2 "_law_fits" (spFits) [] := by
  refine calD T.F_law_fits T.g_law_fits (fun _ _ _ _ _ _ us hl => match us, hl with | [_, _, _], _ => rfl) sc_law_fits (fun vs H Q E h => ?_) (fun cdv A outer s H vs Q E hr h => ?_)
  · obtain ⟨o, l, d, S, f, fr, q, n, rfl, _⟩ := h
    rfl
  · obtain ⟨o, l, d, S, f, fr, q, n, rfl, hh, ok, hf, fo, hq, low, k⟩ := h
    cases n with
    | phrase p x kk0 =>
      refine ⟨_, (pss_cons (ps_if (pt_cmpR op_eq (pe_ix ix_tup (pv 2) pe_int (fun _ _ => rfl)) pe_str (nomark _))
      (pss_cons (ps_par (i := 6) (j := 5) (by rfl) sc_law_fits.nd rfl rfl (by decide) rfl rfl (pa_cons (pe_ix ix_tup (pv 2) pe_int (fun _ _ => rfl)) (pa_cons (pe_and (pe_cmpR op_eq (pe_ix ix_tup (pv 2) pe_int (fun _ _ => rfl)) (pe_dget (hu_of hr) (pv 0) pe_str (fun _ _ => rfl)) (nomark _)) (pe_one (pe_cmpR op_lt (pe_dget (hu_of hr) (pv 0) pe_str (fun _ _ => rfl)) pe_int (nomark _)))) pa_nil)) (by rfl))
      (pss_one (ps_ret (pe_and (pv 5) (pe_and (pe_chain op_le op_le pe_int (pe_callB call_len_str (by rfl) T.f_len (by decide +kernel) (pa_cons (pv 6) pa_nil)) pe_int) (pe_one (pe_cmpR op_eq (pe_ix ix_tup (pv 2) pe_int (fun _ _ => rfl)) (pe_callB call_len_seq (by rfl) T.f_len (by decide +kernel) (pa_cons (pe_dget (hu_of hr) (pv 0) pe_str (fun _ _ => rfl)) pa_nil)) (nomark _))))))))
      pss_nil)
    (pss_cons (ps_if (PW.pt (pw_or (pt_not (pt_chain op_le op_lt pe_int (pe_ix ix_tup (pv 2) pe_int (fun _ _ => rfl)) (pe_dget (hu_of hr) (pv 0) pe_str (fun _ _ => rfl)))) (pw_or1 (pt_not (pt_chain op_le op_le pe_int (pe_ix ix_tup (pv 2) pe_int (fun _ _ => rfl)) (pe_callB call_len_seq (by rfl) T.f_len (by decide +kernel) (pa_cons (pv 1) pa_nil)))))))
      (pss_one (ps_ret pe_bl))
      pss_nil)
    (pss_cons (ps_set (i := 3) sc_law_fits.nd rfl (Or.inl rfl) (C8.pe_c (c_law_now T) hr (by decide) rfl (pa_cons (pv 0) (pa_cons (pe_ix ix_tup (pv 2) pe_int (fun _ _ => rfl)) (pa_cons (pe_ix ix_tup (pv 2) pe_int (fun _ _ => rfl)) pa_nil)))))
    (pss_cons (ps_if (pt_cmpR op_eq (pe_ix ix_tup (pv 2) pe_int (fun _ _ => rfl)) pe_str (nomark _))
      (pss_cons (ps_set (i := 7) sc_law_fits.nd rfl (Or.inl rfl) (pe_dget2 (hu_of hr) (pe_dget (hu_of hr) (pv 0) pe_str (fun _ _ => rfl)) (pe_tup (pa_cons (pe_ix ix_tup (pv 2) pe_int (fun _ _ => rfl)) (pa_cons (pe_ix ix_tup (pv 2) pe_int (fun _ _ => rfl)) pa_nil))) (pe_lst pa_nil) ⟨rfl, rfl, rfl, rfl⟩))
      (pss_one (ps_ret (pe_and (pe_cmpR op_gt (pe_callB call_len_seq (by rfl) T.f_len (by decide +kernel) (pa_cons (pv 7) pa_nil)) (pe_callTy call_int1 (by rfl) T.f_int (by decide +kernel) (pa_cons (pe_cmpR op_eq (pe_ix ix_tup (pv 2) pe_int (fun _ _ => rfl)) pe_int (nomark _)) pa_nil)) (nomark _)) (pe_one (pe_cmpR op_eq (pe_ix ix_tup (pv 2) pe_int (fun _ _ => rfl)) (pv 3) (nomark _)))))))
      pss_nil)
    (pss_cons (ps_set (i := 4) sc_law_fits.nd rfl (Or.inl rfl) (pe_lst (pa_cons pe_non pa_nil)))
    (C8.pss_cut (ps_if (pt_cmpR op_gt (pe_ix ix_tup (pv 2) pe_int (fun _ _ => rfl)) pe_int (nomark _))
      (pss_one (ps_setLc (i := 4) (own := [("_law_one", 8), ("_law_text_here", 6)]) (g := gTup K 2 (gCons (gName 8) (gCons (gName 6) (gNil)))) (tt := tYes) (by rfl) sc_law_fits.nd rfl rfl (sw_true rfl rfl rfl (by decide +kernel)) (pi_list (C8.pe_c (c_law_ever T) hr (by decide) rfl (pa_cons (pv 0) (pa_cons (pe_ix ix_tup (pv 2) pe_int (fun _ _ => rfl)) (pa_cons (pe_ix ix_list (pv 1) (pe_op op_sub (pe_ix ix_tup (pv 2) pe_int (fun _ _ => rfl)) pe_int) (fun _ _ => rfl)) pa_nil))))) (blkOk_by (own := [("_law_one", 8), ("_law_text_here", 6)]) (N := ["_law_here", "_law_froms_here", "_law_line", "_law_number_here", "_law_some", "_law_good", "_law_text_here", "_law_lying", "_law_one", "_law_sign"]) (sc := defScope s_law_fits) (by decide +kernel)) (fun _ _ _ _ _ => (pg_tup rfl (pgs_cons (pg_name (i := 8) sc_law_fits.nd rfl (Or.inl rfl) (Or.inr rfl)) (pgs_cons (pg_name (i := 6) sc_law_fits.nd rfl (Or.inl rfl) (Or.inr rfl)) pgs_nil)))) (fun _ _ _ _ _ => pts_nil) (fun _ _ _ _ _ => (pv 8))))
      pss_nil)
    (C8.pss_cut (ps_set (i := 5) sc_law_fits.nd rfl (Or.inl rfl) (pe_and (pe_chain op_le op_le pe_int (pe_callB call_len_str (by rfl) T.f_len (by decide +kernel) (pa_cons (pe_ix ix_tup (pv 2) pe_int (fun _ _ => rfl)) pa_nil)) pe_int) (pe_one (pe_callB (cr_all rfl) (by rfl) T.f_all (by decide +kernel) (pa_cons (pe_lc (own := [("_law_sign", 9)]) (g := gName 9) (tt := tYes) (by rfl) sc_law_fits.nd (pi_str (pe_ix ix_tup (pv 2) pe_int (fun _ _ => rfl))) (blkOk_by (own := [("_law_sign", 9)]) (N := ["_law_here", "_law_froms_here", "_law_line", "_law_number_here", "_law_some", "_law_good", "_law_text_here", "_law_lying", "_law_one", "_law_sign"]) (sc := defScope s_law_fits) (by decide +kernel)) (fun _ _ _ _ _ => (pg_name (i := 9) sc_law_fits.nd rfl (Or.inl rfl))) (fun _ _ _ _ _ => pts_nil) (fun _ _ _ _ _ => (pe_chain op_le_str op_le_str pe_str (pv 9) pe_str))) pa_nil)))))
    (pss_one (ps_ret (pe_and (pv 5) (pe_and (pe_cmpR (op_inD (un65 hr)) (pe_ix ix_tup (pv 2) pe_int (fun _ _ => rfl)) (pv 4) (by rfl)) (pe_and (pe_cmpR op_eq (pe_ix ix_tup (pv 2) pe_int (fun _ _ => rfl)) (pv 3) (nomark _)) (pe_one (pe_cmpR op_eq (pe_ix ix_tup (pv 2) pe_int (fun _ _ => rfl)) (pe_callB call_len_seq (by rfl) T.f_len (by decide +kernel) (pa_cons (pe_dget (hu_of hr) (pv 0) pe_str (fun _ _ => rfl)) pa_nil)) (nomark _))))))))))))))), ?_⟩
      obtain ⟨pv, hpv, hpa⟩ := hh.puts
      have k0 := k H (Same.refl _)
      have e0 : S.fits fr (.phrase p x kk0) = ((decide (p = (S.n : Int)) && decide ((S.n : Int) < 6)) && (lenOk x && decide (kk0 = (S.puts.length : Int)))) := rfl
      rw [e0] at k0
      have xl : x.length ≤ sizeLine := Nat.le_of_lt (small5000 low.2)
      have dec : ∀ {i j : Int}, decide (V.int i = V.int j) = decide (i = j) := fun {i j} => decide_eq_decide.mpr ⟨fun z => V.int.inj z, fun z => by rw [z]⟩
      refine ⟨_, rfl, q, _, _, _, rfl, rfl, SqT.of hq, atI_nat (j := 0) rfl, rfl, true, rfl, iteT ⟨_, rfl, q, _, _, _, rfl, rfl, SqT.of hq, atI_nat (j := 2) rfl, _, rfl, q, _, _, _, rfl, rfl, SqT.of hq, atI_nat (j := 1) rfl, _, rfl, o, _, rfl, DGet.k (k := kP) hh.top, rfl, decide (p = (S.n : Int)), congrArg V.bl dec, ?_⟩⟩
      by_cases c1 : p = (S.n : Int)
      case neg =>
        rw [decide_eq_false c1] at k0 ⊢
        exact iteF ⟨_, _, rfl, _, rfl, false, rfl, iteF k0⟩
      rw [decide_eq_true c1] at k0 ⊢
      refine iteT ⟨_, rfl, o, _, rfl, DGet.k (k := kP) hh.top, _, _, rfl, rfl, _, _, rfl, _, rfl, decide ((S.n : Int) < 6), rfl, ?_⟩
      by_cases c2 : (S.n : Int) < 6
      case neg =>
        rw [decide_eq_false c2] at k0 ⊢
        exact iteF k0
      rw [decide_eq_true c2] at k0 ⊢
      refine iteT ⟨_, rfl, x, rfl, xl, _, _, rfl, rfl, decide ((1 : Int) ≤ (x.length : Int)), rfl, ?_⟩
      unfold lenOk at k0
      by_cases c3 : 1 ≤ x.length
      case neg =>
        rw [decide_eq_false c3] at k0
        rw [decide_eq_false (show ¬ (1 : Int) ≤ (x.length : Int) by omega)]
        exact iteF ⟨false, rfl, iteF k0⟩
      rw [decide_eq_true c3] at k0
      rw [decide_eq_true (show (1 : Int) ≤ (x.length : Int) by omega)]
      refine iteT ⟨_, _, rfl, rfl, decide ((x.length : Int) ≤ 6), rfl, ?_⟩
      by_cases c4 : x.length ≤ 6
      case neg =>
        rw [decide_eq_false c4] at k0
        rw [decide_eq_false (show ¬ (x.length : Int) ≤ 6 by omega)]
        exact iteF k0
      rw [decide_eq_true c4] at k0
      rw [decide_eq_true (show (x.length : Int) ≤ 6 by omega)]
      refine iteT ⟨_, rfl, q, _, _, _, rfl, rfl, SqT.of hq, atI_nat (j := 3) rfl, _, rfl, o, _, rfl, DGet.k (k := kU) hh.top, l, _, rfl, .inl (SqL.of hpv), rfl, ?_⟩
      rw [hpa.len]
      exact qt dec k0
    | put p t x s0 ov kk0 =>
      refine ⟨_, (pss_cons (ps_if (pt_cmpR op_eq (pe_ix ix_tup (pv 2) pe_int (fun _ _ => rfl)) pe_str (nomark _))
      (pss_cons (ps_par (i := 6) (j := 5) (by rfl) sc_law_fits.nd rfl rfl (by decide) rfl rfl (pa_cons (pe_ix ix_tup (pv 2) pe_int (fun _ _ => rfl)) (pa_cons (pe_and (pe_cmpR op_eq (pe_ix ix_tup (pv 2) pe_int (fun _ _ => rfl)) (pe_dget (hu_of hr) (pv 0) pe_str (fun _ _ => rfl)) (nomark _)) (pe_one (pe_cmpR op_lt (pe_dget (hu_of hr) (pv 0) pe_str (fun _ _ => rfl)) pe_int (nomark _)))) pa_nil)) (by rfl))
      (pss_one (ps_ret (pe_and (pv 5) (pe_and (pe_chain op_le op_le pe_int (pe_callB call_len_str (by rfl) T.f_len (by decide +kernel) (pa_cons (pv 6) pa_nil)) pe_int) (pe_one (pe_cmpR op_eq (pe_ix ix_tup (pv 2) pe_int (fun _ _ => rfl)) (pe_callB call_len_seq (by rfl) T.f_len (by decide +kernel) (pa_cons (pe_dget (hu_of hr) (pv 0) pe_str (fun _ _ => rfl)) pa_nil)) (nomark _))))))))
      pss_nil)
    (pss_cons (ps_if (PW.pt (pw_or (pt_not (pt_chain op_le op_lt pe_int (pe_ix ix_tup (pv 2) pe_int (fun _ _ => rfl)) (pe_dget (hu_of hr) (pv 0) pe_str (fun _ _ => rfl)))) (pw_or1 (pt_not (pt_chain op_le op_le pe_int (pe_ix ix_tup (pv 2) pe_int (fun _ _ => rfl)) (pe_callB call_len_seq (by rfl) T.f_len (by decide +kernel) (pa_cons (pv 1) pa_nil)))))))
      (pss_one (ps_ret pe_bl))
      pss_nil)
    (pss_cons (ps_set (i := 3) sc_law_fits.nd rfl (Or.inl rfl) (C8.pe_c (c_law_now T) hr (by decide) rfl (pa_cons (pv 0) (pa_cons (pe_ix ix_tup (pv 2) pe_int (fun _ _ => rfl)) (pa_cons (pe_ix ix_tup (pv 2) pe_int (fun _ _ => rfl)) pa_nil)))))
    (pss_cons (ps_if (pt_cmpR op_eq (pe_ix ix_tup (pv 2) pe_int (fun _ _ => rfl)) pe_str (nomark _))
      (pss_cons (ps_set (i := 7) sc_law_fits.nd rfl (Or.inl rfl) (pe_dget2 (hu_of hr) (pe_dget (hu_of hr) (pv 0) pe_str (fun _ _ => rfl)) (pe_tup (pa_cons (pe_ix ix_tup (pv 2) pe_int (fun _ _ => rfl)) (pa_cons (pe_ix ix_tup (pv 2) pe_int (fun _ _ => rfl)) pa_nil))) (pe_lst pa_nil) ⟨rfl, rfl, rfl, rfl⟩))
      (pss_one (ps_ret (pe_and (pe_cmpR op_gt (pe_callB call_len_seq (by rfl) T.f_len (by decide +kernel) (pa_cons (pv 7) pa_nil)) (pe_callTy call_int1 (by rfl) T.f_int (by decide +kernel) (pa_cons (pe_cmpR op_eq (pe_ix ix_tup (pv 2) pe_int (fun _ _ => rfl)) pe_int (nomark _)) pa_nil)) (nomark _)) (pe_one (pe_cmpR op_eq (pe_ix ix_tup (pv 2) pe_int (fun _ _ => rfl)) (pv 3) (nomark _)))))))
      pss_nil)
    (pss_cons (ps_set (i := 4) sc_law_fits.nd rfl (Or.inl rfl) (pe_lst (pa_cons pe_non pa_nil)))
    (C8.pss_cut (ps_if (pt_cmpR op_gt (pe_ix ix_tup (pv 2) pe_int (fun _ _ => rfl)) pe_int (nomark _))
      (pss_one (ps_setLc (i := 4) (own := [("_law_one", 8), ("_law_text_here", 6)]) (g := gTup K 2 (gCons (gName 8) (gCons (gName 6) (gNil)))) (tt := tYes) (by rfl) sc_law_fits.nd rfl rfl (sw_true rfl rfl rfl (by decide +kernel)) (pi_list (C8.pe_c (c_law_ever T) hr (by decide) rfl (pa_cons (pv 0) (pa_cons (pe_ix ix_tup (pv 2) pe_int (fun _ _ => rfl)) (pa_cons (pe_ix ix_list (pv 1) (pe_op op_sub (pe_ix ix_tup (pv 2) pe_int (fun _ _ => rfl)) pe_int) (fun _ _ => rfl)) pa_nil))))) (blkOk_by (own := [("_law_one", 8), ("_law_text_here", 6)]) (N := ["_law_here", "_law_froms_here", "_law_line", "_law_number_here", "_law_some", "_law_good", "_law_text_here", "_law_lying", "_law_one", "_law_sign"]) (sc := defScope s_law_fits) (by decide +kernel)) (fun _ _ _ _ _ => (pg_tup rfl (pgs_cons (pg_name (i := 8) sc_law_fits.nd rfl (Or.inl rfl) (Or.inr rfl)) (pgs_cons (pg_name (i := 6) sc_law_fits.nd rfl (Or.inl rfl) (Or.inr rfl)) pgs_nil)))) (fun _ _ _ _ _ => pts_nil) (fun _ _ _ _ _ => (pv 8))))
      pss_nil)
    (C8.pss_cut (ps_set (i := 5) sc_law_fits.nd rfl (Or.inl rfl) (pe_and (pe_chain op_le op_le pe_int (pe_callB call_len_str (by rfl) T.f_len (by decide +kernel) (pa_cons (pe_ix ix_tup (pv 2) pe_int (fun _ _ => rfl)) pa_nil)) pe_int) (pe_one (pe_callB (cr_all rfl) (by rfl) T.f_all (by decide +kernel) (pa_cons (pe_lc (own := [("_law_sign", 9)]) (g := gName 9) (tt := tYes) (by rfl) sc_law_fits.nd (pi_str (pe_ix ix_tup (pv 2) pe_int (fun _ _ => rfl))) (blkOk_by (own := [("_law_sign", 9)]) (N := ["_law_here", "_law_froms_here", "_law_line", "_law_number_here", "_law_some", "_law_good", "_law_text_here", "_law_lying", "_law_one", "_law_sign"]) (sc := defScope s_law_fits) (by decide +kernel)) (fun _ _ _ _ _ => (pg_name (i := 9) sc_law_fits.nd rfl (Or.inl rfl))) (fun _ _ _ _ _ => pts_nil) (fun _ _ _ _ _ => (pe_chain op_le_str op_le_str pe_str (pv 9) pe_str))) pa_nil)))))
    (pss_one (ps_ret (pe_and (pv 5) (pe_and (pe_cmpR (op_inD (un65 hr)) (pe_ix ix_tup (pv 2) pe_int (fun _ _ => rfl)) (pv 4) (by rfl)) (pe_and (pe_cmpR op_eq (pe_ix ix_tup (pv 2) pe_int (fun _ _ => rfl)) (pv 3) (nomark _)) (pe_one (pe_cmpR op_eq (pe_ix ix_tup (pv 2) pe_int (fun _ _ => rfl)) (pe_callB call_len_seq (by rfl) T.f_len (by decide +kernel) (pa_cons (pe_dget (hu_of hr) (pv 0) pe_str (fun _ _ => rfl)) pa_nil)) (nomark _))))))))))))))), ?_⟩
      have e0 : S.fits fr (.put p t x s0 ov kk0) = (inPT fr S p t && (lenOk x && (decide (s0 ∈ S.seens fr p.toNat t.toNat) && (decide (ov = S.now p.toNat t.toNat) && decide (kk0 = (S.puts.length : Int)))))) := rfl
      rw [e0] at k
      refine ⟨_, rfl, q, _, _, _, rfl, rfl, SqT.of hq, atI_nat (j := 0) rfl, rfl, false, rfl, iteF ?_⟩
      refine ⟨_, rfl, q, _, _, _, rfl, rfl, SqT.of hq, atI_nat (j := 1) rfl, _, _, rfl, rfl, decide (0 ≤ p), rfl, ?_⟩
      have bad : inPT fr S p t = false → Q (.bl false) H := fun e => by
        have z := k H (Same.refl _)
        rw [e, Bool.false_and] at z
        exact z
      unfold inPT at bad
      by_cases c1 : 0 ≤ p
      case neg =>
        rw [decide_eq_false c1] at bad ⊢
        exact iteF ⟨false, rfl, iteT (bad rfl)⟩
      rw [decide_eq_true c1] at bad ⊢
      refine iteT ⟨_, rfl, o, _, rfl, DGet.k (k := kP) hh.top, _, _, rfl, rfl, decide (p < (S.n : Int)), rfl, ?_⟩
      by_cases c2 : p < (S.n : Int)
      case neg =>
        rw [decide_eq_false c2] at bad ⊢
        exact iteT (bad rfl)
      rw [decide_eq_true c2] at bad ⊢
      refine iteF ⟨_, rfl, q, _, _, _, rfl, rfl, SqT.of hq, atI_nat (j := 2) rfl, _, _, rfl, rfl, decide (0 ≤ t), rfl, ?_⟩
      by_cases c3 : 0 ≤ t
      case neg =>
        rw [decide_eq_false c3] at bad ⊢
        exact iteF ⟨false, rfl, iteT (bad rfl)⟩
      rw [decide_eq_true c3] at bad ⊢
      refine iteT ⟨_, rfl, f, _, rfl, .inl (SqL.of hf), _, _, rfl, rfl, decide (t ≤ (fr.length : Int)), by rw [List.length_map], ?_⟩
      by_cases c4 : t ≤ (fr.length : Int)
      case neg =>
        rw [decide_eq_false c4] at bad ⊢
        exact iteT (bad rfl)
      rw [decide_eq_true c4] at bad ⊢
      have yes : inPT fr S p t = true := by
        unfold inPT
        rw [decide_eq_true c1, decide_eq_true c2, decide_eq_true c3, decide_eq_true c4]
        rfl
      rw [yes, Bool.true_and] at k
      obtain ⟨p, rfl⟩ : ∃ n : Nat, p = (n : Int) := ⟨p.toNat, by omega⟩
      obtain ⟨t, rfl⟩ : ∃ n : Nat, t = (n : Int) := ⟨t.toNat, by omega⟩
      rw [Int.toNat_natCast, Int.toNat_natCast] at k
      refine iteF ⟨_, rfl, _, rfl, q, _, _, _, rfl, rfl, SqT.of hq, atI_nat (j := 1) rfl, _, rfl, q, _, _, _, rfl, rfl, SqT.of hq, atI_nat (j := 2) rfl, o, l, d, S, p, t, rfl, hh, fun H1 s1 => ?_⟩
      have hq1 := s1 _ _ hq
      have hh1 := hh.same s1
      refine ⟨_, rfl, q, _, _, _, rfl, rfl, SqT.of hq1, atI_nat (j := 0) rfl, rfl, false, rfl, iteF ?_⟩
      refine ⟨(by show 1 ≤ sizeLine; decide), fun e ne => ?_⟩
      have s2 : Same H1 (upd H1 e (.lst [V.non])) := same_upd ne
      have he2 : (upd H1 e (.lst [V.non])) e = some (.lst [V.non]) := upd_same
      generalize upd H1 e (.lst [V.non]) = H2 at s2 he2 ⊢
      have s12 := s1.trans s2
      have hq2 := s2 _ _ hq1
      have elen : (S.ever p (up fr t)).length ≤ 5000 := by
        have h1 := evG_len (p := p) (t := up fr t) (l := S.puts) (k := 0)
        have h2 := hh.few
        unfold De.ever
        omega
      refine ⟨fun σ' H' => ∃ (sl : Addr) (v8 v6 : Option V), Same H2 H' ∧ H' sl = some (.lst ((S.seens fr p t).map oV)) ∧ σ' = [some (.ref o), some (.ref f), some (.ref q), some (oV (S.now p t)), some (.ref sl), none, v6, none, v8, none], ?_, ?_⟩
      · refine ⟨_, rfl, q, _, _, _, rfl, rfl, SqT.of hq2, atI_nat (j := 2) rfl, _, _, rfl, rfl, decide ((0 : Int) < (t : Int)), rfl, ?_⟩
        by_cases c5 : (0 : Int) < (t : Int)
        case neg =>
          rw [decide_eq_false c5]
          refine iteF ⟨e, none, none, Same.refl _, ?_, rfl⟩
          unfold De.seens
          rw [if_pos (by omega)]
          exact he2
        rw [decide_eq_true c5]
        obtain ⟨xx, ex, x0, xl, xu⟩ := fo.at (t := t) (by omega) (by omega)
        subst xu
        refine iteT ⟨_, rfl, _, rfl, q, _, _, _, rfl, rfl, SqT.of hq2, atI_nat (j := 1) rfl, _, rfl, _, rfl, q, _, _, _, rfl, rfl, SqT.of hq2, atI_nat (j := 2) rfl, _, _, rfl, rfl, f, _, _, _, rfl, rfl, SqL.of (hf.same s12), at_of (j := t - 1) (by omega) (ivs ex), o, l, d, S, p, up fr t, rfl, hh.same s12, fun H8 ev s8 nev hev => ?_⟩
        obtain ⟨ws, hws, hal⟩ := hev
        refine ⟨ev, rfl, ⟨_, SqL.of hws⟩, fun D nD => ?_⟩
        refine lc_list (K := K) (a := ev) (xs := ws) (fun i H1 => Same H8 H1 ∧ H1 D = some (.lst ((((S.ever p (up fr t)).take i).map fun e => some e.1).map oV))) ⟨same_upd nD, upd_same⟩ (fun i H1 _ z => SqL.of (z.1 _ _ hws)) ?_ ?_
        · rintro i v H9 hv ⟨s9, hD⟩
          obtain ⟨e, ee, u, rfl, hu⟩ := hal.at hv
          refine ⟨u, _, rfl, .inl (.inl (s9 _ _ hu)), rfl, _, _, rfl, _, _, rfl, rfl, rfl, _, rfl, _, hD, ?_, Same.chg s9 nD, ?_⟩
          · rw [List.length_map, List.length_map, List.length_take]
            exact small5000 (by omega)
          · rw [upd_same, List.take_add_one, ee, Option.toList_some, List.map_append, List.map_append]
            rfl
        rintro H9 ⟨s9, hD⟩
        rw [hal.len, List.take_length] at hD
        refine ⟨D, _, _, s8.trans s9, ?_, rfl⟩
        unfold De.seens
        rw [if_neg (by omega)]
        exact hD
      rintro σ' H3 ⟨sl, v8, v6, s3, hsl, rfl⟩
      have s13 := s12.trans s3
      have hq3 := s3 _ _ hq2
      refine ⟨fun σ' H' => Same H3 H' ∧ ∃ v6' v8' v9', σ' = [some (.ref o), some (.ref f), some (.ref q), some (oV (S.now p t)), some (.ref sl), some (.bl (lenOk x)), v6', none, v8', v9'], ?_, ?_⟩
      · have xl : x.length ≤ sizeLine := Nat.le_of_lt (small5000 low.2)
        refine ⟨_, rfl, q, _, _, _, rfl, rfl, SqT.of hq3, atI_nat (j := 3) rfl, x, rfl, xl, _, _, rfl, rfl, decide ((1 : Int) ≤ (x.length : Int)), rfl, ?_⟩
        have fin : ∀ (b : Bool) (H' : Hp), lenOk x = b → Same H3 H' → Same H3 H' ∧ ∃ v6' v8' v9', [some (V.ref o), some (V.ref f), some (V.ref q), some (oV (S.now p t)), some (V.ref sl), some (V.bl b), v6, none, v8, none] = [some (.ref o), some (.ref f), some (.ref q), some (oV (S.now p t)), some (.ref sl), some (.bl (lenOk x)), v6', none, v8', v9'] := by
          intro b H' e s'
          rw [e]
          exact ⟨s', _, _, _, rfl⟩
        by_cases c5 : 1 ≤ x.length
        case neg =>
          rw [decide_eq_false (show ¬ (1 : Int) ≤ (x.length : Int) by omega)]
          refine iteF ⟨false, rfl, iteF (fin false H3 ?_ (Same.refl _))⟩
          unfold lenOk
          rw [decide_eq_false c5, Bool.false_and]
        rw [decide_eq_true (show (1 : Int) ≤ (x.length : Int) by omega)]
        refine iteT ⟨_, _, rfl, rfl, decide ((x.length : Int) ≤ 6), rfl, ?_⟩
        by_cases c6 : x.length ≤ 6
        case neg =>
          rw [decide_eq_false (show ¬ (x.length : Int) ≤ 6 by omega)]
          refine iteF (fin false H3 ?_ (Same.refl _))
          unfold lenOk
          rw [decide_eq_false c6, Bool.and_false]
        rw [decide_eq_true (show (x.length : Int) ≤ 6 by omega)]
        refine iteT ⟨_, rfl, q, _, _, _, rfl, rfl, SqT.of hq3, atI_nat (j := 3) rfl, x, rfl, fun D nD => ?_⟩
        refine lc_it (walk_str (z := x)) (fun i G => Same H3 G ∧ G D = some (.lst ((List.replicate i true).map V.bl))) ⟨same_upd nD, upd_same⟩ (fun i G _ z => trivial) ?_ ?_
        · rintro i v G G' hi ⟨s9, hD⟩ ⟨rfl, c, ec, rfl⟩
          have mem : c ∈ x.cps.toList := List.mem_of_getElem? (by rw [Array.getElem?_toList]; exact ec)
          obtain ⟨lo, hi'⟩ := low.1 c mem
          have g1 : (!decide (([c] : List Nat) < [97])) = true := by rw [one_lt, decide_eq_false (by omega)]; rfl
          have g2 : (!decide (([122] : List Nat) < [c])) = true := by rw [one_lt, decide_eq_false (by omega)]; rfl
          refine ⟨rfl, _, rfl, _, _, rfl, rfl, true, bl_of g1, iteT ⟨_, _, rfl, rfl, _, hD, ?_, Same.chg s9 nD, ?_⟩⟩
          · rw [List.length_map, List.length_replicate]
            have : i < x.length := hi
            exact small1000 (by omega)
          · rw [upd_same, List.replicate_succ', List.map_append]
            refine congrArg (fun z => some (HO.lst (_ ++ [z]))) ?_
            exact bl_of g2
        · rintro G ⟨s9, hD⟩
          refine ⟨D, _, rfl, SqL.of hD, ?_⟩
          rw [all_true]
          refine fin true G ?_ s9
          unfold lenOk
          rw [decide_eq_true c5, decide_eq_true c6]
          rfl
      rintro σ' H4 ⟨s4, v6', v8', v9', rfl⟩
      have s14 := s13.trans s4
      have hq4 := s4 _ _ hq3
      have k4 := k H4 s14
      refine ⟨_, rfl, lenOk x, rfl, ?_⟩
      cases cl : lenOk x with
      | false =>
        rw [cl, Bool.false_and] at k4
        exact iteF k4
      | true =>
      rw [cl, Bool.true_and] at k4
      obtain ⟨pv, hpv, hpa⟩ := (hh.same s14).puts
      refine iteT ⟨_, rfl, q, _, _, _, rfl, rfl, SqT.of hq4, atI_nat (j := 4) rfl, _, rfl, dO s0, (S.seens fr p t).map dO, dp_o s0, .lst (SqL.of (s4 _ _ hsl)) (dpa_os _), shaped_o _, shaped_os _, decide (s0 ∈ S.seens fr p t), congrArg V.bl (any_os _ _), ?_⟩
      by_cases d1 : s0 ∈ S.seens fr p t
      case neg =>
        rw [decide_eq_false d1] at k4 ⊢
        exact iteF k4
      rw [decide_eq_true d1, Bool.true_and] at k4
      rw [decide_eq_true d1]
      refine iteT ⟨_, rfl, q, _, _, _, rfl, rfl, SqT.of hq4, atI_nat (j := 5) rfl, _, rfl, ?_, decide (ov = S.now p t), ?_, ?_⟩
      · cases ov <;> cases S.now p t <;> rfl
      · refine congrArg V.bl ?_
        cases ov with
        | none => cases S.now p t <;> rfl
        | some i =>
          cases S.now p t with
          | none => rfl
          | some j => exact decide_eq_decide.mpr ⟨fun z => by rw [V.int.inj z], fun z => by rw [Option.some.inj z]⟩
      by_cases d2 : ov = S.now p t
      case neg =>
        rw [decide_eq_false d2] at k4 ⊢
        exact iteF k4
      rw [decide_eq_true d2, Bool.true_and] at k4
      rw [decide_eq_true d2]
      refine iteT ⟨_, rfl, q, _, _, _, rfl, rfl, SqT.of hq4, atI_nat (j := 6) rfl, _, rfl, o, _, rfl, DGet.k (k := kU) (hh.same s14).top, l, _, rfl, .inl (SqL.of hpv), rfl, qt ?_ k4⟩
      rw [hpa.len]
      exact decide_eq_decide.mpr ⟨fun z => V.int.inj z, fun z => by rw [z]⟩
    | back p t kk0 =>
      refine ⟨_, (pss_cons (ps_if (pt_cmpR op_eq (pe_ix ix_tup (pv 2) pe_int (fun _ _ => rfl)) pe_str (nomark _))
      (pss_cons (ps_par (i := 6) (j := 5) (by rfl) sc_law_fits.nd rfl rfl (by decide) rfl rfl (pa_cons (pe_ix ix_tup (pv 2) pe_int (fun _ _ => rfl)) (pa_cons (pe_and (pe_cmpR op_eq (pe_ix ix_tup (pv 2) pe_int (fun _ _ => rfl)) (pe_dget (hu_of hr) (pv 0) pe_str (fun _ _ => rfl)) (nomark _)) (pe_one (pe_cmpR op_lt (pe_dget (hu_of hr) (pv 0) pe_str (fun _ _ => rfl)) pe_int (nomark _)))) pa_nil)) (by rfl))
      (pss_one (ps_ret (pe_and (pv 5) (pe_and (pe_chain op_le op_le pe_int (pe_callB call_len_str (by rfl) T.f_len (by decide +kernel) (pa_cons (pv 6) pa_nil)) pe_int) (pe_one (pe_cmpR op_eq (pe_ix ix_tup (pv 2) pe_int (fun _ _ => rfl)) (pe_callB call_len_seq (by rfl) T.f_len (by decide +kernel) (pa_cons (pe_dget (hu_of hr) (pv 0) pe_str (fun _ _ => rfl)) pa_nil)) (nomark _))))))))
      pss_nil)
    (pss_cons (ps_if (PW.pt (pw_or (pt_not (pt_chain op_le op_lt pe_int (pe_ix ix_tup (pv 2) pe_int (fun _ _ => rfl)) (pe_dget (hu_of hr) (pv 0) pe_str (fun _ _ => rfl)))) (pw_or1 (pt_not (pt_chain op_le op_le pe_int (pe_ix ix_tup (pv 2) pe_int (fun _ _ => rfl)) (pe_callB call_len_seq (by rfl) T.f_len (by decide +kernel) (pa_cons (pv 1) pa_nil)))))))
      (pss_one (ps_ret pe_bl))
      pss_nil)
    (pss_cons (ps_set (i := 3) sc_law_fits.nd rfl (Or.inl rfl) (C8.pe_c (c_law_now T) hr (by decide) rfl (pa_cons (pv 0) (pa_cons (pe_ix ix_tup (pv 2) pe_int (fun _ _ => rfl)) (pa_cons (pe_ix ix_tup (pv 2) pe_int (fun _ _ => rfl)) pa_nil)))))
    (pss_cons (ps_if (pt_cmpR op_eq (pe_ix ix_tup (pv 2) pe_int (fun _ _ => rfl)) pe_str (nomark _))
      (pss_cons (ps_set (i := 7) sc_law_fits.nd rfl (Or.inl rfl) (pe_dget2 (hu_of hr) (pe_dget (hu_of hr) (pv 0) pe_str (fun _ _ => rfl)) (pe_tup (pa_cons (pe_ix ix_tup (pv 2) pe_int (fun _ _ => rfl)) (pa_cons (pe_ix ix_tup (pv 2) pe_int (fun _ _ => rfl)) pa_nil))) (pe_lst pa_nil) ⟨rfl, rfl, rfl, rfl⟩))
      (pss_one (ps_ret (pe_and (pe_cmpR op_gt (pe_callB call_len_seq (by rfl) T.f_len (by decide +kernel) (pa_cons (pv 7) pa_nil)) (pe_callTy call_int1 (by rfl) T.f_int (by decide +kernel) (pa_cons (pe_cmpR op_eq (pe_ix ix_tup (pv 2) pe_int (fun _ _ => rfl)) pe_int (nomark _)) pa_nil)) (nomark _)) (pe_one (pe_cmpR op_eq (pe_ix ix_tup (pv 2) pe_int (fun _ _ => rfl)) (pv 3) (nomark _)))))))
      pss_nil)
    (pss_cons (ps_set (i := 4) sc_law_fits.nd rfl (Or.inl rfl) (pe_lst (pa_cons pe_non pa_nil)))
    (C8.pss_cut (ps_if (pt_cmpR op_gt (pe_ix ix_tup (pv 2) pe_int (fun _ _ => rfl)) pe_int (nomark _))
      (pss_one (ps_setLc (i := 4) (own := [("_law_one", 8), ("_law_text_here", 6)]) (g := gTup K 2 (gCons (gName 8) (gCons (gName 6) (gNil)))) (tt := tYes) (by rfl) sc_law_fits.nd rfl rfl (sw_true rfl rfl rfl (by decide +kernel)) (pi_list (C8.pe_c (c_law_ever T) hr (by decide) rfl (pa_cons (pv 0) (pa_cons (pe_ix ix_tup (pv 2) pe_int (fun _ _ => rfl)) (pa_cons (pe_ix ix_list (pv 1) (pe_op op_sub (pe_ix ix_tup (pv 2) pe_int (fun _ _ => rfl)) pe_int) (fun _ _ => rfl)) pa_nil))))) (blkOk_by (own := [("_law_one", 8), ("_law_text_here", 6)]) (N := ["_law_here", "_law_froms_here", "_law_line", "_law_number_here", "_law_some", "_law_good", "_law_text_here", "_law_lying", "_law_one", "_law_sign"]) (sc := defScope s_law_fits) (by decide +kernel)) (fun _ _ _ _ _ => (pg_tup rfl (pgs_cons (pg_name (i := 8) sc_law_fits.nd rfl (Or.inl rfl) (Or.inr rfl)) (pgs_cons (pg_name (i := 6) sc_law_fits.nd rfl (Or.inl rfl) (Or.inr rfl)) pgs_nil)))) (fun _ _ _ _ _ => pts_nil) (fun _ _ _ _ _ => (pv 8))))
      pss_nil)
    (C8.pss_cut (ps_set (i := 5) sc_law_fits.nd rfl (Or.inl rfl) (pe_and (pe_chain op_le op_le pe_int (pe_callB call_len_str (by rfl) T.f_len (by decide +kernel) (pa_cons (pe_ix ix_tup (pv 2) pe_int (fun _ _ => rfl)) pa_nil)) pe_int) (pe_one (pe_callB (cr_all rfl) (by rfl) T.f_all (by decide +kernel) (pa_cons (pe_lc (own := [("_law_sign", 9)]) (g := gName 9) (tt := tYes) (by rfl) sc_law_fits.nd (pi_str (pe_ix ix_tup (pv 2) pe_int (fun _ _ => rfl))) (blkOk_by (own := [("_law_sign", 9)]) (N := ["_law_here", "_law_froms_here", "_law_line", "_law_number_here", "_law_some", "_law_good", "_law_text_here", "_law_lying", "_law_one", "_law_sign"]) (sc := defScope s_law_fits) (by decide +kernel)) (fun _ _ _ _ _ => (pg_name (i := 9) sc_law_fits.nd rfl (Or.inl rfl))) (fun _ _ _ _ _ => pts_nil) (fun _ _ _ _ _ => (pe_chain op_le_str op_le_str pe_str (pv 9) pe_str))) pa_nil)))))
    (pss_one (ps_ret (pe_and (pv 5) (pe_and (pe_cmpR (op_inD (un65 hr)) (pe_ix ix_tup (pv 2) pe_int (fun _ _ => rfl)) (pv 4) (by rfl)) (pe_and (pe_cmpR op_eq (pe_ix ix_tup (pv 2) pe_int (fun _ _ => rfl)) (pv 3) (nomark _)) (pe_one (pe_cmpR op_eq (pe_ix ix_tup (pv 2) pe_int (fun _ _ => rfl)) (pe_callB call_len_seq (by rfl) T.f_len (by decide +kernel) (pa_cons (pe_dget (hu_of hr) (pv 0) pe_str (fun _ _ => rfl)) pa_nil)) (nomark _))))))))))))))), ?_⟩
      have e0 : S.fits fr (.back p t kk0) = (inPT fr S p t && (decide ((if t.toNat = 0 then 1 else 0) < (S.lie p.toNat t.toNat).length) && decide (some kk0 = S.now p.toNat t.toNat))) := rfl
      rw [e0] at k
      refine ⟨_, rfl, q, _, _, _, rfl, rfl, SqT.of hq, atI_nat (j := 0) rfl, rfl, false, rfl, iteF ?_⟩
      refine ⟨_, rfl, q, _, _, _, rfl, rfl, SqT.of hq, atI_nat (j := 1) rfl, _, _, rfl, rfl, decide (0 ≤ p), rfl, ?_⟩
      have bad : inPT fr S p t = false → Q (.bl false) H := fun e => by
        have z := k H (Same.refl _)
        rw [e, Bool.false_and] at z
        exact z
      unfold inPT at bad
      by_cases c1 : 0 ≤ p
      case neg =>
        rw [decide_eq_false c1] at bad ⊢
        exact iteF ⟨false, rfl, iteT (bad rfl)⟩
      rw [decide_eq_true c1] at bad ⊢
      refine iteT ⟨_, rfl, o, _, rfl, DGet.k (k := kP) hh.top, _, _, rfl, rfl, decide (p < (S.n : Int)), rfl, ?_⟩
      by_cases c2 : p < (S.n : Int)
      case neg =>
        rw [decide_eq_false c2] at bad ⊢
        exact iteT (bad rfl)
      rw [decide_eq_true c2] at bad ⊢
      refine iteF ⟨_, rfl, q, _, _, _, rfl, rfl, SqT.of hq, atI_nat (j := 2) rfl, _, _, rfl, rfl, decide (0 ≤ t), rfl, ?_⟩
      by_cases c3 : 0 ≤ t
      case neg =>
        rw [decide_eq_false c3] at bad ⊢
        exact iteF ⟨false, rfl, iteT (bad rfl)⟩
      rw [decide_eq_true c3] at bad ⊢
      refine iteT ⟨_, rfl, f, _, rfl, .inl (SqL.of hf), _, _, rfl, rfl, decide (t ≤ (fr.length : Int)), by rw [List.length_map], ?_⟩
      by_cases c4 : t ≤ (fr.length : Int)
      case neg =>
        rw [decide_eq_false c4] at bad ⊢
        exact iteT (bad rfl)
      rw [decide_eq_true c4] at bad ⊢
      have yes : inPT fr S p t = true := by
        unfold inPT
        rw [decide_eq_true c1, decide_eq_true c2, decide_eq_true c3, decide_eq_true c4]
        rfl
      rw [yes, Bool.true_and] at k
      obtain ⟨p, rfl⟩ : ∃ n : Nat, p = (n : Int) := ⟨p.toNat, by omega⟩
      obtain ⟨t, rfl⟩ : ∃ n : Nat, t = (n : Int) := ⟨t.toNat, by omega⟩
      rw [Int.toNat_natCast, Int.toNat_natCast] at k
      refine iteF ⟨_, rfl, _, rfl, q, _, _, _, rfl, rfl, SqT.of hq, atI_nat (j := 1) rfl, _, rfl, q, _, _, _, rfl, rfl, SqT.of hq, atI_nat (j := 2) rfl, o, l, d, S, p, t, rfl, hh, fun H1 s1 => ?_⟩
      have hq1 := s1 _ _ hq
      have hh1 := hh.same s1
      refine ⟨_, rfl, q, _, _, _, rfl, rfl, SqT.of hq1, atI_nat (j := 0) rfl, rfl, true, rfl, iteT ?_⟩
      refine ⟨_, rfl, o, _, rfl, DGet.k (k := kL) hh1.top, d, rfl, hh1.isD, _, rfl, q, _, _, _, rfl, rfl, SqT.of hq1, atI_nat (j := 1) rfl, _, rfl, q, _, _, _, rfl, rfl, SqT.of hq1, atI_nat (j := 2) rfl, (by show 2 ≤ sizeLine; decide), fun b nb => ⟨Nat.zero_le _, fun e ne => ?_⟩⟩
      have s2 : Same H1 (upd (upd H1 b (.tup [V.int (p : Int), V.int (t : Int)])) e (.lst [])) := (same_upd nb).trans (same_upd ne)
      have hb : (upd (upd H1 b (.tup [V.int (p : Int), V.int (t : Int)])) e (.lst [])) b = some (.tup ((ty p t).map kV)) := same_upd ne _ _ upd_same
      have he : LsAt (upd (upd H1 b (.tup [V.int (p : Int), V.int (t : Int)])) e (.lst [])) e [] := upd_same
      generalize upd (upd H1 b (.tup [V.int (p : Int), V.int (t : Int)])) e (.lst []) = H3 at s2 hb he ⊢
      obtain ⟨r, g, lv⟩ := lieOf (hh1.same s2) p t hb
      have key : ∃ (a : Addr), r.getD (.ref e) = .ref a ∧ LsAt H3 a (S.lie p t) := by
        cases r with
        | none => exact ⟨e, rfl, by rw [show S.lie p t = [] from lv]; exact he⟩
        | some v =>
          obtain ⟨a, h1, _, h2⟩ := lv
          exact ⟨a, h1, h2⟩
      obtain ⟨a, ea, ha⟩ := key
      refine ⟨r, g, ?_⟩
      rw [ea]
      have hq3 := s2 _ _ hq1
      have k3 := k H3 (s1.trans s2)
      refine ⟨_, rfl, a, _, rfl, .inl (SqL.of ha), _, rfl, q, _, _, _, rfl, rfl, SqT.of hq3, atI_nat (j := 2) rfl, rfl, .inr ⟨decide (t = 0), by rw [show decide (V.int (t : Int) = V.int 0) = decide (t = 0) from dec_nat (y := 0)], ?_⟩⟩
      refine ⟨_, _, rfl, rfl, decide ((if t = 0 then 1 else 0) < (S.lie p t).length), ?_, ?_⟩
      · refine congrArg V.bl ?_
        rw [List.length_map]
        by_cases c2 : t = 0
        · rw [decide_eq_true c2, if_pos c2]
          exact decide_eq_decide.mpr (by rw [if_pos rfl]; omega)
        · rw [decide_eq_false c2, if_neg c2]
          exact decide_eq_decide.mpr (by rw [if_neg (by decide)]; omega)
      by_cases c5 : (if t = 0 then 1 else 0) < (S.lie p t).length
      case neg =>
        rw [decide_eq_false c5] at k3 ⊢
        exact iteF k3
      rw [decide_eq_true c5] at k3 ⊢
      refine iteT ⟨_, rfl, q, _, _, _, rfl, rfl, SqT.of hq3, atI_nat (j := 3) rfl, _, rfl, ?_, qt ?_ k3⟩
      · cases S.now p t <;> rfl
      · rw [Bool.true_and]
        cases en : S.now p t with
        | none => rfl
        | some j => exact decide_eq_decide.mpr ⟨fun z => by rw [V.int.inj z], fun z => by rw [Option.some.inj z]; rfl⟩

end PD

namespace PD
open PySem PySem.Spec PyProof.Rows L2

/-! Phrasedesk: the first line that can't come, by the law's own state -/
--# _law_wrong
def TlV (H : Hp) (v : V) (n : Tl) : Prop := ∃ q, v = .ref q ∧ H q = some (.tup n.vals)
def TlAt (H : Hp) (a : Addr) (l : List Tl) : Prop := ∃ vs, H a = some (.lst vs) ∧ All2 (TlV H) vs l
theorem TlAt.same {H H' : Hp} (s : Same H H') {a : Addr} {l : List Tl} (h : TlAt H a l) : TlAt H' a l := let ⟨vs, x, y⟩ := h; ⟨vs, s _ _ x, y.mono fun _ _ ⟨q, a, b⟩ => ⟨q, a, s _ _ b⟩⟩
def wrongI (fr : List Int) (lines : List Tl) : Int := match wrongFrom fr De.none 0 lines with
  | some i => (i : Int)
  | none => -1
def spWrongL : Sp := fun vs H Q _ => ∃ (f : Addr) (fr : List Int) (a : Addr) (lines : List Tl), vs = [.ref f, .ref a] ∧ LsAt H f fr ∧ FrOk fr ∧ TlAt H a lines ∧ (∀ n ∈ lines, n.Low) ∧ lines.length ≤ 100 ∧ ∀ H' : Hp, Same H H' → Q (.int (wrongI fr lines)) H'
theorem none_ok {fr : List Int} : De.none.Ok fr := ⟨(fun p t k h => nomatch h), Nat.zero_le _, (fun p h => absurd h (Nat.not_lt_zero p)), (fun k u e => by simp [De.none] at e)⟩
theorem sc_law_wrong : FnScope ["_law_froms_here", "_law_tale", "_law_here", "_law_at", "_law_line", "_law_deed_here"] ["_law_froms_here", "_law_tale"] (defScope s_law_wrong) := ⟨rfl, rfl, rfl, by decide +kernel, rfl, by decide +kernel, by decide +kernel⟩
theorem c_law_wrong {P : Program} {w : World} {K : PySem.W.Frag} {mg : Str → Option Value} {base : Heap} (T : Tx K mg) : C8.Cal P w K mg base 5 "_law_wrong" (spWrongL) [] := by
  refine calD T.F_law_wrong T.g_law_wrong (fun _ _ _ _ _ _ us hl => match us, hl with | [_, _], _ => rfl) sc_law_wrong (fun vs H Q E h => ?_) (fun cdv A outer s H vs Q E hr h => ?_)
  · obtain ⟨f, fr, a, lines, rfl, _⟩ := h
    rfl
  · obtain ⟨f, fr, a, lines, rfl, hf, fo, ht, low, few, k⟩ := h
    refine ⟨_, (pss_cons (ps_set (i := 2) sc_law_wrong.nd rfl (Or.inl rfl) (pe_c0 (c_law_new T) hr (by decide) rfl))
    (pss_cons (ps_for PassesOwn.never rfl (pi_enum (by rfl) T.f_enumerate (pa_cons (pv 1) pa_nil)) (pg_tup rfl (pgs_cons (pg_name (i := 3) sc_law_wrong.nd rfl (Or.inl rfl)) (pgs_cons (pg_name (i := 4) sc_law_wrong.nd rfl (Or.inl rfl)) pgs_nil)))
      (pss_cons (ps_if (pt_not (pt_val (C8.pe_c (c_law_fits T) hr (by decide) rfl (pa_cons (pv 2) (pa_cons (pv 0) (pa_cons (pv 4) pa_nil))))))
        (pss_one (ps_ret (pv 3)))
        pss_nil)
      (pss_cons (ps_set (i := 5) sc_law_wrong.nd rfl (Or.inl rfl) (pe_ifExp (pt_cmpR op_eq (pe_ix ix_tup (pv 4) pe_int (fun _ _ => rfl)) pe_str (nomark _)) (pe_slice sl_tup (pv 4) po_none (po_some pe_int)) (pe_slice sl_tup (pv 4) po_none (po_some pe_int))))
      (pss_one (ps_expr (C8.pe_c (c_law_come T) hr (by decide) rfl (pa_cons (pv 2) (pa_cons (pv 0) (pa_cons (pe_ifExp (pt_cmpR op_eq (pe_ix ix_tup (pv 4) pe_int (fun _ _ => rfl)) pe_str (nomark _)) (pe_tup (pa_cons pe_str (pa_cons (pe_ix ix_tup (pv 4) pe_int (fun _ _ => rfl)) pa_nil))) (pv 5)) pa_nil)))))))))
    (pss_one (ps_ret (pe_un un_neg pe_int))))), ?_⟩
    obtain ⟨vs, hv, hal⟩ := id ht
    refine ⟨rfl, fun H1 o l d s1 no nl nd hh => ?_⟩
    have back : ∀ {H4 : Hp}, Off o l d H1 H4 → Same H H4 := by
      intro H4 of b x e
      exact of b x (ne_of_none e no) (ne_of_none e nl) (ne_of_none e nd) (s1 _ _ e)
    have nfl : f ≠ l := ne_of_none hf nl
    refine ⟨_, rfl, a, _, rfl, SqL.of (s1 _ _ hv), ?_⟩
    refine for_it (walk_enum (K := K) (a := a) (xs := vs)) (fun i σ H4 => ∃ (S : De) (v3 v4 v5 : Option V), σ = [some (.ref f), some (.ref a), some (.ref o), v3, v4, v5] ∧ Off o l d H1 H4 ∧ Here H4 o l d S ∧ S.Ok fr ∧ S.puts.length ≤ 6 * i ∧ wrongFrom fr De.none 0 lines = wrongFrom fr S i (lines.drop i))
      ⟨De.none, none, none, none, rfl, Off.refl, hh, none_ok, Nat.le_refl _, rfl⟩ (fun i σ H4 _ ⟨_, _, _, _, _, o4, _⟩ => SqL.of (back o4 _ _ hv)) ?_ ?_
    · rintro i v σ H4 H5 hi ⟨S, v3, v4, v5, rfl, o4, h4, ok, pl, ew⟩ ⟨U, x, y, rfl, nU, rfl, e1, e2⟩
      cases (Option.some.inj e1)
      obtain ⟨n, en, q, rfl, hq⟩ := hal.at e2
      have hn : n ∈ lines := List.mem_of_getElem? en
      have hil := (List.getElem?_eq_some_iff.mp en).1
      have sU : Same H4 (upd H4 U (.tup [V.int (i : Nat), V.ref q])) := same_upd nU
      have o5 := o4.same sU
      have h5 := h4.same sU
      refine ⟨U, _, rfl, .inl (.inl upd_same), rfl, _, _, rfl, _, _, rfl, rfl, ?_⟩
      generalize upd H4 U (.tup [V.int (i : Nat), V.ref q]) = H5 at o5 h5 ⊢
      have s5 := back o5
      rw [show lines.drop i = n :: lines.drop (i + 1) by
        obtain ⟨z, ez⟩ := List.getElem?_eq_some_iff.mp en
        rw [List.drop_eq_getElem_cons z, ez]] at ew
      have ew2 : wrongFrom fr De.none 0 lines = if S.fits fr n then wrongFrom fr (S.come fr n.deed).1 (i + 1) (lines.drop (i + 1)) else some i := ew
      refine ⟨_, rfl, _, rfl, _, rfl, o, l, d, S, f, fr, q, n, rfl, h5, ok, hf.same s5, fo, s5 _ _ hq, low n hn, fun H6 s6 => ?_⟩
      refine ⟨S.fits fr n, rfl, ?_⟩
      cases ef : S.fits fr n with
      | false =>
        rw [ef] at ew2
        refine iteT ⟨_, rfl, ?_⟩
        have z := k H6 (s5.trans s6)
        unfold wrongI at z
        rw [ew2] at z
        exact z
      | true =>
      rw [ef] at ew2
      have ew3 : wrongFrom fr De.none 0 lines = wrongFrom fr (S.come fr n.deed).1 (i + 1) (lines.drop (i + 1)) := ew2
      have may := De.fits_may (low n hn) ef
      obtain ⟨ok2, pl2⟩ := ok.come fo may
      have o6 := o5.same s6
      have h6 := h5.same s6
      have s06 := back o6
      have hq6 := s06 _ _ hq
      have fin : ∀ (H7 H8 : Hp) (w5 : Option V), Same H6 H7 → Off o l d H7 H8 → Here H8 o l d (S.come fr n.deed).1 → ∃ (S' : De) (v3' v4' v5' : Option V), [some (V.ref f), some (V.ref a), some (V.ref o), some (V.int (i : Nat)), some (V.ref q), w5] = [some (.ref f), some (.ref a), some (.ref o), v3', v4', v5'] ∧ Off o l d H1 H8 ∧ Here H8 o l d S' ∧ S'.Ok fr ∧ S'.puts.length ≤ 6 * (i + 1) ∧ wrongFrom fr De.none 0 lines = wrongFrom fr S' (i + 1) (lines.drop (i + 1)) := by
        intro H7 H8 w5 s7 o8 h8
        exact ⟨_, _, _, _, rfl, (o6.same s7).trans o8, h8, ok2, by omega, ew3⟩
      refine iteF ?_
      cases n with
      | phrase p x k0 =>
        refine ⟨_, rfl, q, _, _, _, rfl, rfl, SqT.of hq6, atI_nat (j := 0) rfl, rfl, false, rfl, iteF ⟨_, rfl, _, rfl, q, _, rfl, SqT.of hq6, (show ¬ ((0 : Nat) = 0 ∧ 3 = 4) by decide), fun c nc => ?_⟩⟩
        have s7 : Same H6 (upd H6 c (.tup (cutV (Tl.phrase p x k0).vals none (some 3)))) := same_upd nc
        generalize upd H6 c (.tup (cutV (Tl.phrase p x k0).vals none (some 3))) = H7 at s7 ⊢
        have s07 := s06.trans s7
        refine ⟨_, rfl, _, rfl, _, rfl, q, _, _, _, rfl, rfl, SqT.of (s07 _ _ hq), atI_nat (j := 0) rfl, rfl, true, rfl, iteT ⟨_, rfl, q, _, _, _, rfl, rfl, SqT.of (s07 _ _ hq), atI_nat (j := 2) rfl, (by show 2 ≤ sizeLine; decide), fun t nt => ?_⟩⟩
        have s8 : Same H7 (upd H7 t (.tup (Deed.phrase x).vals)) := same_upd nt
        exact ⟨o, l, d, S, f, fr, t, .phrase x, rfl, h6.same (s7.trans s8), ok, by omega, (hf.same s07).same s8, nfl, fo, upd_same, may, fun H8 r v ll o8 _ h8 _ _ _ _ _ => fin _ H8 _ (s7.trans s8) o8 h8⟩
      | put p t x s0 ov k0 =>
        have pt := inPT_iff (by
          have z : (inPT fr S p t && (lenOk x && (decide (s0 ∈ S.seens fr p.toNat t.toNat) && (decide (ov = S.now p.toNat t.toNat) && decide (k0 = (S.puts.length : Int)))))) = true := ef
          exact (Bool.and_eq_true _ _ ▸ z).1)
        refine ⟨_, rfl, q, _, _, _, rfl, rfl, SqT.of hq6, atI_nat (j := 0) rfl, rfl, true, rfl, iteT ⟨_, rfl, _, rfl, q, _, rfl, SqT.of hq6, (show ¬ ((0 : Nat) = 0 ∧ 6 = 7) by decide), fun c nc => ?_⟩⟩
        have s7 : Same H6 (upd H6 c (.tup (cutV (Tl.put p t x s0 ov k0).vals none (some 6)))) := same_upd nc
        have hc7 : (upd H6 c (.tup (cutV (Tl.put p t x s0 ov k0).vals none (some 6)))) c = some (.tup (Tl.put p t x s0 ov k0).deed.vals) := by
          rw [upd_same]
          show some (HO.tup [V.str "put", V.int p, V.int t, V.str x, oV s0, oV ov]) = some (HO.tup [V.str "put", V.int (p.toNat : Int), V.int (t.toNat : Int), V.str x, oV s0, oV ov])
          rw [show ((p.toNat : Nat) : Int) = p by omega, show ((t.toNat : Nat) : Int) = t by omega]
        generalize upd H6 c (.tup (cutV (Tl.put p t x s0 ov k0).vals none (some 6))) = H7 at s7 hc7 ⊢
        have s07 := s06.trans s7
        refine ⟨_, rfl, _, rfl, _, rfl, q, _, _, _, rfl, rfl, SqT.of (s07 _ _ hq), atI_nat (j := 0) rfl, rfl, false, rfl, iteF ⟨_, rfl, ?_⟩⟩
        exact ⟨o, l, d, S, f, fr, c, _, rfl, h6.same s7, ok, by omega, hf.same s07, nfl, fo, hc7, may, fun H8 r v ll o8 _ h8 _ _ _ _ _ => fin _ H8 _ s7 o8 h8⟩
      | back p t k0 =>
        have pt := inPT_iff (by
          have z : (inPT fr S p t && (decide ((if t.toNat = 0 then 1 else 0) < (S.lie p.toNat t.toNat).length) && decide (some k0 = S.now p.toNat t.toNat))) = true := ef
          exact (Bool.and_eq_true _ _ ▸ z).1)
        refine ⟨_, rfl, q, _, _, _, rfl, rfl, SqT.of hq6, atI_nat (j := 0) rfl, rfl, false, rfl, iteF ⟨_, rfl, _, rfl, q, _, rfl, SqT.of hq6, (show ¬ ((0 : Nat) = 0 ∧ 3 = 4) by decide), fun c nc => ?_⟩⟩
        have s7 : Same H6 (upd H6 c (.tup (cutV (Tl.back p t k0).vals none (some 3)))) := same_upd nc
        have hc7 : (upd H6 c (.tup (cutV (Tl.back p t k0).vals none (some 3)))) c = some (.tup (Tl.back p t k0).deed.vals) := by
          rw [upd_same]
          show some (HO.tup [V.str "back", V.int p, V.int t]) = some (HO.tup [V.str "back", V.int (p.toNat : Int), V.int (t.toNat : Int)])
          rw [show ((p.toNat : Nat) : Int) = p by omega, show ((t.toNat : Nat) : Int) = t by omega]
        generalize upd H6 c (.tup (cutV (Tl.back p t k0).vals none (some 3))) = H7 at s7 hc7 ⊢
        have s07 := s06.trans s7
        refine ⟨_, rfl, _, rfl, _, rfl, q, _, _, _, rfl, rfl, SqT.of (s07 _ _ hq), atI_nat (j := 0) rfl, rfl, false, rfl, iteF ⟨_, rfl, ?_⟩⟩
        exact ⟨o, l, d, S, f, fr, c, _, rfl, h6.same s7, ok, by omega, hf.same s07, nfl, fo, hc7, may, fun H8 r v ll o8 _ h8 _ _ _ _ _ => fin _ H8 _ s7 o8 h8⟩
    · rintro σ H4 ⟨S, v3, v4, v5, rfl, o4, h4, ok, pl, ew⟩
      rw [hal.len, List.drop_eq_nil_of_le (Nat.le_refl _)] at ew
      have ew : wrongFrom fr De.none 0 lines = none := ew
      have z := k H4 (back o4)
      unfold wrongI at z
      rw [ew] at z
      exact ⟨_, rfl, z⟩

end PD

namespace PD
open PySem PySem.Spec PyProof.Rows L2

/-! Phrasedesk, law_k11: the program's desk, and a desk behind some deeds -/
def spCount : Sp := fun vs H Q _ => ∃ i : Int, vs = [.int i] ∧ Q (.bl (decide (0 ≤ i))) H
theorem sc_is_count : FnScope ["value"] ["value"] (defScope s_is_count) := ⟨rfl, rfl, rfl, by decide +kernel, rfl, by decide +kernel, by decide +kernel⟩
theorem c_is_count {P : Program} {w : World} {K : PySem.W.Frag} {mg : Str → Option Value} {base : Heap} (T : Tx K mg) : C8.Cal P w K mg base 2 "is_count" (spCount) [] := by
  refine calD T.F_is_count T.g_is_count (fun _ _ _ _ _ _ us hl => match us, hl with | [_], _ => rfl) sc_is_count (fun vs H Q E h => ?_) (fun cdv A outer s H vs Q E hr h => ?_)
  · obtain ⟨i, rfl, _⟩ := h
    rfl
  · obtain ⟨i, rfl, q⟩ := h
    refine ⟨_, (pss_one (ps_ret (pe_and (C8.pe_c (c_is_number T) hr (by decide) rfl (pa_cons (pv 0) pa_nil)) (pe_one (pe_cmpR op_ge (pv 0) pe_int (nomark _)))))), ?_⟩
    refine ⟨_, rfl, _, _, true, false, rfl, .base (.int i), is_ty (by decide +kernel), is_ty (by decide +kernel), true, rfl, iteT ⟨_, rfl, i, 0, rfl, rfl, q⟩⟩
def spTongue : Sp := fun vs H Q _ => ∃ (a : Addr) (fr : List Int) (t : Int), vs = [.ref a, .int t] ∧ LsAt H a fr ∧ Q (.bl (decide (0 ≤ t) && decide (t ≤ (fr.length : Int)))) H
theorem sc_is_tongue : FnScope ["froms", "value"] ["froms", "value"] (defScope s_is_tongue) := ⟨rfl, rfl, rfl, by decide +kernel, rfl, by decide +kernel, by decide +kernel⟩
theorem c_is_tongue {P : Program} {w : World} {K : PySem.W.Frag} {mg : Str → Option Value} {base : Heap} (T : Tx K mg) : C8.Cal P w K mg base 3 "is_tongue" (spTongue) [] := by
  refine calD T.F_is_tongue T.g_is_tongue (fun _ _ _ _ _ _ us hl => match us, hl with | [_, _], _ => rfl) sc_is_tongue (fun vs H Q E h => ?_) (fun cdv A outer s H vs Q E hr h => ?_)
  · obtain ⟨a, fr, t, rfl, _⟩ := h
    rfl
  · obtain ⟨a, fr, t, rfl, ha, q⟩ := h
    refine ⟨_, (pss_one (ps_ret (pe_and (C8.pe_c (c_is_count T) hr (by decide) rfl (pa_cons (pv 1) pa_nil)) (pe_one (pe_cmpR op_le (pv 1) (pe_callB call_len_seq (by rfl) T.f_len (by decide +kernel) (pa_cons (pv 0) pa_nil)) (nomark _)))))), ?_⟩
    refine ⟨_, rfl, t, rfl, decide (0 ≤ t), rfl, ?_⟩
    by_cases h0 : 0 ≤ t
    · rw [decide_eq_true h0] at q ⊢
      refine iteT ⟨_, rfl, _, rfl, a, _, rfl, .inl (SqL.of ha), t, _, rfl, rfl, ?_⟩
      rw [List.length_map]
      exact q
    · rw [decide_eq_false h0] at q ⊢
      exact iteF q
def spFroms : Sp := fun vs H Q _ => ∃ (a : Addr) (fr : List Int), vs = [.ref a] ∧ LsAt H a fr ∧ FrOk fr ∧ ∀ H' : Hp, Same H H' → Q (.bl true) H'
theorem bl_of2 {b : Bool} (h : b = true) : V.bl b = V.bl true := by rw [h]
theorem all_true2 : ∀ n : Nat, (List.replicate n true).all id = true
  | 0 => rfl
  | n + 1 => by
    rw [List.replicate_succ]
    simp
theorem sc_is_froms : FnScope ["value", "place", "source"] ["value"] (defScope s_is_froms) := ⟨rfl, rfl, rfl, by decide +kernel, rfl, by decide +kernel, by decide +kernel⟩
theorem c_is_froms {P : Program} {w : World} {K : PySem.W.Frag} {mg : Str → Option Value} {base : Heap} (T : Tx K mg) : C8.Cal P w K mg base 3 "is_froms" (spFroms) [] := by
  refine calD T.F_is_froms T.g_is_froms (fun _ _ _ _ _ _ us hl => match us, hl with | [_], _ => rfl) sc_is_froms (fun vs H Q E h => ?_) (fun cdv A outer s H vs Q E hr h => ?_)
  · obtain ⟨a, fr, rfl, _⟩ := h
    rfl
  · obtain ⟨a, fr, rfl, ha, fo, q⟩ := h
    refine ⟨_, (pss_cons (ps_if (PW.pt (pw_or (pt_not (pt_val (pe_callB call_isi (by rfl) T.f_isinstance (by decide +kernel) (pa_cons (pv 0) (pa_cons (pe_bltn (v := .ty "list") (by rfl) T.f_list (by decide +kernel) rfl) pa_nil))))) (pw_or1 (pt_not (pt_chain op_le op_le (pe_glob (v := .int 2) rfl (T.g_FEWEST_TONGUES).choose_spec ⟨_, rfl⟩) (pe_op op_add (pe_callB call_len_seq (by rfl) T.f_len (by decide +kernel) (pa_cons (pv 0) pa_nil)) pe_int) (pe_glob (v := .int 8) rfl (T.g_MOST_TONGUES).choose_spec ⟨_, rfl⟩))))))
      (pss_one (ps_ret pe_bl))
      pss_nil)
    (pss_one (ps_ret (pe_callB (cr_all rfl) (by rfl) T.f_all (by decide +kernel) (pa_cons (pe_lc (own := [("place", 1), ("source", 2)]) (g := gTup K 2 (gCons (gName 1) (gCons (gName 2) (gNil)))) (tt := tYes) (by rfl) sc_is_froms.nd (pi_enum (by rfl) T.f_enumerate (pa_cons (pv 0) pa_nil)) (blkOk_by (own := [("place", 1), ("source", 2)]) (N := ["value", "place", "source"]) (sc := defScope s_is_froms) (by decide +kernel)) (fun _ _ _ _ _ => (pg_tup rfl (pgs_cons (pg_name (i := 1) sc_is_froms.nd rfl (Or.inl rfl) (Or.inr rfl)) (pgs_cons (pg_name (i := 2) sc_is_froms.nd rfl (Or.inl rfl) (Or.inr rfl)) pgs_nil)))) (fun _ _ _ _ _ => pts_nil) (fun _ _ _ _ _ => (pe_and (C8.pe_c (c_is_count T) hr (by decide) rfl (pa_cons (pv 2) pa_nil)) (pe_one (pe_cmpR op_le (pv 2) (pv 1) (nomark _)))))) pa_nil))))), ?_⟩
    have lo := fo.lo
    have hi := fo.hi
    refine ⟨_, rfl, _, _, _, _, true, rfl, .ty _, .base (.lst ha), is_ty (by decide +kernel), true, rfl, iteF ?_⟩
    refine ⟨_, rfl, a, _, rfl, .inl (SqL.of ha), _, _, rfl, rfl, _, _, rfl, rfl, true, bl_of2 (decide_eq_true ?_), iteT ⟨_, _, rfl, rfl, true, bl_of2 (decide_eq_true ?_), iteF ?_⟩⟩
    · rw [List.length_map]
      omega
    · rw [List.length_map]
      omega
    · refine ⟨_, rfl, a, _, rfl, SqL.of ha, fun D nD => ?_⟩
      refine lc_it (walk_enum (K := K) (a := a) (xs := fr.map V.int)) (fun i H1 => Same H H1 ∧ H1 D = some (.lst ((List.replicate i true).map V.bl))) ⟨same_upd nD, upd_same⟩ (fun i H1 _ p => SqL.of (ha.same p.1)) ?_ ?_
      · rintro i v H1 H2 hi2 ⟨s1, hD⟩ ⟨U, x, y, rfl, nU, rfl, e1, e2⟩
        cases (Option.some.inj e1)
        obtain ⟨z, rfl, ez⟩ := ivs_of e2
        obtain ⟨z0, z1⟩ := fo.each i z ez
        have sU : Same H1 (upd H1 U (.tup [V.int (i : Nat), V.int z])) := same_upd nU
        have nDU : D ≠ U := ne_of_none hD nU
        refine ⟨U, _, rfl, .inl (.inl upd_same), rfl, _, _, rfl, _, _, rfl, rfl, rfl, ?_⟩
        refine ⟨_, rfl, z, rfl, true, bl_of2 (decide_eq_true z0), iteT ⟨_, rfl, _, rfl, z, _, rfl, rfl, _, sU _ _ hD, ?_, Same.chg (s1.trans sU) nD, ?_⟩⟩
        · rw [List.length_map, List.length_replicate]
          rw [List.length_map] at hi2
          exact small1000 (by omega)
        · rw [upd_same, List.replicate_succ', List.map_append]
          show some (HO.lst (_ ++ [V.bl (decide (z ≤ (i : Int)))])) = _
          rw [decide_eq_true z1]
          rfl
      · rintro H1 ⟨s1, hD⟩
        exact ⟨D, _, rfl, SqL.of hD, qt (all_true2 _) (q _ s1)⟩
def spNumN (K : PySem.W.Frag) : Sp := fun vs H Q _ => ∃ s : Option Int, vs = [oV s] ∧ Q (.bl true) H
theorem sc_is_number_or_none : FnScope ["value"] ["value"] (defScope s_is_number_or_none) := ⟨rfl, rfl, rfl, by decide +kernel, rfl, by decide +kernel, by decide +kernel⟩
theorem c_is_number_or_none {P : Program} {w : World} {K : PySem.W.Frag} {mg : Str → Option Value} {base : Heap} (T : Tx K mg) : C8.Cal P w K mg base 2 "is_number_or_none" (spNumN K) [] := by
  refine calD T.F_is_number_or_none T.g_is_number_or_none (fun _ _ _ _ _ _ us hl => match us, hl with | [_], _ => rfl) sc_is_number_or_none (fun vs H Q E h => ?_) (fun cdv A outer s H vs Q E hr h => ?_)
  · obtain ⟨s, rfl, _⟩ := h
    rfl
  · obtain ⟨s, rfl, q⟩ := h
    cases s with
    | none =>
      refine ⟨_, (pss_one (ps_ret (pe_or (pe_cmpR op_isN (pv 0) pe_non (nomark _)) (pe_one (C8.pe_c (c_is_number T) hr (by decide) rfl (pa_cons (pv 0) pa_nil)))))), ?_⟩
      exact ⟨_, rfl, rfl, true, rfl, iteT q⟩
    | some i =>
      refine ⟨_, (pss_one (ps_ret (pe_or (pe_cmpR op_isN (pv 0) pe_non (nomark _)) (pe_one (C8.pe_c (c_is_number T) hr (by decide) rfl (pa_cons (pv 0) pa_nil)))))), ?_⟩
      exact ⟨_, rfl, rfl, false, rfl, iteF ⟨_, rfl, _, _, true, false, rfl, .base (.int i), is_ty (by decide +kernel), is_ty (by decide +kernel), q⟩⟩
def spBegin (C : Addr) : Sp := fun vs H Q _ => ∃ (a : Addr) (fr : List Int) (S : De) (A : PA), vs = [.ref a] ∧ PastAt H C a fr S A ∧ S.Ok fr ∧ FrOk fr ∧ S.n < 6 ∧
  ∀ (H' : Hp) (A' : PA), PastAt H' C a fr S.more A' → Only (footP a fr S.n A) H H' → (∀ x, footP a fr (S.n + 1) A' x → footP a fr S.n A x ∨ H x = none) → Q (.int (S.n : Int)) H'
abbrev DD (fr : List Int) (n i : Nat) : Nat → Nat → Prop := fun p t => Dom fr n p t ∨ (p = n ∧ t < i)
theorem sc_Past_begin_phrase : FnScope ["self", "phrase", "tongue"] ["self"] (defScope s_Past_begin_phrase) := ⟨rfl, rfl, rfl, by decide +kernel, rfl, by decide +kernel, by decide +kernel⟩
theorem c_Past_begin_phrase {P : Program} {w : World} {K : PySem.W.Frag} {mg : Str → Option Value} {base : Heap} (T : Tx K mg) : C8.Met P w K mg base 1 (He.ga K "Past") "begin_phrase" (spBegin (He.ga K "Past")) [] := by
  refine metD T.F_Past_begin_phrase T.k_Past T.m_Past_begin_phrase (fun _ _ _ _ _ _ us hl => match us, hl with | [_], _ => rfl) sc_Past_begin_phrase (fun vs H Q E h => ?_) (fun cdv A outer s H vs Q E hr h => ?_)
  · obtain ⟨a, fr, S, A, rfl, _⟩ := h
    rfl
  · obtain ⟨a, fr, S, A, rfl, hP, ok, fo, n6, q⟩ := h
    refine ⟨_, (pss_cons (ps_set (i := 1) sc_Past_begin_phrase.nd rfl (Or.inl rfl) (pe_fld (pv 0) (by rfl)))
    (pss_cons (ps_for PassesOwn.never rfl (pi_range1 (by rfl) T.f_range (pa_cons (pe_op op_add (pe_callB call_len_seq (by rfl) T.f_len (by decide +kernel) (pa_cons (pe_fld (pv 0) (by rfl)) pa_nil)) pe_int) pa_nil)) (pg_name (i := 2) sc_Past_begin_phrase.nd rfl (Or.inl rfl))
      (pss_cons (ps_dput (hu_of hr) (pe_fld (pv 0) (by rfl)) (pe_tup (pa_cons (pv 1) (pa_cons (pv 2) pa_nil))) pe_dnewK rfl)
      (pss_one (ps_dput (hu_of hr) (pe_fld (pv 0) (by rfl)) (pe_tup (pa_cons (pv 1) (pa_cons (pv 2) pa_nil))) (pe_lst pa_nil) rfl))))
    (pss_cons (ps_fldaug (pv 0) pe_int in_add)
    (pss_one (ps_ret (pv 1)))))), ?_⟩
    have hi7 := fo.hi
    refine ⟨_, rfl, a, _, _, _, _, rfl, hP.raw.obj, T.k_Past, T.n_Past_phrases, pf_phrases _ _, ?_⟩
    refine ⟨_, rfl, a, _, _, _, _, rfl, hP.raw.obj, T.k_Past, T.n_Past_froms, pf_froms _ _, A.f, _, rfl, .inl (SqL.of hP.raw.frm), _, _, rfl, rfl, _, rfl, by rw [List.length_map]; omega, by rw [List.length_map]; omega, ?_⟩
    refine for_range (lo := 0) (n := ((fr.map V.int).length + 1 : Int).toNat) (fun i σ H4 => ∃ (va : Option V) (A4 : PA), σ = [some (.ref a), some (.int S.n), va] ∧ Raw H4 (He.ga K "Past") a fr S.n (S.puts.map fun u => V.str u.x) (S.puts.map fun u => oV u.s) (eK S) S.lie (DD fr S.n i) (DD fr S.n i) A4 ∧ Only (footP a fr S.n A) H H4 ∧ (∀ x, Foot a (DD fr S.n i) (DD fr S.n i) A4 x → footP a fr S.n A x ∨ H x = none) ∧ A4.ekv.length ≤ 100 * S.n + i ∧ A4.pkv.length ≤ 100 * S.n + i)
      ⟨none, A, rfl, hP.raw.congr rfl rfl rfl (fun p t d => ⟨d.resolve_right (fun z => Nat.not_lt_zero _ z.2), rfl⟩) (fun p t d => ⟨d.resolve_right (fun z => Nat.not_lt_zero _ z.2), rfl⟩), only_same (Same.refl _), ?_, hP.el, hP.pl⟩ ?_ ?_
    · rintro x (z | z | z | z | z | z | ⟨p, t, d, z⟩ | ⟨p, t, d, z⟩)
      · exact .inl (.inl z)
      · exact .inl (.inr (.inl z))
      · exact .inl (.inr (.inr (.inl z)))
      · exact .inl (.inr (.inr (.inr (.inl z))))
      · exact .inl (.inr (.inr (.inr (.inr (.inl z)))))
      · exact .inl (.inr (.inr (.inr (.inr (.inr (.inl z))))))
      · exact .inl (.inr (.inr (.inr (.inr (.inr (.inr (.inl ⟨p, t, d.resolve_right (fun z => Nat.not_lt_zero _ z.2), z⟩)))))))
      · exact .inl (.inr (.inr (.inr (.inr (.inr (.inr (.inr ⟨p, t, d.resolve_right (fun z => Nat.not_lt_zero _ z.2), z⟩)))))))
    · rintro i σ H4 hi ⟨va, A4, rfl, r4, o4, f4, le4, lp4⟩
      rw [List.length_map] at hi
      rw [show (0 + (i : Int)) = (i : Int) from Int.zero_add _]
      have hin : i ≤ fr.length := by omega
      have nd : ¬ DD fr S.n i S.n i := fun z => z.elim (fun y => Nat.lt_irrefl _ y.1) (fun y => Nat.lt_irrefl _ y.2)
      intro e ne
      have r5 := r4.same (same_upd ne (o := .dK []))
      refine ⟨_, rfl, a, _, _, _, _, rfl, r5.obj, T.k_Past, T.n_Past_ever, pf_ever _ _, _, rfl, _, rfl, (by show 2 ≤ sizeLine; decide), fun b nb => ?_⟩
      have s6 : Same H4 (upd (upd H4 e (.dK [])) b (.tup [V.int (S.n : Int), V.int (i : Int)])) := (same_upd ne).trans (same_upd nb)
      have he6 : (upd (upd H4 e (.dK [])) b (.tup [V.int (S.n : Int), V.int (i : Int)])) e = some (.dK []) := same_upd nb _ _ upd_same
      have hb6 : (upd (upd H4 e (.dK [])) b (.tup [V.int (S.n : Int), V.int (i : Int)])) b = some (.tup ((ty S.n i).map kV)) := upd_same
      generalize upd (upd H4 e (.dK [])) b (.tup [V.int (S.n : Int), V.int (i : Int)]) = H6 at s6 he6 hb6 ⊢
      have r7 := r4.addE nd s6 ne he6
      have len4 := length_putK A4.ekv (ty S.n i) (.ref e)
      have len5 := length_putK A4.pkv (ty S.n i)
      refine ⟨A4.ev, _, rfl, DPut.t (r4.same s6).ev hb6 (small1000 (by omega)), Nat.zero_le _, fun e2 ne2 => ?_⟩
      have o7 : Only (footP a fr S.n A) H (upd H6 A4.ev (.dT (putK A4.ekv (ty S.n i) (.ref e)))) := by
        rcases f4 A4.ev (.inr (.inr (.inr (.inr (.inl rfl))))) with z | z
        · exact (o4.same s6).set z
        · exact (o4.same s6).chg z
      generalize upd H6 A4.ev (.dT (putK A4.ekv (ty S.n i) (.ref e))) = H7 at r7 o7 ne2 ⊢
      have r8 := r7.same (same_upd ne2 (o := .lst []))
      refine ⟨_, rfl, a, _, _, _, _, rfl, r8.obj, T.k_Past, T.n_Past_piles, pf_piles _ _, _, rfl, _, rfl, (by show 2 ≤ sizeLine; decide), fun b2 nb2 => ?_⟩
      have s9 : Same H7 (upd (upd H7 e2 (.lst [])) b2 (.tup [V.int (S.n : Int), V.int (i : Int)])) := (same_upd ne2).trans (same_upd nb2)
      have he9 : (upd (upd H7 e2 (.lst [])) b2 (.tup [V.int (S.n : Int), V.int (i : Int)])) e2 = some (.lst []) := same_upd nb2 _ _ upd_same
      have hb9 : (upd (upd H7 e2 (.lst [])) b2 (.tup [V.int (S.n : Int), V.int (i : Int)])) b2 = some (.tup ((ty S.n i).map kV)) := upd_same
      generalize upd (upd H7 e2 (.lst [])) b2 (.tup [V.int (S.n : Int), V.int (i : Int)]) = H9 at s9 he9 hb9 ⊢
      have r10 := r7.addP nd s9 ne2 he9
      refine ⟨A4.pi, _, rfl, DPut.t (r7.same s9).pi hb9 (small1000 (by show A4.pkv.length ≤ 1000; omega)), some (.int i), _, rfl, r10.congr rfl rfl rfl (fun p t d => ?_) (fun p t d => ?_), ?_, ?_, ?_, ?_⟩
      · have bare := ok.bare i
        by_cases c : p = S.n ∧ t = i
        · refine ⟨.inr c, ?_⟩
          rw [c.1, c.2, setAt_same]
          unfold eK
          rw [bare.2]
          rfl
        · refine ⟨.inl (d.imp id fun y => ⟨y.1, ?_⟩), by rw [setAt_ne c]⟩
          have : t ≠ i := fun z => c ⟨y.1, z⟩
          omega
      · have bare := ok.bare i
        by_cases c : p = S.n ∧ t = i
        · refine ⟨.inr c, ?_⟩
          rw [c.1, c.2, setAt_same, bare.1]
        · refine ⟨.inl (d.imp id fun y => ⟨y.1, ?_⟩), by rw [setAt_ne c]⟩
          have : t ≠ i := fun z => c ⟨y.1, z⟩
          omega
      · rcases f4 A4.pi (.inr (.inr (.inr (.inr (.inr (.inl rfl)))))) with z | z
        · exact (o7.same s9).set z
        · exact (o7.same s9).chg z
      · have fe : H e = none := o4.free ne
        have fe2 : H e2 = none := o7.free ne2
        have dn : ∀ p t, DD fr S.n (i + 1) p t → ¬ (p = S.n ∧ t = i) → DD fr S.n i p t := fun p t d c => d.imp id fun y => ⟨y.1, by
          have : t ≠ i := fun z => c ⟨y.1, z⟩
          omega⟩
        rintro x (z | z | z | z | z | z | ⟨p, t, d, z⟩ | ⟨p, t, d, z⟩)
        · exact f4 x (.inl z)
        · exact f4 x (.inr (.inl z))
        · exact f4 x (.inr (.inr (.inl z)))
        · exact f4 x (.inr (.inr (.inr (.inl z))))
        · exact f4 x (.inr (.inr (.inr (.inr (.inl z)))))
        · exact f4 x (.inr (.inr (.inr (.inr (.inr (.inl z))))))
        · have z' : x = setAt A4.eA S.n i e p t := z
          by_cases c : p = S.n ∧ t = i
          · rw [c.1, c.2, setAt_same] at z'
            exact .inr (by rw [z']; exact fe)
          · rw [setAt_ne c] at z'
            exact f4 x (.inr (.inr (.inr (.inr (.inr (.inr (.inl ⟨p, t, dn p t d c, z'⟩)))))))
        · have z' : x = setAt A4.pA S.n i e2 p t := z
          by_cases c : p = S.n ∧ t = i
          · rw [c.1, c.2, setAt_same] at z'
            exact .inr (by rw [z']; exact fe2)
          · rw [setAt_ne c] at z'
            exact f4 x (.inr (.inr (.inr (.inr (.inr (.inr (.inr ⟨p, t, dn p t d c, z'⟩)))))))
      · show (putK A4.ekv (ty S.n i) (.ref e)).length ≤ _
        omega
      · show (putK A4.pkv (ty S.n i) (.ref e2)).length ≤ _
        have := len5 (.ref e2)
        omega
    · rintro σ H4 ⟨va, A4, rfl, r4, o4, f4, le4, lp4⟩
      rw [show ((fr.map V.int).length + 1 : Int).toNat = fr.length + 1 by rw [List.length_map]; omega] at r4 f4 le4 lp4
      refine ⟨_, rfl, a, _, _, _, _, rfl, r4.obj, T.k_Past, T.n_Past_phrases, pf_phrases _ _, _, _, rfl, rfl, _, _, r4.obj, (by show 6 < 1000; decide), ?_⟩
      rw [pf_more]
      have r5 := r4.setN (S.n + 1)
      have dd : ∀ p t, Dom fr (S.n + 1) p t → DD fr S.n (fr.length + 1) p t := by
        rintro p t ⟨h1, h2⟩
        by_cases c : p = S.n
        · exact .inr ⟨c, by omega⟩
        · exact .inl ⟨by omega, h2⟩
      refine ⟨_, rfl, q _ A4 ⟨r5.congr rfl rfl rfl (fun p t d => ⟨dd p t d, rfl⟩) (fun p t d => ⟨dd p t d, rfl⟩), hP.few, hP.lens, ?_, ?_⟩ ?_ ?_⟩
      · show A4.ekv.length ≤ 100 * (S.n + 1)
        omega
      · show A4.pkv.length ≤ 100 * (S.n + 1)
        omega
      · exact o4.set (.inl rfl)
      · rintro x (z | z | z | z | z | z | ⟨p, t, d, z⟩ | ⟨p, t, d, z⟩)
        · exact f4 x (.inl z)
        · exact f4 x (.inr (.inl z))
        · exact f4 x (.inr (.inr (.inl z)))
        · exact f4 x (.inr (.inr (.inr (.inl z))))
        · exact f4 x (.inr (.inr (.inr (.inr (.inl z)))))
        · exact f4 x (.inr (.inr (.inr (.inr (.inr (.inl z))))))
        · exact f4 x (.inr (.inr (.inr (.inr (.inr (.inr (.inl ⟨p, t, dd p t d, z⟩)))))))
        · exact f4 x (.inr (.inr (.inr (.inr (.inr (.inr (.inr ⟨p, t, dd p t d, z⟩)))))))
def spLay (C : Addr) : Sp := fun vs H Q _ => ∃ (a : Addr) (fr : List Int) (S : De) (A : PA) (p t : Nat) (x : Str) (s : Option Int), vs = [.ref a, .int p, .int t, .str x, oV s] ∧ PastAt H C a fr S A ∧ p < S.n ∧ t ≤ fr.length ∧ S.puts.length < 5000 ∧
  ∀ (H' : Hp), PastAt H' C a fr (S.lay p t x s) A → Only (footP a fr S.n A) H H' → Q (.int (S.puts.length : Int)) H'
theorem sc_Past_lay_down : FnScope ["self", "phrase", "tongue", "text", "seen", "number"] ["self", "phrase", "tongue", "text", "seen"] (defScope s_Past_lay_down) := ⟨rfl, rfl, rfl, by decide +kernel, rfl, by decide +kernel, by decide +kernel⟩
theorem c_Past_lay_down {P : Program} {w : World} {K : PySem.W.Frag} {mg : Str → Option Value} {base : Heap} (T : Tx K mg) : C8.Met P w K mg base 1 (He.ga K "Past") "lay_down" (spLay (He.ga K "Past")) [] := by
  refine metD T.F_Past_lay_down T.k_Past T.m_Past_lay_down (fun _ _ _ _ _ _ us hl => match us, hl with | [_, _, _, _, _], _ => rfl) sc_Past_lay_down (fun vs H Q E h => ?_) (fun cdv A outer s H vs Q E hr h => ?_)
  · obtain ⟨a, fr, S, A, p, t, x, s, rfl, _⟩ := h
    rfl
  · obtain ⟨a, fr, S, A, p, t, x, s, rfl, hP, hp, ht, fw, q⟩ := h
    refine ⟨_, (pss_cons (ps_set (i := 5) sc_Past_lay_down.nd rfl (Or.inl rfl) (pe_callB call_len_seq (by rfl) T.f_len (by decide +kernel) (pa_cons (pe_fld (pv 0) (by rfl)) pa_nil)))
    (pss_cons (ps_expr (pe_bm PySem.F.plainAttrs_list PySem.F.slot_list_append PySem.F.type_list_append mt_append (pe_fld (pv 0) (by rfl)) (pa_cons (pv 3) pa_nil)))
    (pss_cons (ps_expr (pe_bm PySem.F.plainAttrs_list PySem.F.slot_list_append PySem.F.type_list_append mt_append (pe_fld (pv 0) (by rfl)) (pa_cons (pv 4) pa_nil)))
    (pss_cons (ps_dput (hu_of hr) (pe_dget (hu_of hr) (pe_fld (pv 0) (by rfl)) (pe_tup (pa_cons (pv 1) (pa_cons (pv 2) pa_nil))) (fun _ _ => rfl)) (pv 5) pe_bl rfl)
    (pss_cons (ps_expr (pe_bm PySem.F.plainAttrs_list PySem.F.slot_list_append PySem.F.type_list_append mt_append (pe_dget (hu_of hr) (pe_fld (pv 0) (by rfl)) (pe_tup (pa_cons (pv 1) (pa_cons (pv 2) pa_nil))) (fun _ _ => rfl)) (pa_cons (pv 5) pa_nil)))
    (pss_one (ps_ret (pv 5)))))))), ?_⟩
    have d : Dom fr S.n p t := ⟨hp, ht⟩
    have r := hP.raw
    refine ⟨_, rfl, a, _, _, _, _, rfl, r.obj, T.k_Past, T.n_Past_texts, pf_texts _ _, A.tx, _, rfl, .inl (SqL.of r.tx), ?_⟩
    rw [List.length_map]
    refine ⟨_, rfl, a, _, _, _, _, rfl, r.obj, T.k_Past, T.n_Past_texts, pf_texts _ _, .inl ⟨rfl, _, SqL.of r.tx⟩, _, rfl, A.tx, _, _, rfl, rfl, r.tx, by rw [List.length_map]; exact small5000 (by omega), ?_⟩
    have r1 := r.setTx ((S.puts.map fun u => V.str u.x) ++ [V.str x])
    have o1 : Only (footP a fr S.n A) H (upd H A.tx (.lst ((S.puts.map fun u => V.str u.x) ++ [V.str x]))) := (only_same (Same.refl _)).set (.inr (.inr (.inl rfl)))
    refine ⟨_, rfl, a, _, _, _, _, rfl, r1.obj, T.k_Past, T.n_Past_origins, pf_origins _ _, .inl ⟨rfl, _, SqL.of r1.og⟩, _, rfl, A.og, _, _, rfl, rfl, r1.og, by rw [List.length_map]; exact small5000 (by omega), ?_⟩
    have r2 := r1.setOg ((S.puts.map fun u => oV u.s) ++ [oV s])
    have o2 := o1.set (y := A.og) (o := .lst ((S.puts.map fun u => oV u.s) ++ [oV s])) (.inr (.inr (.inr (.inl rfl))))
    have lay := fun H3 H5 s3 s5 => @PastAt.lay H _ a fr S A H H H3 H H5 p t x s hP fw hp ht s3 s5
    generalize upd (upd H A.tx (.lst ((S.puts.map fun u => V.str u.x) ++ [V.str x]))) A.og (.lst ((S.puts.map fun u => oV u.s) ++ [oV s])) = H2 at r2 o2 lay ⊢
    refine ⟨_, rfl, a, _, _, _, _, rfl, r2.obj, T.k_Past, T.n_Past_ever, pf_ever _ _, _, rfl, _, rfl, (by show 2 ≤ sizeLine; decide), fun b nb => ?_⟩
    have s3 : Same H2 (upd H2 b (.tup [V.int (p : Int), V.int (t : Int)])) := same_upd nb
    have hb : (upd H2 b (.tup [V.int (p : Int), V.int (t : Int)])) b = some (.tup ((ty p t).map kV)) := upd_same
    generalize upd H2 b (.tup [V.int (p : Int), V.int (t : Int)]) = H3 at s3 hb ⊢
    have r3 := r2.same s3
    obtain ⟨e1, e2⟩ := r3.evs p t d
    have elen : (eK S p t).length < sizeLine := by
      unfold eK
      rw [List.length_map]
      have := evG_len (p := p) (t := t) (l := S.puts) (k := 0)
      exact small5000 (by unfold De.ever; omega)
    refine ⟨A.ev, _, rfl, e1 ▸ DGet.t r3.ev hb, _, rfl, A.eA p t, _, rfl, DPut.k (k := Sum.inl (S.puts.length : Int)) e2 elen, ?_⟩
    have r4 := r3.setEv d (putK (eK S p t) (Sum.inl (S.puts.length : Int)) (V.bl true))
    have o4 := (o2.same s3).set (y := A.eA p t) (o := .dK (putK (eK S p t) (Sum.inl (S.puts.length : Int)) (V.bl true))) (.inr (.inr (.inr (.inr (.inr (.inr (.inl ⟨p, t, d, rfl⟩)))))))
    have lay := fun H5 s5 => lay H3 H5 s3 s5
    generalize upd H3 (A.eA p t) (.dK (putK (eK S p t) (Sum.inl (S.puts.length : Int)) (V.bl true))) = H4 at r4 o4 lay ⊢
    refine ⟨_, rfl, a, _, _, _, _, rfl, r4.obj, T.k_Past, T.n_Past_piles, pf_piles _ _, _, rfl, _, rfl, (by show 2 ≤ sizeLine; decide), fun c nc => ?_⟩
    have s5 : Same H4 (upd H4 c (.tup [V.int (p : Int), V.int (t : Int)])) := same_upd nc
    have hc : (upd H4 c (.tup [V.int (p : Int), V.int (t : Int)])) c = some (.tup ((ty p t).map kV)) := upd_same
    generalize upd H4 c (.tup [V.int (p : Int), V.int (t : Int)]) = H5 at s5 hc ⊢
    have r5 := r4.same s5
    obtain ⟨g1, g2⟩ := r5.pis p t d
    have ln := hP.lens p t
    refine ⟨A.pi, V.ref (A.pA p t), rfl, g1 ▸ DGet.t r5.pi hc, .inl ⟨rfl, _, SqL.of g2⟩, _, rfl, A.pA p t, _, _, rfl, rfl, g2, by rw [List.length_map]; exact small5000 (by omega), ?_⟩
    exact ⟨_, rfl, q _ (lay H5 s5) ((o4.same s5).set (.inr (.inr (.inr (.inr (.inr (.inr (.inr ⟨p, t, d, rfl⟩))))))))⟩
def spTake (C : Addr) : Sp := fun vs H Q _ => ∃ (a : Addr) (fr : List Int) (S : De) (A : PA) (p t : Nat) (k : Int), vs = [.ref a, .int p, .int t] ∧ PastAt H C a fr S A ∧ p < S.n ∧ t ≤ fr.length ∧ S.now p t = some k ∧
  ∀ (H' : Hp), PastAt H' C a fr (S.off p t) A → Only (footP a fr S.n A) H H' → Q (.int k) H'
theorem sc_Past_take_off : FnScope ["self", "phrase", "tongue"] ["self", "phrase", "tongue"] (defScope s_Past_take_off) := ⟨rfl, rfl, rfl, by decide +kernel, rfl, by decide +kernel, by decide +kernel⟩
theorem c_Past_take_off {P : Program} {w : World} {K : PySem.W.Frag} {mg : Str → Option Value} {base : Heap} (T : Tx K mg) : C8.Met P w K mg base 1 (He.ga K "Past") "take_off" (spTake (He.ga K "Past")) [] := by
  refine metD T.F_Past_take_off T.k_Past T.m_Past_take_off (fun _ _ _ _ _ _ us hl => match us, hl with | [_, _, _], _ => rfl) sc_Past_take_off (fun vs H Q E h => ?_) (fun cdv A outer s H vs Q E hr h => ?_)
  · obtain ⟨a, fr, S, A, p, t, k, rfl, _⟩ := h
    rfl
  · obtain ⟨a, fr, S, A, p, t, k, rfl, hP, hp, ht, ek, q⟩ := h
    refine ⟨_, (pss_one (ps_ret (pe_bm0 PySem.F.plainAttrs_list PySem.F.slot_list_pop PySem.F.type_list_pop mt_pop (pe_dget (hu_of hr) (pe_fld (pv 0) (by rfl)) (pe_tup (pa_cons (pv 1) (pa_cons (pv 2) pa_nil))) (fun _ _ => rfl))))), ?_⟩
    have d : Dom fr S.n p t := ⟨hp, ht⟩
    refine ⟨_, rfl, a, _, _, _, _, rfl, hP.raw.obj, T.k_Past, T.n_Past_piles, pf_piles _ _, _, rfl, _, rfl, (by show 2 ≤ sizeLine; decide), fun c nc => ?_⟩
    have s1 : Same H (upd H c (.tup [V.int (p : Int), V.int (t : Int)])) := same_upd nc
    have hc : (upd H c (.tup [V.int (p : Int), V.int (t : Int)])) c = some (.tup ((ty p t).map kV)) := upd_same
    generalize upd H c (.tup [V.int (p : Int), V.int (t : Int)]) = H1 at s1 hc ⊢
    have h1 := hP.same s1
    obtain ⟨g1, g2⟩ := h1.raw.pis p t d
    refine ⟨A.pi, V.ref (A.pA p t), rfl, g1 ▸ DGet.t h1.raw.pi hc, .inl ⟨rfl, _, SqL.of g2⟩, A.pA p t, _, V.int k, rfl, rfl, g2, ?_, q _ (h1.off hp ht) ((only_same s1).set (.inr (.inr (.inr (.inr (.inr (.inr (.inr ⟨p, t, d, rfl⟩))))))))⟩
    obtain ⟨ys, ey⟩ := List.getLast?_eq_some_iff.mp (show (S.lie p t).getLast? = some k from ek)
    rw [ey, List.map_append, List.length_append]
    simp
def spHas (C : Addr) : Sp := fun vs H Q _ => ∃ (a : Addr) (fr : List Int) (S : De) (A : PA) (v : Int), vs = [.ref a, .int v] ∧ PastAt H C a fr S A ∧ Q (.bl (decide (0 ≤ v) && decide (v < (S.n : Int)))) H
theorem sc_Past_has_phrase : FnScope ["self", "value"] ["self", "value"] (defScope s_Past_has_phrase) := ⟨rfl, rfl, rfl, by decide +kernel, rfl, by decide +kernel, by decide +kernel⟩
theorem c_Past_has_phrase {P : Program} {w : World} {K : PySem.W.Frag} {mg : Str → Option Value} {base : Heap} (T : Tx K mg) : C8.Met P w K mg base 3 (He.ga K "Past") "has_phrase" (spHas (He.ga K "Past")) [] := by
  refine metD T.F_Past_has_phrase T.k_Past T.m_Past_has_phrase (fun _ _ _ _ _ _ us hl => match us, hl with | [_, _], _ => rfl) sc_Past_has_phrase (fun vs H Q E h => ?_) (fun cdv A outer s H vs Q E hr h => ?_)
  · obtain ⟨a, fr, S, A, v, rfl, _⟩ := h
    rfl
  · obtain ⟨a, fr, S, A, v, rfl, hP, q⟩ := h
    refine ⟨_, (pss_one (ps_ret (pe_and (C8.pe_c (c_is_count T) hr (by decide) rfl (pa_cons (pv 1) pa_nil)) (pe_one (pe_cmpR op_lt (pv 1) (pe_fld (pv 0) (by rfl)) (nomark _)))))), ?_⟩
    refine ⟨_, rfl, v, rfl, decide (0 ≤ v), rfl, ?_⟩
    by_cases c : 0 ≤ v
    · rw [decide_eq_true c] at q ⊢
      exact iteT ⟨_, rfl, _, rfl, a, _, _, _, _, rfl, hP.raw.obj, T.k_Past, T.n_Past_phrases, pf_phrases _ _, v, _, rfl, rfl, q⟩
    · rw [decide_eq_false c] at q ⊢
      exact iteF q
def spStand (C : Addr) : Sp := fun vs H Q _ => ∃ (a : Addr) (fr : List Int) (S : De) (A : PA) (p t : Nat), vs = [.ref a, .int p, .int t] ∧ PastAt H C a fr S A ∧ p < S.n ∧ t ≤ fr.length ∧ ∀ (H' : Hp), Same H H' → Q (oV (S.now p t)) H'
theorem sc_Past_standing : FnScope ["self", "phrase", "tongue", "pile"] ["self", "phrase", "tongue"] (defScope s_Past_standing) := ⟨rfl, rfl, rfl, by decide +kernel, rfl, by decide +kernel, by decide +kernel⟩
theorem c_Past_standing {P : Program} {w : World} {K : PySem.W.Frag} {mg : Str → Option Value} {base : Heap} (T : Tx K mg) : C8.Met P w K mg base 1 (He.ga K "Past") "standing" (spStand (He.ga K "Past")) [] := by
  refine metD T.F_Past_standing T.k_Past T.m_Past_standing (fun _ _ _ _ _ _ us hl => match us, hl with | [_, _, _], _ => rfl) sc_Past_standing (fun vs H Q E h => ?_) (fun cdv A outer s H vs Q E hr h => ?_)
  · obtain ⟨a, fr, S, A, p, t, rfl, _⟩ := h
    rfl
  · obtain ⟨a, fr, S, A, p, t, rfl, hP, hp, ht, q⟩ := h
    refine ⟨_, (pss_cons (ps_set (i := 3) sc_Past_standing.nd rfl (Or.inl rfl) (pe_dget (hu_of hr) (pe_fld (pv 0) (by rfl)) (pe_tup (pa_cons (pv 1) (pa_cons (pv 2) pa_nil))) (fun _ _ => rfl)))
    (pss_one (ps_ret (pe_ifExp (pt_truth (pv 3) (by intro _; rfl)) (pe_ix ix_list (pv 3) (pe_un un_neg pe_int) (fun _ _ => rfl)) pe_non)))), ?_⟩
    have d : Dom fr S.n p t := ⟨hp, ht⟩
    refine ⟨_, rfl, a, _, _, _, _, rfl, hP.raw.obj, T.k_Past, T.n_Past_piles, pf_piles _ _, _, rfl, _, rfl, (by show 2 ≤ sizeLine; decide), fun c nc => ?_⟩
    have s1 : Same H (upd H c (.tup [V.int (p : Int), V.int (t : Int)])) := same_upd nc
    have hc : (upd H c (.tup [V.int (p : Int), V.int (t : Int)])) c = some (.tup ((ty p t).map kV)) := upd_same
    generalize upd H c (.tup [V.int (p : Int), V.int (t : Int)]) = H1 at s1 hc ⊢
    have h1 := hP.same s1
    obtain ⟨g1, g2⟩ := h1.raw.pis p t d
    refine ⟨A.pi, V.ref (A.pA p t), rfl, g1 ▸ DGet.t h1.raw.pi hc, ?_⟩
    cases el : (S.lie p t).getLast? with
    | none =>
      have e0 : S.lie p t = [] := List.getLast?_eq_none_iff.mp el
      rw [e0] at g2
      have q1 := q H1 s1
      rw [show S.now p t = none from el] at q1
      exact ⟨_, rfl, false, .inl ⟨_, SqL.of g2, rfl⟩, iteF q1⟩
    | some k =>
      have q1 := q H1 s1
      rw [show S.now p t = some k from el] at q1
      refine ⟨_, rfl, true, ?_, iteT ⟨_, rfl, _, rfl, A.pA p t, _, _, _, rfl, rfl, SqL.of g2, last_at el, q1⟩⟩
      refine .inl ⟨_, SqL.of g2, ?_⟩
      cases e0 : S.lie p t with
      | nil =>
        rw [e0] at el
        cases el
      | cons y ys => rfl
def De.tV (S : De) (p t : Nat) : V := match S.now p t with
  | some k => .str (S.pt k).x
  | none => .non
def spTxS (C : Addr) : Sp := fun vs H Q _ => ∃ (a : Addr) (fr : List Int) (S : De) (A : PA) (p t : Nat), vs = [.ref a, .int p, .int t] ∧ PastAt H C a fr S A ∧ S.Num ∧ p < S.n ∧ t ≤ fr.length ∧ ∀ (H' : Hp), Same H H' → Q (S.tV p t) H'
theorem sc_Past_text_standing : FnScope ["self", "phrase", "tongue", "number"] ["self", "phrase", "tongue"] (defScope s_Past_text_standing) := ⟨rfl, rfl, rfl, by decide +kernel, rfl, by decide +kernel, by decide +kernel⟩
theorem c_Past_text_standing {P : Program} {w : World} {K : PySem.W.Frag} {mg : Str → Option Value} {base : Heap} (T : Tx K mg) : C8.Met P w K mg base 2 (He.ga K "Past") "text_standing" (spTxS (He.ga K "Past")) [] := by
  refine metD T.F_Past_text_standing T.k_Past T.m_Past_text_standing (fun _ _ _ _ _ _ us hl => match us, hl with | [_, _, _], _ => rfl) sc_Past_text_standing (fun vs H Q E h => ?_) (fun cdv A outer s H vs Q E hr h => ?_)
  · obtain ⟨a, fr, S, A, p, t, rfl, _⟩ := h
    rfl
  · obtain ⟨a, fr, S, A, p, t, rfl, hP, hN, hp, ht, q⟩ := h
    refine ⟨_, (pss_cons (ps_set (i := 3) sc_Past_text_standing.nd rfl (Or.inl rfl) (C8.pe_mt (c_Past_standing T) hr (by decide) (pv 0) (pa_cons (pv 1) (pa_cons (pv 2) pa_nil))))
    (pss_one (ps_ret (pe_ifExp (pt_cmpR op_isN (pv 3) pe_non (nomark _)) pe_non (pe_ix ix_list (pe_fld (pv 0) (by rfl)) (pv 3) (fun _ _ => rfl)))))), ?_⟩
    refine ⟨_, rfl, a, _, _, rfl, hP.raw.obj, rfl, _, rfl, _, rfl, a, fr, S, A, p, t, rfl, hP, hp, ht, fun H1 s1 => ?_⟩
    have q1 := q H1 s1
    unfold De.tV at q1
    have h1 := hP.same s1
    cases en : S.now p t with
    | none =>
      rw [en] at q1
      exact ⟨_, rfl, rfl, true, rfl, iteT q1⟩
    | some k =>
      rw [en] at q1
      obtain ⟨k0, u, eu, _, _⟩ := hN.now en
      have q1 : Q (V.str (S.pt k).x) H1 := q1
      rw [show S.pt k = u from De.pt_at eu] at q1
      exact ⟨_, rfl, rfl, false, rfl, iteF ⟨_, rfl, a, _, _, _, _, rfl, h1.raw.obj, T.k_Past, T.n_Past_texts, pf_texts _ _, _, rfl, A.tx, _, _, _, rfl, rfl, SqL.of h1.raw.tx, at_of (j := k.toNat) (by omega) (lookup_at eu), q1⟩⟩
def spCells (C : Addr) : Sp := fun vs H Q _ => ∃ (a : Addr) (fr : List Int) (S : De) (A : PA) (p : Nat), vs = [.ref a, .int p] ∧ PastAt H C a fr S A ∧ S.Num ∧ FrOk fr ∧ p < S.n ∧ ∀ (H' : Hp) (r : Addr), Same H H' → H r = none → RowAt H' r (S.row (fr.length + 1) p) → Q (.ref r) H'
theorem sc_Past_cells : FnScope ["self", "phrase", "numbers", "tongue", "number"] ["self", "phrase"] (defScope s_Past_cells) := ⟨rfl, rfl, rfl, by decide +kernel, rfl, by decide +kernel, by decide +kernel⟩
theorem c_Past_cells {P : Program} {w : World} {K : PySem.W.Frag} {mg : Str → Option Value} {base : Heap} (T : Tx K mg) : C8.Met P w K mg base 2 (He.ga K "Past") "cells" (spCells (He.ga K "Past")) [] := by
  refine metD T.F_Past_cells T.k_Past T.m_Past_cells (fun _ _ _ _ _ _ us hl => match us, hl with | [_, _], _ => rfl) sc_Past_cells (fun vs H Q E h => ?_) (fun cdv A outer s H vs Q E hr h => ?_)
  · obtain ⟨a, fr, S, A, p, rfl, _⟩ := h
    rfl
  · obtain ⟨a, fr, S, A, p, rfl, hP, hN, fo, hp, q⟩ := h
    refine ⟨_, (pss_cons (ps_setLc (i := 2) (own := [("tongue", 3)]) (g := gName 3) (tt := tYes) (by rfl) sc_Past_cells.nd rfl rfl (sw_true rfl rfl rfl (by decide +kernel)) (pi_range1 (by rfl) T.f_range (pa_cons (pe_op op_add (pe_callB call_len_seq (by rfl) T.f_len (by decide +kernel) (pa_cons (pe_fld (pv 0) (by rfl)) pa_nil)) pe_int) pa_nil)) (blkOk_by (own := [("tongue", 3)]) (N := ["self", "phrase", "numbers", "tongue", "number"]) (sc := defScope s_Past_cells) (by decide +kernel)) (fun _ _ _ _ _ => (pg_name (i := 3) sc_Past_cells.nd rfl (Or.inl rfl))) (fun _ _ _ _ _ => pts_nil) (fun _ _ _ _ _ => (C8.pe_mt (c_Past_standing T) hr (by decide) (pv 0) (pa_cons (pv 1) (pa_cons (pv 3) pa_nil)))))
    (pss_one (ps_ret (pe_lc (own := [("number", 4)]) (g := gName 4) (tt := tYes) (by rfl) sc_Past_cells.nd (pi_list (pv 2)) (blkOk_by (own := [("number", 4)]) (N := ["self", "phrase", "numbers", "tongue", "number"]) (sc := defScope s_Past_cells) (by decide +kernel)) (fun _ _ _ _ _ => (pg_name (i := 4) sc_Past_cells.nd rfl (Or.inl rfl))) (fun _ _ _ _ _ => pts_nil) (fun _ _ _ _ _ => (pe_ifExp (pt_cmpR op_isN (pv 4) pe_non (nomark _)) pe_non (pe_tup (pa_cons (pv 4) (pa_cons (pe_ix (show IxR _ (rIxL K) from ix_list) (pe_fldK (K := K) (by rfl) (pv 0) (by rfl)) (pv 4) (fun _ _ => rfl)) pa_nil))))))))), ?_⟩
    have hi7 := fo.hi
    refine ⟨_, rfl, a, _, _, _, _, rfl, hP.raw.obj, T.k_Past, T.n_Past_froms, pf_froms _ _, A.f, _, rfl, .inl (SqL.of hP.raw.frm), _, _, rfl, rfl, _, rfl, by rw [List.length_map]; omega, by rw [List.length_map]; omega, fun D nD => ?_⟩
    refine lc_range (lo := 0) (n := ((fr.map V.int).length + 1 : Int).toNat) (fun i H1 => Same H H1 ∧ H1 D = some (.lst ((List.range i).map fun t => oV (S.now p t)))) ⟨same_upd nD, upd_same⟩ ?_ ?_
    · rintro i H1 hi ⟨s1, hD⟩
      rw [List.length_map] at hi
      rw [show (0 + (i : Int)) = (i : Int) from Int.zero_add _]
      have h1 := hP.same s1
      refine ⟨rfl, _, rfl, a, _, _, rfl, h1.raw.obj, rfl, _, rfl, _, rfl, a, fr, S, A, p, i, rfl, h1, hp, by omega, fun H2 s2 => ⟨_, s2 _ _ hD, ?_, Same.chg (s1.trans s2) nD, ?_⟩⟩
      · rw [List.length_map, List.length_range]
        exact small1000 (by omega)
      · rw [upd_same, List.range_succ, List.map_append]
        rfl
    rintro H1 ⟨s1, hD⟩
    rw [show ((fr.map V.int).length + 1 : Int).toNat = fr.length + 1 by rw [List.length_map]; omega] at hD
    refine ⟨_, rfl, D, rfl, ⟨_, SqL.of hD⟩, fun R nR => ?_⟩
    refine lc_list (K := K) (a := D) (xs := (List.range (fr.length + 1)).map fun t => oV (S.now p t)) (fun i H2 => Same H1 H2 ∧ RowAt H2 R (S.row i p)) ⟨same_upd nR, ⟨[], upd_same, ⟨rfl, fun i c e => by simp [De.row] at e⟩⟩⟩ (fun i H2 _ z => SqL.of (z.1 _ _ hD)) ?_ ?_
    · rintro i v H2 hv ⟨s2, hR⟩
      have hi : i < fr.length + 1 := by
        have := (List.getElem?_eq_some_iff.mp hv).1
        rw [List.length_map, List.length_range] at this
        exact this
      rw [List.getElem?_map, List.getElem?_range hi] at hv
      have hv' : v = oV (S.now p i) := (Option.some.inj hv).symm
      subst hv'
      have s12 := s1.trans s2
      have h2 := hP.same s12
      obtain ⟨ws, hw, hcs⟩ := id hR
      have hlen : ws.length < sizeLine := by
        rw [hcs.len, De.row_len]
        exact small1000 (by omega)
      have step : ∀ (H6 : Hp) (v : V), Same H2 H6 → CellV H6 v (S.cell p i) → Same H1 (upd H6 R (.lst (ws ++ [v]))) ∧ RowAt (upd H6 R (.lst (ws ++ [v]))) R (S.row (i + 1) p) := by
        intro H6 v s6 hc
        refine ⟨Same.chg (s2.trans s6) nR, ?_⟩
        have z := RowAt.snoc (hR.same s6) (s6 _ _ hw) hc
        unfold De.row at z ⊢
        rw [List.range_succ, List.map_append]
        exact z
      refine ⟨rfl, _, rfl, rfl, decide (oV (S.now p i) = .non), rfl, ?_⟩
      cases en : S.now p i with
      | none =>
        obtain ⟨g1, g2⟩ := step H2 .non (Same.refl _) (by unfold De.cell; rw [en]; rfl)
        exact iteT ⟨_, hw, hlen, g1, g2⟩
      | some k =>
        obtain ⟨k0, u, eu, _, _⟩ := hN.now en
        refine iteF ⟨_, rfl, _, rfl, a, _, _, _, _, rfl, h2.raw.obj, T.k_Past, T.n_Past_origins, pf_origins _ _, _, rfl, A.og, _, _, _, rfl, rfl, SqL.of h2.raw.og, at_of (j := k.toNat) (by omega) (lookup_at eu), (by show 2 ≤ sizeLine; decide), fun c nc => ?_⟩
        obtain ⟨g1, g2⟩ := step _ (.ref c) (same_upd nc (o := .tup [.int k, oV u.s])) (by
          unfold De.cell
          rw [en]
          show CellV _ _ (some (k, (S.pt k).s))
          rw [De.pt_at eu]
          exact ⟨c, rfl, upd_same⟩)
        exact ⟨_, same_upd nc _ _ hw, hlen, g1, g2⟩
    rintro H2 ⟨s2, hR⟩
    rw [List.length_map, List.length_range] at hR
    exact q H2 R (s1.trans s2) (s1.free nR) hR
def spSeen (C : Addr) : Sp := fun vs H Q _ => ∃ (a : Addr) (fr : List Int) (S : De) (A : PA) (p t : Nat) (s : Option Int), vs = [.ref a, .int p, .int t, oV s] ∧ PastAt H C a fr S A ∧ FrOk fr ∧ p < S.n ∧ t ≤ fr.length ∧ ∀ (H' : Hp), Same H H' → Q (.bl (decide (s ∈ S.seens fr p t))) H'
theorem sc_Past_was_seen : FnScope ["self", "phrase", "tongue", "seen"] ["self", "phrase", "tongue", "seen"] (defScope s_Past_was_seen) := ⟨rfl, rfl, rfl, by decide +kernel, rfl, by decide +kernel, by decide +kernel⟩
theorem c_Past_was_seen {P : Program} {w : World} {K : PySem.W.Frag} {mg : Str → Option Value} {base : Heap} (T : Tx K mg) : C8.Met P w K mg base 2 (He.ga K "Past") "was_seen" (spSeen (He.ga K "Past")) [] := by
  refine metD T.F_Past_was_seen T.k_Past T.m_Past_was_seen (fun _ _ _ _ _ _ us hl => match us, hl with | [_, _, _, _], _ => rfl) sc_Past_was_seen (fun vs H Q E h => ?_) (fun cdv A outer s H vs Q E hr h => ?_)
  · obtain ⟨a, fr, S, A, p, t, s0, rfl, _⟩ := h
    rfl
  · obtain ⟨a, fr, S, A, p, t, s0, rfl, hP, fo, hp, ht, q⟩ := h
    refine ⟨_, (pss_cons (ps_if (pt_cmpR op_eq (pv 2) pe_int (nomark _))
      (pss_one (ps_ret (pe_cmpR op_isN (pv 3) pe_non (nomark _))))
      pss_nil)
    (pss_one (ps_ret (pe_and (C8.pe_c (c_is_number T) hr (by decide) rfl (pa_cons (pv 3) pa_nil)) (pe_one (pe_cmp (pc_din (hu_of hr) (pv 3) (pe_dget (hu_of hr) (pe_fld (pv 0) (by rfl)) (pe_tup (pa_cons (pv 1) (pa_cons (C8.pe_c (c_put_from T) hr (by decide) rfl (pa_cons (pe_fld (pv 0) (by rfl)) (pa_cons (pv 2) pa_nil))) pa_nil))) (fun _ _ => rfl))) rfl)))))), ?_⟩
    refine ⟨_, rfl, rfl, decide (t = 0), congrArg V.bl (dec_nat (y := 0)), ?_⟩
    by_cases c : t = 0
    · rw [decide_eq_true c]
      have q1 := q H (Same.refl _)
      unfold De.seens at q1
      rw [if_pos c] at q1
      refine iteT ⟨_, rfl, rfl, qt ?_ q1⟩
      cases s0 with
      | none => rfl
      | some k => rfl
    rw [decide_eq_false c]
    have q1 := fun H' s' => q H' s'
    unfold De.seens at q1
    rw [if_neg c] at q1
    cases s0 with
    | none =>
      refine iteF ⟨_, rfl, _, _, false, false, rfl, .base .non, is_ty (by decide +kernel), is_ty (by decide +kernel), false, rfl, iteF (qt ?_ (q1 H (Same.refl _)))⟩
      symm
      exact decide_eq_false (fun z => by simp at z)
    | some k =>
      obtain ⟨x, ex, x0, xl, xu⟩ := fo.at (t := t) (by omega) ht
      refine iteF ⟨_, rfl, _, _, true, false, rfl, .base (.int k), is_ty (by decide +kernel), is_ty (by decide +kernel), true, rfl, iteT ?_⟩
      refine ⟨_, rfl, _, rfl, a, _, _, _, _, rfl, hP.raw.obj, T.k_Past, T.n_Past_ever, pf_ever _ _, _, rfl, _, rfl, a, _, _, _, _, rfl, hP.raw.obj, T.k_Past, T.n_Past_froms, pf_froms _ _, _, rfl, A.f, fr, t, x, rfl, hP.raw.frm, by omega, ex, (by show 2 ≤ sizeLine; decide), fun b nb => ?_⟩
      subst xu
      have s1 : Same H (upd H b (.tup [V.int (p : Int), V.int (up fr t : Int)])) := same_upd nb
      have hb : (upd H b (.tup [V.int (p : Int), V.int (up fr t : Int)])) b = some (.tup ((ty p (up fr t)).map kV)) := upd_same
      generalize upd H b (.tup [V.int (p : Int), V.int (up fr t : Int)]) = H1 at s1 hb ⊢
      have h1 := hP.same s1
      have hu := up_lt fo (t := t) (by omega) ht
      obtain ⟨e1, e2⟩ := h1.raw.evs p (up fr t) ⟨hp, by omega⟩
      refine ⟨A.ev, V.ref (A.eA p (up fr t)), rfl, e1 ▸ DGet.t h1.raw.ev hb, A.eA p (up fr t), _, rfl, DGet.k (k := Sum.inl k) e2, qt ?_ (q1 H1 s1)⟩
      unfold eK
      rw [eK_has]
      refine decide_eq_decide.mpr ?_
      rw [List.mem_map, List.mem_map]
      exact ⟨fun ⟨e, z1, z2⟩ => ⟨e, z1, congrArg some z2⟩, fun ⟨e, z1, z2⟩ => ⟨e, z1, Option.some.inj z2⟩⟩
def spOver (C : Addr) : Sp := fun vs H Q _ => ∃ (a : Addr) (fr : List Int) (S : De) (A : PA) (p t : Nat) (o : Option Int), vs = [.ref a, .int p, .int t, oV o] ∧ PastAt H C a fr S A ∧ p < S.n ∧ t ≤ fr.length ∧ ∀ (H' : Hp), Same H H' → Q (.bl (decide (o = S.now p t))) H'
theorem oV_dec {a b : Option Int} : decide (oV a = oV b) = decide (a = b) := by
  refine decide_eq_decide.mpr ⟨fun z => ?_, fun z => by rw [z]⟩
  cases a with
  | none =>
    cases b with
    | none => rfl
    | some y => cases z
  | some x =>
    cases b with
    | none => cases z
    | some y => rw [V.int.inj z]
theorem sc_Past_is_over : FnScope ["self", "phrase", "tongue", "over"] ["self", "phrase", "tongue", "over"] (defScope s_Past_is_over) := ⟨rfl, rfl, rfl, by decide +kernel, rfl, by decide +kernel, by decide +kernel⟩
theorem c_Past_is_over {P : Program} {w : World} {K : PySem.W.Frag} {mg : Str → Option Value} {base : Heap} (T : Tx K mg) : C8.Met P w K mg base 3 (He.ga K "Past") "is_over" (spOver (He.ga K "Past")) [] := by
  refine metD T.F_Past_is_over T.k_Past T.m_Past_is_over (fun _ _ _ _ _ _ us hl => match us, hl with | [_, _, _, _], _ => rfl) sc_Past_is_over (fun vs H Q E h => ?_) (fun cdv A outer s H vs Q E hr h => ?_)
  · obtain ⟨a, fr, S, A, p, t, o, rfl, _⟩ := h
    rfl
  · obtain ⟨a, fr, S, A, p, t, o, rfl, hP, hp, ht, q⟩ := h
    refine ⟨_, (pss_one (ps_ret (pe_and (C8.pe_c (c_is_number_or_none T) hr (by decide) rfl (pa_cons (pv 3) pa_nil)) (pe_one (pe_cmpR op_eq (pv 3) (C8.pe_mt (c_Past_standing T) hr (by decide) (pv 0) (pa_cons (pv 1) (pa_cons (pv 2) pa_nil))) (nomark _)))))), ?_⟩
    refine ⟨_, rfl, o, rfl, true, rfl, iteT ⟨_, rfl, _, rfl, a, _, _, rfl, hP.raw.obj, rfl, _, rfl, _, rfl, a, fr, S, A, p, t, rfl, hP, hp, ht, fun H1 s1 => ?_⟩⟩
    refine ⟨?_, qt oV_dec (q H1 s1)⟩
    cases o <;> cases S.now p t <;> rfl
def spCan (C : Addr) : Sp := fun vs H Q _ => ∃ (a : Addr) (fr : List Int) (S : De) (A : PA) (p t : Nat), vs = [.ref a, .int p, .int t] ∧ PastAt H C a fr S A ∧ p < S.n ∧ t ≤ fr.length ∧ ∀ (H' : Hp), Same H H' → Q (.bl (decide ((if t = 0 then 1 else 0) < (S.lie p t).length))) H'
theorem sc_Past_can_take_off : FnScope ["self", "phrase", "tongue"] ["self", "phrase", "tongue"] (defScope s_Past_can_take_off) := ⟨rfl, rfl, rfl, by decide +kernel, rfl, by decide +kernel, by decide +kernel⟩
theorem c_Past_can_take_off {P : Program} {w : World} {K : PySem.W.Frag} {mg : Str → Option Value} {base : Heap} (T : Tx K mg) : C8.Met P w K mg base 1 (He.ga K "Past") "can_take_off" (spCan (He.ga K "Past")) [] := by
  refine metD T.F_Past_can_take_off T.k_Past T.m_Past_can_take_off (fun _ _ _ _ _ _ us hl => match us, hl with | [_, _, _], _ => rfl) sc_Past_can_take_off (fun vs H Q E h => ?_) (fun cdv A outer s H vs Q E hr h => ?_)
  · obtain ⟨a, fr, S, A, p, t, rfl, _⟩ := h
    rfl
  · obtain ⟨a, fr, S, A, p, t, rfl, hP, hp, ht, q⟩ := h
    refine ⟨_, (pss_one (ps_ret (pe_cmpR op_gt (pe_callB call_len_seq (by rfl) T.f_len (by decide +kernel) (pa_cons (pe_dget (hu_of hr) (pe_fld (pv 0) (by rfl)) (pe_tup (pa_cons (pv 1) (pa_cons (pv 2) pa_nil))) (fun _ _ => rfl)) pa_nil)) (pe_ifExp (pt_cmpR op_eq (pv 2) pe_int (nomark _)) pe_int pe_int) (nomark _)))), ?_⟩
    have d : Dom fr S.n p t := ⟨hp, ht⟩
    refine ⟨_, rfl, a, _, _, _, _, rfl, hP.raw.obj, T.k_Past, T.n_Past_piles, pf_piles _ _, _, rfl, _, rfl, (by show 2 ≤ sizeLine; decide), fun c nc => ?_⟩
    have s1 : Same H (upd H c (.tup [V.int (p : Int), V.int (t : Int)])) := same_upd nc
    have hc : (upd H c (.tup [V.int (p : Int), V.int (t : Int)])) c = some (.tup ((ty p t).map kV)) := upd_same
    generalize upd H c (.tup [V.int (p : Int), V.int (t : Int)]) = H1 at s1 hc ⊢
    have h1 := hP.same s1
    obtain ⟨g1, g2⟩ := h1.raw.pis p t d
    refine ⟨A.pi, V.ref (A.pA p t), rfl, g1 ▸ DGet.t h1.raw.pi hc, A.pA p t, _, rfl, .inl (SqL.of g2), _, rfl, rfl, decide (t = 0), congrArg V.bl (dec_nat (y := 0)), ?_⟩
    have q1 := q H1 s1
    rw [List.length_map]
    by_cases c0 : t = 0
    · rw [decide_eq_true c0]
      rw [if_pos c0] at q1
      refine iteT ⟨_, _, rfl, rfl, qt (decide_eq_decide.mpr (by omega)) q1⟩
    · rw [decide_eq_false c0]
      rw [if_neg c0] at q1
      refine iteF ⟨_, _, rfl, rfl, qt (decide_eq_decide.mpr (by omega)) q1⟩
def spPastInit (C : Addr) : Sp := fun vs H Q _ => ∃ (y dy f : Addr) (fr : List Int), vs = [.ref y, .ref f] ∧ H y = some (.ins C dy []) ∧ LsAt H f fr ∧
  ∀ (H' : Hp) (A : PA), PastAt H' C y fr De.none A → (∀ x o, x ≠ y → H x = some o → H' x = some o) → (∀ x, footP y fr 0 A x → x = y ∨ H x = none) → Q .non H'
theorem sc_Past_init : FnScope ["self", "froms"] ["self", "froms"] (defScope s_Past_init) := ⟨rfl, rfl, rfl, by decide +kernel, rfl, by decide +kernel, by decide +kernel⟩
theorem c_Past_init {P : Program} {w : World} {K : PySem.W.Frag} {mg : Str → Option Value} {base : Heap} (T : Tx K mg) : C8.Mak P w K mg base 1 "Past" (He.ga K "Past") (spPastInit (He.ga K "Past")) [] := by
  refine makD T.F_Past_init T.i_Past T.g_Past (fun _ _ _ _ _ _ us hl => match us, hl with | [_, _], _ => rfl) sc_Past_init (fun vs H Q E h => ?_) (fun cdv A outer s H vs Q E hr h => ?_)
  · obtain ⟨y, dy, f, fr, rfl, _⟩ := h
    rfl
  · obtain ⟨y, dy, f, fr, rfl, hy, hf, q⟩ := h
    refine ⟨_, (pss_cons (ps_fld (pv 0) (pe_callTy call_list_of (by rfl) T.f_list (by decide +kernel) (pa_cons (pv 1) pa_nil)) rfl)
    (pss_cons (ps_fld (pv 0) pe_int rfl)
    (pss_cons (ps_fld (pv 0) (pe_lst pa_nil) rfl)
    (pss_cons (ps_fld (pv 0) (pe_lst pa_nil) rfl)
    (pss_cons (ps_fld (pv 0) pe_dnewT rfl)
    (pss_one (ps_fld (pv 0) pe_dnewT rfl))))))), ?_⟩
    have kpn : ∀ {H H' : Hp} {p : Addr} {o u : HO}, (∀ x o, x ≠ y → H x = some o → H' x = some o) → H' p = none → ∀ x o', x ≠ y → H x = some o' → (upd (upd H' p o) y u) x = some o' := by
      intro H H' p o u k np x o' nx e
      have e' := k x o' nx e
      rw [upd_ne nx, upd_ne (ne_of_none e' np)]
      exact e'
    have k0 : ∀ x o, x ≠ y → H x = some o → H x = some o := fun _ _ _ e => e
    refine ⟨_, rfl, f, _, rfl, .inl (SqL.of hf), fun f1 nf1 => ⟨_, rfl, y, _, dy, _, rfl, same_upd nf1 _ _ hy, T.k_Past, T.n_Past_froms, (by show 0 < 1000; decide), ?_⟩⟩
    have k1 := kpn (o := .lst (fr.map V.int)) (u := .ins (He.ga K "Past") dy (putF "froms" (.ref f1) [])) k0 nf1
    have yf1 : f1 ≠ y := Ne.symm (ne_of_none hy nf1)
    have a1 : (upd (upd H f1 (.lst (fr.map V.int))) y (.ins (He.ga K "Past") dy (putF "froms" (.ref f1) []))) f1 = some (.lst (fr.map V.int)) := by rw [upd_ne yf1, upd_same]
    have y1 : (upd (upd H f1 (.lst (fr.map V.int))) y (.ins (He.ga K "Past") dy (putF "froms" (.ref f1) []))) y = some (.ins (He.ga K "Past") dy [("froms", .ref f1)]) := upd_same
    generalize upd (upd H f1 (.lst (fr.map V.int))) y (.ins (He.ga K "Past") dy (putF "froms" (.ref f1) [])) = H1 at k1 a1 y1 ⊢
    refine ⟨_, rfl, y, _, dy, _, rfl, y1, T.k_Past, T.n_Past_phrases, (by show 1 < 1000; decide), ?_⟩
    have k2 : ∀ x o, x ≠ y → H1 x = some o → (upd H1 y (.ins (He.ga K "Past") dy (putF "phrases" (.int 0) [("froms", .ref f1)]))) x = some o := fun x o nx e => by rw [upd_ne nx]; exact e
    have y2 : (upd H1 y (.ins (He.ga K "Past") dy (putF "phrases" (.int 0) [("froms", .ref f1)]))) y = some (.ins (He.ga K "Past") dy [("froms", .ref f1), ("phrases", .int 0)]) := upd_same
    generalize upd H1 y (.ins (He.ga K "Past") dy (putF "phrases" (.int 0) [("froms", .ref f1)])) = H2 at k2 y2 ⊢
    have a2 := k2 _ _ yf1 a1
    refine ⟨Nat.zero_le _, fun tx ntx => ⟨_, rfl, y, _, dy, _, rfl, same_upd ntx _ _ y2, T.k_Past, T.n_Past_texts, (by show 2 < 1000; decide), ?_⟩⟩
    have ytx : tx ≠ y := Ne.symm (ne_of_none y2 ntx)
    have f1tx : f1 ≠ tx := ne_of_none a2 ntx
    have k3 := kpn (H := H2) (o := .lst []) (u := .ins (He.ga K "Past") dy (putF "texts" (.ref tx) [("froms", .ref f1), ("phrases", .int 0)])) (fun _ _ _ e => e) ntx
    have t3 : (upd (upd H2 tx (.lst [])) y (.ins (He.ga K "Past") dy (putF "texts" (.ref tx) [("froms", .ref f1), ("phrases", .int 0)]))) tx = some (.lst []) := by rw [upd_ne ytx, upd_same]
    have y3 : (upd (upd H2 tx (.lst [])) y (.ins (He.ga K "Past") dy (putF "texts" (.ref tx) [("froms", .ref f1), ("phrases", .int 0)]))) y = some (.ins (He.ga K "Past") dy [("froms", .ref f1), ("phrases", .int 0), ("texts", .ref tx)]) := upd_same
    generalize upd (upd H2 tx (.lst [])) y (.ins (He.ga K "Past") dy (putF "texts" (.ref tx) [("froms", .ref f1), ("phrases", .int 0)])) = H3 at k3 t3 y3 ⊢
    have a3 := k3 _ _ yf1 a2
    refine ⟨Nat.zero_le _, fun og nog => ⟨_, rfl, y, _, dy, _, rfl, same_upd nog _ _ y3, T.k_Past, T.n_Past_origins, (by show 3 < 1000; decide), ?_⟩⟩
    have yog : og ≠ y := Ne.symm (ne_of_none y3 nog)
    have f1og : f1 ≠ og := ne_of_none a3 nog
    have txog : tx ≠ og := ne_of_none t3 nog
    have k4 := kpn (H := H3) (o := .lst []) (u := .ins (He.ga K "Past") dy (putF "origins" (.ref og) [("froms", .ref f1), ("phrases", .int 0), ("texts", .ref tx)])) (fun _ _ _ e => e) nog
    have o4 : (upd (upd H3 og (.lst [])) y (.ins (He.ga K "Past") dy (putF "origins" (.ref og) [("froms", .ref f1), ("phrases", .int 0), ("texts", .ref tx)]))) og = some (.lst []) := by rw [upd_ne yog, upd_same]
    have y4 : (upd (upd H3 og (.lst [])) y (.ins (He.ga K "Past") dy (putF "origins" (.ref og) [("froms", .ref f1), ("phrases", .int 0), ("texts", .ref tx)]))) y = some (.ins (He.ga K "Past") dy [("froms", .ref f1), ("phrases", .int 0), ("texts", .ref tx), ("origins", .ref og)]) := upd_same
    generalize upd (upd H3 og (.lst [])) y (.ins (He.ga K "Past") dy (putF "origins" (.ref og) [("froms", .ref f1), ("phrases", .int 0), ("texts", .ref tx)])) = H4 at k4 o4 y4 ⊢
    have a4 := k4 _ _ yf1 a3
    have t4 := k4 _ _ ytx t3
    refine fun ev nev => ⟨_, rfl, y, _, dy, _, rfl, same_upd nev _ _ y4, T.k_Past, T.n_Past_ever, (by show 4 < 1000; decide), ?_⟩
    have yev : ev ≠ y := Ne.symm (ne_of_none y4 nev)
    have k5 := kpn (H := H4) (o := .dT []) (u := .ins (He.ga K "Past") dy (putF "ever" (.ref ev) [("froms", .ref f1), ("phrases", .int 0), ("texts", .ref tx), ("origins", .ref og)])) (fun _ _ _ e => e) nev
    have e5 : (upd (upd H4 ev (.dT [])) y (.ins (He.ga K "Past") dy (putF "ever" (.ref ev) [("froms", .ref f1), ("phrases", .int 0), ("texts", .ref tx), ("origins", .ref og)]))) ev = some (.dT []) := by rw [upd_ne yev, upd_same]
    have y5 : (upd (upd H4 ev (.dT [])) y (.ins (He.ga K "Past") dy (putF "ever" (.ref ev) [("froms", .ref f1), ("phrases", .int 0), ("texts", .ref tx), ("origins", .ref og)]))) y = some (.ins (He.ga K "Past") dy [("froms", .ref f1), ("phrases", .int 0), ("texts", .ref tx), ("origins", .ref og), ("ever", .ref ev)]) := upd_same
    generalize upd (upd H4 ev (.dT [])) y (.ins (He.ga K "Past") dy (putF "ever" (.ref ev) [("froms", .ref f1), ("phrases", .int 0), ("texts", .ref tx), ("origins", .ref og)])) = H5 at k5 e5 y5 ⊢
    refine fun pi npi => ⟨_, rfl, y, _, dy, _, rfl, same_upd npi _ _ y5, T.k_Past, T.n_Past_piles, (by show 5 < 1000; decide), ?_⟩
    have ypi : pi ≠ y := Ne.symm (ne_of_none y5 npi)
    have evpi : ev ≠ pi := ne_of_none e5 npi
    have k6 := kpn (H := H5) (o := .dT []) (u := .ins (He.ga K "Past") dy (putF "piles" (.ref pi) [("froms", .ref f1), ("phrases", .int 0), ("texts", .ref tx), ("origins", .ref og), ("ever", .ref ev)])) (fun _ _ _ e => e) npi
    have p6 : (upd (upd H5 pi (.dT [])) y (.ins (He.ga K "Past") dy (putF "piles" (.ref pi) [("froms", .ref f1), ("phrases", .int 0), ("texts", .ref tx), ("origins", .ref og), ("ever", .ref ev)]))) pi = some (.dT []) := by rw [upd_ne ypi, upd_same]
    have y6 : (upd (upd H5 pi (.dT [])) y (.ins (He.ga K "Past") dy (putF "piles" (.ref pi) [("froms", .ref f1), ("phrases", .int 0), ("texts", .ref tx), ("origins", .ref og), ("ever", .ref ev)]))) y = some (.ins (He.ga K "Past") dy (pastF 0 ⟨dy, f1, tx, og, ev, pi, [], [], fun _ _ => y, fun _ _ => y⟩)) := upd_same
    generalize upd (upd H5 pi (.dT [])) y (.ins (He.ga K "Past") dy (putF "piles" (.ref pi) [("froms", .ref f1), ("phrases", .int 0), ("texts", .ref tx), ("origins", .ref og), ("ever", .ref ev)])) = H6 at k6 p6 y6 ⊢
    have k06 : ∀ x o, x ≠ y → H x = some o → H6 x = some o := fun x o nx e => k6 _ _ nx (k5 _ _ nx (k4 _ _ nx (k3 _ _ nx (k2 _ _ nx (k1 _ _ nx e)))))
    have fr0 : ∀ p t, ¬ Dom fr 0 p t := fun p t z => Nat.not_lt_zero _ z.1
    have new : ∀ {z : Addr} {H' : Hp}, (∀ x o, x ≠ y → H x = some o → H' x = some o) → H' z = none → H z = none ∨ z = y := by
      intro z H' k nz
      by_cases c : z = y
      · exact .inr c
      · refine .inl ?_
        cases e : H z with
        | none => rfl
        | some o =>
          rw [k z o c e] at nz
          cases nz
    have k02 := fun x o nx e => k2 x o nx (k1 x o nx e)
    have k03 := fun x o nx e => k3 x o nx (k02 x o nx e)
    have k04 := fun x o nx e => k4 x o nx (k03 x o nx e)
    have k05 := fun x o nx e => k5 x o nx (k04 x o nx e)
    refine q H6 ⟨dy, f1, tx, og, ev, pi, [], [], fun _ _ => y, fun _ _ => y⟩ ⟨⟨y6, k6 _ _ yf1 (k5 _ _ yf1 a4), k6 _ _ ytx (k5 _ _ ytx t4), k6 _ _ yog (k5 _ _ yog o4), k6 _ _ yev e5, p6, fun p t d => absurd d (fr0 p t), fun p t d => absurd d (fr0 p t), txog, f1tx, f1og, evpi, fun p t d => absurd d (fr0 p t), fun p t _ _ d => absurd d (fr0 p t), fun p t _ _ d => absurd d (fr0 p t)⟩, Nat.zero_le _, fun _ _ => Nat.le_refl _, Nat.zero_le _, Nat.zero_le _⟩ k06 ?_
    rintro x (z | z | z | z | z | z | ⟨p, t, d, z⟩ | ⟨p, t, d, z⟩)
    · exact .inl z
    · exact .inr (by rw [z]; exact nf1)
    · exact (new k02 ntx).symm.imp (fun e => z.trans e) (fun e => by rw [z]; exact e)
    · exact (new k03 nog).symm.imp (fun e => z.trans e) (fun e => by rw [z]; exact e)
    · exact (new k04 nev).symm.imp (fun e => z.trans e) (fun e => by rw [z]; exact e)
    · exact (new k05 npi).symm.imp (fun e => z.trans e) (fun e => by rw [z]; exact e)
    · exact absurd d (fr0 p t)
    · exact absurd d (fr0 p t)


end PD

namespace PD
open PySem PySem.Spec PyProof.Rows L2

/-! Phrasedesk: lines that come at a Past -/
def txB (x : Str) : Bool := decide (1 ≤ x.length) && (decide (x.length ≤ 6) && x.cps.toList.all fun c => decide (97 ≤ c ∧ c ≤ 122))
theorem txB_ok {x : Str} (h : TxOk x) : txB x = true := by
  unfold txB
  rw [decide_eq_true h.lo, decide_eq_true h.hi, List.all_eq_true.mpr fun c hc => decide_eq_true (h.each c hc)]
  rfl
theorem txB_of {x : Str} (h : txB x = true) : TxOk x := by
  unfold txB at h
  rw [Bool.and_eq_true, Bool.and_eq_true] at h
  exact ⟨of_decide_eq_true h.1, of_decide_eq_true h.2.1, fun c hc => of_decide_eq_true (List.all_eq_true.mp h.2.2 c hc)⟩
theorem az_mem (c : Nat) : decide (c ∈ (Str.ofString "abcdefghijklmnopqrstuvwxyz").cps.toList) = decide (97 ≤ c ∧ c ≤ 122) := by
  refine decide_eq_decide.mpr ⟨fun h => ?_, fun h => ?_⟩
  · have : ∀ c ∈ (Str.ofString "abcdefghijklmnopqrstuvwxyz").cps.toList, 97 ≤ c ∧ c ≤ 122 := by decide +kernel
    exact this c h
  · have e := az_at (c - 97) (by omega)
    rw [show 97 + (c - 97) = c by omega] at e
    exact List.mem_of_getElem? e
def spIsText : Sp := fun vs H Q _ => ∃ x : Str, vs = [.str x] ∧ x.length ≤ 5000 ∧ ∀ H' : Hp, Same H H' → Q (.bl (txB x)) H'
theorem sc_is_text : FnScope ["value", "sign"] ["value"] (defScope s_is_text) := ⟨rfl, rfl, rfl, by decide +kernel, rfl, by decide +kernel, by decide +kernel⟩
theorem c_is_text {P : Program} {w : World} {K : PySem.W.Frag} {mg : Str → Option Value} {base : Heap} (T : Tx K mg) : C8.Cal P w K mg base 1 "is_text" (spIsText) [] := by
  refine calD T.F_is_text T.g_is_text (fun _ _ _ _ _ _ us hl => match us, hl with | [_], _ => rfl) sc_is_text (fun vs H Q E h => ?_) (fun cdv A outer s H vs Q E hr h => ?_)
  · obtain ⟨x, rfl, _⟩ := h
    rfl
  · obtain ⟨x, rfl, xl, q⟩ := h
    refine ⟨_, (pss_one (ps_ret (pe_and (pe_callB call_isi (by rfl) T.f_isinstance (by decide +kernel) (pa_cons (pv 0) (pa_cons (pe_bltn (v := .ty "str") (by rfl) T.f_str (by decide +kernel) rfl) pa_nil))) (pe_and (pe_chain op_le op_le pe_int (pe_callB call_len_str (by rfl) T.f_len (by decide +kernel) (pa_cons (pv 0) pa_nil)) (pe_glob (v := .int 6) rfl (T.g_MOST_LETTERS).choose_spec ⟨_, rfl⟩)) (pe_one (pe_callB (cr_all rfl) (by rfl) T.f_all (by decide +kernel) (pa_cons (pe_lc (own := [("sign", 1)]) (g := gName 1) (tt := tYes) (by rfl) sc_is_text.nd (pi_str (pv 0)) (blkOk_by (own := [("sign", 1)]) (N := ["value", "sign"]) (sc := defScope s_is_text) (by decide +kernel)) (fun _ _ _ _ _ => (pg_name (i := 1) sc_is_text.nd rfl (Or.inl rfl))) (fun _ _ _ _ _ => pts_nil) (fun _ _ _ _ _ => (pe_cmpR op_in_str (pv 1) (pe_glob (v := .str "abcdefghijklmnopqrstuvwxyz") rfl (T.g_LETTERS).choose_spec ⟨_, rfl⟩) (by rfl)))) pa_nil))))))), ?_⟩
    refine ⟨_, rfl, _, _, _, _, true, rfl, .ty _, .base (.str x), is_ty (by decide +kernel), true, rfl, iteT ?_⟩
    refine ⟨_, rfl, x, rfl, Nat.le_of_lt (small5000 xl), _, _, rfl, rfl, decide ((1 : Int) ≤ (x.length : Int)), rfl, ?_⟩
    have q0 := q H (Same.refl _)
    unfold txB at q q0
    by_cases c1 : (1 : Int) ≤ (x.length : Int)
    case neg =>
      rw [decide_eq_false c1]
      rw [decide_eq_false (show ¬ 1 ≤ x.length by omega), Bool.false_and] at q0
      exact iteF ⟨false, rfl, iteF q0⟩
    rw [decide_eq_true c1]
    rw [decide_eq_true (show 1 ≤ x.length by omega), Bool.true_and] at q q0
    refine iteT ⟨_, _, rfl, rfl, decide ((x.length : Int) ≤ 6), rfl, ?_⟩
    by_cases c2 : (x.length : Int) ≤ 6
    case neg =>
      rw [decide_eq_false c2]
      rw [decide_eq_false (show ¬ x.length ≤ 6 by omega), Bool.false_and] at q0
      exact iteF q0
    rw [decide_eq_true c2]
    rw [decide_eq_true (show x.length ≤ 6 by omega), Bool.true_and] at q
    refine iteT ⟨_, rfl, x, rfl, fun D nD => ?_⟩
    refine lc_it (walk_str (z := x)) (fun i H1 => Same H H1 ∧ H1 D = some (.lst (((x.cps.toList.take i).map fun c => decide (97 ≤ c ∧ c ≤ 122)).map V.bl))) ⟨same_upd nD, upd_same⟩ (fun _ _ _ _ => trivial) ?_ ?_
    · rintro i v H1 H2 hi ⟨s1, hD⟩ ⟨rfl, c, ec, rfl⟩
      refine ⟨rfl, _, rfl, _, _, rfl, rfl, _, hD, ?_, Same.chg s1 nD, ?_⟩
      · rw [List.length_map, List.length_map, List.length_take]
        have hi' : i < x.length := hi
        exact small5000 (by omega)
      · have ec' : x.cps.toList[i]? = some c := by rw [Array.getElem?_toList]; exact ec
        rw [upd_same, List.take_add_one, ec', Option.toList_some, List.map_append, List.map_append, StrLaws.found_one, az_mem]
        rfl
    · rintro H1 ⟨s1, hD⟩
      rw [show x.cps.size = x.cps.toList.length from Array.length_toList.symm, List.take_length] at hD
      refine ⟨D, _, rfl, SqL.of hD, qt ?_ (q _ s1)⟩
      rw [List.all_map]
      rfl
--# Past.takes_phrase
def De.fitsT (fr : List Int) (S : De) : Tl → Bool
  | .phrase p x k => (decide (p = (S.n : Int)) && decide ((S.n : Int) < 6)) && (txB x && decide (k = (S.puts.length : Int)))
  | .back p t k => inPT fr S p t && (decide ((if t.toNat = 0 then 1 else 0) < (S.lie p.toNat t.toNat).length) && decide (some k = S.now p.toNat t.toNat))
  | .put p t x s o k => inPT fr S p t && (txB x && (decide (s ∈ S.seens fr p.toNat t.toNat) && (decide (o = S.now p.toNat t.toNat) && decide (k = (S.puts.length : Int)))))
theorem txB_low {x : Str} (l : lowS x) : txB x = lenOk x := by
  unfold txB lenOk
  rw [List.all_eq_true.mpr fun c hc => decide_eq_true (l c hc), Bool.and_true]
theorem fitsT_phrase {fr : List Int} {S : De} {p : Int} {x : Str} {k : Int} : S.fitsT fr (.phrase p x k) = ((decide (p = (S.n : Int)) && decide ((S.n : Int) < 6)) && (txB x && decide (k = (S.puts.length : Int)))) := rfl
theorem De.fitsT_low {fr : List Int} {S : De} {n : Tl} (l : n.Low) : S.fitsT fr n = S.fits fr n := by
  cases n with
  | phrase p x k =>
    rw [fitsT_phrase, txB_low l.1]
    rfl
  | put p t x s o k =>
    show (inPT fr S p t && (txB x && _)) = _
    rw [txB_low l.1]
    rfl
  | back p t k => rfl
theorem cut1' (xs : List V) : cutV xs (some 1) none = xs.drop 1 := by
  unfold cutV
  rw [show HT.sIx xs.length 0 (some 1) = min 1 xs.length from HT.sIx_nat xs.length 0 1, HT.sIx_none]
  cases xs with
  | nil => rfl
  | cons x r =>
    rw [show min 1 (x :: r).length = 1 by
      rw [List.length_cons]
      omega]
    show (List.take ((x :: r).length - 1) r) = r
    rw [List.length_cons, Nat.add_sub_cancel]
    exact List.take_length
theorem dec_int' {x y : Int} : decide (V.int x = V.int y) = decide (x = y) := decide_eq_decide.mpr ⟨fun z => V.int.inj z, fun z => by rw [z]⟩
/-- a line comes, or can't -/
def Takes (C a : Addr) (fr : List Int) (S : De) (A : PA) (H : Hp) (n : Tl) (Q : VK) : Prop :=
  (S.fitsT fr n = false → ∀ H' : Hp, Same H H' → Q (.bl false) H') ∧
  (S.fitsT fr n = true → ∀ (H' : Hp) (A' : PA), PastAt H' C a fr (S.come fr n.deed).1 A' → Only (footP a fr S.n A) H H' → (∀ x, footP a fr (S.come fr n.deed).1.n A' x → footP a fr S.n A x ∨ H x = none) → Q (.bl true) H')
def spTakesP (C : Addr) : Sp := fun vs H Q _ => ∃ (a : Addr) (fr : List Int) (S : De) (A : PA) (q : Addr) (p : Int) (x : Str) (k : Int), vs = [.ref a, .ref q] ∧ PastAt H C a fr S A ∧ S.Ok fr ∧ FrOk fr ∧ S.puts.length < 5000 ∧ H q = some (.tup (Tl.phrase p x k).vals) ∧ x.length ≤ 5000 ∧ Takes C a fr S A H (.phrase p x k) Q
theorem sc_Past_takes_phrase : FnScope ["self", "line", "phrase", "text", "number"] ["self", "line"] (defScope s_Past_takes_phrase) := ⟨rfl, rfl, rfl, by decide +kernel, rfl, by decide +kernel, by decide +kernel⟩
theorem c_Past_takes_phrase {P : Program} {w : World} {K : PySem.W.Frag} {mg : Str → Option Value} {base : Heap} (T : Tx K mg) : C8.Met P w K mg base 2 (He.ga K "Past") "takes_phrase" (spTakesP (He.ga K "Past")) [] := by
  refine metD T.F_Past_takes_phrase T.k_Past T.m_Past_takes_phrase (fun _ _ _ _ _ _ us hl => match us, hl with | [_, _], _ => rfl) sc_Past_takes_phrase (fun vs H Q E h => ?_) (fun cdv A outer s H vs Q E hr h => ?_)
  · obtain ⟨a, fr, S, A, q, p, x, k, rfl, _⟩ := h
    rfl
  · obtain ⟨a, fr, S, A, q, p, x, k, rfl, hP, ok, fo, fw, hq, xl, tk⟩ := h
    refine ⟨_, (pss_cons (ps_asg (pe_slice sl_tup (pv 1) (po_some pe_int) po_none) (pg_tup rfl (pgs_cons (pg_name (i := 2) sc_Past_takes_phrase.nd rfl (Or.inl rfl)) (pgs_cons (pg_name (i := 3) sc_Past_takes_phrase.nd rfl (Or.inl rfl)) (pgs_cons (pg_name (i := 4) sc_Past_takes_phrase.nd rfl (Or.inl rfl)) pgs_nil)))))
    (pss_cons (ps_if (PW.pt (pw_or (pt_cmpR op_ne (pv 2) (pe_fld (pv 0) (by rfl)) (nomark _)) (pw_or (pt_cmpR op_ge (pv 2) (pe_glob (v := .int 6) rfl (T.g_MOST_PHRASES).choose_spec ⟨_, rfl⟩) (nomark _)) (pw_or (pt_not (pt_val (C8.pe_c (c_is_text T) hr (by decide) rfl (pa_cons (pv 3) pa_nil)))) (pw_or1 (pt_cmpR op_ne (pv 4) (pe_callB call_len_seq (by rfl) T.f_len (by decide +kernel) (pa_cons (pe_fld (pv 0) (by rfl)) pa_nil)) (nomark _)))))))
      (pss_one (ps_ret pe_bl))
      pss_nil)
    (pss_cons (ps_expr (C8.pe_mt0 (c_Past_begin_phrase T) hr (by decide) (pv 0)))
    (pss_cons (ps_expr (C8.pe_mt (c_Past_lay_down T) hr (by decide) (pv 0) (pa_cons (pv 2) (pa_cons pe_int (pa_cons (pv 3) (pa_cons pe_non pa_nil))))))
    (pss_one (ps_ret pe_bl)))))), ?_⟩
    obtain ⟨no, yes⟩ := tk
    refine ⟨_, rfl, 1, rfl, q, _, rfl, SqT.of hq, ?_, fun u nu => ?_⟩
    · intro z
      have z1 : HT.sIx 4 0 (some 1) = 0 := z.1
      rw [show HT.sIx 4 0 (some 1) = min 1 4 from HT.sIx_nat 4 0 1] at z1
      exact absurd z1 (by decide)
    rw [cut1']
    have s1 : Same H (upd H u (.tup [V.int p, V.str x, V.int k])) := same_upd nu
    refine ⟨u, _, rfl, .inl (.inl upd_same), rfl, _, _, rfl, _, _, rfl, _, _, rfl, rfl, ?_⟩
    show tSeq _ _ _ _ (upd H u (.tup [V.int p, V.str x, V.int k]))
    generalize upd H u (.tup [V.int p, V.str x, V.int k]) = H1 at s1 ⊢
    have h1 := hP.same s1
    refine ⟨_, rfl, _, rfl, a, _, _, _, _, rfl, h1.raw.obj, T.k_Past, T.n_Past_phrases, pf_phrases _ _, rfl, !decide (p = (S.n : Int)), congrArg (fun b => V.bl (!b)) dec_int', ?_⟩
    by_cases c1 : p = (S.n : Int)
    case neg =>
      rw [decide_eq_false c1]
      refine iteT (no ?_ _ s1)
      rw [fitsT_phrase, decide_eq_false c1, Bool.false_and, Bool.false_and]
    subst c1
    rw [decide_eq_true rfl]
    refine iteF ⟨_, rfl, _, _, rfl, rfl, decide ((6 : Int) ≤ (S.n : Int)), rfl, ?_⟩
    by_cases c2 : (S.n : Int) < 6
    case neg =>
      rw [decide_eq_true (by omega : (6 : Int) ≤ (S.n : Int))]
      refine iteT (no ?_ _ s1)
      rw [fitsT_phrase, decide_eq_false c2, Bool.and_false, Bool.false_and]
    rw [decide_eq_false (by omega : ¬ (6 : Int) ≤ (S.n : Int))]
    refine iteF ⟨_, rfl, x, rfl, xl, fun H2 s2 => ⟨_, rfl, ?_⟩⟩
    have s02 := s1.trans s2
    have h2 := hP.same s02
    cases c3 : txB x with
    | false =>
      refine iteT (no ?_ _ s02)
      rw [fitsT_phrase, c3, Bool.false_and, Bool.and_false]
    | true =>
      refine iteF ⟨_, rfl, _, rfl, a, _, _, _, _, rfl, h2.raw.obj, T.k_Past, T.n_Past_texts, pf_texts _ _, A.tx, _, rfl, .inl (SqL.of h2.raw.tx), rfl, !decide (k = (S.puts.length : Int)), ?_, ?_⟩
      · rw [List.length_map]
        exact congrArg (fun b => V.bl (!b)) dec_int'
      by_cases c4 : k = (S.puts.length : Int)
      case neg =>
        rw [decide_eq_false c4]
        refine iteT (no ?_ _ s02)
        rw [fitsT_phrase, decide_eq_false c4, Bool.and_false, Bool.and_false]
      rw [decide_eq_true c4]
      have fit : S.fitsT fr (.phrase (S.n : Int) x k) = true := by
        rw [fitsT_phrase, decide_eq_true rfl, decide_eq_true c2, c3, decide_eq_true c4]
        rfl
      refine iteF ⟨_, rfl, a, _, _, rfl, h2.raw.obj, rfl, a, fr, S, A, rfl, h2, ok, fo, by omega, fun H3 A3 h3 o3 f3 => ?_⟩
      refine ⟨_, rfl, a, _, _, rfl, h3.raw.obj, rfl, _, rfl, _, rfl, a, fr, S.more, A3, S.n, 0, x, none, rfl, h3, Nat.lt_succ_self _, Nat.zero_le _, fw, fun H4 h4 o4 => ?_⟩
      have o34 : Only (footP a fr S.n A) H2 H4 := by
        refine ⟨fun y o n e => o4.out y o (fun z => (f3 y z).elim n fun w => by rw [e] at w; cases w) (o3.out y o n e), fun y o e => ?_⟩
        obtain ⟨v, ev⟩ := o3.grow y o e
        exact o4.grow y v ev
      exact yes fit H4 A3 h4 ((only_same s02).trans o34) fun y z => (f3 y z).imp id fun w => s02.free w
--# Past.takes_put
def spTakesU (C : Addr) : Sp := fun vs H Q _ => ∃ (a : Addr) (fr : List Int) (S : De) (A : PA) (q : Addr) (p t : Nat) (x : Str) (s o : Option Int) (k : Int), vs = [.ref a, .ref q] ∧ PastAt H C a fr S A ∧ FrOk fr ∧ S.puts.length < 5000 ∧ p < S.n ∧ t ≤ fr.length ∧ H q = some (.tup (Tl.put p t x s o k).vals) ∧ x.length ≤ 5000 ∧ Takes C a fr S A H (.put p t x s o k) Q
theorem inPT_yes {fr : List Int} {S : De} {p t : Nat} (hp : p < S.n) (ht : t ≤ fr.length) : inPT fr S (p : Int) (t : Int) = true := by
  unfold inPT
  rw [decide_eq_true (by omega : (0 : Int) ≤ (p : Int)), decide_eq_true (by omega : (p : Int) < (S.n : Int)), decide_eq_true (by omega : (0 : Int) ≤ (t : Int)), decide_eq_true (by omega : (t : Int) ≤ (fr.length : Int))]
  rfl
theorem fitsT_put {fr : List Int} {S : De} {p t : Nat} {x : Str} {s o : Option Int} {k : Int} (hp : p < S.n) (ht : t ≤ fr.length) : S.fitsT fr (.put p t x s o k) = (txB x && (decide (s ∈ S.seens fr p t) && (decide (o = S.now p t) && decide (k = (S.puts.length : Int))))) := by
  show (inPT fr S (p : Int) (t : Int) && (txB x && (decide (s ∈ S.seens fr (p : Int).toNat (t : Int).toNat) && (decide (o = S.now (p : Int).toNat (t : Int).toNat) && decide (k = (S.puts.length : Int)))))) = _
  rw [inPT_yes hp ht, Bool.true_and, Int.toNat_natCast, Int.toNat_natCast]
theorem sc_Past_takes_put : FnScope ["self", "line", "phrase", "tongue", "text", "seen", "over", "number"] ["self", "line"] (defScope s_Past_takes_put) := ⟨rfl, rfl, rfl, by decide +kernel, rfl, by decide +kernel, by decide +kernel⟩
theorem c_Past_takes_put {P : Program} {w : World} {K : PySem.W.Frag} {mg : Str → Option Value} {base : Heap} (T : Tx K mg) : C8.Met P w K mg base 4 (He.ga K "Past") "takes_put" (spTakesU (He.ga K "Past")) [] := by
  refine metD T.F_Past_takes_put T.k_Past T.m_Past_takes_put (fun _ _ _ _ _ _ us hl => match us, hl with | [_, _], _ => rfl) sc_Past_takes_put (fun vs H Q E h => ?_) (fun cdv A outer s H vs Q E hr h => ?_)
  · obtain ⟨a, fr, S, A, q, p, t, x, s0, o, k, rfl, _⟩ := h
    rfl
  · obtain ⟨a, fr, S, A, q, p, t, x, s0, o, k, rfl, hP, fo, fw, hp, ht, hq, xl, tk⟩ := h
    refine ⟨_, (pss_cons (ps_asg (pe_slice sl_tup (pv 1) (po_some pe_int) po_none) (pg_tup rfl (pgs_cons (pg_name (i := 2) sc_Past_takes_put.nd rfl (Or.inl rfl)) (pgs_cons (pg_name (i := 3) sc_Past_takes_put.nd rfl (Or.inl rfl)) (pgs_cons (pg_name (i := 4) sc_Past_takes_put.nd rfl (Or.inl rfl)) (pgs_cons (pg_name (i := 5) sc_Past_takes_put.nd rfl (Or.inl rfl)) (pgs_cons (pg_name (i := 6) sc_Past_takes_put.nd rfl (Or.inl rfl)) (pgs_cons (pg_name (i := 7) sc_Past_takes_put.nd rfl (Or.inl rfl)) pgs_nil))))))))
    (pss_cons (ps_if (PW.pt (pw_or (pt_not (pt_val (C8.pe_c (c_is_text T) hr (by decide) rfl (pa_cons (pv 4) pa_nil)))) (pw_or (pt_not (pt_val (C8.pe_mt (c_Past_was_seen T) hr (by decide) (pv 0) (pa_cons (pv 2) (pa_cons (pv 3) (pa_cons (pv 5) pa_nil)))))) (pw_or1 (pt_not (pt_val (C8.pe_mt (c_Past_is_over T) hr (by decide) (pv 0) (pa_cons (pv 2) (pa_cons (pv 3) (pa_cons (pv 6) pa_nil))))))))))
      (pss_one (ps_ret pe_bl))
      pss_nil)
    (pss_cons (ps_if (pt_cmpR op_ne (pv 7) (pe_callB call_len_seq (by rfl) T.f_len (by decide +kernel) (pa_cons (pe_fld (pv 0) (by rfl)) pa_nil)) (nomark _))
      (pss_one (ps_ret pe_bl))
      pss_nil)
    (pss_cons (ps_expr (C8.pe_mt (c_Past_lay_down T) hr (by decide) (pv 0) (pa_cons (pv 2) (pa_cons (pv 3) (pa_cons (pv 4) (pa_cons (pv 5) pa_nil))))))
    (pss_one (ps_ret pe_bl)))))), ?_⟩
    obtain ⟨no, yes⟩ := tk
    rw [fitsT_put hp ht] at no yes
    refine ⟨_, rfl, 1, rfl, q, _, rfl, SqT.of hq, ?_, fun u nu => ?_⟩
    · intro z
      have z1 : HT.sIx 7 0 (some 1) = 0 := z.1
      rw [show HT.sIx 7 0 (some 1) = min 1 7 from HT.sIx_nat 7 0 1] at z1
      exact absurd z1 (by decide)
    rw [cut1']
    have s1 : Same H (upd H u (.tup [V.int (p : Int), V.int (t : Int), V.str x, oV s0, oV o, V.int k])) := same_upd nu
    refine ⟨u, _, rfl, .inl (.inl upd_same), rfl, _, _, rfl, _, _, rfl, _, _, rfl, _, _, rfl, _, _, rfl, _, _, rfl, rfl, ?_⟩
    show tSeq _ _ _ _ (upd H u (.tup [V.int (p : Int), V.int (t : Int), V.str x, oV s0, oV o, V.int k]))
    generalize upd H u (.tup [V.int (p : Int), V.int (t : Int), V.str x, oV s0, oV o, V.int k]) = H1 at s1 ⊢
    have h1 := hP.same s1
    refine ⟨_, rfl, x, rfl, xl, fun H2 s2 => ⟨_, rfl, ?_⟩⟩
    have s02 := s1.trans s2
    have h2 := hP.same s02
    cases c1 : txB x with
    | false =>
      refine iteT (no ?_ _ s02)
      rw [c1, Bool.false_and]
    | true =>
    rw [c1, Bool.true_and] at no yes
    refine iteF ⟨_, rfl, a, _, _, rfl, h2.raw.obj, rfl, _, rfl, _, rfl, _, rfl, a, fr, S, A, p, t, s0, rfl, h2, fo, hp, ht, fun H3 s3 => ⟨_, rfl, ?_⟩⟩
    have s03 := s02.trans s3
    have h3 := hP.same s03
    by_cases c2 : s0 ∈ S.seens fr p t
    case neg =>
      rw [decide_eq_false c2]
      refine iteT (no ?_ _ s03)
      rw [decide_eq_false c2, Bool.false_and]
    rw [decide_eq_true c2]
    rw [decide_eq_true c2, Bool.true_and] at no yes
    refine iteF ⟨_, rfl, a, _, _, rfl, h3.raw.obj, rfl, _, rfl, _, rfl, _, rfl, a, fr, S, A, p, t, o, rfl, h3, hp, ht, fun H4 s4 => ⟨_, rfl, ?_⟩⟩
    have s04 := s03.trans s4
    have h4 := hP.same s04
    by_cases c3 : o = S.now p t
    case neg =>
      rw [decide_eq_false c3]
      refine iteT (no ?_ _ s04)
      rw [decide_eq_false c3, Bool.false_and]
    rw [decide_eq_true c3]
    rw [decide_eq_true c3, Bool.true_and] at no yes
    refine iteF ⟨_, rfl, _, rfl, a, _, _, _, _, rfl, h4.raw.obj, T.k_Past, T.n_Past_texts, pf_texts _ _, A.tx, _, rfl, .inl (SqL.of h4.raw.tx), rfl, !decide (k = (S.puts.length : Int)), ?_, ?_⟩
    · rw [List.length_map]
      exact congrArg (fun b => V.bl (!b)) dec_int'
    by_cases c4 : k = (S.puts.length : Int)
    case neg =>
      rw [decide_eq_false c4]
      exact iteT (no (decide_eq_false c4) _ s04)
    rw [decide_eq_true c4]
    refine iteF ⟨_, rfl, a, _, _, rfl, h4.raw.obj, rfl, _, rfl, _, rfl, _, rfl, _, rfl, a, fr, S, A, p, t, x, s0, rfl, h4, hp, ht, fw, fun H5 h5 o5 => ?_⟩
    exact yes (decide_eq_true c4) H5 A h5 ((only_same s04).trans o5) fun y z => .inl z
--# Past.takes_back
def spTakesB (C : Addr) : Sp := fun vs H Q _ => ∃ (a : Addr) (fr : List Int) (S : De) (A : PA) (q : Addr) (p t : Nat) (k : Int), vs = [.ref a, .ref q] ∧ PastAt H C a fr S A ∧ FrOk fr ∧ p < S.n ∧ t ≤ fr.length ∧ H q = some (.tup (Tl.back p t k).vals) ∧ Takes C a fr S A H (.back p t k) Q
theorem fitsT_back {fr : List Int} {S : De} {p t : Nat} {k : Int} (hp : p < S.n) (ht : t ≤ fr.length) : S.fitsT fr (.back p t k) = (decide ((if t = 0 then 1 else 0) < (S.lie p t).length) && decide (some k = S.now p t)) := by
  show (inPT fr S (p : Int) (t : Int) && (decide ((if (t : Int).toNat = 0 then 1 else 0) < (S.lie (p : Int).toNat (t : Int).toNat).length) && decide (some k = S.now (p : Int).toNat (t : Int).toNat))) = _
  rw [inPT_yes hp ht, Bool.true_and, Int.toNat_natCast, Int.toNat_natCast]
theorem sc_Past_takes_back : FnScope ["self", "line", "phrase", "tongue", "number"] ["self", "line"] (defScope s_Past_takes_back) := ⟨rfl, rfl, rfl, by decide +kernel, rfl, by decide +kernel, by decide +kernel⟩
theorem c_Past_takes_back {P : Program} {w : World} {K : PySem.W.Frag} {mg : Str → Option Value} {base : Heap} (T : Tx K mg) : C8.Met P w K mg base 2 (He.ga K "Past") "takes_back" (spTakesB (He.ga K "Past")) [] := by
  refine metD T.F_Past_takes_back T.k_Past T.m_Past_takes_back (fun _ _ _ _ _ _ us hl => match us, hl with | [_, _], _ => rfl) sc_Past_takes_back (fun vs H Q E h => ?_) (fun cdv A outer s H vs Q E hr h => ?_)
  · obtain ⟨a, fr, S, A, q, p, t, k, rfl, _⟩ := h
    rfl
  · obtain ⟨a, fr, S, A, q, p, t, k, rfl, hP, fo, hp, ht, hq, tk⟩ := h
    refine ⟨_, (pss_cons (ps_asg (pe_slice sl_tup (pv 1) (po_some pe_int) po_none) (pg_tup rfl (pgs_cons (pg_name (i := 2) sc_Past_takes_back.nd rfl (Or.inl rfl)) (pgs_cons (pg_name (i := 3) sc_Past_takes_back.nd rfl (Or.inl rfl)) (pgs_cons (pg_name (i := 4) sc_Past_takes_back.nd rfl (Or.inl rfl)) pgs_nil)))))
    (pss_cons (ps_if (PW.pt (pw_or (pt_not (pt_val (C8.pe_mt (c_Past_can_take_off T) hr (by decide) (pv 0) (pa_cons (pv 2) (pa_cons (pv 3) pa_nil))))) (pw_or1 (pt_cmpR op_ne (pv 4) (C8.pe_mt (c_Past_standing T) hr (by decide) (pv 0) (pa_cons (pv 2) (pa_cons (pv 3) pa_nil))) (nomark _)))))
      (pss_one (ps_ret pe_bl))
      pss_nil)
    (pss_cons (ps_expr (C8.pe_mt (c_Past_take_off T) hr (by decide) (pv 0) (pa_cons (pv 2) (pa_cons (pv 3) pa_nil))))
    (pss_one (ps_ret pe_bl))))), ?_⟩
    obtain ⟨no, yes⟩ := tk
    rw [fitsT_back hp ht] at no yes
    refine ⟨_, rfl, 1, rfl, q, _, rfl, SqT.of hq, ?_, fun u nu => ?_⟩
    · intro z
      have z1 : HT.sIx 4 0 (some 1) = 0 := z.1
      rw [show HT.sIx 4 0 (some 1) = min 1 4 from HT.sIx_nat 4 0 1] at z1
      exact absurd z1 (by decide)
    rw [cut1']
    have s1 : Same H (upd H u (.tup [V.int (p : Int), V.int (t : Int), V.int k])) := same_upd nu
    refine ⟨u, _, rfl, .inl (.inl upd_same), rfl, _, _, rfl, _, _, rfl, _, _, rfl, rfl, ?_⟩
    show tSeq _ _ _ _ (upd H u (.tup [V.int (p : Int), V.int (t : Int), V.int k]))
    generalize upd H u (.tup [V.int (p : Int), V.int (t : Int), V.int k]) = H1 at s1 ⊢
    have h1 := hP.same s1
    refine ⟨_, rfl, a, _, _, rfl, h1.raw.obj, rfl, _, rfl, _, rfl, a, fr, S, A, p, t, rfl, h1, hp, ht, fun H2 s2 => ⟨_, rfl, ?_⟩⟩
    have s02 := s1.trans s2
    have h2 := hP.same s02
    by_cases c1 : (if t = 0 then 1 else 0) < (S.lie p t).length
    case neg =>
      rw [decide_eq_false c1]
      refine iteT (no ?_ _ s02)
      rw [decide_eq_false c1, Bool.false_and]
    rw [decide_eq_true c1]
    rw [decide_eq_true c1, Bool.true_and] at no yes
    refine iteF ⟨_, rfl, _, rfl, a, _, _, rfl, h2.raw.obj, rfl, _, rfl, _, rfl, a, fr, S, A, p, t, rfl, h2, hp, ht, fun H3 s3 => ?_⟩
    have s03 := s02.trans s3
    have h3 := hP.same s03
    refine ⟨by cases S.now p t <;> rfl, !decide (some k = S.now p t), congrArg (fun b => V.bl (!b)) (oV_dec (a := some k)), ?_⟩
    by_cases c2 : some k = S.now p t
    case neg =>
      rw [decide_eq_false c2]
      exact iteT (no (decide_eq_false c2) _ s03)
    rw [decide_eq_true c2]
    refine iteF ⟨_, rfl, a, _, _, rfl, h3.raw.obj, rfl, _, rfl, _, rfl, a, fr, S, A, p, t, k, rfl, h3, hp, ht, c2.symm, fun H5 h5 o5 => ?_⟩
    exact yes (decide_eq_true c2) H5 A h5 ((only_same s03).trans o5) fun y z => .inl z

end PD

namespace PD
open PySem PySem.Spec PyProof.Rows L2

/-! Phrasedesk: the first wrong line -/
--# Past.takes
def spTakes (C : Addr) : Sp := fun vs H Q _ => ∃ (a : Addr) (fr : List Int) (S : De) (A : PA) (q : Addr) (n : Tl), vs = [.ref a, .ref q] ∧ PastAt H C a fr S A ∧ S.Ok fr ∧ FrOk fr ∧ S.puts.length < 5000 ∧ H q = some (.tup n.vals) ∧ n.short ∧ Takes C a fr S A H n Q
theorem tand {b c : Bool} : (b && c) = false ↔ b = false ∨ c = false := by cases b <;> cases c <;> simp
theorem sc_Past_takes : FnScope ["self", "line"] ["self", "line"] (defScope s_Past_takes) := ⟨rfl, rfl, rfl, by decide +kernel, rfl, by decide +kernel, by decide +kernel⟩
theorem c_Past_takes {P : Program} {w : World} {K : PySem.W.Frag} {mg : Str → Option Value} {base : Heap} (T : Tx K mg) : C8.Met P w K mg base 5 (He.ga K "Past") "takes" (spTakes (He.ga K "Past")) [] := by
  refine metD T.F_Past_takes T.k_Past T.m_Past_takes (fun _ _ _ _ _ _ us hl => match us, hl with | [_, _], _ => rfl) sc_Past_takes (fun vs H Q E h => ?_) (fun cdv A outer s H vs Q E hr h => ?_)
  · obtain ⟨a, fr, S, A, q, n, rfl, _⟩ := h
    rfl
  · obtain ⟨a, fr, S, A, q, n, rfl, hP, ok, fo, fw, hq, sh, tk⟩ := h
    cases n with
    | phrase p x k =>
      refine ⟨_, (pss_cons (ps_if (pt_cmpR op_eq (pe_ix ix_tup (pv 1) pe_int (fun _ _ => rfl)) pe_str (nomark _))
      (pss_one (ps_ret (C8.pe_mt (c_Past_takes_phrase T) hr (by decide) (pv 0) (pa_cons (pv 1) pa_nil))))
      pss_nil)
    (pss_cons (ps_if (PW.pt (pw_or (pt_not (pt_val (C8.pe_mt (c_Past_has_phrase T) hr (by decide) (pv 0) (pa_cons (pe_ix ix_tup (pv 1) pe_int (fun _ _ => rfl)) pa_nil)))) (pw_or1 (pt_not (pt_val (C8.pe_c (c_is_tongue T) hr (by decide) rfl (pa_cons (pe_fld (pv 0) (by rfl)) (pa_cons (pe_ix ix_tup (pv 1) pe_int (fun _ _ => rfl)) pa_nil))))))))
      (pss_one (ps_ret pe_bl))
      pss_nil)
    (pss_cons (ps_if (pt_cmpR op_eq (pe_ix ix_tup (pv 1) pe_int (fun _ _ => rfl)) pe_str (nomark _))
      (pss_one (ps_ret (C8.pe_mt (c_Past_takes_put T) hr (by decide) (pv 0) (pa_cons (pv 1) pa_nil))))
      pss_nil)
    (pss_one (ps_ret (C8.pe_mt (c_Past_takes_back T) hr (by decide) (pv 0) (pa_cons (pv 1) pa_nil))))))), ?_⟩
      exact ⟨_, rfl, q, _, _, _, rfl, rfl, SqT.of hq, atI_nat (j := 0) rfl, rfl, true, rfl, iteT ⟨_, rfl, a, _, _, rfl, hP.raw.obj, rfl, _, rfl, a, fr, S, A, q, p, x, k, rfl, hP, ok, fo, fw, hq, sh, tk⟩⟩
    | put p t x s0 o k =>
      refine ⟨_, (pss_cons (ps_if (pt_cmpR op_eq (pe_ix ix_tup (pv 1) pe_int (fun _ _ => rfl)) pe_str (nomark _))
      (pss_one (ps_ret (C8.pe_mt (c_Past_takes_phrase T) hr (by decide) (pv 0) (pa_cons (pv 1) pa_nil))))
      pss_nil)
    (pss_cons (ps_if (PW.pt (pw_or (pt_not (pt_val (C8.pe_mt (c_Past_has_phrase T) hr (by decide) (pv 0) (pa_cons (pe_ix ix_tup (pv 1) pe_int (fun _ _ => rfl)) pa_nil)))) (pw_or1 (pt_not (pt_val (C8.pe_c (c_is_tongue T) hr (by decide) rfl (pa_cons (pe_fld (pv 0) (by rfl)) (pa_cons (pe_ix ix_tup (pv 1) pe_int (fun _ _ => rfl)) pa_nil))))))))
      (pss_one (ps_ret pe_bl))
      pss_nil)
    (pss_cons (ps_if (pt_cmpR op_eq (pe_ix ix_tup (pv 1) pe_int (fun _ _ => rfl)) pe_str (nomark _))
      (pss_one (ps_ret (C8.pe_mt (c_Past_takes_put T) hr (by decide) (pv 0) (pa_cons (pv 1) pa_nil))))
      pss_nil)
    (pss_one (ps_ret (C8.pe_mt (c_Past_takes_back T) hr (by decide) (pv 0) (pa_cons (pv 1) pa_nil))))))), ?_⟩
      refine ⟨_, rfl, q, _, _, _, rfl, rfl, SqT.of hq, atI_nat (j := 0) rfl, rfl, false, rfl, iteF ?_⟩
      refine ⟨_, rfl, a, _, _, rfl, hP.raw.obj, rfl, _, rfl, q, _, _, _, rfl, rfl, SqT.of hq, atI_nat (j := 1) rfl, a, fr, S, A, p, rfl, hP, _, rfl, ?_⟩
      have bad : inPT fr S p t = false → Q (.bl false) H := fun z => tk.1 (by show (inPT fr S p t && _) = false; rw [z, Bool.false_and]) H (Same.refl _)
      unfold inPT at bad
      cases c1 : (decide (0 ≤ p) && decide (p < (S.n : Int))) with
      | false =>
        rw [c1, Bool.false_and] at bad
        exact iteT (bad rfl)
      | true =>
      rw [c1, Bool.true_and] at bad
      refine iteF ⟨_, rfl, a, _, _, _, _, rfl, hP.raw.obj, T.k_Past, T.n_Past_froms, pf_froms _ _, _, rfl, q, _, _, _, rfl, rfl, SqT.of hq, atI_nat (j := 2) rfl, A.f, fr, t, rfl, hP.raw.frm, _, rfl, ?_⟩
      cases c2 : (decide (0 ≤ t) && decide (t ≤ (fr.length : Int))) with
      | false =>
        rw [c2] at bad
        exact iteT (bad rfl)
      | true =>
      rw [Bool.and_eq_true] at c1 c2
      have p0 := of_decide_eq_true c1.1
      have p1 := of_decide_eq_true c1.2
      have t0 := of_decide_eq_true c2.1
      have t1 := of_decide_eq_true c2.2
      obtain ⟨p', rfl⟩ : ∃ p' : Nat, p = (p' : Int) := ⟨p.toNat, by omega⟩
      obtain ⟨t', rfl⟩ : ∃ t' : Nat, t = (t' : Int) := ⟨t.toNat, by omega⟩
      refine iteF ⟨_, rfl, q, _, _, _, rfl, rfl, SqT.of hq, atI_nat (j := 0) rfl, rfl, true, rfl, iteT ⟨_, rfl, a, _, _, rfl, hP.raw.obj, rfl, _, rfl, a, fr, S, A, q, p', t', x, s0, o, k, rfl, hP, fo, fw, by omega, by omega, hq, sh, tk⟩⟩
    | back p t k =>
      refine ⟨_, (pss_cons (ps_if (pt_cmpR op_eq (pe_ix ix_tup (pv 1) pe_int (fun _ _ => rfl)) pe_str (nomark _))
      (pss_one (ps_ret (C8.pe_mt (c_Past_takes_phrase T) hr (by decide) (pv 0) (pa_cons (pv 1) pa_nil))))
      pss_nil)
    (pss_cons (ps_if (PW.pt (pw_or (pt_not (pt_val (C8.pe_mt (c_Past_has_phrase T) hr (by decide) (pv 0) (pa_cons (pe_ix ix_tup (pv 1) pe_int (fun _ _ => rfl)) pa_nil)))) (pw_or1 (pt_not (pt_val (C8.pe_c (c_is_tongue T) hr (by decide) rfl (pa_cons (pe_fld (pv 0) (by rfl)) (pa_cons (pe_ix ix_tup (pv 1) pe_int (fun _ _ => rfl)) pa_nil))))))))
      (pss_one (ps_ret pe_bl))
      pss_nil)
    (pss_cons (ps_if (pt_cmpR op_eq (pe_ix ix_tup (pv 1) pe_int (fun _ _ => rfl)) pe_str (nomark _))
      (pss_one (ps_ret (C8.pe_mt (c_Past_takes_put T) hr (by decide) (pv 0) (pa_cons (pv 1) pa_nil))))
      pss_nil)
    (pss_one (ps_ret (C8.pe_mt (c_Past_takes_back T) hr (by decide) (pv 0) (pa_cons (pv 1) pa_nil))))))), ?_⟩
      refine ⟨_, rfl, q, _, _, _, rfl, rfl, SqT.of hq, atI_nat (j := 0) rfl, rfl, false, rfl, iteF ?_⟩
      refine ⟨_, rfl, a, _, _, rfl, hP.raw.obj, rfl, _, rfl, q, _, _, _, rfl, rfl, SqT.of hq, atI_nat (j := 1) rfl, a, fr, S, A, p, rfl, hP, _, rfl, ?_⟩
      have bad : inPT fr S p t = false → Q (.bl false) H := fun z => tk.1 (by show (inPT fr S p t && _) = false; rw [z, Bool.false_and]) H (Same.refl _)
      unfold inPT at bad
      cases c1 : (decide (0 ≤ p) && decide (p < (S.n : Int))) with
      | false =>
        rw [c1, Bool.false_and] at bad
        exact iteT (bad rfl)
      | true =>
      rw [c1, Bool.true_and] at bad
      refine iteF ⟨_, rfl, a, _, _, _, _, rfl, hP.raw.obj, T.k_Past, T.n_Past_froms, pf_froms _ _, _, rfl, q, _, _, _, rfl, rfl, SqT.of hq, atI_nat (j := 2) rfl, A.f, fr, t, rfl, hP.raw.frm, _, rfl, ?_⟩
      cases c2 : (decide (0 ≤ t) && decide (t ≤ (fr.length : Int))) with
      | false =>
        rw [c2] at bad
        exact iteT (bad rfl)
      | true =>
      rw [Bool.and_eq_true] at c1 c2
      have p0 := of_decide_eq_true c1.1
      have p1 := of_decide_eq_true c1.2
      have t0 := of_decide_eq_true c2.1
      have t1 := of_decide_eq_true c2.2
      obtain ⟨p', rfl⟩ : ∃ p' : Nat, p = (p' : Int) := ⟨p.toNat, by omega⟩
      obtain ⟨t', rfl⟩ : ∃ t' : Nat, t = (t' : Int) := ⟨t.toNat, by omega⟩
      refine iteF ⟨_, rfl, q, _, _, _, rfl, rfl, SqT.of hq, atI_nat (j := 0) rfl, rfl, false, rfl, iteF ⟨_, rfl, a, _, _, rfl, hP.raw.obj, rfl, _, rfl, a, fr, S, A, q, p', t', k, rfl, hP, fo, by omega, by omega, hq, tk⟩⟩
--# first_wrong_line
theorem De.fitsT_may {fr : List Int} {S : De} {n : Tl} (h : S.fitsT fr n = true) : S.May fr n.deed := by
  cases n with
  | phrase p x k =>
    unfold De.fitsT at h
    simp only [Bool.and_eq_true, decide_eq_true_eq] at h
    exact ⟨by have := h.1.2; omega, txB_of h.2.1⟩
  | back p t k => exact De.fits_may (n := .back p t k) trivial h
  | put p t x s o k =>
    have h' : (inPT fr S p t && (txB x && (decide (s ∈ S.seens fr p.toNat t.toNat) && (decide (o = S.now p.toNat t.toNat) && decide (k = (S.puts.length : Int)))))) = true := h
    simp only [Bool.and_eq_true, decide_eq_true_eq] at h'
    obtain ⟨h1, h2, h3, h4, h5⟩ := h'
    obtain ⟨a, b, c, d⟩ := inPT_iff h1
    refine ⟨by omega, by omega, txB_of h2, h4, ?_, ?_⟩
    · intro z
      unfold De.seens at h3
      rw [if_pos z] at h3
      exact List.mem_singleton.mp h3
    · intro z
      unfold De.seens at h3
      rw [if_neg (by omega)] at h3
      obtain ⟨e, he, rfl⟩ := List.mem_map.mp h3
      obtain ⟨j, ej, v, h6⟩ := De.seen_ever he
      exact ⟨j, congrArg some ej, v, h6⟩
def wrongT (fr : List Int) : De → Nat → List Tl → Option Nat
  | _, _, [] => Option.none
  | S, i, n :: r => if S.fitsT fr n then wrongT fr (S.come fr n.deed).1 (i + 1) r else some i
theorem wrongT_low {fr : List Int} : ∀ {l : List Tl} {S : De} {i : Nat}, (∀ n ∈ l, n.Low) → wrongT fr S i l = wrongFrom fr S i l
  | [], _, _, _ => rfl
  | n :: r, S, i, h => by
    unfold wrongT wrongFrom
    rw [De.fitsT_low (h n List.mem_cons_self), wrongT_low fun m hm => h m (List.mem_cons_of_mem _ hm)]
def spFirst : Sp := fun vs H Q _ => ∃ (f : Addr) (fr : List Int) (a : Addr) (l : List Tl), vs = [.ref f, .ref a] ∧ LsAt H f fr ∧ FrOk fr ∧ TlAt H a l ∧ (∀ n ∈ l, n.short) ∧ l.length ≤ 100 ∧ ∀ H' : Hp, Same H H' → Q (oV ((wrongT fr De.none 0 l).map fun i => (i : Int))) H'
theorem come_one {fr : List Int} {S : De} {n : Tl} : (S.come fr n.deed).1.puts.length ≤ S.puts.length + 1 := by
  cases n with
  | phrase p x k =>
    show (S.puts ++ [_]).length ≤ _
    rw [List.length_append, List.length_singleton]
    exact Nat.le_refl _
  | put p t x s o k =>
    show (S.puts ++ [_]).length ≤ _
    rw [List.length_append, List.length_singleton]
    exact Nat.le_refl _
  | back p t k => exact Nat.le_succ _
theorem sc_first_wrong_line : FnScope ["froms", "tale", "past", "at", "line"] ["froms", "tale"] (defScope s_first_wrong_line) := ⟨rfl, rfl, rfl, by decide +kernel, rfl, by decide +kernel, by decide +kernel⟩
theorem c_first_wrong_line {P : Program} {w : World} {K : PySem.W.Frag} {mg : Str → Option Value} {base : Heap} (T : Tx K mg) : C8.Cal P w K mg base 6 "first_wrong_line" (spFirst) [] := by
  refine calD T.F_first_wrong_line T.g_first_wrong_line (fun _ _ _ _ _ _ us hl => match us, hl with | [_, _], _ => rfl) sc_first_wrong_line (fun vs H Q E h => ?_) (fun cdv A outer s H vs Q E hr h => ?_)
  · obtain ⟨f, fr, a, l, rfl, _⟩ := h
    rfl
  · obtain ⟨f, fr, a, l, rfl, hf, fo, ha, sh, hl, q⟩ := h
    refine ⟨_, (pss_cons (ps_set (i := 2) sc_first_wrong_line.nd rfl (Or.inl rfl) (C8.pe_mk (c_Past_init T) hr (by decide) rfl (pa_cons (pv 0) pa_nil)))
    (pss_cons (ps_for PassesOwn.never rfl (pi_enum (by rfl) T.f_enumerate (pa_cons (pv 1) pa_nil)) (pg_tup rfl (pgs_cons (pg_name (i := 3) sc_first_wrong_line.nd rfl (Or.inl rfl)) (pgs_cons (pg_name (i := 4) sc_first_wrong_line.nd rfl (Or.inl rfl)) pgs_nil)))
      (pss_one (ps_if (pt_not (pt_val (C8.pe_mt (c_Past_takes T) hr (by decide) (pv 2) (pa_cons (pv 4) pa_nil))))
        (pss_one (ps_ret (pv 3)))
        pss_nil)))
    (pss_one (ps_ret pe_non)))), ?_⟩
    obtain ⟨vs, hv, hal⟩ := ha
    refine ⟨_, rfl, fun p dp np ndp dne => ⟨p, dp, f, fr, rfl, upd_same, ?_, fun H1 A h1 k1 f1 => ⟨rfl, ?_⟩⟩⟩
    · unfold LsAt
      rw [upd_ne (ne_of_none hf np), upd_ne (ne_of_none hf ndp)]
      exact hf
    have s1 : Same H H1 := fun x o e => k1 x o (ne_of_none e np) (by rw [upd_ne (ne_of_none e np), upd_ne (ne_of_none e ndp)]; exact e)
    have n1 : ∀ x, footP p fr 0 A x → H x = none := by
      intro x fx
      rcases f1 x fx with z | z
      · rw [z]
        exact np
      · cases e : H x with
        | none => rfl
        | some o =>
          rw [upd_ne (ne_of_none e np), upd_ne (ne_of_none e ndp), e] at z
          cases z
    refine ⟨_, rfl, a, _, rfl, SqL.of (s1 _ _ hv), ?_⟩
    refine for_it (walk_enum (K := K) (a := a) (xs := vs)) (fun i σ H4 => ∃ (va vb : Option V) (S : De) (A : PA), σ = [some (.ref f), some (.ref a), some (.ref p), va, vb] ∧ Same H H4 ∧ PastAt H4 (He.ga K "Past") p fr S A ∧ S.Ok fr ∧ S.puts.length ≤ i ∧ (∀ x, footP p fr S.n A x → H x = none) ∧ wrongT fr De.none 0 l = wrongT fr S i (l.drop i))
      ⟨none, none, De.none, A, rfl, s1, h1, none_ok, Nat.zero_le _, n1, rfl⟩ (fun i σ H4 _ ⟨_, _, _, _, _, s4, _⟩ => SqL.of (s4 _ _ hv)) ?_ ?_
    · rintro i v σ H4 H5 hi ⟨va, vb, S, A, rfl, s4, h4, ok, pl, n4, ew⟩ ⟨U, x, y, rfl, nU, rfl, e1, e2⟩
      cases (Option.some.inj e1)
      obtain ⟨n, en, b, rfl, hb⟩ := hal.at e2
      have sU : Same H4 (upd H4 U (.tup [V.int (i : Nat), V.ref b])) := same_upd nU
      have s5 := s4.trans sU
      have h5 := h4.same sU
      refine ⟨U, _, rfl, .inl (.inl upd_same), rfl, _, _, rfl, _, _, rfl, rfl, ?_⟩
      generalize upd H4 U (.tup [V.int (i : Nat), V.ref b]) = H5 at s5 h5 ⊢
      have hi' : i < l.length := (List.getElem?_eq_some_iff.mp en).1
      have ed : l.drop i = n :: l.drop (i + 1) := by
        obtain ⟨h, e⟩ := List.getElem?_eq_some_iff.mp en
        rw [List.drop_eq_getElem_cons h, e]
      rw [ed] at ew
      have ew' : wrongT fr De.none 0 l = if S.fitsT fr n then wrongT fr (S.come fr n.deed).1 (i + 1) (l.drop (i + 1)) else some i := ew
      refine ⟨_, rfl, p, _, _, rfl, h5.raw.obj, rfl, _, rfl, p, fr, S, A, b, n, rfl, h5, ok, fo, by omega, s5 _ _ hb, sh n (List.mem_of_getElem? en), fun z H6 s6 => ⟨false, rfl, iteT ⟨_, rfl, ?_⟩⟩, fun z H6 A6 h6 o6 f6 => ⟨true, rfl, iteF ?_⟩⟩
      · have q6 := q _ (s5.trans s6)
        rw [ew', z] at q6
        exact q6
      · rw [z, if_pos rfl] at ew'
        have cok := (ok.come fo (De.fitsT_may z)).1
        have c1 := come_one (fr := fr) (S := S) (n := n)
        refine ⟨_, _, _, A6, rfl, fun x o e => o6.out x o (fun w => by rw [n4 x w] at e; cases e) (s5 _ _ e), h6, cok, by omega, fun x w => ?_, ew'⟩
        rcases f6 x w with y | y
        · exact n4 x y
        · exact s5.free y
    · rintro σ H4 ⟨va, vb, S, A, rfl, s4, h4, ok, pl, n4, ew⟩
      rw [hal.len, List.drop_length] at ew
      have q4 := q _ s4
      rw [ew] at q4
      exact q4
--# Right.shows
def spRightShows : Sp := fun vs H Q _ => ∃ (y f : Addr) (fr : List Int) (a : Addr) (l : List Tl), vs = [.ref y, .ref f, .ref a] ∧ LsAt H f fr ∧ FrOk fr ∧ TlAt H a l ∧ (∀ n ∈ l, n.short) ∧ l.length ≤ 100 ∧ ∀ H' : Hp, Same H H' → Q (.bl (wrongT fr De.none 0 l).isNone) H'
theorem sc_Right_shows : FnScope ["self", "froms", "tale"] ["self", "froms", "tale"] (defScope s_Right_shows) := ⟨rfl, rfl, rfl, by decide +kernel, rfl, by decide +kernel, by decide +kernel⟩
theorem c_Right_shows {P : Program} {w : World} {K : PySem.W.Frag} {mg : Str → Option Value} {base : Heap} (T : Tx K mg) : C8.Met P w K mg base 7 (He.ga K "Right") "shows" (spRightShows) [] := by
  refine metD T.F_Right_shows T.k_Right T.m_Right_shows (fun _ _ _ _ _ _ us hl => match us, hl with | [_, _, _], _ => rfl) sc_Right_shows (fun vs H Q E h => ?_) (fun cdv A outer s H vs Q E hr h => ?_)
  · obtain ⟨y, f, fr, a, l, rfl, _⟩ := h
    rfl
  · obtain ⟨y, f, fr, a, l, rfl, hf, fo, ha, sh, hl, q⟩ := h
    refine ⟨_, (pss_one (ps_ret (pe_cmpR op_isN (C8.pe_c (c_first_wrong_line T) hr (by decide) rfl (pa_cons (pv 1) (pa_cons (pv 2) pa_nil))) pe_non (nomark _)))), ?_⟩
    refine ⟨_, rfl, _, rfl, f, fr, a, l, rfl, hf, fo, ha, sh, hl, fun H1 s1 => ⟨rfl, qt ?_ (q _ s1)⟩⟩
    cases wrongT fr De.none 0 l <;> rfl
--# Wrong.__init__
def wfs (k : Int) : List (Str × V) := [("line", .int k)]
def spWrongInit (C : Addr) : Sp := fun vs H Q _ => ∃ (y dy : Addr) (k : Int), vs = [.ref y, .int k] ∧ H y = some (.ins C dy []) ∧ ∀ H' : Hp, H' y = some (.ins C dy (wfs k)) → (∀ b o, H b = some o → b ≠ y → H' b = some o) → Q .non H'
theorem sc_Wrong_init : FnScope ["self", "line"] ["self", "line"] (defScope s_Wrong_init) := ⟨rfl, rfl, rfl, by decide +kernel, rfl, by decide +kernel, by decide +kernel⟩
theorem c_Wrong_init {P : Program} {w : World} {K : PySem.W.Frag} {mg : Str → Option Value} {base : Heap} (T : Tx K mg) : C8.Mak P w K mg base 1 "Wrong" (He.ga K "Wrong") (spWrongInit (He.ga K "Wrong")) [] := by
  refine makD T.F_Wrong_init T.i_Wrong T.g_Wrong (fun _ _ _ _ _ _ us hl => match us, hl with | [_, _], _ => rfl) sc_Wrong_init (fun vs H Q E h => ?_) (fun cdv A outer s H vs Q E hr h => ?_)
  · obtain ⟨y, dy, k, rfl, _⟩ := h
    rfl
  · obtain ⟨y, dy, k, rfl, hy, q⟩ := h
    refine ⟨_, (pss_one (ps_fld (pv 0) (pv 1) rfl)), ?_⟩
    exact ⟨_, rfl, _, rfl, y, _, dy, [], rfl, hy, T.k_Wrong, T.n_Wrong_line, (by show 0 < 1000; decide), q _ upd_same (fun b o e nb => by rw [upd_ne nb]; exact e)⟩
--# Wrong.shows
def spWrongShows (C : Addr) : Sp := fun vs H Q _ => ∃ (y dy : Addr) (k : Int) (f : Addr) (fr : List Int) (a : Addr) (l : List Tl), vs = [.ref y, .ref f, .ref a] ∧ H y = some (.ins C dy (wfs k)) ∧ LsAt H f fr ∧ FrOk fr ∧ TlAt H a l ∧ (∀ n ∈ l, n.short) ∧ l.length ≤ 100 ∧ ∀ H' : Hp, Same H H' → Q (.bl (decide (some k = (wrongT fr De.none 0 l).map fun i => (i : Int)))) H'
theorem wfs_at (k : Int) : (wfs k).lookup ("line" : Str) = some (.int k) := rfl
theorem sc_Wrong_shows : FnScope ["self", "froms", "tale"] ["self", "froms", "tale"] (defScope s_Wrong_shows) := ⟨rfl, rfl, rfl, by decide +kernel, rfl, by decide +kernel, by decide +kernel⟩
theorem c_Wrong_shows {P : Program} {w : World} {K : PySem.W.Frag} {mg : Str → Option Value} {base : Heap} (T : Tx K mg) : C8.Met P w K mg base 7 (He.ga K "Wrong") "shows" (spWrongShows (He.ga K "Wrong")) [] := by
  refine metD T.F_Wrong_shows T.k_Wrong T.m_Wrong_shows (fun _ _ _ _ _ _ us hl => match us, hl with | [_, _, _], _ => rfl) sc_Wrong_shows (fun vs H Q E h => ?_) (fun cdv A outer s H vs Q E hr h => ?_)
  · obtain ⟨y, dy, k, f, fr, a, l, rfl, _⟩ := h
    rfl
  · obtain ⟨y, dy, k, f, fr, a, l, rfl, hy, hf, fo, ha, sh, hl, q⟩ := h
    refine ⟨_, (pss_one (ps_ret (pe_and (C8.pe_c (c_is_number T) hr (by decide) rfl (pa_cons (pe_fld (pv 0) (by rfl)) pa_nil)) (pe_one (pe_cmpR op_eq (pe_fld (pv 0) (by rfl)) (C8.pe_c (c_first_wrong_line T) hr (by decide) rfl (pa_cons (pv 1) (pa_cons (pv 2) pa_nil))) (nomark _)))))), ?_⟩
    refine ⟨_, rfl, y, _, _, _, _, rfl, hy, T.k_Wrong, T.n_Wrong_line, wfs_at k, _, _, true, false, rfl, .base (.int k), is_ty (by decide +kernel), is_ty (by decide +kernel), true, rfl, iteT ?_⟩
    refine ⟨_, rfl, y, _, _, _, _, rfl, hy, T.k_Wrong, T.n_Wrong_line, wfs_at k, _, rfl, _, rfl, f, fr, a, l, rfl, hf, fo, ha, sh, hl, fun H1 s1 => ⟨?_, qt (oV_dec (a := some k)) (q _ s1)⟩⟩
    cases wrongT fr De.none 0 l <;> rfl

end PD

namespace PD
open PySem PySem.Spec PyProof.Rows L2

/-! Phrasedesk, law_k11: a desk behind some deeds -/
def spBrk : Sp := fun vs H Q _ => ∃ (a : Addr) (fr : List Int) (p : Addr) (row : List Cell) (t : Nat), vs = [.ref a, .ref p, .int (t : Int)] ∧ LsAt H a fr ∧ FrOk fr ∧ RowAt H p row ∧ RowOk fr row ∧ 0 < t ∧ t ≤ fr.length ∧ Q (.bl (brk fr row t)) H
theorem getD_of2 {α : Type} {l : List α} {i : Nat} {d x : α} (h : l[i]? = some x) : l.getD i d = x := by
  rw [List.getD_eq_getElem?_getD, h]
  rfl
theorem sc_is_broken : FnScope ["froms", "row", "tongue", "cell", "above"] ["froms", "row", "tongue"] (defScope s_is_broken) := ⟨rfl, rfl, rfl, by decide +kernel, rfl, by decide +kernel, by decide +kernel⟩
theorem c_is_broken {P : Program} {w : World} {K : PySem.W.Frag} {mg : Str → Option Value} {base : Heap} (T : Tx K mg) : C8.Cal P w K mg base 2 "is_broken" (spBrk) [] := by
  refine calD T.F_is_broken T.g_is_broken (fun _ _ _ _ _ _ us hl => match us, hl with | [_, _, _], _ => rfl) sc_is_broken (fun vs H Q E h => ?_) (fun cdv A outer s H vs Q E hr h => ?_)
  · obtain ⟨a, fr, p, row, t, rfl, _⟩ := h
    rfl
  · obtain ⟨a, fr, p, row, t, rfl, ha, fo, hp, ro, h0, h1, q⟩ := h
    obtain ⟨vs, hv, hc⟩ := hp
    obtain ⟨x, ex, x0, xl, xu⟩ := fo.at h0 h1
    have hl1 : t < row.length := by rw [ro.len]; omega
    have hl2 : up fr t < row.length := by rw [ro.len]; omega
    obtain ⟨v1, e1, c1⟩ := hc.each t row[t] (List.getElem?_eq_getElem hl1)
    obtain ⟨v2, e2, c2⟩ := hc.each (up fr t) row[up fr t] (List.getElem?_eq_getElem hl2)
    have g1 : row.getD t none = row[t] := getD_of2 (List.getElem?_eq_getElem hl1)
    have g2 : row.getD (up fr t) none = row[up fr t] := getD_of2 (List.getElem?_eq_getElem hl2)
    unfold brk at q
    rw [g1, g2] at q
    refine ⟨_, (pss_cons (ps_set (i := 3) sc_is_broken.nd rfl (Or.inl rfl) (pe_ix ix_list (pv 1) (pv 2) (fun _ _ => rfl)))
    (pss_cons (ps_set (i := 4) sc_is_broken.nd rfl (Or.inl rfl) (pe_ix ix_list (pv 1) (C8.pe_c (c_put_from T) hr (by decide) rfl (pa_cons (pv 0) (pa_cons (pv 2) pa_nil))) (fun _ _ => rfl)))
    (pss_one (ps_ret (pe_or (pe_cmpR op_isN (pv 3) pe_non (nomark _)) (pe_or (pe_cmpR op_isN (pv 4) pe_non (nomark _)) (pe_one (pe_cmpR op_ne (pe_ix ix_tup (pv 3) pe_int (fun _ _ => rfl)) (pe_ix ix_tup (pv 4) pe_int (fun _ _ => rfl)) (nomark _))))))))), ?_⟩
    refine ⟨_, rfl, _, rfl, p, _, _, v1, rfl, rfl, SqL.of hv, atI_nat e1, _, rfl, _, rfl, _, rfl, a, fr, t, x, rfl, ha, h0, ex, p, _, _, v2, rfl, rfl, SqL.of hv, at_of (j := up fr t) xu e2, ?_⟩
    cases q1 : row[t] with
    | none =>
      rw [q1] at c1 q
      cases (show v1 = .non from c1)
      exact ⟨_, rfl, rfl, true, by rw [decide_eq_true rfl], iteT q⟩
    | some c =>
      obtain ⟨n1, b1⟩ := c
      rw [q1] at c1 q
      obtain ⟨p1, rfl, k1⟩ := c1
      refine ⟨_, rfl, rfl, false, by rw [decide_eq_false (by intro z; cases z)], iteF ?_⟩
      cases q2 : row[up fr t] with
      | none =>
        rw [q2] at c2 q
        cases (show v2 = .non from c2)
        exact ⟨_, rfl, rfl, true, by rw [decide_eq_true rfl], iteT q⟩
      | some d =>
        obtain ⟨n2, b2⟩ := d
        rw [q2] at c2 q
        obtain ⟨p2, rfl, k2⟩ := c2
        obtain ⟨m1, m2, em, _, _⟩ : ∃ a b, (some (n1, b1) : Cell) = some (a, some b) ∧ 0 ≤ a ∧ 0 ≤ b := by
          have et : row[t - 1 + 1]? = some (some (n1, b1)) := by
            rw [show t - 1 + 1 = t by omega, List.getElem?_eq_getElem hl1, q1]
          rcases ro.each (t - 1) _ et with z | z
          · cases z
          · exact z
        cases em
        refine ⟨_, rfl, rfl, false, by rw [decide_eq_false (by intro z; cases z)], iteF ?_⟩
        refine ⟨_, rfl, p1, _, _, _, rfl, rfl, SqT.of k1, atI_nat (j := 1) rfl, _, rfl, p2, _, _, _, rfl, rfl, SqT.of k2, atI_nat (j := 0) rfl, rfl, ?_⟩
        refine qt ?_ q
        show (!decide (V.int m2 = V.int n2)) = !decide (some m2 = some n2)
        by_cases z : m2 = n2
        · subst z
          simp
        · have z1 : ¬ V.int m2 = V.int n2 := fun y => z (V.int.inj y)
          have z2 : ¬ some m2 = some n2 := fun y => z (Option.some.inj y)
          rw [decide_eq_false z1, decide_eq_false z2]

def spChain : Sp := fun vs H Q _ => ∃ (a : Addr) (fr : List Int) (p : Addr) (row : List Cell) (t : Nat), vs = [.ref a, .ref p, .int (t : Int)] ∧ LsAt H a fr ∧ FrOk fr ∧ RowAt H p row ∧ RowOk fr row ∧ t ≤ fr.length ∧
  (chain fr row t = none → ∀ H' : Hp, Same H H' → Q .non H') ∧ (∀ c, chain fr row t = some c → ∀ (H' : Hp) (l : Addr), Same H H' → H l = none → LsAt H' l c → Q (.ref l) H')
theorem map_some_app2 {o : Option (List Int)} {acc : List Int} {x : Int} : (o.map (x :: ·)).map (acc ++ ·) = o.map ((acc ++ [x]) ++ ·) := by
  cases o with
  | none => rfl
  | some r => simp
theorem sc_chain_up : FnScope ["froms", "row", "tongue", "chain", "at"] ["froms", "row", "tongue"] (defScope s_chain_up) := ⟨rfl, rfl, rfl, by decide +kernel, rfl, by decide +kernel, by decide +kernel⟩
theorem c_chain_up {P : Program} {w : World} {K : PySem.W.Frag} {mg : Str → Option Value} {base : Heap} (T : Tx K mg) : C8.Cal P w K mg base 3 "chain_up" (spChain) [] := by
  refine calD T.F_chain_up T.g_chain_up (fun _ _ _ _ _ _ us hl => match us, hl with | [_, _, _], _ => rfl) sc_chain_up (fun vs H Q E h => ?_) (fun cdv A outer s H vs Q E hr h => ?_)
  · obtain ⟨a, fr, p, row, t, rfl, _⟩ := h
    rfl
  · obtain ⟨a, fr, p, row, t, rfl, ha, fo, hp, ro, ht, q0, q1⟩ := h
    refine ⟨_, (pss_cons (ps_set (i := 3) sc_chain_up.nd rfl (Or.inl rfl) (pe_lst pa_nil))
    (pss_cons (ps_set (i := 4) sc_chain_up.nd rfl (Or.inl rfl) (pv 2))
    (pss_cons (ps_while PassesOwn.never (pt_cmpR op_gt (pv 4) pe_int (nomark _))
      (pss_cons (ps_expr (pe_bm PySem.F.plainAttrs_list PySem.F.slot_list_append PySem.F.type_list_append mt_append (pv 3) (pa_cons (pv 4) pa_nil)))
      (pss_cons (ps_if (pt_val (C8.pe_c (c_is_broken T) hr (by decide) rfl (pa_cons (pv 0) (pa_cons (pv 1) (pa_cons (pv 4) pa_nil)))))
        (pss_one (ps_ret (pv 3)))
        pss_nil)
      (pss_one (ps_set (i := 4) sc_chain_up.nd rfl (Or.inl rfl) (C8.pe_c (c_put_from T) hr (by decide) rfl (pa_cons (pv 0) (pa_cons (pv 4) pa_nil))))))))
    (pss_one (ps_ret pe_non))))), ?_⟩
    refine ⟨Nat.zero_le _, fun l nl => ?_⟩
    have s0 : Same H (upd H l (.lst [])) := same_upd nl
    refine ⟨_, rfl, fun u σ H1 => ∃ acc : List Int, σ = [some (.ref a), some (.ref p), some (.int (t : Int)), some (.ref l), some (.int (u : Int))] ∧ u ≤ fr.length ∧ Same H H1 ∧ LsAt H1 l acc ∧ acc.length + u ≤ t ∧ chain fr row t = (chain fr row u).map (acc ++ ·), ⟨t, [], rfl, ht, s0, upd_same, by simp, by simp⟩, ?_⟩
    rintro u σ H1 ⟨acc, rfl, hu, s1, hl, hn, he⟩
    refine ⟨_, rfl, _, _, rfl, rfl, decide ((0 : Int) < (u : Int)), rfl, ?_⟩
    by_cases h0 : (0 : Int) < (u : Int)
    · rw [decide_eq_true h0]
      refine iteT ⟨fun σ' H' => ∃ m', m' < u ∧ ∃ acc : List Int, σ' = [some (.ref a), some (.ref p), some (.int (t : Int)), some (.ref l), some (.int (m' : Int))] ∧ m' ≤ fr.length ∧ Same H H' ∧ LsAt H' l acc ∧ acc.length + m' ≤ t ∧ chain fr row t = (chain fr row m').map (acc ++ ·), fun σ' H' h => h, ?_⟩
      have u0 : 0 < u := by omega
      have hz : acc.length < sizeLine := small1000 (by have := fo.hi; omega)
      refine ⟨_, rfl, .inl ⟨rfl, _, SqL.of hl⟩, _, rfl, l, _, _, rfl, rfl, hl, by rw [List.length_map]; exact hz, ?_⟩
      have s2 : Same H (upd H1 l (.lst (acc.map V.int ++ [V.int (u : Int)]))) := Same.chg s1 nl
      have hl2 : LsAt (upd H1 l (.lst (acc.map V.int ++ [V.int (u : Int)]))) l (acc ++ [(u : Int)]) := by
        unfold LsAt
        rw [upd_same, List.map_append]
        rfl
      refine ⟨_, rfl, _, rfl, _, rfl, a, fr, p, row, u, rfl, ha.same s2, fo, hp.same s2, ro, u0, hu, brk fr row u, rfl, ?_⟩
      have hs := chain_step (row := row) fo u0 hu
      cases hb : brk fr row u with
      | true =>
        rw [hb] at hs
        have ec : chain fr row t = some (acc ++ [(u : Int)]) := by
          rw [he, hs]
          rfl
        exact iteT ⟨_, rfl, q1 _ ec _ l s2 nl hl2⟩
      | false =>
        rw [hb] at hs
        obtain ⟨x, ex, x0, xl, xu⟩ := fo.at u0 hu
        refine iteF ⟨_, rfl, _, rfl, a, fr, u, x, rfl, ha.same s2, u0, ex, ?_⟩
        refine ⟨up fr u, up_lt fo u0 hu, acc ++ [(u : Int)], by rw [xu]; rfl, by have := up_lt fo u0 hu; omega, s2, hl2, ?_, ?_⟩
        · have := up_lt fo u0 hu
          simp
          omega
        · rw [he, hs]
          exact map_some_app2
    · rw [decide_eq_false h0]
      have u0 : u = 0 := by omega
      subst u0
      refine iteF (q0 ?_ _ s1)
      rw [he, chain_zero]
      rfl
abbrev DeK (K : PySem.W.Frag) (H : Hp) (d : Addr) (fr : List Int) (S : De) (ls : List Line) (F : Addr → Prop) : Prop := Desk H (He.ga K "Desk") (He.ga K "Past") d fr S ls F
theorem df_past (p L : Addr) : (deskF p L).lookup ("past" : Str) = some (.ref p) := rfl
theorem df_lines (p L : Addr) : (deskF p L).lookup ("lines" : Str) = some (.ref L) := rfl
def spCkP (K : PySem.W.Frag) : Sp := fun vs H Q _ => ∃ (d : Addr) (fr : List Int) (S : De) (ls : List Line) (F : Addr → Prop) (p : Nat), vs = [.ref d, .int p] ∧ DeK K H d fr S ls F ∧ p < S.n ∧ Q .non H
theorem sc_Desk_check_phrase : FnScope ["self", "phrase"] ["self", "phrase"] (defScope s_Desk_check_phrase) := ⟨rfl, rfl, rfl, by decide +kernel, rfl, by decide +kernel, by decide +kernel⟩
theorem c_Desk_check_phrase {P : Program} {w : World} {K : PySem.W.Frag} {mg : Str → Option Value} {base : Heap} (T : Tx K mg) : C8.Met P w K mg base 4 (He.ga K "Desk") "check_phrase" (spCkP K) [] := by
  refine metD T.F_Desk_check_phrase T.k_Desk T.m_Desk_check_phrase (fun _ _ _ _ _ _ us hl => match us, hl with | [_, _], _ => rfl) sc_Desk_check_phrase (fun vs H Q E h => ?_) (fun cdv A outer s H vs Q E hr h => ?_)
  · obtain ⟨d, fr, S, ls, F, p, rfl, _⟩ := h
    rfl
  · obtain ⟨d, fr, S, ls, F, p, rfl, hD, hp, q⟩ := h
    refine ⟨_, (pss_one (ps_if (pt_not (pt_val (C8.pe_mt (c_Past_has_phrase T) hr (by decide) (pe_fld (pv 0) (by rfl)) (pa_cons (pv 1) pa_nil))))
      (pss_one ps_never)
      pss_nil)), ?_⟩
    obtain ⟨B, hB, hF, _⟩ := hD
    refine ⟨_, rfl, d, _, _, _, _, rfl, hB.obj, T.k_Desk, T.n_Desk_past, df_past _ _, B.p, _, _, rfl, hB.past.raw.obj, rfl, _, rfl, B.p, fr, S, B.A, (p : Int), rfl, hB.past, true, ?_, iteF q⟩
    rw [decide_eq_true (by omega : (0 : Int) ≤ (p : Int)), decide_eq_true (by omega : (p : Int) < (S.n : Int))]
    rfl
def spCkPl (K : PySem.W.Frag) : Sp := fun vs H Q _ => ∃ (d : Addr) (fr : List Int) (S : De) (ls : List Line) (F : Addr → Prop) (p t : Nat), vs = [.ref d, .int p, .int t] ∧ DeK K H d fr S ls F ∧ p < S.n ∧ t ≤ fr.length ∧ Q .non H
theorem sc_Desk_check_place : FnScope ["self", "phrase", "tongue"] ["self", "phrase", "tongue"] (defScope s_Desk_check_place) := ⟨rfl, rfl, rfl, by decide +kernel, rfl, by decide +kernel, by decide +kernel⟩
theorem c_Desk_check_place {P : Program} {w : World} {K : PySem.W.Frag} {mg : Str → Option Value} {base : Heap} (T : Tx K mg) : C8.Met P w K mg base 5 (He.ga K "Desk") "check_place" (spCkPl K) [] := by
  refine metD T.F_Desk_check_place T.k_Desk T.m_Desk_check_place (fun _ _ _ _ _ _ us hl => match us, hl with | [_, _, _], _ => rfl) sc_Desk_check_place (fun vs H Q E h => ?_) (fun cdv A outer s H vs Q E hr h => ?_)
  · obtain ⟨d, fr, S, ls, F, p, t, rfl, _⟩ := h
    rfl
  · obtain ⟨d, fr, S, ls, F, p, t, rfl, hD, hp, ht, q⟩ := h
    refine ⟨_, (pss_cons (ps_expr (C8.pe_mt (c_Desk_check_phrase T) hr (by decide) (pv 0) (pa_cons (pv 1) pa_nil)))
    (pss_one (ps_if (pt_not (pt_val (C8.pe_c (c_is_tongue T) hr (by decide) rfl (pa_cons (pe_fld (pe_fld (pv 0) (by rfl)) (by rfl)) (pa_cons (pv 2) pa_nil)))))
      (pss_one ps_never)
      pss_nil))), ?_⟩
    obtain ⟨B, hB, hF, h3⟩ := id hD
    refine ⟨_, rfl, d, _, _, rfl, hB.obj, rfl, _, rfl, d, fr, S, ls, F, p, rfl, hD, hp, ?_⟩
    refine ⟨_, rfl, d, _, _, _, _, rfl, hB.obj, T.k_Desk, T.n_Desk_past, df_past _ _, B.p, _, _, _, _, rfl, hB.past.raw.obj, T.k_Past, T.n_Past_froms, pf_froms _ _, _, rfl, B.A.f, fr, (t : Int), rfl, hB.past.raw.frm, true, ?_, iteF q⟩
    rw [decide_eq_true (by omega : (0 : Int) ≤ (t : Int)), decide_eq_true (by omega : (t : Int) ≤ (fr.length : Int))]
    rfl
def spCkO (K : PySem.W.Frag) : Sp := fun vs H Q _ => ∃ (d : Addr) (fr : List Int) (S : De) (ls : List Line) (F : Addr → Prop) (t : Nat), vs = [.ref d, .int t] ∧ DeK K H d fr S ls F ∧ 0 < t ∧ t ≤ fr.length ∧ Q .non H
theorem sc_Desk_check_other_tongue : FnScope ["self", "tongue"] ["self", "tongue"] (defScope s_Desk_check_other_tongue) := ⟨rfl, rfl, rfl, by decide +kernel, rfl, by decide +kernel, by decide +kernel⟩
theorem c_Desk_check_other_tongue {P : Program} {w : World} {K : PySem.W.Frag} {mg : Str → Option Value} {base : Heap} (T : Tx K mg) : C8.Met P w K mg base 4 (He.ga K "Desk") "check_other_tongue" (spCkO K) [] := by
  refine metD T.F_Desk_check_other_tongue T.k_Desk T.m_Desk_check_other_tongue (fun _ _ _ _ _ _ us hl => match us, hl with | [_, _], _ => rfl) sc_Desk_check_other_tongue (fun vs H Q E h => ?_) (fun cdv A outer s H vs Q E hr h => ?_)
  · obtain ⟨d, fr, S, ls, F, t, rfl, _⟩ := h
    rfl
  · obtain ⟨d, fr, S, ls, F, t, rfl, hD, t0, ht, q⟩ := h
    refine ⟨_, (pss_one (ps_if (PW.pt (pw_or (pt_not (pt_val (C8.pe_c (c_is_tongue T) hr (by decide) rfl (pa_cons (pe_fld (pe_fld (pv 0) (by rfl)) (by rfl)) (pa_cons (pv 1) pa_nil))))) (pw_or1 (pt_cmpR op_eq (pv 1) pe_int (nomark _)))))
      (pss_one ps_never)
      pss_nil)), ?_⟩
    obtain ⟨B, hB, hF, h3⟩ := id hD
    refine ⟨_, rfl, d, _, _, _, _, rfl, hB.obj, T.k_Desk, T.n_Desk_past, df_past _ _, B.p, _, _, _, _, rfl, hB.past.raw.obj, T.k_Past, T.n_Past_froms, pf_froms _ _, _, rfl, B.A.f, fr, (t : Int), rfl, hB.past.raw.frm, true, ?_, iteF ⟨_, rfl, rfl, false, ?_, iteF q⟩⟩
    · rw [decide_eq_true (by omega : (0 : Int) ≤ (t : Int)), decide_eq_true (by omega : (t : Int) ≤ (fr.length : Int))]
      rfl
    · rw [show decide (V.int (t : Int) = V.int 0) = decide (t = 0) from dec_nat (y := 0), decide_eq_false (by omega)]
def spCkT : Sp := fun vs H Q _ => ∃ (d : Addr) (x : Str), vs = [.ref d, .str x] ∧ TxOk x ∧ ∀ H', Same H H' → Q .non H'
theorem sc_Desk_check_text : FnScope ["self", "text"] ["self", "text"] (defScope s_Desk_check_text) := ⟨rfl, rfl, rfl, by decide +kernel, rfl, by decide +kernel, by decide +kernel⟩
theorem c_Desk_check_text {P : Program} {w : World} {K : PySem.W.Frag} {mg : Str → Option Value} {base : Heap} (T : Tx K mg) : C8.Met P w K mg base 2 (He.ga K "Desk") "check_text" (spCkT) [] := by
  refine metD T.F_Desk_check_text T.k_Desk T.m_Desk_check_text (fun _ _ _ _ _ _ us hl => match us, hl with | [_, _], _ => rfl) sc_Desk_check_text (fun vs H Q E h => ?_) (fun cdv A outer s H vs Q E hr h => ?_)
  · obtain ⟨d, x, rfl, _⟩ := h
    rfl
  · obtain ⟨d, x, rfl, tx, q⟩ := h
    refine ⟨_, (pss_one (ps_if (pt_not (pt_val (C8.pe_c (c_is_text T) hr (by decide) rfl (pa_cons (pv 1) pa_nil))))
      (pss_one ps_never)
      pss_nil)), ?_⟩
    refine ⟨_, rfl, x, rfl, by have := tx.hi; omega, fun H1 s1 => ⟨true, by rw [txB_ok tx], iteF (q _ s1)⟩⟩
def spFre (K : PySem.W.Frag) : Sp := fun vs H Q _ => ∃ (d : Addr) (fr : List Int) (S : De) (ls : List Line) (F : Addr → Prop) (p t : Nat), vs = [.ref d, .int p, .int t] ∧ DeK K H d fr S ls F ∧ S.Ok fr ∧ FrOk fr ∧ p < S.n ∧ t ≤ fr.length ∧ ∀ H', Same H H' → Q (.bl (chain fr (S.row (fr.length + 1) p) t).isNone) H'
theorem sc_Desk_is_fresh : FnScope ["self", "phrase", "tongue"] ["self", "phrase", "tongue"] (defScope s_Desk_is_fresh) := ⟨rfl, rfl, rfl, by decide +kernel, rfl, by decide +kernel, by decide +kernel⟩
theorem c_Desk_is_fresh {P : Program} {w : World} {K : PySem.W.Frag} {mg : Str → Option Value} {base : Heap} (T : Tx K mg) : C8.Met P w K mg base 4 (He.ga K "Desk") "is_fresh" (spFre K) [] := by
  refine metD T.F_Desk_is_fresh T.k_Desk T.m_Desk_is_fresh (fun _ _ _ _ _ _ us hl => match us, hl with | [_, _, _], _ => rfl) sc_Desk_is_fresh (fun vs H Q E h => ?_) (fun cdv A outer s H vs Q E hr h => ?_)
  · obtain ⟨d, fr, S, ls, F, p, t, rfl, _⟩ := h
    rfl
  · obtain ⟨d, fr, S, ls, F, p, t, rfl, hD, ok, fo, hp, ht, q⟩ := h
    refine ⟨_, (pss_one (ps_ret (pe_cmpR op_isN (C8.pe_c (c_chain_up T) hr (by decide) rfl (pa_cons (pe_fld (pe_fld (pv 0) (by rfl)) (by rfl)) (pa_cons (C8.pe_mt (c_Past_cells T) hr (by decide) (pe_fld (pv 0) (by rfl)) (pa_cons (pv 1) pa_nil)) (pa_cons (pv 2) pa_nil)))) pe_non (nomark _)))), ?_⟩
    obtain ⟨B, hB, hF, h3⟩ := id hD
    refine ⟨_, rfl, d, _, _, _, _, rfl, hB.obj, T.k_Desk, T.n_Desk_past, df_past _ _, B.p, _, _, _, _, rfl, hB.past.raw.obj, T.k_Past, T.n_Past_froms, pf_froms _ _, _, rfl, d, _, _, _, _, rfl, hB.obj, T.k_Desk, T.n_Desk_past, df_past _ _, B.p, _, _, rfl, hB.past.raw.obj, rfl, _, rfl, B.p, fr, S, B.A, p, rfl, hB.past, ok.num, fo, hp, fun H1 r s1 nr hr1 => ?_⟩
    refine ⟨_, rfl, B.A.f, fr, r, _, t, rfl, hB.past.raw.frm.same s1, fo, hr1, ok.row hp, ht, fun e H2 s2 => ⟨rfl, qt ?_ (q _ (s1.trans s2))⟩, fun c e H2 l s2 nl hl => ⟨rfl, qt ?_ (q _ (s1.trans s2))⟩⟩
    · rw [e]
      rfl
    · rw [e]
      rfl

theorem De.none_ok {fr : List Int} : De.none.Ok fr := ⟨fun p t k h => (nomatch h), Nat.zero_le _, fun p h => absurd h (Nat.not_lt_zero _), fun k u h => (nomatch h)⟩
def spDeskInit (K : PySem.W.Frag) : Sp := fun vs H Q _ => ∃ (y dy f : Addr) (fr : List Int), vs = [.ref y, .ref f] ∧ H y = some (.ins (He.ga K "Desk") dy []) ∧ LsAt H f fr ∧ FrOk fr ∧
  ∀ (H' : Hp) (F : Addr → Prop), DeK K H' y fr De.none [] F → (∀ x o, x ≠ y → H x = some o → H' x = some o) → (∀ x, F x → x = y ∨ H x = none) → Q .non H'
theorem sc_Desk_init : FnScope ["self", "froms"] ["self", "froms"] (defScope s_Desk_init) := ⟨rfl, rfl, rfl, by decide +kernel, rfl, by decide +kernel, by decide +kernel⟩
theorem c_Desk_init {P : Program} {w : World} {K : PySem.W.Frag} {mg : Str → Option Value} {base : Heap} (T : Tx K mg) : C8.Mak P w K mg base 4 "Desk" (He.ga K "Desk") (spDeskInit K) [] := by
  refine makD T.F_Desk_init T.i_Desk T.g_Desk (fun _ _ _ _ _ _ us hl => match us, hl with | [_, _], _ => rfl) sc_Desk_init (fun vs H Q E h => ?_) (fun cdv A outer s H vs Q E hr h => ?_)
  · obtain ⟨y, dy, f, fr, rfl, _⟩ := h
    rfl
  · obtain ⟨y, dy, f, fr, rfl, hy, hf, fo, q⟩ := h
    refine ⟨_, (pss_cons (ps_if (pt_not (pt_val (C8.pe_c (c_is_froms T) hr (by decide) rfl (pa_cons (pv 1) pa_nil))))
      (pss_one ps_never)
      pss_nil)
    (pss_cons (ps_fld (pv 0) (C8.pe_mk (c_Past_init T) hr (by decide) rfl (pa_cons (pv 1) pa_nil)) rfl)
    (pss_one (ps_fld (pv 0) (pe_lst pa_nil) rfl)))), ?_⟩
    refine ⟨_, rfl, f, fr, rfl, hf, fo, fun H1 s1 => ⟨true, rfl, iteF ?_⟩⟩
    have hy1 := s1 _ _ hy
    refine ⟨_, rfl, fun p dp np ndp dne => ⟨p, dp, f, fr, rfl, upd_same, ?_, fun H2 A hP k2 f2 => ⟨rfl, ?_⟩⟩⟩
    · have ha := hf.same s1
      unfold LsAt
      rw [upd_ne (ne_of_none ha np), upd_ne (ne_of_none ha ndp)]
      exact ha
    have k12 : ∀ x o, H1 x = some o → H2 x = some o := fun x o e => k2 x o (ne_of_none e np) (by rw [upd_ne (ne_of_none e np), upd_ne (ne_of_none e ndp)]; exact e)
    have hy2 := k12 _ _ hy1
    have yp : y ≠ p := ne_of_none hy1 np
    have f12 : ∀ x, footP p fr 0 A x → H1 x = none := by
      intro x fx
      rcases f2 x fx with z | z
      · rw [z]
        exact np
      · cases e : H1 x with
        | none => rfl
        | some o =>
          rw [upd_ne (ne_of_none e np), upd_ne (ne_of_none e ndp), e] at z
          cases z
    have nyf : ¬ footP p fr 0 A y := fun z => by
      have := f12 y z
      rw [hy1] at this
      cases this
    refine ⟨_, rfl, y, _, dy, [], rfl, hy2, T.k_Desk, T.n_Desk_past, (by show 0 < 1000; decide), ?_⟩
    have hP3 : PastAt (upd H2 y (.ins (He.ga K "Desk") dy (putF "past" (.ref p) []))) (He.ga K "Past") p fr De.none A := hP.keep fun x o fx e => by
      rw [upd_ne (fun z => nyf (by rw [← z]; exact fx))]
      exact e
    have hy3 : (upd H2 y (.ins (He.ga K "Desk") dy (putF "past" (.ref p) []))) y = some (.ins (He.ga K "Desk") dy [("past", .ref p)]) := upd_same
    have k3 : ∀ x o, x ≠ y → H1 x = some o → (upd H2 y (.ins (He.ga K "Desk") dy (putF "past" (.ref p) []))) x = some o := fun x o nx e => by rw [upd_ne nx]; exact k12 x o e
    generalize upd H2 y (.ins (He.ga K "Desk") dy (putF "past" (.ref p) [])) = H3 at hP3 hy3 k3 ⊢
    refine ⟨Nat.zero_le _, fun L nL => ⟨_, rfl, y, _, dy, _, rfl, same_upd nL _ _ hy3, T.k_Desk, T.n_Desk_lines, (by show 1 < 1000; decide), ?_⟩⟩
    have yL : L ≠ y := Ne.symm (ne_of_none hy3 nL)
    have nLf : ¬ footP p fr 0 A L := fun z => by
      obtain ⟨o, e, _⟩ := hP3.raw.foot z
      rw [nL] at e
      cases e
    have k5 : ∀ x o, x ≠ y → H3 x = some o → (upd (upd H3 L (.lst [])) y (.ins (He.ga K "Desk") dy (putF "lines" (.ref L) [("past", .ref p)]))) x = some o := fun x o nx e => by
      rw [upd_ne nx, upd_ne (ne_of_none e nL)]
      exact e
    have hP5 : PastAt (upd (upd H3 L (.lst [])) y (.ins (He.ga K "Desk") dy (putF "lines" (.ref L) [("past", .ref p)]))) (He.ga K "Past") p fr De.none A := hP3.keep fun x o fx e => k5 x o (fun z => nyf (by rw [← z]; exact fx)) e
    have D5 : DeskAt (upd (upd H3 L (.lst [])) y (.ins (He.ga K "Desk") dy (putF "lines" (.ref L) [("past", .ref p)]))) (He.ga K "Desk") (He.ga K "Past") y fr De.none [] ⟨dy, p, L, A⟩ := ⟨upd_same, hP5, ⟨[], by rw [upd_ne yL, upd_same], All2.nil⟩, nyf, nLf⟩
    refine q _ _ (desk_of D5) (fun x o nx e => k5 x o nx (k3 x o nx (s1 _ _ e))) ?_
    rintro x (z | z | z)
    · exact .inl z
    · have z' : x = L := z
      refine .inr ?_
      rw [z']
      cases e : H L with
      | none => rfl
      | some o =>
        rw [k3 L o yL (s1 _ _ e)] at nL
        cases nL
    · exact .inr (s1.free (f12 x z))
def spPut (K : PySem.W.Frag) : Sp := fun vs H Q _ => ∃ (d : Addr) (fr : List Int) (S : De) (ls : List Line) (F : Addr → Prop) (p t : Nat) (x : Str) (s o : Option Int), vs = [.ref d, .int p, .int t, .str x, oV s, oV o] ∧ DeK K H d fr S ls F ∧ FrOk fr ∧ S.May fr (.put p t x s o) ∧ S.puts.length < 5000 ∧ ls.length < 5000 ∧
  Goes (He.ga K "Desk") (He.ga K "Past") d fr H F (S.lay p t x s) (ls ++ [.put p t x s o (S.puts.length : Int)]) (Q (.int (S.puts.length : Int)))
theorem De.seen_in {fr : List Int} {S : De} {p t : Nat} {s : Option Int} (h : S.Seen fr p t s) : s ∈ S.seens fr p t := by
  unfold De.seens
  by_cases c : t = 0
  · rw [if_pos c, h.1 c]
    exact List.mem_singleton.mpr rfl
  · rw [if_neg c]
    obtain ⟨k, rfl, v, e1, e2, e3⟩ := h.2 (by omega)
    refine List.mem_map.mpr ⟨((k : Int), v.x), evG_mem.mpr ⟨k, v, e1, e2, e3, ?_⟩, rfl⟩
    rw [Nat.zero_add]
/-- lines with one more -/
theorem DeskAt.line {H H1 : Hp} {CD CP d : Addr} {fr : List Int} {S S' : De} {ls : List Line} {B B' : DA} {vs : List V} {n : Line} {q : Addr} (h : DeskAt H CD CP d fr S ls B) (o : Only (footP B.p fr S.n B.A) H H1) (hP : PastAt H1 CP B.p fr S' B'.A) (e1 : B'.dx = B.dx) (e2 : B'.p = B.p) (e3 : B'.L = B.L)
    (nf : ∀ x, footP B.p fr S'.n B'.A x → footP B.p fr S.n B.A x ∨ H x = none) (hv : H B.L = some (.lst vs)) (hq : (upd H1 q (.tup n.vals)) q = some (.tup n.vals)) (nq : H1 q = none) :
    (upd H1 q (.tup n.vals)) B.L = some (.lst vs) ∧ DeskAt (upd (upd H1 q (.tup n.vals)) B.L (.lst (vs ++ [.ref q]))) CD CP d fr S' (ls ++ [n]) B' := by
  obtain ⟨dx, p, L, A⟩ := B
  obtain ⟨dx', p', L', A'⟩ := B'
  cases e1
  cases e2
  cases e3
  have s2 : Same H1 (upd H1 q (.tup n.vals)) := same_upd nq
  have hl1 := o.out _ _ h.nL hv
  have hl2 := s2 _ _ hl1
  have nL' : ¬ footP p fr S'.n A' L := fun z => (nf L z).elim h.nL fun y => by rw [hv] at y; cases y
  have nd' : ¬ footP p fr S'.n A' d := fun z => (nf d z).elim h.nd fun y => by rw [h.obj] at y; cases y
  refine ⟨hl2, ⟨?_, (hP.same s2).keep fun x o fx e => ?_, ?_, nd', nL'⟩⟩
  · have := s2 _ _ (o.out _ _ h.nd h.obj)
    rw [upd_ne (ne_of h.obj hv (fun z => nomatch z))]
    exact this
  · rw [upd_ne (fun z => nL' (by have z' : x = L := z; rw [← z']; exact fx))]
    exact e
  · have tupk : ∀ {a : Addr} {xs : List V}, H a = some (.tup xs) → H1 a = some (.tup xs) := fun {a xs} e => o.out _ _ (fun z => by
      obtain ⟨u, eu, nu⟩ := h.past.raw.foot z
      rw [e] at eu
      exact nu _ (Option.some.inj eu).symm) e
    obtain ⟨ws, hw, ha⟩ := h.lines
    rw [hv] at hw
    cases (HO.lst.inj (Option.some.inj hw))
    have l2 : LnAt (upd H1 q (.tup n.vals)) L ls := ⟨vs, hl2, ha.mono fun _ _ ⟨a, z, u⟩ => ⟨a, z, s2 _ _ (tupk u)⟩⟩
    exact l2.snoc hl2 ⟨q, rfl, hq⟩
theorem sc_Desk_put : FnScope ["self", "phrase", "tongue", "text", "seen", "over", "number"] ["self", "phrase", "tongue", "text", "seen", "over"] (defScope s_Desk_put) := ⟨rfl, rfl, rfl, by decide +kernel, rfl, by decide +kernel, by decide +kernel⟩
theorem c_Desk_put {P : Program} {w : World} {K : PySem.W.Frag} {mg : Str → Option Value} {base : Heap} (T : Tx K mg) : C8.Met P w K mg base 6 (He.ga K "Desk") "put" (spPut K) [] := by
  refine metD T.F_Desk_put T.k_Desk T.m_Desk_put (fun _ _ _ _ _ _ us hl => match us, hl with | [_, _, _, _, _, _], _ => rfl) sc_Desk_put (fun vs H Q E h => ?_) (fun cdv A outer s H vs Q E hr h => ?_)
  · obtain ⟨d, fr, S, ls, F, p, t, x, s0, ov, rfl, _⟩ := h
    rfl
  · obtain ⟨d, fr, S, ls, F, p, t, x, s0, ov, rfl, hD, fo, may, fw, lw, q⟩ := h
    refine ⟨_, (pss_cons (ps_expr (C8.pe_mt (c_Desk_check_place T) hr (by decide) (pv 0) (pa_cons (pv 1) (pa_cons (pv 2) pa_nil))))
    (pss_cons (ps_expr (C8.pe_mt (c_Desk_check_text T) hr (by decide) (pv 0) (pa_cons (pv 3) pa_nil)))
    (pss_cons (ps_if (pt_not (pt_val (C8.pe_mt (c_Past_was_seen T) hr (by decide) (pe_fld (pv 0) (by rfl)) (pa_cons (pv 1) (pa_cons (pv 2) (pa_cons (pv 4) pa_nil))))))
      (pss_one ps_never)
      pss_nil)
    (pss_cons (ps_if (pt_not (pt_val (C8.pe_mt (c_Past_is_over T) hr (by decide) (pe_fld (pv 0) (by rfl)) (pa_cons (pv 1) (pa_cons (pv 2) (pa_cons (pv 5) pa_nil))))))
      (pss_one ps_never)
      pss_nil)
    (pss_cons (ps_set (i := 6) sc_Desk_put.nd rfl (Or.inl rfl) (C8.pe_mt (c_Past_lay_down T) hr (by decide) (pe_fld (pv 0) (by rfl)) (pa_cons (pv 1) (pa_cons (pv 2) (pa_cons (pv 3) (pa_cons (pv 4) pa_nil))))))
    (pss_cons (ps_expr (pe_bm PySem.F.plainAttrs_list PySem.F.slot_list_append PySem.F.type_list_append mt_append (pe_fld (pv 0) (by rfl)) (pa_cons (pe_tup (pa_cons pe_str (pa_cons (pv 1) (pa_cons (pv 2) (pa_cons (pv 3) (pa_cons (pv 4) (pa_cons (pv 5) (pa_cons (pv 6) pa_nil)))))))) pa_nil)))
    (pss_one (ps_ret (pv 6))))))))), ?_⟩
    obtain ⟨hp, ht, tx, eo, sn⟩ := may
    obtain ⟨B, hB, hF, h3⟩ := id hD
    refine ⟨_, rfl, d, _, _, rfl, hB.obj, rfl, _, rfl, _, rfl, d, fr, S, ls, F, p, t, rfl, hD, hp, ht, ?_⟩
    refine ⟨_, rfl, d, _, _, rfl, hB.obj, rfl, _, rfl, d, x, rfl, tx, fun H1 s1 => ?_⟩
    have hB1 : DeskAt H1 (He.ga K "Desk") (He.ga K "Past") d fr S ls B := hB.keep (fun x o _ e => s1 _ _ e) (fun _ _ e => s1 _ _ e)
    refine ⟨_, rfl, d, _, _, _, _, rfl, hB1.obj, T.k_Desk, T.n_Desk_past, df_past _ _, B.p, _, _, rfl, hB1.past.raw.obj, rfl, _, rfl, _, rfl, _, rfl, B.p, fr, S, B.A, p, t, s0, rfl, hB1.past, fo, hp, ht, fun H2 s2 => ⟨true, by rw [decide_eq_true (De.seen_in sn)], iteF ?_⟩⟩
    have hB2 : DeskAt H2 (He.ga K "Desk") (He.ga K "Past") d fr S ls B := hB1.keep (fun x o _ e => s2 _ _ e) (fun _ _ e => s2 _ _ e)
    refine ⟨_, rfl, d, _, _, _, _, rfl, hB2.obj, T.k_Desk, T.n_Desk_past, df_past _ _, B.p, _, _, rfl, hB2.past.raw.obj, rfl, _, rfl, _, rfl, _, rfl, B.p, fr, S, B.A, p, t, ov, rfl, hB2.past, hp, ht, fun H3 s3 => ⟨true, by rw [decide_eq_true eo], iteF ?_⟩⟩
    have hB3 : DeskAt H3 (He.ga K "Desk") (He.ga K "Past") d fr S ls B := hB2.keep (fun x o _ e => s3 _ _ e) (fun _ _ e => s3 _ _ e)
    have s03 := (s1.trans s2).trans s3
    refine ⟨_, rfl, d, _, _, _, _, rfl, hB3.obj, T.k_Desk, T.n_Desk_past, df_past _ _, B.p, _, _, rfl, hB3.past.raw.obj, rfl, _, rfl, _, rfl, _, rfl, _, rfl, B.p, fr, S, B.A, p, t, x, s0, rfl, hB3.past, hp, ht, fw, fun H4 hP4 o4 => ?_⟩
    obtain ⟨vs, hv, hal⟩ := hB3.lines
    have hd4 := o4.out _ _ hB3.nd hB3.obj
    have hL4 := o4.out _ _ hB3.nL hv
    refine ⟨_, rfl, d, _, _, _, _, rfl, hd4, T.k_Desk, T.n_Desk_lines, df_lines _ _, .inl ⟨rfl, _, SqL.of hL4⟩, _, rfl, _, rfl, _, rfl, _, rfl, _, rfl, _, rfl, (by show 7 ≤ sizeLine; decide), fun b nb => ?_⟩
    obtain ⟨hl5, hB5⟩ := hB3.line (B' := B) (n := .put p t x s0 ov (S.puts.length : Int)) (q := b) o4 hP4 rfl rfl rfl (fun x z => .inl z) hv upd_same nb
    refine ⟨B.L, _, _, rfl, rfl, hl5, by rw [hal.len]; exact small5000 (by omega), ?_⟩
    refine ⟨_, rfl, q _ _ (desk_of hB5) ?_ ?_⟩
    · have o5 := (o4.same (same_upd nb (o := .tup (Line.put p t x s0 ov (S.puts.length : Int)).vals))).mono (G := F) fun x z => hF x (.inr (.inr z))
      have o6 := o5.set (y := B.L) (o := .lst (vs ++ [V.ref b])) (hF _ (.inr (.inl rfl)))
      exact (only_same s03).trans o6
    · exact fun x z => .inl (hF x z)
def spPhrase (K : PySem.W.Frag) : Sp := fun vs H Q _ => ∃ (d : Addr) (fr : List Int) (S : De) (ls : List Line) (F : Addr → Prop) (x : Str), vs = [.ref d, .str x] ∧ DeK K H d fr S ls F ∧ FrOk fr ∧ S.Ok fr ∧ S.May fr (.phrase x) ∧ S.puts.length < 5000 ∧ ls.length < 5000 ∧
  Goes (He.ga K "Desk") (He.ga K "Past") d fr H F (S.more.lay S.n 0 x none) (ls ++ [.phrase S.n x (S.puts.length : Int)]) (Q (.int (S.n : Int)))
theorem sc_Desk_phrase : FnScope ["self", "text", "phrase", "number"] ["self", "text"] (defScope s_Desk_phrase) := ⟨rfl, rfl, rfl, by decide +kernel, rfl, by decide +kernel, by decide +kernel⟩
theorem c_Desk_phrase {P : Program} {w : World} {K : PySem.W.Frag} {mg : Str → Option Value} {base : Heap} (T : Tx K mg) : C8.Met P w K mg base 3 (He.ga K "Desk") "phrase" (spPhrase K) [] := by
  refine metD T.F_Desk_phrase T.k_Desk T.m_Desk_phrase (fun _ _ _ _ _ _ us hl => match us, hl with | [_, _], _ => rfl) sc_Desk_phrase (fun vs H Q E h => ?_) (fun cdv A outer s H vs Q E hr h => ?_)
  · obtain ⟨d, fr, S, ls, F, x, rfl, _⟩ := h
    rfl
  · obtain ⟨d, fr, S, ls, F, x, rfl, hD, fo, ok, may, fw, lw, q⟩ := h
    refine ⟨_, (pss_cons (ps_expr (C8.pe_mt (c_Desk_check_text T) hr (by decide) (pv 0) (pa_cons (pv 1) pa_nil)))
    (pss_cons (ps_if (pt_cmpR op_ge (pe_fld (pe_fld (pv 0) (by rfl)) (by rfl)) (pe_glob (v := .int 6) rfl (T.g_MOST_PHRASES).choose_spec ⟨_, rfl⟩) (nomark _))
      (pss_one ps_never)
      pss_nil)
    (pss_cons (ps_set (i := 2) sc_Desk_phrase.nd rfl (Or.inl rfl) (C8.pe_mt0 (c_Past_begin_phrase T) hr (by decide) (pe_fld (pv 0) (by rfl))))
    (pss_cons (ps_set (i := 3) sc_Desk_phrase.nd rfl (Or.inl rfl) (C8.pe_mt (c_Past_lay_down T) hr (by decide) (pe_fld (pv 0) (by rfl)) (pa_cons (pv 2) (pa_cons pe_int (pa_cons (pv 1) (pa_cons pe_non pa_nil))))))
    (pss_cons (ps_expr (pe_bm PySem.F.plainAttrs_list PySem.F.slot_list_append PySem.F.type_list_append mt_append (pe_fld (pv 0) (by rfl)) (pa_cons (pe_tup (pa_cons pe_str (pa_cons (pv 2) (pa_cons (pv 1) (pa_cons (pv 3) pa_nil))))) pa_nil)))
    (pss_one (ps_ret (pv 2)))))))), ?_⟩
    obtain ⟨n6, tx⟩ := may
    obtain ⟨B, hB, hF, h3⟩ := id hD
    refine ⟨_, rfl, d, _, _, rfl, hB.obj, rfl, _, rfl, d, x, rfl, tx, fun H1 s1 => ?_⟩
    have hB1 : DeskAt H1 (He.ga K "Desk") (He.ga K "Past") d fr S ls B := hB.keep (fun x o _ e => s1 _ _ e) (fun _ _ e => s1 _ _ e)
    refine ⟨_, rfl, d, _, _, _, _, rfl, hB1.obj, T.k_Desk, T.n_Desk_past, df_past _ _, B.p, _, _, _, _, rfl, hB1.past.raw.obj, T.k_Past, T.n_Past_phrases, pf_phrases _ _, _, _, rfl, rfl, false, congrArg V.bl (decide_eq_false (by omega)), iteF ?_⟩
    refine ⟨_, rfl, d, _, _, _, _, rfl, hB1.obj, T.k_Desk, T.n_Desk_past, df_past _ _, B.p, _, _, rfl, hB1.past.raw.obj, rfl, B.p, fr, S, B.A, rfl, hB1.past, ok, fo, n6, fun H2 A2 hP2 o2 f2 => ?_⟩
    have hd2 := o2.out _ _ hB1.nd hB1.obj
    refine ⟨_, rfl, d, _, _, _, _, rfl, hd2, T.k_Desk, T.n_Desk_past, df_past _ _, B.p, _, _, rfl, hP2.raw.obj, rfl, _, rfl, _, rfl, B.p, fr, S.more, A2, S.n, 0, x, none, rfl, hP2, Nat.lt_succ_self _, Nat.zero_le _, fw, fun H4 hP4 o4' => ?_⟩
    have o4 : Only (footP B.p fr S.n B.A) H1 H4 := by
      refine ⟨fun y o n e => o4'.out y o (fun z => (f2 y z).elim n fun w => by rw [e] at w; cases w) (o2.out y o n e), fun y o e => ?_⟩
      obtain ⟨u, eu⟩ := o2.grow y o e
      exact o4'.grow y u eu
    obtain ⟨vs, hv, hal⟩ := hB1.lines
    have hd4 := o4.out _ _ hB1.nd hB1.obj
    have hL4 := o4.out _ _ hB1.nL hv
    refine ⟨_, rfl, d, _, _, _, _, rfl, hd4, T.k_Desk, T.n_Desk_lines, df_lines _ _, .inl ⟨rfl, _, SqL.of hL4⟩, _, rfl, _, rfl, _, rfl, (by show 4 ≤ sizeLine; decide), fun b nb => ?_⟩
    obtain ⟨hl5, hB5⟩ := hB1.line (B' := ⟨B.dx, B.p, B.L, A2⟩) (n := .phrase S.n x (S.puts.length : Int)) (q := b) o4 hP4 rfl rfl rfl f2 hv upd_same nb
    refine ⟨B.L, _, _, rfl, rfl, hl5, by rw [hal.len]; exact small5000 (by omega), ?_⟩
    refine ⟨_, rfl, q _ _ (desk_of hB5) ?_ ?_⟩
    · have o5 := (o4.same (same_upd nb (o := .tup (Line.phrase S.n x (S.puts.length : Int)).vals))).mono (G := F) fun x z => hF x (.inr (.inr z))
      have o6 := o5.set (y := B.L) (o := .lst (vs ++ [V.ref b])) (hF _ (.inr (.inl rfl)))
      exact (only_same s1).trans o6
    · rintro y (z | z | z)
      · exact .inl (hF y (.inl z))
      · exact .inl (hF y (.inr (.inl z)))
      · exact (f2 y z).imp (fun w => hF y (.inr (.inr w))) (fun w => s1.free w)
def spBack (K : PySem.W.Frag) : Sp := fun vs H Q _ => ∃ (d : Addr) (fr : List Int) (S : De) (ls : List Line) (F : Addr → Prop) (p t : Nat) (k : Int), vs = [.ref d, .int p, .int t] ∧ DeK K H d fr S ls F ∧ S.May fr (.back p t) ∧ S.now p t = some k ∧ ls.length < 5000 ∧
  Goes (He.ga K "Desk") (He.ga K "Past") d fr H F (S.off p t) (ls ++ [.back p t k]) (Q (.int k))
theorem sc_Desk_back : FnScope ["self", "phrase", "tongue", "number"] ["self", "phrase", "tongue"] (defScope s_Desk_back) := ⟨rfl, rfl, rfl, by decide +kernel, rfl, by decide +kernel, by decide +kernel⟩
theorem c_Desk_back {P : Program} {w : World} {K : PySem.W.Frag} {mg : Str → Option Value} {base : Heap} (T : Tx K mg) : C8.Met P w K mg base 6 (He.ga K "Desk") "back" (spBack K) [] := by
  refine metD T.F_Desk_back T.k_Desk T.m_Desk_back (fun _ _ _ _ _ _ us hl => match us, hl with | [_, _, _], _ => rfl) sc_Desk_back (fun vs H Q E h => ?_) (fun cdv A outer s H vs Q E hr h => ?_)
  · obtain ⟨d, fr, S, ls, F, p, t, k, rfl, _⟩ := h
    rfl
  · obtain ⟨d, fr, S, ls, F, p, t, k, rfl, hD, may, ek, lw, q⟩ := h
    refine ⟨_, (pss_cons (ps_expr (C8.pe_mt (c_Desk_check_place T) hr (by decide) (pv 0) (pa_cons (pv 1) (pa_cons (pv 2) pa_nil))))
    (pss_cons (ps_if (pt_not (pt_val (C8.pe_mt (c_Past_can_take_off T) hr (by decide) (pe_fld (pv 0) (by rfl)) (pa_cons (pv 1) (pa_cons (pv 2) pa_nil)))))
      (pss_one ps_never)
      pss_nil)
    (pss_cons (ps_set (i := 3) sc_Desk_back.nd rfl (Or.inl rfl) (C8.pe_mt (c_Past_take_off T) hr (by decide) (pe_fld (pv 0) (by rfl)) (pa_cons (pv 1) (pa_cons (pv 2) pa_nil))))
    (pss_cons (ps_expr (pe_bm PySem.F.plainAttrs_list PySem.F.slot_list_append PySem.F.type_list_append mt_append (pe_fld (pv 0) (by rfl)) (pa_cons (pe_tup (pa_cons pe_str (pa_cons (pv 1) (pa_cons (pv 2) (pa_cons (pv 3) pa_nil))))) pa_nil)))
    (pss_one (ps_ret (pv 3))))))), ?_⟩
    obtain ⟨hp, ht, hl⟩ := may
    obtain ⟨B, hB, hF, h3⟩ := id hD
    refine ⟨_, rfl, d, _, _, rfl, hB.obj, rfl, _, rfl, _, rfl, d, fr, S, ls, F, p, t, rfl, hD, hp, ht, ?_⟩
    refine ⟨_, rfl, d, _, _, _, _, rfl, hB.obj, T.k_Desk, T.n_Desk_past, df_past _ _, B.p, _, _, rfl, hB.past.raw.obj, rfl, _, rfl, _, rfl, B.p, fr, S, B.A, p, t, rfl, hB.past, hp, ht, fun H1 s1 => ⟨true, by rw [decide_eq_true hl], iteF ?_⟩⟩
    have hB1 : DeskAt H1 (He.ga K "Desk") (He.ga K "Past") d fr S ls B := hB.keep (fun x o _ e => s1 _ _ e) (fun _ _ e => s1 _ _ e)
    refine ⟨_, rfl, d, _, _, _, _, rfl, hB1.obj, T.k_Desk, T.n_Desk_past, df_past _ _, B.p, _, _, rfl, hB1.past.raw.obj, rfl, _, rfl, _, rfl, B.p, fr, S, B.A, p, t, k, rfl, hB1.past, hp, ht, ek, fun H4 hP4 o4 => ?_⟩
    obtain ⟨vs, hv, hal⟩ := hB1.lines
    have hd4 := o4.out _ _ hB1.nd hB1.obj
    have hL4 := o4.out _ _ hB1.nL hv
    refine ⟨_, rfl, d, _, _, _, _, rfl, hd4, T.k_Desk, T.n_Desk_lines, df_lines _ _, .inl ⟨rfl, _, SqL.of hL4⟩, _, rfl, _, rfl, _, rfl, (by show 4 ≤ sizeLine; decide), fun b nb => ?_⟩
    obtain ⟨hl5, hB5⟩ := hB1.line (B' := B) (n := .back p t k) (q := b) o4 hP4 rfl rfl rfl (fun x z => .inl z) hv upd_same nb
    refine ⟨B.L, _, _, rfl, rfl, hl5, by rw [hal.len]; exact small5000 (by omega), ?_⟩
    refine ⟨_, rfl, q _ _ (desk_of hB5) ?_ ?_⟩
    · have o5 := (o4.same (same_upd nb (o := .tup (Line.back p t k).vals))).mono (G := F) fun x z => hF x (.inr (.inr z))
      have o6 := o5.set (y := B.L) (o := .lst (vs ++ [V.ref b])) (hF _ (.inr (.inl rfl)))
      exact (only_same s1).trans o6
    · exact fun x z => .inl (hF x z)

theorem De.fresh_up {fr : List Int} {S : De} {q t : Nat} (fo : FrOk fr) (t0 : 0 < t) (t1 : t ≤ fr.length) (h : chain fr (S.row (fr.length + 1) q) t = Option.none) : ∃ k, S.now q (up fr t) = some k := by
  rw [chain_step fo t0 t1] at h
  have hu := up_lt fo t0 t1
  cases e : S.now q (up fr t) with
  | some k => exact ⟨k, rfl⟩
  | none =>
    exfalso
    have b : brk fr (S.row (fr.length + 1) q) t = true := by
      have z : (S.row (fr.length + 1) q).getD (up fr t) Option.none = Option.none := by
        rw [List.getD_eq_getElem?_getD, De.row_at (by omega)]
        unfold De.cell
        rw [e]
        rfl
      unfold brk
      rw [z]
      cases (S.row (fr.length + 1) q).getD t Option.none <;> rfl
    rw [b] at h
    cases h
def De.oth (fr : List Int) (S : De) (p t q : Nat) : Bool := decide (q ≠ p) && (chain fr (S.row (fr.length + 1) q) t).isNone
theorem De.like_eq {fr : List Int} {S : De} {p q t : Nat} (fo : FrOk fr) (t0 : 0 < t) (t1 : t ≤ fr.length) : S.like fr p t q = (S.oth fr p t q && decide (S.tV q (up fr t) = S.tV p (up fr t))) := by
  unfold De.like De.oth
  by_cases c1 : q ≠ p
  case neg => rw [decide_eq_false c1, Bool.false_and, Bool.false_and, Bool.false_and]
  rw [decide_eq_true c1, Bool.true_and, Bool.true_and]
  cases ec : chain fr (S.row (fr.length + 1) q) t with
  | some c => simp
  | none =>
    obtain ⟨k, ek⟩ := De.fresh_up fo t0 t1 ec
    unfold De.tV De.tx
    rw [ek]
    cases em : S.now p (up fr t) with
    | none => rfl
    | some m =>
      simp only [Option.isSome_some, Option.isNone_none, Bool.true_and, Bool.and_true]
      refine decide_eq_decide.mpr ⟨fun z => by rw [z], fun z => (V.str.inj z).symm⟩
theorem filter_found {fr : List Int} {S : De} {p t n : Nat} (fo : FrOk fr) (t0 : 0 < t) (t1 : t ≤ fr.length) : (((List.range n).filter (S.oth fr p t)).filter fun q => decide (S.tV q (up fr t) = S.tV p (up fr t))) = (List.range n).filter (S.like fr p t) := by
  rw [List.filter_filter]
  congr 1
  funext q
  rw [De.like_eq fo t0 t1, Bool.and_comm]
theorem range_filter_lt {n : Nat} {f : Nat → Bool} {i q : Nat} (h : ((List.range n).filter f)[i]? = some q) : q < n ∧ f q = true := by
  have := List.mem_of_getElem? h
  rw [List.mem_filter, List.mem_range] at this
  exact this
def nats (l : List Nat) : List V := l.map fun (q : Nat) => V.int (q : Int)
theorem nats_at {l : List Nat} {i : Nat} {v : V} (h : (nats l)[i]? = some v) : ∃ q, l[i]? = some q ∧ v = .int (q : Int) := by
  unfold nats at h
  rw [List.getElem?_map] at h
  cases e : l[i]? with
  | none =>
    rw [e] at h
    cases h
  | some q =>
    rw [e] at h
    exact ⟨q, rfl, (Option.some.inj h).symm⟩
def spDLikes (K : PySem.W.Frag) : Sp := fun vs H Q _ => ∃ (d : Addr) (fr : List Int) (S : De) (ls : List Line) (F : Addr → Prop) (p t : Nat), vs = [.ref d, .int p, .int t] ∧ DeK K H d fr S ls F ∧ S.Ok fr ∧ FrOk fr ∧ p < S.n ∧ 0 < t ∧ t ≤ fr.length ∧
  ∀ (H' : Hp) (a : Addr) (ts : List Str), Same H H' → H a = none → H' a = some (.lst (ts.map V.str)) → sortedS ts = true → ts.Nodup → (∀ y, y ∈ ts ↔ y ∈ S.found fr p t S.n) → Q (.ref a) H'
theorem sc_Desk_likes : FnScope ["self", "phrase", "tongue", "above", "text", "others", "same", "other"] ["self", "phrase", "tongue"] (defScope s_Desk_likes) := ⟨rfl, rfl, rfl, by decide +kernel, rfl, by decide +kernel, by decide +kernel⟩
theorem c_Desk_likes {P : Program} {w : World} {K : PySem.W.Frag} {mg : Str → Option Value} {base : Heap} (T : Tx K mg) : C8.Met P w K mg base 5 (He.ga K "Desk") "likes" (spDLikes K) [] := by
  refine metD T.F_Desk_likes T.k_Desk T.m_Desk_likes (fun _ _ _ _ _ _ us hl => match us, hl with | [_, _, _], _ => rfl) sc_Desk_likes (fun vs H Q E h => ?_) (fun cdv A outer s H vs Q E hr h => ?_)
  · obtain ⟨d, fr, S, ls, F, p, t, rfl, _⟩ := h
    rfl
  · obtain ⟨d, fr, S, ls, F, p, t, rfl, hD, ok, fo, hp, t0, t1, q⟩ := h
    refine ⟨_, (pss_cons (ps_expr (C8.pe_mt (c_Desk_check_phrase T) hr (by decide) (pv 0) (pa_cons (pv 1) pa_nil)))
    (pss_cons (ps_expr (C8.pe_mt (c_Desk_check_other_tongue T) hr (by decide) (pv 0) (pa_cons (pv 2) pa_nil)))
    (pss_cons (ps_set (i := 3) sc_Desk_likes.nd rfl (Or.inr rfl) (C8.pe_c (c_put_from T) hr (by decide) rfl (pa_cons (pe_fld (pe_fld (pv 0) (by rfl)) (by rfl)) (pa_cons (pv 2) pa_nil))))
    (pss_cons (ps_set (i := 4) sc_Desk_likes.nd rfl (Or.inr rfl) (C8.pe_mt (c_Past_text_standing T) hr (by decide) (pe_fld (pv 0) (by rfl)) (pa_cons (pv 1) (pa_cons (pv 3) pa_nil))))
    (pss_cons (ps_setLc (i := 5) (own := [("other", 7)]) (g := gName 7) (by rfl) sc_Desk_likes.nd rfl rfl (sw_true rfl rfl rfl (by decide +kernel)) (pi_range1 (by rfl) T.f_range (pa_cons (pe_fld (pe_fld (pv 0) (by rfl)) (by rfl)) pa_nil)) (blkOk_by (own := [("other", 7)]) (N := ["self", "phrase", "tongue", "above", "text", "others", "same", "other"]) (sc := defScope s_Desk_likes) (by decide +kernel)) (fun _ _ _ _ _ => (pg_name (i := 7) sc_Desk_likes.nd rfl (Or.inl rfl))) (fun _ _ _ _ _ => (pts_one (PW.pt (pw_and (pt_cmpR op_ne (pv 7) (pv 1) (nomark _)) (pw_and1 (pt_val (C8.pe_mt (c_Desk_is_fresh T) hr (by decide) (pv 0) (pa_cons (pv 7) (pa_cons (pv 2) pa_nil))))))))) (fun _ _ _ _ _ => (pv 7)))
    (pss_cons (ps_setLc (i := 6) (own := [("other", 7)]) (g := gName 7) (by rfl) sc_Desk_likes.nd rfl rfl (sw_true rfl rfl rfl (by decide +kernel)) (pi_list (pv 5)) (blkOk_by (own := [("other", 7)]) (N := ["self", "phrase", "tongue", "above", "text", "others", "same", "other"]) (sc := defScope s_Desk_likes) (by decide +kernel)) (fun _ _ _ _ _ => (pg_name (i := 7) sc_Desk_likes.nd rfl (Or.inl rfl))) (fun _ _ _ _ _ => (pts_one (pt_cmpR op_eq (C8.pe_mt (c_Past_text_standing T) hr (by decide) (pe_fldK (K := K) (by rfl) (pv 0) (by rfl)) (pa_cons (pv 7) (pa_cons (pv 3) pa_nil))) (pv 4) (nomark _)))) (fun _ _ _ _ _ => (pv 7)))
    (pss_one (ps_ret (pe_srt rfl (by rfl) T.f_sorted (by rfl) T.f_set (pe_lc (own := [("other", 7)]) (g := gName 7) (tt := tYes) (by rfl) sc_Desk_likes.nd (pi_list (pv 6)) (blkOk_by (own := [("other", 7)]) (N := ["self", "phrase", "tongue", "above", "text", "others", "same", "other"]) (sc := defScope s_Desk_likes) (by decide +kernel)) (fun _ _ _ _ _ => (pg_name (i := 7) sc_Desk_likes.nd rfl (Or.inl rfl))) (fun _ _ _ _ _ => pts_nil) (fun _ _ _ _ _ => (C8.pe_mt (c_Past_text_standing T) hr (by decide) (pe_fldK (K := K) (by rfl) (pv 0) (by rfl)) (pa_cons (pv 7) (pa_cons (pv 2) pa_nil)))))))))))))), ?_⟩
    obtain ⟨B, hB, hF, h3⟩ := id hD
    obtain ⟨x, ex, x0, xl, xu⟩ := fo.at t0 t1
    subst xu
    have hu := up_lt fo t0 t1
    have n6 := ok.six
    refine ⟨_, rfl, d, _, _, rfl, hB.obj, rfl, _, rfl, d, fr, S, ls, F, p, rfl, hD, hp, ?_⟩
    refine ⟨_, rfl, d, _, _, rfl, hB.obj, rfl, _, rfl, d, fr, S, ls, F, t, rfl, hD, t0, t1, ?_⟩
    refine ⟨_, rfl, d, _, _, _, _, rfl, hB.obj, T.k_Desk, T.n_Desk_past, df_past _ _, B.p, _, _, _, _, rfl, hB.past.raw.obj, T.k_Past, T.n_Past_froms, pf_froms _ _, _, rfl, B.A.f, fr, t, _, rfl, hB.past.raw.frm, t0, ex, ?_⟩
    refine ⟨_, rfl, d, _, _, _, _, rfl, hB.obj, T.k_Desk, T.n_Desk_past, df_past _ _, B.p, _, _, rfl, hB.past.raw.obj, rfl, _, rfl, _, rfl, B.p, fr, S, B.A, p, up fr t, rfl, hB.past, ok.num, hp, by omega, fun H1 s1 => ?_⟩
    have hB1 : DeskAt H1 (He.ga K "Desk") (He.ga K "Past") d fr S ls B := hB.keep (fun x o _ e => s1 _ _ e) (fun _ _ e => s1 _ _ e)
    refine ⟨_, rfl, d, _, _, _, _, rfl, hB1.obj, T.k_Desk, T.n_Desk_past, df_past _ _, B.p, _, _, _, _, rfl, hB1.past.raw.obj, T.k_Past, T.n_Past_phrases, pf_phrases _ _, _, rfl, by omega, by omega, fun D nD => ?_⟩
    refine lc_range (lo := 0) (n := (S.n : Int).toNat) (fun i H2 => Same H1 H2 ∧ H2 D = some (.lst (nats ((List.range i).filter (S.oth fr p t))))) ⟨same_upd nD, upd_same⟩ ?_ ?_
    · rintro i H2 hi ⟨s2, hD2⟩
      rw [show (0 + (i : Int)) = (i : Int) from Int.zero_add _]
      have hin : i < S.n := by omega
      have flen : ((List.range i).filter (S.oth fr p t)).length ≤ i := by
        have := List.length_filter_le (S.oth fr p t) (List.range i)
        rw [List.length_range] at this
        exact this
      refine ⟨rfl, _, rfl, _, rfl, rfl, !decide (i = p), congrArg (fun b => V.bl (!b)) dec_nat, ?_⟩
      by_cases c1 : i = p
      · rw [decide_eq_true c1]
        refine iteF (iteF ⟨s2, ?_⟩)
        rw [List.range_succ, List.filter_append, List.filter_cons_of_neg (by unfold De.oth; rw [decide_eq_false (fun z => z c1)]; simp), List.filter_nil, List.append_nil]
        exact hD2
      rw [decide_eq_false c1]
      refine iteT ⟨_, rfl, d, _, _, rfl, s2 _ _ hB1.obj, rfl, _, rfl, _, rfl, d, fr, S, ls, F, i, t, rfl, (hD.same s1).same s2, ok, fo, hin, t1, fun H3 s3 => ⟨_, rfl, ?_⟩⟩
      have eo : S.oth fr p t i = (chain fr (S.row (fr.length + 1) i) t).isNone := by
        unfold De.oth
        rw [decide_eq_true c1, Bool.true_and]
      cases c2 : (chain fr (S.row (fr.length + 1) i) t).isNone with
      | true =>
        rw [c2] at eo
        refine iteT ⟨_, rfl, _, s3 _ _ hD2, ?_, Same.chg (s2.trans s3) nD, ?_⟩
        · unfold nats
          rw [List.length_map]
          exact small1000 (by omega)
        · rw [upd_same, List.range_succ, List.filter_append, List.filter_cons_of_pos eo, List.filter_nil]
          unfold nats
          rw [List.map_append]
          rfl
      | false =>
        rw [c2] at eo
        refine iteF ⟨s2.trans s3, ?_⟩
        rw [List.range_succ, List.filter_append, List.filter_cons_of_neg (by rw [eo]; decide), List.filter_nil, List.append_nil]
        exact s3 _ _ hD2
    rintro H2 ⟨s2, hD2⟩
    rw [show (S.n : Int).toNat = S.n by omega] at hD2
    have s02 := s1.trans s2
    have hB2 : DeskAt H2 (He.ga K "Desk") (He.ga K "Past") d fr S ls B := hB1.keep (fun x o _ e => s2 _ _ e) (fun _ _ e => s2 _ _ e)
    generalize hO : (List.range S.n).filter (S.oth fr p t) = O at hD2
    have Olen : O.length ≤ 6 := by
      rw [← hO]
      have := List.length_filter_le (S.oth fr p t) (List.range S.n)
      rw [List.length_range] at this
      omega
    refine ⟨_, rfl, D, rfl, ⟨_, SqL.of hD2⟩, fun G nG => ?_⟩
    refine lc_list (K := K) (a := D) (xs := nats O) (fun i H3 => Same H2 H3 ∧ H3 G = some (.lst (nats ((O.take i).filter fun q => decide (S.tV q (up fr t) = S.tV p (up fr t)))))) ⟨same_upd nG, upd_same⟩ (fun i H3 _ z => SqL.of (z.1 _ _ hD2)) ?_ ?_
    · rintro i v H3 hv ⟨s3, hG⟩
      obtain ⟨r, er, rfl⟩ := nats_at hv
      have hr := range_filter_lt (by rw [hO]; exact er)
      have tk : O.take (i + 1) = O.take i ++ [r] := by rw [List.take_add_one, er]; rfl
      refine ⟨rfl, _, rfl, d, _, _, _, _, rfl, s3 _ _ hB2.obj, T.k_Desk, T.n_Desk_past, df_past _ _, B.p, _, _, rfl, s3 _ _ hB2.past.raw.obj, rfl, _, rfl, _, rfl, B.p, fr, S, B.A, r, up fr t, rfl, hB2.past.same s3, ok.num, hr.1, by omega, fun H4 s4 => ⟨_, rfl, ?_⟩⟩
      have tlen : ((O.take i).filter fun q => decide (S.tV q (up fr t) = S.tV p (up fr t))).length ≤ 6 := by
        have h1 := List.length_filter_le (fun q => decide (S.tV q (up fr t) = S.tV p (up fr t))) (O.take i)
        rw [List.length_take] at h1
        omega
      refine ⟨by unfold De.tV; cases S.now r (up fr t) <;> cases S.now p (up fr t) <;> rfl, decide (S.tV r (up fr t) = S.tV p (up fr t)), rfl, ?_⟩
      by_cases c : S.tV r (up fr t) = S.tV p (up fr t)
      · rw [decide_eq_true c]
        refine iteT ⟨_, rfl, _, s4 _ _ hG, ?_, Same.chg (s3.trans s4) nG, ?_⟩
        · unfold nats
          rw [List.length_map]
          exact small1000 (by omega)
        · rw [upd_same, tk, List.filter_append, List.filter_cons_of_pos (p := fun q => decide (S.tV q (up fr t) = S.tV p (up fr t))) (decide_eq_true c), List.filter_nil]
          unfold nats
          rw [List.map_append]
          rfl
      · rw [decide_eq_false c]
        refine iteF ⟨s3.trans s4, ?_⟩
        rw [tk, List.filter_append, List.filter_cons_of_neg (p := fun q => decide (S.tV q (up fr t) = S.tV p (up fr t))) (by show ¬ decide (S.tV r (up fr t) = S.tV p (up fr t)) = true; rw [decide_eq_false c]; decide), List.filter_nil, List.append_nil]
        exact s4 _ _ hG
    rintro H3 ⟨s3, hG⟩
    rw [show (nats O).length = O.length from List.length_map _, List.take_length, ← hO, filter_found fo t0 t1] at hG
    have s03 := s02.trans s3
    have hB3 : DeskAt H3 (He.ga K "Desk") (He.ga K "Past") d fr S ls B := hB2.keep (fun x o _ e => s3 _ _ e) (fun _ _ e => s3 _ _ e)
    refine ⟨_, rfl, G, rfl, ⟨_, SqL.of hG⟩, fun R nR => ?_⟩
    refine lc_list (K := K) (a := G) (xs := nats ((List.range S.n).filter (S.like fr p t))) (fun i H4 => Same H3 H4 ∧ H4 R = some (.lst (((((List.range S.n).filter (S.like fr p t)).take i).map fun q => S.tx q t).map V.str))) ⟨same_upd nR, upd_same⟩ (fun i H4 _ z => SqL.of (z.1 _ _ hG)) ?_ ?_
    · rintro i v H4 hv ⟨s4, hR⟩
      obtain ⟨r, er, rfl⟩ := nats_at hv
      have hr := range_filter_lt er
      have hc : chain fr (S.row (fr.length + 1) r) t = none := by
        have := hr.2
        rw [De.like_eq fo t0 t1] at this
        unfold De.oth at this
        rw [Bool.and_eq_true, Bool.and_eq_true] at this
        exact Option.isNone_iff_eq_none.mp this.1.2
      obtain ⟨k, ek⟩ := De.fresh_now fo t0 t1 hc
      have etx : S.tV r t = .str (S.tx r t) := by
        unfold De.tV De.tx
        rw [ek]
      refine ⟨rfl, _, rfl, d, _, _, _, _, rfl, s4 _ _ hB3.obj, T.k_Desk, T.n_Desk_past, df_past _ _, B.p, _, _, rfl, s4 _ _ hB3.past.raw.obj, rfl, _, rfl, _, rfl, B.p, fr, S, B.A, r, t, rfl, hB3.past.same s4, ok.num, hr.1, t1, fun H5 s5 => ⟨_, s5 _ _ hR, ?_, Same.chg (s4.trans s5) nR, ?_⟩⟩
      · rw [List.length_map, List.length_map, List.length_take]
        have h1 := List.length_filter_le (S.like fr p t) (List.range S.n)
        rw [List.length_range] at h1
        exact small1000 (by omega)
      · rw [upd_same, List.take_add_one, er, Option.toList_some, List.map_append, List.map_append, etx]
        rfl
    rintro H4 ⟨s4, hR⟩
    rw [show (nats ((List.range S.n).filter (S.like fr p t))).length = ((List.range S.n).filter (S.like fr p t)).length from List.length_map _, List.take_length] at hR
    have fl := De.found_len (fr := fr) (S := S) (p := p) (t := t) (i := S.n)
    refine ⟨R, S.found fr p t S.n, rfl, SqL.of hR, by omega, fun ts a srt nd mem na => ?_⟩
    exact q _ a ts ((s03.trans s4).trans (same_upd na)) ((s03.trans s4).free na) upd_same srt nd mem

def De.open (fr : List Int) (S : De) (p t : Nat) : Prop := chain fr (S.row (fr.length + 1) p) (up fr t) = Option.none ∧ chain fr (S.row (fr.length + 1) p) t ≠ Option.none
def spToFill (K : PySem.W.Frag) : Sp := fun vs H Q _ => ∃ (d : Addr) (fr : List Int) (S : De) (ls : List Line) (F : Addr → Prop) (p t : Nat), vs = [.ref d, .int p, .int t] ∧ DeK K H d fr S ls F ∧ S.Ok fr ∧ FrOk fr ∧ p < S.n ∧ 0 < t ∧ t ≤ fr.length ∧
  ∀ (H' : Hp) (a : Addr) (ts : List Str), Same H H' → H a = none → H' a = some (.lst (ts.map V.str)) → (S.open fr p t → ts.Nodup ∧ ∀ y, y ∈ ts ↔ y ∈ S.found fr p t S.n) → (¬ S.open fr p t → ts = []) → Q (.ref a) H'
theorem sc_Desk_texts_to_fill : FnScope ["self", "phrase", "tongue"] ["self", "phrase", "tongue"] (defScope s_Desk_texts_to_fill) := ⟨rfl, rfl, rfl, by decide +kernel, rfl, by decide +kernel, by decide +kernel⟩
theorem c_Desk_texts_to_fill {P : Program} {w : World} {K : PySem.W.Frag} {mg : Str → Option Value} {base : Heap} (T : Tx K mg) : C8.Met P w K mg base 6 (He.ga K "Desk") "texts_to_fill" (spToFill K) [] := by
  refine metD T.F_Desk_texts_to_fill T.k_Desk T.m_Desk_texts_to_fill (fun _ _ _ _ _ _ us hl => match us, hl with | [_, _, _], _ => rfl) sc_Desk_texts_to_fill (fun vs H Q E h => ?_) (fun cdv A outer s H vs Q E hr h => ?_)
  · obtain ⟨d, fr, S, ls, F, p, t, rfl, _⟩ := h
    rfl
  · obtain ⟨d, fr, S, ls, F, p, t, rfl, hD, ok, fo, hp, t0, t1, q⟩ := h
    refine ⟨_, (pss_cons (ps_if (pt_not (pt_val (C8.pe_c (c_is_broken T) hr (by decide) rfl (pa_cons (pe_fld (pe_fld (pv 0) (by rfl)) (by rfl)) (pa_cons (C8.pe_mt (c_Past_cells T) hr (by decide) (pe_fld (pv 0) (by rfl)) (pa_cons (pv 1) pa_nil)) (pa_cons (pv 2) pa_nil))))))
      (pss_one (ps_ret (pe_lst pa_nil)))
      pss_nil)
    (pss_cons (ps_if (pt_not (pt_val (C8.pe_mt (c_Desk_is_fresh T) hr (by decide) (pv 0) (pa_cons (pv 1) (pa_cons (C8.pe_c (c_put_from T) hr (by decide) rfl (pa_cons (pe_fld (pe_fld (pv 0) (by rfl)) (by rfl)) (pa_cons (pv 2) pa_nil))) pa_nil)))))
      (pss_one (ps_ret (pe_lst pa_nil)))
      pss_nil)
    (pss_one (ps_ret (C8.pe_mt (c_Desk_likes T) hr (by decide) (pv 0) (pa_cons (pv 1) (pa_cons (pv 2) pa_nil))))))), ?_⟩
    obtain ⟨B, hB, hF, h3⟩ := id hD
    obtain ⟨x, ex, x0, xl, xu⟩ := fo.at t0 t1
    subst xu
    have hu := up_lt fo t0 t1
    have cs := chain_step (row := S.row (fr.length + 1) p) fo t0 t1
    refine ⟨_, rfl, d, _, _, _, _, rfl, hB.obj, T.k_Desk, T.n_Desk_past, df_past _ _, B.p, _, _, _, _, rfl, hB.past.raw.obj, T.k_Past, T.n_Past_froms, pf_froms _ _, _, rfl, d, _, _, _, _, rfl, hB.obj, T.k_Desk, T.n_Desk_past, df_past _ _, B.p, _, _, rfl, hB.past.raw.obj, rfl, _, rfl, B.p, fr, S, B.A, p, rfl, hB.past, ok.num, fo, hp, fun H1 r s1 nr hr1 => ?_⟩
    have hB1 : DeskAt H1 (He.ga K "Desk") (He.ga K "Past") d fr S ls B := hB.keep (fun x o _ e => s1 _ _ e) (fun _ _ e => s1 _ _ e)
    refine ⟨_, rfl, B.A.f, fr, r, _, t, rfl, hB1.past.raw.frm, fo, hr1, ok.row hp, t0, t1, brk fr (S.row (fr.length + 1) p) t, rfl, ?_⟩
    cases hb : brk fr (S.row (fr.length + 1) p) t with
    | false =>
      rw [hb, if_neg (by decide)] at cs
      refine iteT ⟨Nat.zero_le _, fun a na => q _ a [] (s1.trans (same_upd na)) (s1.free na) upd_same (fun z => ?_) (fun _ => rfl)⟩
      exfalso
      apply z.2
      rw [cs, z.1]
      rfl
    | true =>
      rw [hb, if_pos rfl] at cs
      refine iteF ⟨_, rfl, d, _, _, rfl, hB1.obj, rfl, _, rfl, _, rfl, d, _, _, _, _, rfl, hB1.obj, T.k_Desk, T.n_Desk_past, df_past _ _, B.p, _, _, _, _, rfl, hB1.past.raw.obj, T.k_Past, T.n_Past_froms, pf_froms _ _, _, rfl, B.A.f, fr, t, _, rfl, hB1.past.raw.frm, t0, ex, d, fr, S, ls, F, p, up fr t, rfl, hD.same s1, ok, fo, hp, by omega, fun H2 s2 => ⟨_, rfl, ?_⟩⟩
      have s02 := s1.trans s2
      cases hc : chain fr (S.row (fr.length + 1) p) (up fr t) with
      | some c =>
        refine iteT ⟨Nat.zero_le _, fun a na => q _ a [] (s02.trans (same_upd na)) (s02.free na) upd_same (fun z => ?_) (fun _ => rfl)⟩
        exfalso
        rw [z.1] at hc
        cases hc
      | none =>
        refine iteF ⟨_, rfl, d, _, _, rfl, s2 _ _ hB1.obj, rfl, _, rfl, _, rfl, d, fr, S, ls, F, p, t, rfl, (hD.same s1).same s2, ok, fo, hp, t0, t1, fun H3 a ts s3 na ha srt nd mem => ?_⟩
        exact q H3 a ts (s02.trans s3) (s02.free na) ha (fun _ => ⟨nd, mem⟩) (fun z => absurd ⟨hc, by rw [cs]; exact fun y => nomatch y⟩ z)
def spPutLike (K : PySem.W.Frag) : Sp := fun vs H Q _ => ∃ (d : Addr) (fr : List Int) (S : De) (ls : List Line) (F : Addr → Prop) (p t : Nat) (x : Str), vs = [.ref d, .int p, .int t, .str x] ∧ DeK K H d fr S ls F ∧ FrOk fr ∧ 0 < t ∧ S.May fr (.put p t x (S.now p (up fr t)) (S.now p t)) ∧ S.puts.length < 5000 ∧ ls.length < 5000 ∧
  Goes (He.ga K "Desk") (He.ga K "Past") d fr H F (S.lay p t x (S.now p (up fr t))) (ls ++ [.put p t x (S.now p (up fr t)) (S.now p t) (S.puts.length : Int)]) (Q .non)
theorem sc_Desk_put_like : FnScope ["self", "phrase", "tongue", "text", "seen"] ["self", "phrase", "tongue", "text"] (defScope s_Desk_put_like) := ⟨rfl, rfl, rfl, by decide +kernel, rfl, by decide +kernel, by decide +kernel⟩
theorem c_Desk_put_like {P : Program} {w : World} {K : PySem.W.Frag} {mg : Str → Option Value} {base : Heap} (T : Tx K mg) : C8.Met P w K mg base 7 (He.ga K "Desk") "put_like" (spPutLike K) [] := by
  refine metD T.F_Desk_put_like T.k_Desk T.m_Desk_put_like (fun _ _ _ _ _ _ us hl => match us, hl with | [_, _, _, _], _ => rfl) sc_Desk_put_like (fun vs H Q E h => ?_) (fun cdv A outer s H vs Q E hr h => ?_)
  · obtain ⟨d, fr, S, ls, F, p, t, x, rfl, _⟩ := h
    rfl
  · obtain ⟨d, fr, S, ls, F, p, t, x, rfl, hD, fo, t0, may, fw, lw, q⟩ := h
    refine ⟨_, (pss_cons (ps_set (i := 4) sc_Desk_put_like.nd rfl (Or.inl rfl) (C8.pe_mt (c_Past_standing T) hr (by decide) (pe_fld (pv 0) (by rfl)) (pa_cons (pv 1) (pa_cons (C8.pe_c (c_put_from T) hr (by decide) rfl (pa_cons (pe_fld (pe_fld (pv 0) (by rfl)) (by rfl)) (pa_cons (pv 2) pa_nil))) pa_nil))))
    (pss_one (ps_expr (C8.pe_mt (c_Desk_put T) hr (by decide) (pv 0) (pa_cons (pv 1) (pa_cons (pv 2) (pa_cons (pv 3) (pa_cons (pv 4) (pa_cons (C8.pe_mt (c_Past_standing T) hr (by decide) (pe_fld (pv 0) (by rfl)) (pa_cons (pv 1) (pa_cons (pv 2) pa_nil))) pa_nil))))))))), ?_⟩
    obtain ⟨hp, ht, tx, eo, sn⟩ := id may
    obtain ⟨B, hB, hF, h3⟩ := id hD
    obtain ⟨xx, ex, x0, xl, xu⟩ := fo.at t0 ht
    subst xu
    have hu := up_lt fo t0 ht
    refine ⟨_, rfl, d, _, _, _, _, rfl, hB.obj, T.k_Desk, T.n_Desk_past, df_past _ _, B.p, _, _, rfl, hB.past.raw.obj, rfl, _, rfl, _, rfl, d, _, _, _, _, rfl, hB.obj, T.k_Desk, T.n_Desk_past, df_past _ _, B.p, _, _, _, _, rfl, hB.past.raw.obj, T.k_Past, T.n_Past_froms, pf_froms _ _, _, rfl, B.A.f, fr, t, _, rfl, hB.past.raw.frm, t0, ex, B.p, fr, S, B.A, p, up fr t, rfl, hB.past, hp, by omega, fun H1 s1 => ?_⟩
    have hB1 : DeskAt H1 (He.ga K "Desk") (He.ga K "Past") d fr S ls B := hB.keep (fun x o _ e => s1 _ _ e) (fun _ _ e => s1 _ _ e)
    refine ⟨_, rfl, d, _, _, rfl, hB1.obj, rfl, _, rfl, _, rfl, _, rfl, _, rfl, _, rfl, d, _, _, _, _, rfl, hB1.obj, T.k_Desk, T.n_Desk_past, df_past _ _, B.p, _, _, rfl, hB1.past.raw.obj, rfl, _, rfl, _, rfl, B.p, fr, S, B.A, p, t, rfl, hB1.past, hp, ht, fun H2 s2 => ?_⟩
    refine ⟨d, fr, S, ls, F, p, t, x, _, _, rfl, (hD.same s1).same s2, fo, may, fw, lw, fun H3 F3 d3 o3 f3 => ?_⟩
    exact q H3 F3 d3 ((only_same (s1.trans s2)).trans o3) fun y z => (f3 y z).imp id fun w => (s1.trans s2).free w
def spFill (K : PySem.W.Frag) : Sp := fun vs H Q _ => ∃ (d : Addr) (fr : List Int) (S : De) (ls : List Line) (F : Addr → Prop) (t : Nat), vs = [.ref d, .int t] ∧ DeK K H d fr S ls F ∧ S.Ok fr ∧ FrOk fr ∧ 0 < t ∧ t ≤ fr.length ∧ S.puts.length ≤ 4000 ∧ ls.length ≤ 4000 ∧
  ∀ a : Addr, H a = none → ∀ (H' : Hp) (F' : Addr → Prop), Went (He.ga K "Desk") (He.ga K "Past") d fr H F (S.fillTo fr t S.n).1 (ls ++ (S.fillTo fr t S.n).2.2) H' F' → LsAt H' a (S.fillTo fr t S.n).2.1 → ¬ F' a → Q (.ref a) H'
theorem sc_Desk_fill : FnScope ["self", "tongue", "phrases", "filled", "phrase", "texts"] ["self", "tongue"] (defScope s_Desk_fill) := ⟨rfl, rfl, rfl, by decide +kernel, rfl, by decide +kernel, by decide +kernel⟩
theorem c_Desk_fill {P : Program} {w : World} {K : PySem.W.Frag} {mg : Str → Option Value} {base : Heap} (T : Tx K mg) : C8.Met P w K mg base 8 (He.ga K "Desk") "fill" (spFill K) [] := by
  refine metD T.F_Desk_fill T.k_Desk T.m_Desk_fill (fun _ _ _ _ _ _ us hl => match us, hl with | [_, _], _ => rfl) sc_Desk_fill (fun vs H Q E h => ?_) (fun cdv A outer s H vs Q E hr h => ?_)
  · obtain ⟨d, fr, S, ls, F, t, rfl, _⟩ := h
    rfl
  · obtain ⟨d, fr, S, ls, F, t, rfl, hD, ok, fo, t0, t1, fw, lw, q⟩ := h
    refine ⟨_, (pss_cons (ps_expr (C8.pe_mt (c_Desk_check_other_tongue T) hr (by decide) (pv 0) (pa_cons (pv 1) pa_nil)))
    (pss_cons (ps_set (i := 2) sc_Desk_fill.nd rfl (Or.inl rfl) (pe_listRg rfl (by rfl) T.f_list (prg_1 (by rfl) T.f_range (pe_fld (pe_fld (pv 0) (by rfl)) (by rfl)))))
    (pss_cons (ps_set (i := 3) sc_Desk_fill.nd rfl (Or.inl rfl) (pe_lst pa_nil))
    (pss_cons (ps_for PassesOwn.never rfl (pi_list (pv 2)) (pg_name (i := 4) sc_Desk_fill.nd rfl (Or.inl rfl))
      (pss_cons (ps_set (i := 5) sc_Desk_fill.nd rfl (Or.inl rfl) (C8.pe_mt (c_Desk_texts_to_fill T) hr (by decide) (pv 0) (pa_cons (pv 4) (pa_cons (pv 1) pa_nil))))
      (pss_one (ps_if (pt_cmpR op_eq (pe_callB call_len_seq (by rfl) T.f_len (by decide +kernel) (pa_cons (pv 5) pa_nil)) pe_int (nomark _))
        (pss_cons (ps_expr (C8.pe_mt (c_Desk_put_like T) hr (by decide) (pv 0) (pa_cons (pv 4) (pa_cons (pv 1) (pa_cons (pe_ix ix_list (pv 5) pe_int (fun _ _ => rfl)) pa_nil)))))
        (pss_one (ps_expr (pe_bm PySem.F.plainAttrs_list PySem.F.slot_list_append PySem.F.type_list_append mt_append (pv 3) (pa_cons (pv 4) pa_nil)))))
        pss_nil))))
    (pss_one (ps_ret (pv 3))))))), ?_⟩
    obtain ⟨B, hB, hF, h3⟩ := id hD
    have n6 := ok.six
    refine ⟨_, rfl, d, _, _, rfl, hB.obj, rfl, _, rfl, d, fr, S, ls, F, t, rfl, hD, t0, t1, ?_⟩
    refine ⟨_, rfl, d, _, _, _, _, rfl, hB.obj, T.k_Desk, T.n_Desk_past, df_past _ _, B.p, _, _, _, _, rfl, hB.past.raw.obj, T.k_Past, T.n_Past_phrases, pf_phrases _ _, _, rfl, RgOk.of_le (by omega) (by omega) (by omega) (by omega), fun P1 nP => ?_⟩
    have s1 : Same H (upd H P1 (.lst (rgV 0 (S.n : Int)))) := same_upd nP
    have hP1 : (upd H P1 (.lst (rgV 0 (S.n : Int)))) P1 = some (.lst (rgV 0 (S.n : Int))) := upd_same
    generalize upd H P1 (.lst (rgV 0 (S.n : Int))) = H1 at s1 hP1 ⊢
    refine ⟨Nat.zero_le _, fun L1 nL => ?_⟩
    have s2 := s1.trans (same_upd nL (o := .lst []))
    have hP2 := same_upd nL (o := .lst []) _ _ hP1
    have hL2 : LsAt (upd H1 L1 (.lst [])) L1 [] := upd_same
    have nLP : P1 ≠ L1 := ne_of_none hP1 nL
    have nL0 : H L1 = none := s1.free nL
    generalize upd H1 L1 (.lst []) = H2 at s2 hP2 hL2 ⊢
    have out0 : ∀ {y : Addr}, H y = none → ¬ F y := fun ny z => by
      obtain ⟨o, e, _⟩ := h3 _ z
      rw [ny] at e
      cases e
    refine ⟨_, rfl, P1, rfl, ⟨_, SqL.of hP2⟩, ?_⟩
    refine for_it (walk_list (K := K) (a := P1) (xs := rgV 0 (S.n : Int))) (fun i σ H4 => ∃ (v4 v5 : Option V) (F4 : Addr → Prop), σ = [some (.ref d), some (.int t), some (.ref P1), some (.ref L1), v4, v5] ∧ Went (He.ga K "Desk") (He.ga K "Past") d fr H F (S.fillTo fr t i).1 (ls ++ (S.fillTo fr t i).2.2) H4 F4 ∧ LsAt H4 L1 (S.fillTo fr t i).2.1 ∧ H4 P1 = some (.lst (rgV 0 (S.n : Int))) ∧ ¬ F4 L1 ∧ ¬ F4 P1)
      ⟨none, none, F, rfl, ?_, hL2, hP2, out0 nL0, out0 nP⟩ (fun i σ H4 _ ⟨_, _, _, _, _, _, z, _⟩ => SqL.of z) ?_ ?_
    · show Went _ _ d fr H F S (ls ++ []) H2 F
      rw [List.append_nil]
      exact (Went.refl hD).same s2
    · rintro i v σ H4 H5 hi ⟨v4, v5, F4, rfl, w4, hL4, hP4, nF4, nFP⟩ ⟨rfl, ev⟩
      have hin : i < S.n := by
        rw [rgV_length] at hi
        omega
      have evi : v = .int (i : Int) := by
        unfold rgV at ev
        rw [List.getElem?_map, List.getElem?_range (by omega)] at ev
        have := (Option.some.inj ev).symm
        rw [this]
        show V.int (0 + (i : Int)) = _
        rw [Int.zero_add]
      subst evi
      have fk := fillTo_ok ok fo t0 t1 i (by omega)
      rw [De.fillTo_succ]
      generalize S.fillTo fr t i = A at w4 hL4 fk ⊢
      have An := fk.n
      obtain ⟨B4, hB4, _, _⟩ := id w4.desk
      refine ⟨_, rfl, d, _, _, rfl, hB4.obj, rfl, _, rfl, _, rfl, d, fr, A.1, _, F4, i, t, rfl, w4.desk, fk.ok, fo, by omega, t0, t1, fun H6 a ts s6 na ha opn shut => ?_⟩
      have w6 := w4.same s6
      have no : De.fillOne fr t A i = A → ∃ (v4' v5' : Option V) (F4 : Addr → Prop), [some (V.ref d), some (V.int t), some (V.ref P1), some (V.ref L1), some (V.int i), some (V.ref a)] = [some (.ref d), some (.int t), some (.ref P1), some (.ref L1), v4', v5'] ∧ Went (He.ga K "Desk") (He.ga K "Past") d fr H F (De.fillOne fr t A i).1 (ls ++ (De.fillOne fr t A i).2.2) H6 F4 ∧ LsAt H6 L1 (De.fillOne fr t A i).2.1 ∧ H6 P1 = some (.lst (rgV 0 (S.n : Int))) ∧ ¬ F4 L1 ∧ ¬ F4 P1 := by
        intro e
        rw [e]
        exact ⟨_, _, F4, rfl, w6, hL4.same s6, s6 _ _ hP4, nF4, nFP⟩
      refine ⟨_, rfl, a, _, rfl, .inl (SqL.of ha), rfl, decide (ts.length = 1), ?_, ?_⟩
      · rw [List.length_map]
        exact congrArg V.bl (dec_nat (y := 1))
      by_cases op : A.1.open fr i t
      case neg =>
        rw [shut op]
        refine iteF (no (De.fill_no ?_))
        by_cases c : chain fr (A.1.row (fr.length + 1) i) (up fr t) = none
        · exact .inr (.inl (Classical.not_not.mp fun z => op ⟨c, z⟩))
        · exact .inl c
      obtain ⟨nd, mem⟩ := opn op
      rcases (only_list nd mem).symm with ⟨e3, e4⟩ | ⟨x, rfl, e3⟩
      · rw [decide_eq_false e3]
        exact iteF (no (De.fill_no (.inr (.inr e4))))
      have up1 := up_lt fo t0 t1
      obtain ⟨kk0, ek⟩ := fk.ok.above fo (p := i) (by omega) (by omega) op.1
      have tx : TxOk x := fk.ok.found fo t0 t1 ((onlyOf_some e3 x).mpr rfl)
      have may : A.1.May fr (.put i t x (A.1.now i (up fr t)) (A.1.now i t)) := by
        refine ⟨by omega, t1, tx, rfl, fun z => by omega, fun _ => ?_⟩
        obtain ⟨j, ej, v, e1, e2, e3⟩ := fk.ok.seen_now ek
        exact ⟨j, by rw [ek, ej], v, e1, e2, e3⟩
      have l1 := fk.len
      have l2 := fk.l
      have l3 := fk.f
      rw [De.fill_yes op.1 op.2 e3]
      refine iteT ⟨_, rfl, d, _, _, rfl, s6 _ _ hB4.obj, rfl, _, rfl, _, rfl, _, rfl, a, _, _, _, rfl, rfl, SqL.of ha, atI_nat (j := 0) rfl, d, fr, A.1, _, F4, i, t, x, rfl, w6.desk, fo, t0, may, by omega, by rw [List.length_append]; omega, fun H7 F7 d7 o7 f7 => ?_⟩
      have w7 : Went (He.ga K "Desk") (He.ga K "Past") d fr H F (A.1.lay i t x (A.1.now i (up fr t))) (ls ++ (A.2.2 ++ [.put i t x (A.1.now i (up fr t)) (A.1.now i t) (A.1.puts.length : Int)])) H7 F7 := by
        rw [← List.append_assoc]
        exact w6.trans ⟨d7, o7, f7⟩
      have nF7 : ∀ {y : Addr} {o : HO}, ¬ F4 y → H6 y = some o → ¬ F7 y := fun n e z => (f7 _ z).elim n fun w => by rw [e] at w; cases w
      have hL7 : LsAt H7 L1 A.2.1 := o7.out _ _ nF4 (hL4.same s6)
      have hP7 := o7.out _ _ nFP (s6 _ _ hP4)
      refine ⟨_, rfl, .inl ⟨rfl, _, SqL.of hL7⟩, _, rfl, L1, _, _, rfl, rfl, hL7, ?_, ?_⟩
      · rw [List.length_map]
        exact small1000 (by omega)
      refine ⟨_, _, F7, rfl, w7.chg nL0 (nF7 nF4 (hL4.same s6)) hL7 (fun _ z => nomatch z), ?_, ?_, nF7 nF4 (hL4.same s6), nF7 nFP (s6 _ _ hP4)⟩
      · unfold LsAt
        rw [upd_same, List.map_append]
        rfl
      · rw [upd_ne nLP]
        exact hP7
    · rintro σ H4 ⟨v4, v5, F4, rfl, w4, hL4, hP4, nF4, nFP⟩
      rw [rgV_length, show ((S.n : Int) - 0).toNat = S.n by omega] at w4 hL4
      exact ⟨_, rfl, q L1 nL0 H4 F4 w4 hL4 nF4⟩

def ResD (H H' : Hp) (F : Addr → Prop) (v : V) : Res → Prop
  | .num k => v = .int k
  | .many l => ∃ a, v = .ref a ∧ H a = none ∧ LsAt H' a l ∧ ¬ F a
def spDo (K : PySem.W.Frag) : Sp := fun vs H Q _ => ∃ (d : Addr) (fr : List Int) (S : De) (ls : List Line) (F : Addr → Prop) (q : Addr) (dd : Deed), vs = [.ref d, .ref q] ∧ DeK K H d fr S ls F ∧ S.Ok fr ∧ FrOk fr ∧ H q = some (.tup dd.vals) ∧ S.May fr dd ∧ S.puts.length ≤ 4000 ∧ ls.length ≤ 4000 ∧
  ∀ (H' : Hp) (F' : Addr → Prop) (v : V), Went (He.ga K "Desk") (He.ga K "Past") d fr H F (S.come fr dd).1 (ls ++ (S.come fr dd).2.2) H' F' → ResD H H' F' v (S.come fr dd).2.1 → Q v H'
theorem sc_law_do : FnScope ["_law_desk", "_law_deed_here"] ["_law_desk", "_law_deed_here"] (defScope s_law_do) := ⟨rfl, rfl, rfl, by decide +kernel, rfl, by decide +kernel, by decide +kernel⟩
theorem c_law_do {P : Program} {w : World} {K : PySem.W.Frag} {mg : Str → Option Value} {base : Heap} (T : Tx K mg) : C8.Cal P w K mg base 9 "_law_do" (spDo K) [] := by
  refine calD T.F_law_do T.g_law_do (fun _ _ _ _ _ _ us hl => match us, hl with | [_, _], _ => rfl) sc_law_do (fun vs H Q E h => ?_) (fun cdv A outer s H vs Q E hr h => ?_)
  · obtain ⟨d, fr, S, ls, F, q, dd, rfl, _⟩ := h
    rfl
  · obtain ⟨d, fr, S, ls, F, q, dd, rfl, hD, ok, fo, hq, may, fw, lw, k⟩ := h
    obtain ⟨B, hB, hF, h3⟩ := id hD
    cases dd with
    | phrase x =>
      refine ⟨_, (pss_cons (ps_if (pt_cmpR op_eq (pe_ix ix_tup (pv 1) pe_int (fun _ _ => rfl)) pe_str (nomark _))
      (pss_one (ps_ret (C8.pe_mt (c_Desk_phrase T) hr (by decide) (pv 0) (pa_cons (pe_ix ix_tup (pv 1) pe_int (fun _ _ => rfl)) pa_nil))))
      pss_nil)
    (pss_cons (ps_if (pt_cmpR op_eq (pe_ix ix_tup (pv 1) pe_int (fun _ _ => rfl)) pe_str (nomark _))
      (pss_one (ps_ret (C8.pe_mt (c_Desk_put T) hr (by decide) (pv 0) (pa_cons (pe_ix ix_tup (pv 1) pe_int (fun _ _ => rfl)) (pa_cons (pe_ix ix_tup (pv 1) pe_int (fun _ _ => rfl)) (pa_cons (pe_ix ix_tup (pv 1) pe_int (fun _ _ => rfl)) (pa_cons (pe_ix ix_tup (pv 1) pe_int (fun _ _ => rfl)) (pa_cons (pe_ix ix_tup (pv 1) pe_int (fun _ _ => rfl)) pa_nil))))))))
      pss_nil)
    (pss_one (ps_ret (pe_ifExp (pt_cmpR op_eq (pe_ix ix_tup (pv 1) pe_int (fun _ _ => rfl)) pe_str (nomark _)) (C8.pe_mt (c_Desk_back T) hr (by decide) (pv 0) (pa_cons (pe_ix ix_tup (pv 1) pe_int (fun _ _ => rfl)) (pa_cons (pe_ix ix_tup (pv 1) pe_int (fun _ _ => rfl)) pa_nil))) (C8.pe_mt (c_Desk_fill T) hr (by decide) (pv 0) (pa_cons (pe_ix ix_tup (pv 1) pe_int (fun _ _ => rfl)) pa_nil))))))), ?_⟩
      refine ⟨_, rfl, q, _, _, _, rfl, rfl, SqT.of hq, atI_nat (j := 0) rfl, rfl, true, rfl, iteT ⟨_, rfl, d, _, _, rfl, hB.obj, rfl, _, rfl, q, _, _, _, rfl, rfl, SqT.of hq, atI_nat (j := 1) rfl, d, fr, S, ls, F, x, rfl, hD, fo, ok, may, by omega, by omega, fun H1 F1 d1 o1 f1 => ?_⟩⟩
      exact k H1 F1 _ ⟨d1, o1, f1⟩ rfl
    | put p t x s0 ov =>
      refine ⟨_, (pss_cons (ps_if (pt_cmpR op_eq (pe_ix ix_tup (pv 1) pe_int (fun _ _ => rfl)) pe_str (nomark _))
      (pss_one (ps_ret (C8.pe_mt (c_Desk_phrase T) hr (by decide) (pv 0) (pa_cons (pe_ix ix_tup (pv 1) pe_int (fun _ _ => rfl)) pa_nil))))
      pss_nil)
    (pss_cons (ps_if (pt_cmpR op_eq (pe_ix ix_tup (pv 1) pe_int (fun _ _ => rfl)) pe_str (nomark _))
      (pss_one (ps_ret (C8.pe_mt (c_Desk_put T) hr (by decide) (pv 0) (pa_cons (pe_ix ix_tup (pv 1) pe_int (fun _ _ => rfl)) (pa_cons (pe_ix ix_tup (pv 1) pe_int (fun _ _ => rfl)) (pa_cons (pe_ix ix_tup (pv 1) pe_int (fun _ _ => rfl)) (pa_cons (pe_ix ix_tup (pv 1) pe_int (fun _ _ => rfl)) (pa_cons (pe_ix ix_tup (pv 1) pe_int (fun _ _ => rfl)) pa_nil))))))))
      pss_nil)
    (pss_one (ps_ret (pe_ifExp (pt_cmpR op_eq (pe_ix ix_tup (pv 1) pe_int (fun _ _ => rfl)) pe_str (nomark _)) (C8.pe_mt (c_Desk_back T) hr (by decide) (pv 0) (pa_cons (pe_ix ix_tup (pv 1) pe_int (fun _ _ => rfl)) (pa_cons (pe_ix ix_tup (pv 1) pe_int (fun _ _ => rfl)) pa_nil))) (C8.pe_mt (c_Desk_fill T) hr (by decide) (pv 0) (pa_cons (pe_ix ix_tup (pv 1) pe_int (fun _ _ => rfl)) pa_nil))))))), ?_⟩
      refine ⟨_, rfl, q, _, _, _, rfl, rfl, SqT.of hq, atI_nat (j := 0) rfl, rfl, false, rfl, iteF ⟨_, rfl, q, _, _, _, rfl, rfl, SqT.of hq, atI_nat (j := 0) rfl, rfl, true, rfl, iteT ?_⟩⟩
      refine ⟨_, rfl, d, _, _, rfl, hB.obj, rfl, _, rfl, q, _, _, _, rfl, rfl, SqT.of hq, atI_nat (j := 1) rfl, _, rfl, q, _, _, _, rfl, rfl, SqT.of hq, atI_nat (j := 2) rfl, _, rfl, q, _, _, _, rfl, rfl, SqT.of hq, atI_nat (j := 3) rfl, _, rfl, q, _, _, _, rfl, rfl, SqT.of hq, atI_nat (j := 4) rfl, _, rfl, q, _, _, _, rfl, rfl, SqT.of hq, atI_nat (j := 5) rfl, d, fr, S, ls, F, p, t, x, s0, ov, rfl, hD, fo, may, by omega, by omega, fun H1 F1 d1 o1 f1 => ?_⟩
      exact k H1 F1 _ ⟨d1, o1, f1⟩ rfl
    | back p t =>
      refine ⟨_, (pss_cons (ps_if (pt_cmpR op_eq (pe_ix ix_tup (pv 1) pe_int (fun _ _ => rfl)) pe_str (nomark _))
      (pss_one (ps_ret (C8.pe_mt (c_Desk_phrase T) hr (by decide) (pv 0) (pa_cons (pe_ix ix_tup (pv 1) pe_int (fun _ _ => rfl)) pa_nil))))
      pss_nil)
    (pss_cons (ps_if (pt_cmpR op_eq (pe_ix ix_tup (pv 1) pe_int (fun _ _ => rfl)) pe_str (nomark _))
      (pss_one (ps_ret (C8.pe_mt (c_Desk_put T) hr (by decide) (pv 0) (pa_cons (pe_ix ix_tup (pv 1) pe_int (fun _ _ => rfl)) (pa_cons (pe_ix ix_tup (pv 1) pe_int (fun _ _ => rfl)) (pa_cons (pe_ix ix_tup (pv 1) pe_int (fun _ _ => rfl)) (pa_cons (pe_ix ix_tup (pv 1) pe_int (fun _ _ => rfl)) (pa_cons (pe_ix ix_tup (pv 1) pe_int (fun _ _ => rfl)) pa_nil))))))))
      pss_nil)
    (pss_one (ps_ret (pe_ifExp (pt_cmpR op_eq (pe_ix ix_tup (pv 1) pe_int (fun _ _ => rfl)) pe_str (nomark _)) (C8.pe_mt (c_Desk_back T) hr (by decide) (pv 0) (pa_cons (pe_ix ix_tup (pv 1) pe_int (fun _ _ => rfl)) (pa_cons (pe_ix ix_tup (pv 1) pe_int (fun _ _ => rfl)) pa_nil))) (C8.pe_mt (c_Desk_fill T) hr (by decide) (pv 0) (pa_cons (pe_ix ix_tup (pv 1) pe_int (fun _ _ => rfl)) pa_nil))))))), ?_⟩
      refine ⟨_, rfl, q, _, _, _, rfl, rfl, SqT.of hq, atI_nat (j := 0) rfl, rfl, false, rfl, iteF ⟨_, rfl, q, _, _, _, rfl, rfl, SqT.of hq, atI_nat (j := 0) rfl, rfl, false, rfl, iteF ⟨_, rfl, q, _, _, _, rfl, rfl, SqT.of hq, atI_nat (j := 0) rfl, rfl, true, rfl, iteT ?_⟩⟩⟩
      obtain ⟨j, ej⟩ : ∃ j, S.now p t = some j := by
        cases e : S.now p t with
        | none =>
          have := List.getLast?_eq_none_iff.mp e
          have hl := may.2.2
          rw [this] at hl
          exact absurd hl (Nat.not_lt_zero _)
        | some j => exact ⟨j, rfl⟩
      have ec : S.come fr (.back p t) = (S.off p t, .num j, [.back p t j]) := by
        show (S.off p t, Res.num ((S.now p t).getD 0), [Line.back p t ((S.now p t).getD 0)]) = _
        rw [ej]
        rfl
      rw [ec] at k
      refine ⟨_, rfl, d, _, _, rfl, hB.obj, rfl, _, rfl, q, _, _, _, rfl, rfl, SqT.of hq, atI_nat (j := 1) rfl, _, rfl, q, _, _, _, rfl, rfl, SqT.of hq, atI_nat (j := 2) rfl, d, fr, S, ls, F, p, t, j, rfl, hD, may, ej, by omega, fun H1 F1 d1 o1 f1 => ?_⟩
      exact k H1 F1 _ ⟨d1, o1, f1⟩ rfl
    | fill t =>
      refine ⟨_, (pss_cons (ps_if (pt_cmpR op_eq (pe_ix ix_tup (pv 1) pe_int (fun _ _ => rfl)) pe_str (nomark _))
      (pss_one (ps_ret (C8.pe_mt (c_Desk_phrase T) hr (by decide) (pv 0) (pa_cons (pe_ix ix_tup (pv 1) pe_int (fun _ _ => rfl)) pa_nil))))
      pss_nil)
    (pss_cons (ps_if (pt_cmpR op_eq (pe_ix ix_tup (pv 1) pe_int (fun _ _ => rfl)) pe_str (nomark _))
      (pss_one (ps_ret (C8.pe_mt (c_Desk_put T) hr (by decide) (pv 0) (pa_cons (pe_ix ix_tup (pv 1) pe_int (fun _ _ => rfl)) (pa_cons (pe_ix ix_tup (pv 1) pe_int (fun _ _ => rfl)) (pa_cons (pe_ix ix_tup (pv 1) pe_int (fun _ _ => rfl)) (pa_cons (pe_ix ix_tup (pv 1) pe_int (fun _ _ => rfl)) (pa_cons (pe_ix ix_tup (pv 1) pe_int (fun _ _ => rfl)) pa_nil))))))))
      pss_nil)
    (pss_one (ps_ret (pe_ifExp (pt_cmpR op_eq (pe_ix ix_tup (pv 1) pe_int (fun _ _ => rfl)) pe_str (nomark _)) (C8.pe_mt (c_Desk_back T) hr (by decide) (pv 0) (pa_cons (pe_ix ix_tup (pv 1) pe_int (fun _ _ => rfl)) (pa_cons (pe_ix ix_tup (pv 1) pe_int (fun _ _ => rfl)) pa_nil))) (C8.pe_mt (c_Desk_fill T) hr (by decide) (pv 0) (pa_cons (pe_ix ix_tup (pv 1) pe_int (fun _ _ => rfl)) pa_nil))))))), ?_⟩
      refine ⟨_, rfl, q, _, _, _, rfl, rfl, SqT.of hq, atI_nat (j := 0) rfl, rfl, false, rfl, iteF ⟨_, rfl, q, _, _, _, rfl, rfl, SqT.of hq, atI_nat (j := 0) rfl, rfl, false, rfl, iteF ⟨_, rfl, q, _, _, _, rfl, rfl, SqT.of hq, atI_nat (j := 0) rfl, rfl, false, rfl, iteF ?_⟩⟩⟩
      refine ⟨_, rfl, d, _, _, rfl, hB.obj, rfl, _, rfl, q, _, _, _, rfl, rfl, SqT.of hq, atI_nat (j := 1) rfl, d, fr, S, ls, F, t, rfl, hD, ok, fo, may.1, may.2, by omega, by omega, fun a na H1 F1 w1 hL nF => ?_⟩
      exact k H1 F1 _ w1 ⟨a, rfl, na, hL, nF⟩
/-- a desk and the law's own state, side by side; all is new since H -/
structure Both (K : PySem.W.Frag) (H H' : Hp) (d o l e tl : Addr) (fr : List Int) (S : De) (ls : List Line) (F : Addr → Prop) : Prop where
  same : Same H H'
  desk : DeK K H' d fr S ls F
  here : Here H' o l e S
  ok : S.Ok fr
  tale : LnAt H' tl ls
  new : ∀ x, F x ∨ x = d ∨ x = o ∨ x = l ∨ x = e ∨ x = tl → H x = none
  no : ¬ F o
  nl : ¬ F l
  ne : ¬ F e
  nt : ¬ F tl
  av : Avoid H' e F
  tll : tl ≠ l
  txs : ∀ n ∈ ls, n.Tx
theorem Both.next {K : PySem.W.Frag} {H H' H2 : Hp} {d o l e tl : Addr} {fr : List Int} {S : De} {ls : List Line} {F : Addr → Prop} (b : Both K H H' d o l e tl fr S ls F) (s : Same H' H2) : Both K H H2 d o l e tl fr S ls F := by
  obtain ⟨kvs, hk, _⟩ := b.here.lie
  exact ⟨b.same.trans s, b.desk.same s, b.here.same s, b.ok, b.tale.same s, b.new, b.no, b.nl, b.ne, b.nt, b.av.eq (by rw [s _ _ hk, hk]), b.tll, b.txs⟩
/-- behind a deed at the desk -/
theorem Both.went {K : PySem.W.Frag} {H H' H2 : Hp} {d o l e tl : Addr} {fr : List Int} {S S' : De} {ls ls' : List Line} {F F' : Addr → Prop} (b : Both K H H' d o l e tl fr S ls F) (w : Went (He.ga K "Desk") (He.ga K "Past") d fr H' F S' ls' H2 F') :
    Same H H2 ∧ Here H2 o l e S ∧ LnAt H2 tl ls ∧ (∀ x, F' x → H x = none) ∧ ¬ F' o ∧ ¬ F' l ∧ ¬ F' e ∧ ¬ F' tl ∧ Avoid H2 e F' := by
  obtain ⟨kvs, hk, _, hL⟩ := b.here.lie
  obtain ⟨vs, hv, _⟩ := b.here.puts
  obtain ⟨ts, ht, hta⟩ := b.tale
  have nF : ∀ {y : Addr} {u : HO}, ¬ F y → H' y = some u → ¬ F' y := fun n e z => (w.foot _ z).elim n fun w => by rw [e] at w; cases w
  have nt : ∀ a xs, F a → H' a ≠ some (.tup xs) := fun a xs fa z => by
    obtain ⟨B, _, _, h3⟩ := b.desk
    obtain ⟨u, eu, nu⟩ := h3 a fa
    rw [z] at eu
    exact nu _ (Option.some.inj eu).symm
  refine ⟨fun x u ex => w.only.out x u (fun z => ?_) (b.same _ _ ex), b.here.frame (R := F) (fun a x n ea => w.only.out a x n ea) b.no b.nl b.ne nt b.av, ⟨ts, w.only.out _ _ b.nt ht, hta.mono fun _ _ ⟨q, z, u⟩ => ⟨q, z, b.desk.tup w.only u⟩⟩, fun x z => ?_, nF b.no b.here.top, nF b.nl hv, nF b.ne hk, nF b.nt ht, ?_⟩
  · rw [b.new x (.inl z)] at ex
    cases ex
  · rcases w.foot x z with y | y
    · exact b.new x (.inl y)
    · exact b.same.free y
  · intro kvs' ek p t a ev fa
    rw [w.only.out _ _ b.ne hk] at ek
    cases (HO.dT.inj (Option.some.inj ek))
    have y := hL p t
    rw [ev] at y
    obtain ⟨c, e1, _, e2⟩ := y
    cases e1
    exact nF (b.av kvs hk p t a ev) e2 fa
def spPlayed (K : PySem.W.Frag) : Sp := fun vs H Q _ => ∃ (a : Addr) (ns : List Int) (b m : Int) (f : Addr) (fr : List Int), vs = [.ref a, .int b, .ref f, .int m] ∧ SqL K H a (ns.map V.int) ∧ 0 ≤ b ∧ b ≤ 90 ∧ 0 ≤ m ∧ m ≤ 100 ∧ LsAt H f fr ∧ FrOk fr ∧
  ∀ (H' : Hp) (r d o l e tl : Addr) (S : De) (ls : List Line) (F : Addr → Prop), Both K H H' d o l e tl fr S ls F → H r = none → H' r = some (.tup [.ref d, .ref o, .ref tl]) → S.puts.length ≤ 6 * m.toNat → ls.length ≤ 6 * m.toNat → (0 < m → 0 < ls.length) → Q (.ref r) H'
theorem come_len {fr : List Int} {S : De} {dd : Deed} (h : S.Ok fr) (fo : FrOk fr) (m : S.May fr dd) : (S.come fr dd).2.2.length ≤ 6 := by
  cases dd with
  | phrase x => exact Nat.le_of_lt_succ (by show 1 < 7; decide)
  | put p t x s o => exact Nat.le_of_lt_succ (by show 1 < 7; decide)
  | back p t => exact Nat.le_of_lt_succ (by show 1 < 7; decide)
  | fill t =>
    have z := (fillTo_ok h fo m.1 m.2 S.n (Nat.le_refl _)).l
    have := h.six
    exact Nat.le_trans z this
theorem sc_law_played : FnScope ["_law_script", "_law_by", "_law_froms_here", "_law_many", "_law_handed", "_law_desk", "_law_here", "_law_tale", "_law_at", "_law_deed_here"] ["_law_script", "_law_by", "_law_froms_here", "_law_many"] (defScope s_law_played) := ⟨rfl, rfl, rfl, by decide +kernel, rfl, by decide +kernel, by decide +kernel⟩
theorem c_law_played {P : Program} {w : World} {K : PySem.W.Frag} {mg : Str → Option Value} {base : Heap} (T : Tx K mg) : C8.Cal P w K mg base 10 "_law_played" (spPlayed K) [] := by
  refine calD T.F_law_played T.g_law_played (fun _ _ _ _ _ _ us hl => match us, hl with | [_, _, _, _], _ => rfl) sc_law_played (fun vs H Q E h => ?_) (fun cdv A outer s H vs Q E hr h => ?_)
  · obtain ⟨a, ns, b, m, f, fr, rfl, _⟩ := h
    rfl
  · obtain ⟨a, ns, b, m, f, fr, rfl, hS, b0, b1, m0, m1, hf, fo, k⟩ := h
    refine ⟨_, (pss_cons (ps_set (i := 4) sc_law_played.nd rfl (Or.inl rfl) (pe_callTy call_list_of (by rfl) T.f_list (by decide +kernel) (pa_cons (pv 2) pa_nil)))
    (pss_cons (ps_par3 (i := 5) (j := 6) (l := 7) (by rfl) sc_law_played.nd rfl rfl rfl (by decide) (by decide) (by decide) rfl rfl rfl (pa_cons (C8.pe_mk (c_Desk_init T) hr (by decide) rfl (pa_cons (pv 4) pa_nil)) (pa_cons (pe_c0 (c_law_new T) hr (by decide) rfl) (pa_cons (pe_lst pa_nil) pa_nil))) (by rfl))
    (pss_cons (ps_expr (pe_bm PySem.F.plainAttrs_list PySem.F.slot_list_append PySem.F.type_list_append mt_append (pv 4) (pa_cons pe_int pa_nil)))
    (pss_cons (ps_asg pe_int (pg_sub (pv 4) pe_int set_list))
    (pss_cons (ps_for PassesOwn.never rfl (pi_range1 (by rfl) T.f_range (pa_cons (pv 3) pa_nil)) (pg_name (i := 8) sc_law_played.nd rfl (Or.inl rfl))
      (pss_cons (ps_set (i := 9) sc_law_played.nd rfl (Or.inl rfl) (C8.pe_c (c_law_deed T) hr (by decide) rfl (pa_cons (pv 0) (pa_cons (pv 1) (pa_cons (pv 8) (pa_cons (pv 6) (pa_cons (pv 2) pa_nil)))))))
      (pss_cons (ps_expr (C8.pe_c (c_law_do T) hr (by decide) rfl (pa_cons (pv 5) (pa_cons (pv 9) pa_nil))))
      (pss_one (ps_set (i := 7) sc_law_played.nd rfl (Or.inl rfl) (pe_op op_cat (pv 7) (pe_ix ix_tup (C8.pe_c (c_law_come T) hr (by decide) rfl (pa_cons (pv 6) (pa_cons (pv 2) (pa_cons (pv 9) pa_nil)))) pe_int (fun _ _ => rfl))))))))
    (pss_one (ps_ret (pe_tup (pa_cons (pv 5) (pa_cons (pv 6) (pa_cons (pv 7) pa_nil))))))))))), ?_⟩
    refine ⟨_, rfl, f, _, rfl, .inl (SqL.of hf), fun h nh => ?_⟩
    have s1 : Same H (upd H h (.lst (fr.map V.int))) := same_upd nh
    have hh1 : LsAt (upd H h (.lst (fr.map V.int))) h fr := upd_same
    generalize upd H h (.lst (fr.map V.int)) = H1 at s1 hh1 ⊢
    refine ⟨_, rfl, fun d dd_ nd ndd dne => ⟨d, dd_, h, fr, rfl, upd_same, ?_, fo, fun H2 F dk k2 f2 => ⟨rfl, ?_⟩⟩⟩
    · unfold LsAt
      rw [upd_ne (ne_of_none hh1 nd), upd_ne (ne_of_none hh1 ndd)]
      exact hh1
    have k12 : Same H1 H2 := fun x o e => k2 x o (ne_of_none e nd) (by rw [upd_ne (ne_of_none e nd), upd_ne (ne_of_none e ndd)]; exact e)
    have f12 : ∀ x, F x → H1 x = none := by
      intro x fx
      rcases f2 x fx with z | z
      · rw [z]
        exact nd
      · cases e : H1 x with
        | none => rfl
        | some u =>
          rw [upd_ne (ne_of_none e nd), upd_ne (ne_of_none e ndd), e] at z
          cases z
    refine ⟨rfl, fun H3 o l e s3 no nl ne_ hh3 => ⟨Nat.zero_le _, fun tl ntl => ?_⟩⟩
    have nF3 : ∀ {y : Addr}, H2 y = none → ¬ F y := fun ny z => by
      obtain ⟨u, eu⟩ := dk.there z
      rw [ny] at eu
      cases eu
    have s13 := k12.trans s3
    have s14 := s13.trans (same_upd ntl (o := .lst []))
    have tl2 : H2 tl = none := s3.free ntl
    have s4 : Same H3 (upd H3 tl (.lst [])) := same_upd ntl
    have b4 : Both K H (upd H3 tl (.lst [])) d o l e tl fr De.none [] F := by
      obtain ⟨vs3, hv3, _⟩ := hh3.puts
      refine ⟨s1.trans s14, (dk.same s3).same s4, hh3.same s4, De.none_ok, ⟨[], upd_same, All2.nil⟩, ?_, nF3 no, nF3 nl, nF3 ne_, nF3 tl2, ?_, Ne.symm (ne_of_none hv3 ntl), fun n hn => (nomatch hn)⟩
      · rintro x (z | z | z | z | z | z)
        · exact s1.free (f12 x z)
        · rw [z]
          exact s1.free nd
        · rw [z]
          exact s1.free (k12.free no)
        · rw [z]
          exact s1.free (k12.free nl)
        · rw [z]
          exact s1.free (k12.free ne_)
        · rw [z]
          exact s1.free (k12.free tl2)
      · intro kvs ek p t c ev fc
        have hl := (hh3.same s4).lie
        obtain ⟨kvs', e1, e2, e3⟩ := hl
        rw [ek] at e1
        cases (HO.dT.inj (Option.some.inj e1))
        have := List.length_eq_zero_iff.mp (Nat.le_zero.mp e2)
        rw [this] at ev
        cases ev
    have hh4 : LsAt (upd H3 tl (.lst [])) h fr := hh1.same s14
    have nFh : ¬ F h := fun z => by
      have := f12 h z
      rw [LsAt, this] at hh1
      cases hh1
    have htl : h ≠ tl := ne_of_none (hh1.same k12) tl2
    have hnl : h ≠ l := ne_of_none (hh1.same k12) nl
    generalize upd H3 tl (.lst []) = H4 at s14 b4 hh4 ⊢
    -- what was handed in is changed
    have chg : ∀ {H5 : Hp} {u : HO} {vs : List V}, Both K H H5 d o l e tl fr De.none [] F → H5 h = some (.lst vs) → Both K H (upd H5 h u) d o l e tl fr De.none [] F := by
      intro H5 u vs b5 h5
      have av : Avoid H5 e (· = h) := by
        intro kvs ek p t c ev fc
        obtain ⟨kvs', e1, e2, e3⟩ := b5.here.lie
        rw [ek] at e1
        cases (HO.dT.inj (Option.some.inj e1))
        have := List.length_eq_zero_iff.mp (Nat.le_zero.mp e2)
        rw [this] at ev
        cases ev
      obtain ⟨z1, z2⟩ := b5.here.chg (x := u) hnl h5 av
      refine ⟨Same.chg b5.same nh, b5.desk.keep (fun x v fx ex => ?_) (fun q xs eq => ?_), z1, b5.ok, b5.tale.upd (Ne.symm htl) h5, b5.new, b5.no, b5.nl, b5.ne, b5.nt, z2 _ b5.av, b5.tll, b5.txs⟩
      · rw [upd_ne (fun z => nFh (by rw [← z]; exact fx))]
        exact ex
      · rw [upd_ne (ne_of eq h5 (fun z => nomatch z))]
        exact eq
    refine ⟨_, _, _, rfl, ?_⟩
    refine ⟨_, rfl, .inl ⟨rfl, _, SqL.of hh4⟩, h, _, _, rfl, rfl, hh4, ?_, ?_⟩
    · rw [List.length_map]
      have := fo.hi
      exact small1000 (by omega)
    have b5 := chg (u := .lst (fr.map V.int ++ [V.int 0])) b4 hh4
    have hh5 : (upd H4 h (.lst (fr.map V.int ++ [V.int 0]))) h = some (.lst (fr.map V.int ++ [V.int 0])) := upd_same
    generalize upd H4 h (.lst (fr.map V.int ++ [V.int 0])) = H5 at b5 hh5 ⊢
    have h0 : 0 < fr.length := fo.lo
    obtain ⟨y0, r0, ey⟩ : ∃ y0 r0, fr.map V.int ++ [V.int 0] = y0 :: r0 := by
      cases fr with
      | nil => exact absurd h0 (by decide)
      | cons z r => exact ⟨_, _, rfl⟩
    rw [ey] at hh5
    refine ⟨_, rfl, h, _, _, 0, rfl, rfl, hh5, by unfold ixN; rw [if_pos (by decide), if_pos (by rw [List.length_cons]; omega)]; rfl, ?_⟩
    have b6 := chg (u := .lst ((y0 :: r0).set 0 (V.int 1))) b5 hh5
    generalize upd H5 h (.lst ((y0 :: r0).set 0 (V.int 1))) = H6 at b6 ⊢
    refine ⟨_, rfl, _, rfl, by omega, by omega, ?_⟩
    refine for_range (lo := 0) (n := m.toNat) (fun i σ G => ∃ (v8 v9 : Option V) (tl : Addr) (S : De) (ls : List Line) (F : Addr → Prop), σ = [some (.ref a), some (.int b), some (.ref f), some (.int m), some (.ref h), some (.ref d), some (.ref o), some (.ref tl), v8, v9] ∧ Both K H G d o l e tl fr S ls F ∧ S.puts.length ≤ 6 * i ∧ ls.length ≤ 6 * i ∧ (i = 0 → S.n = 0) ∧ (0 < i → 0 < ls.length))
      ⟨none, none, tl, De.none, [], F, rfl, b6, Nat.zero_le _, Nat.zero_le _, fun _ => rfl, fun z => absurd z (by decide)⟩ ?_ ?_
    · rintro i σ G hi ⟨v8, v9, tl, S, ls, F, rfl, bg, pl, ll, z0, z1⟩
      rw [show (0 + (i : Int)) = (i : Int) from Int.zero_add _]
      have i100 : i < 100 := by omega
      refine ⟨_, rfl, _, rfl, _, rfl, _, rfl, _, rfl, a, ns, b, (i : Int), o, l, e, S, f, fr, rfl, bg.same.seq hS, b0, by omega, by omega, by omega, bg.here, bg.ok, hf.same bg.same, fo, fun G1 q dd t1 nq hq may fst => ?_⟩
      have b1 := bg.next t1
      refine ⟨_, rfl, _, rfl, d, fr, S, ls, F, q, dd, rfl, b1.desk, b1.ok, fo, hq, may, by omega, by omega, fun G2 F2 v w2 _ => ?_⟩
      obtain ⟨s2, hh2, lt2, nw2, no2, nl2, ne2, nt2, av2⟩ := b1.went w2
      have hq2 := b1.desk.tup w2.only hq
      have nfl : f ≠ l := fun z => by
        have := bg.new l (.inr (.inr (.inr (.inl rfl))))
        rw [← z] at this
        rw [LsAt, this] at hf
        cases hf
      refine ⟨_, rfl, _, rfl, _, rfl, _, rfl, o, l, e, S, f, fr, q, dd, rfl, hh2, b1.ok, by omega, hf.same s2, nfl, fo, hq2, may, fun G3 r v3 lx of3 st3 hh3 nr hr rv nlx hlx => ?_⟩
      refine ⟨r, _, _, _, rfl, rfl, SqT.of hr, atI_nat (j := 1) rfl, ?_⟩
      obtain ⟨cok, clen⟩ := b1.ok.come fo may
      have s3 : Same H G3 := fun x u ex => of3 x u (fun z => by rw [z, bg.new o (.inr (.inr (.inl rfl)))] at ex; cases ex) (fun z => by rw [z, bg.new l (.inr (.inr (.inr (.inl rfl))))] at ex; cases ex) (fun z => by rw [z, bg.new e (.inr (.inr (.inr (.inr (.inl rfl)))))] at ex; cases ex) (s2 x u ex)
      have d3 : DeK K G3 d fr (S.come fr dd).1 (ls ++ (S.come fr dd).2.2) F2 := w2.desk.keep (fun x u fx ex => of3 x u (fun z => no2 (by rw [← z]; exact fx)) (fun z => nl2 (by rw [← z]; exact fx)) (fun z => ne2 (by rw [← z]; exact fx)) ex) (fun c xs ec => of3.tup hh2 ec)
      have lt3 : LnAt G3 tl ls := lt2.off of3 hh2 bg.tll
      have av3 : Avoid G3 e F2 := st3 F2 (fun c fc => w2.desk.there fc) av2
      obtain ⟨ts, hts, ats⟩ := lt3
      obtain ⟨xs, hxs, axs⟩ := hlx
      have cl := come_len b1.ok fo may
      refine ⟨tl, lx, _, _, rfl, rfl, hts, hxs, ?_, fun tn ntn => ?_⟩
      · rw [ats.len, axs.len]
        exact Nat.le_of_lt (small5000 (by omega))
      have s4 : Same G3 (upd G3 tn (.lst (ts ++ xs))) := same_upd ntn
      obtain ⟨vs3, hv3, _⟩ := hh3.puts
      obtain ⟨kvs3, hk3, _⟩ := hh3.lie
      refine ⟨_, _, tn, _, _, F2, rfl, ⟨s3.trans s4, d3.same s4, hh3.same s4, cok, ⟨_, upd_same, (ats.app axs).mono fun _ _ z => z.same s4⟩, ?_, no2, nl2, ne2, fun z => ?_, av3.eq (by rw [s4 _ _ hk3, hk3]), Ne.symm (ne_of_none hv3 ntn), fun n hn => (List.mem_append.mp hn).elim (bg.txs n) (come_tx b1.ok fo may n)⟩, by omega, ?_, fun z => by omega, fun _ => ?_⟩
      · rintro x (z | z | z | z | z | z)
        · exact nw2 x z
        · exact bg.new x (.inr (.inl z))
        · exact bg.new x (.inr (.inr (.inl z)))
        · exact bg.new x (.inr (.inr (.inr (.inl z))))
        · exact bg.new x (.inr (.inr (.inr (.inr (.inl z)))))
        · rw [z]
          exact s3.free ntn
      · obtain ⟨u, eu⟩ := d3.there z
        rw [ntn] at eu
        cases eu
      · rw [List.length_append]
        omega
      · rw [List.length_append]
        by_cases c : i = 0
        · obtain ⟨x, rfl⟩ := fst (z0 c)
          show 0 < ls.length + 1
          omega
        · have := z1 (by omega)
          omega
    · rintro σ G ⟨v8, v9, tl, S, ls, F, rfl, bg, pl, ll, z0, z1⟩
      refine ⟨_, rfl, _, rfl, _, rfl, (by show 3 ≤ sizeLine; decide), fun r nr => ?_⟩
      exact k _ r d o l e tl S ls F (bg.next (same_upd nr)) (bg.same.free nr) upd_same pl ll fun z => z1 (by omega)


end PD

namespace PD
open PySem PySem.Spec PyProof.Rows L2

/-! Phrasedesk: judged -/
--# is_phrase_line
def Tl.isP : Tl → Bool
  | .phrase _ _ _ => true
  | _ => false
def spPL : Sp := fun vs H Q _ => ∃ (q : Addr) (n : Tl), vs = [.ref q] ∧ H q = some (.tup n.vals) ∧ Q (.bl n.isP) H
theorem sc_is_phrase_line : FnScope ["value"] ["value"] (defScope s_is_phrase_line) := ⟨rfl, rfl, rfl, by decide +kernel, rfl, by decide +kernel, by decide +kernel⟩
theorem c_is_phrase_line {P : Program} {w : World} {K : PySem.W.Frag} {mg : Str → Option Value} {base : Heap} (T : Tx K mg) : C8.Cal P w K mg base 2 "is_phrase_line" (spPL) [] := by
  refine calD T.F_is_phrase_line T.g_is_phrase_line (fun _ _ _ _ _ _ us hl => match us, hl with | [_], _ => rfl) sc_is_phrase_line (fun vs H Q E h => ?_) (fun cdv A outer s H vs Q E hr h => ?_)
  · obtain ⟨q, n, rfl, _⟩ := h
    rfl
  · obtain ⟨q, n, rfl, hq, k⟩ := h
    cases n with
    | phrase p x z =>
      refine ⟨_, (pss_cons (ps_if (PW.pt (pw_or (pt_cmpR op_ne (pe_callB call_len_seq (by rfl) T.f_len (by decide +kernel) (pa_cons (pv 0) pa_nil)) pe_int (nomark _)) (pw_or1 (pt_cmpR op_ne (pe_ix ix_tup (pv 0) pe_int (fun _ _ => rfl)) pe_str (nomark _)))))
      (pss_one (ps_ret pe_bl))
      pss_nil)
    (pss_one (ps_ret (pe_and (C8.pe_c (c_is_number T) hr (by decide) rfl (pa_cons (pe_ix ix_tup (pv 0) pe_int (fun _ _ => rfl)) pa_nil)) (pe_and (pe_callB call_isi (by rfl) T.f_isinstance (by decide +kernel) (pa_cons (pe_ix ix_tup (pv 0) pe_int (fun _ _ => rfl)) (pa_cons (pe_bltn (v := .ty "str") (by rfl) T.f_str (by decide +kernel) rfl) pa_nil))) (pe_one (C8.pe_c (c_is_number T) hr (by decide) rfl (pa_cons (pe_ix ix_tup (pv 0) pe_int (fun _ _ => rfl)) pa_nil)))))))), ?_⟩
      exact ⟨_, rfl, q, _, rfl, .inr (SqT.of hq), rfl, false, rfl, iteF ⟨_, rfl, q, _, _, _, rfl, rfl, SqT.of hq, atI_nat (j := 0) rfl, rfl, false, rfl, iteF ⟨_, rfl, q, _, _, _, rfl, rfl, SqT.of hq, atI_nat (j := 1) rfl, _, _, true, false, rfl, .base (.int p), is_ty (by decide +kernel), is_ty (by decide +kernel), true, rfl, iteT ⟨_, rfl, q, _, _, _, rfl, rfl, SqT.of hq, atI_nat (j := 2) rfl, _, _, _, _, true, rfl, .ty _, .base (.str x), is_ty (by decide +kernel), true, rfl, iteT ⟨_, rfl, q, _, _, _, rfl, rfl, SqT.of hq, atI_nat (j := 3) rfl, _, _, true, false, rfl, .base (.int z), is_ty (by decide +kernel), is_ty (by decide +kernel), k⟩⟩⟩⟩⟩
    | put p t x s o z =>
      refine ⟨_, (pss_cons (ps_if (PW.pt (pw_or (pt_cmpR op_ne (pe_callB call_len_seq (by rfl) T.f_len (by decide +kernel) (pa_cons (pv 0) pa_nil)) pe_int (nomark _)) (pw_or1 (pt_cmpR op_ne (pe_ix ix_tup (pv 0) pe_int (fun _ _ => rfl)) pe_str (nomark _)))))
      (pss_one (ps_ret pe_bl))
      pss_nil)
    (pss_one (ps_ret (pe_and (C8.pe_c (c_is_number T) hr (by decide) rfl (pa_cons (pe_ix ix_tup (pv 0) pe_int (fun _ _ => rfl)) pa_nil)) (pe_and (pe_callB call_isi (by rfl) T.f_isinstance (by decide +kernel) (pa_cons (pe_ix ix_tup (pv 0) pe_int (fun _ _ => rfl)) (pa_cons (pe_bltn (v := .ty "str") (by rfl) T.f_str (by decide +kernel) rfl) pa_nil))) (pe_one (C8.pe_c (c_is_number T) hr (by decide) rfl (pa_cons (pe_ix ix_tup (pv 0) pe_int (fun _ _ => rfl)) pa_nil)))))))), ?_⟩
      exact ⟨_, rfl, q, _, rfl, .inr (SqT.of hq), rfl, true, rfl, iteT k⟩
    | back p t z =>
      refine ⟨_, (pss_cons (ps_if (PW.pt (pw_or (pt_cmpR op_ne (pe_callB call_len_seq (by rfl) T.f_len (by decide +kernel) (pa_cons (pv 0) pa_nil)) pe_int (nomark _)) (pw_or1 (pt_cmpR op_ne (pe_ix ix_tup (pv 0) pe_int (fun _ _ => rfl)) pe_str (nomark _)))))
      (pss_one (ps_ret pe_bl))
      pss_nil)
    (pss_one (ps_ret (pe_and (C8.pe_c (c_is_number T) hr (by decide) rfl (pa_cons (pe_ix ix_tup (pv 0) pe_int (fun _ _ => rfl)) pa_nil)) (pe_and (pe_callB call_isi (by rfl) T.f_isinstance (by decide +kernel) (pa_cons (pe_ix ix_tup (pv 0) pe_int (fun _ _ => rfl)) (pa_cons (pe_bltn (v := .ty "str") (by rfl) T.f_str (by decide +kernel) rfl) pa_nil))) (pe_one (C8.pe_c (c_is_number T) hr (by decide) rfl (pa_cons (pe_ix ix_tup (pv 0) pe_int (fun _ _ => rfl)) pa_nil)))))))), ?_⟩
      exact ⟨_, rfl, q, _, rfl, .inr (SqT.of hq), rfl, false, rfl, iteF ⟨_, rfl, q, _, _, _, rfl, rfl, SqT.of hq, atI_nat (j := 0) rfl, rfl, true, rfl, iteT k⟩⟩
--# is_put_line
def Tl.isU : Tl → Bool
  | .put _ _ _ _ _ _ => true
  | _ => false
def spUL : Sp := fun vs H Q _ => ∃ (q : Addr) (n : Tl), vs = [.ref q] ∧ H q = some (.tup n.vals) ∧ Q (.bl n.isU) H
theorem sc_is_put_line : FnScope ["value"] ["value"] (defScope s_is_put_line) := ⟨rfl, rfl, rfl, by decide +kernel, rfl, by decide +kernel, by decide +kernel⟩
theorem c_is_put_line {P : Program} {w : World} {K : PySem.W.Frag} {mg : Str → Option Value} {base : Heap} (T : Tx K mg) : C8.Cal P w K mg base 3 "is_put_line" (spUL) [] := by
  refine calD T.F_is_put_line T.g_is_put_line (fun _ _ _ _ _ _ us hl => match us, hl with | [_], _ => rfl) sc_is_put_line (fun vs H Q E h => ?_) (fun cdv A outer s H vs Q E hr h => ?_)
  · obtain ⟨q, n, rfl, _⟩ := h
    rfl
  · obtain ⟨q, n, rfl, hq, k⟩ := h
    cases n with
    | phrase p x z =>
      refine ⟨_, (pss_cons (ps_if (PW.pt (pw_or (pt_cmpR op_ne (pe_callB call_len_seq (by rfl) T.f_len (by decide +kernel) (pa_cons (pv 0) pa_nil)) pe_int (nomark _)) (pw_or (pt_cmpR op_ne (pe_ix ix_tup (pv 0) pe_int (fun _ _ => rfl)) pe_str (nomark _)) (pw_or1 (pt_not (pt_val (pe_callB call_isi (by rfl) T.f_isinstance (by decide +kernel) (pa_cons (pe_ix ix_tup (pv 0) pe_int (fun _ _ => rfl)) (pa_cons (pe_bltn (v := .ty "str") (by rfl) T.f_str (by decide +kernel) rfl) pa_nil)))))))))
      (pss_one (ps_ret pe_bl))
      pss_nil)
    (pss_cons (ps_if (PW.pt (pw_or (pt_not (pt_val (C8.pe_c (c_is_number_or_none T) hr (by decide) rfl (pa_cons (pe_ix ix_tup (pv 0) pe_int (fun _ _ => rfl)) pa_nil)))) (pw_or1 (pt_not (pt_val (C8.pe_c (c_is_number_or_none T) hr (by decide) rfl (pa_cons (pe_ix ix_tup (pv 0) pe_int (fun _ _ => rfl)) pa_nil)))))))
      (pss_one (ps_ret pe_bl))
      pss_nil)
    (pss_one (ps_ret (pe_and (C8.pe_c (c_is_number T) hr (by decide) rfl (pa_cons (pe_ix ix_tup (pv 0) pe_int (fun _ _ => rfl)) pa_nil)) (pe_and (C8.pe_c (c_is_number T) hr (by decide) rfl (pa_cons (pe_ix ix_tup (pv 0) pe_int (fun _ _ => rfl)) pa_nil)) (pe_one (C8.pe_c (c_is_number T) hr (by decide) rfl (pa_cons (pe_ix ix_tup (pv 0) pe_int (fun _ _ => rfl)) pa_nil))))))))), ?_⟩
      exact ⟨_, rfl, q, _, rfl, .inr (SqT.of hq), rfl, true, rfl, iteT k⟩
    | put p t x s0 o z =>
      refine ⟨_, (pss_cons (ps_if (PW.pt (pw_or (pt_cmpR op_ne (pe_callB call_len_seq (by rfl) T.f_len (by decide +kernel) (pa_cons (pv 0) pa_nil)) pe_int (nomark _)) (pw_or (pt_cmpR op_ne (pe_ix ix_tup (pv 0) pe_int (fun _ _ => rfl)) pe_str (nomark _)) (pw_or1 (pt_not (pt_val (pe_callB call_isi (by rfl) T.f_isinstance (by decide +kernel) (pa_cons (pe_ix ix_tup (pv 0) pe_int (fun _ _ => rfl)) (pa_cons (pe_bltn (v := .ty "str") (by rfl) T.f_str (by decide +kernel) rfl) pa_nil)))))))))
      (pss_one (ps_ret pe_bl))
      pss_nil)
    (pss_cons (ps_if (PW.pt (pw_or (pt_not (pt_val (C8.pe_c (c_is_number_or_none T) hr (by decide) rfl (pa_cons (pe_ix ix_tup (pv 0) pe_int (fun _ _ => rfl)) pa_nil)))) (pw_or1 (pt_not (pt_val (C8.pe_c (c_is_number_or_none T) hr (by decide) rfl (pa_cons (pe_ix ix_tup (pv 0) pe_int (fun _ _ => rfl)) pa_nil)))))))
      (pss_one (ps_ret pe_bl))
      pss_nil)
    (pss_one (ps_ret (pe_and (C8.pe_c (c_is_number T) hr (by decide) rfl (pa_cons (pe_ix ix_tup (pv 0) pe_int (fun _ _ => rfl)) pa_nil)) (pe_and (C8.pe_c (c_is_number T) hr (by decide) rfl (pa_cons (pe_ix ix_tup (pv 0) pe_int (fun _ _ => rfl)) pa_nil)) (pe_one (C8.pe_c (c_is_number T) hr (by decide) rfl (pa_cons (pe_ix ix_tup (pv 0) pe_int (fun _ _ => rfl)) pa_nil))))))))), ?_⟩
      refine ⟨_, rfl, q, _, rfl, .inr (SqT.of hq), rfl, false, rfl, iteF ⟨_, rfl, q, _, _, _, rfl, rfl, SqT.of hq, atI_nat (j := 0) rfl, rfl, false, rfl, iteF ⟨_, rfl, q, _, _, _, rfl, rfl, SqT.of hq, atI_nat (j := 3) rfl, _, _, _, _, true, rfl, .ty _, .base (.str x), is_ty (by decide +kernel), true, rfl, iteF ?_⟩⟩⟩
      refine ⟨_, rfl, q, _, _, _, rfl, rfl, SqT.of hq, atI_nat (j := 4) rfl, s0, rfl, true, rfl, iteF ⟨_, rfl, q, _, _, _, rfl, rfl, SqT.of hq, atI_nat (j := 5) rfl, o, rfl, true, rfl, iteF ?_⟩⟩
      exact ⟨_, rfl, q, _, _, _, rfl, rfl, SqT.of hq, atI_nat (j := 1) rfl, _, _, true, false, rfl, .base (.int p), is_ty (by decide +kernel), is_ty (by decide +kernel), true, rfl, iteT ⟨_, rfl, q, _, _, _, rfl, rfl, SqT.of hq, atI_nat (j := 2) rfl, _, _, true, false, rfl, .base (.int t), is_ty (by decide +kernel), is_ty (by decide +kernel), true, rfl, iteT ⟨_, rfl, q, _, _, _, rfl, rfl, SqT.of hq, atI_nat (j := 6) rfl, _, _, true, false, rfl, .base (.int z), is_ty (by decide +kernel), is_ty (by decide +kernel), k⟩⟩⟩
    | back p t z =>
      refine ⟨_, (pss_cons (ps_if (PW.pt (pw_or (pt_cmpR op_ne (pe_callB call_len_seq (by rfl) T.f_len (by decide +kernel) (pa_cons (pv 0) pa_nil)) pe_int (nomark _)) (pw_or (pt_cmpR op_ne (pe_ix ix_tup (pv 0) pe_int (fun _ _ => rfl)) pe_str (nomark _)) (pw_or1 (pt_not (pt_val (pe_callB call_isi (by rfl) T.f_isinstance (by decide +kernel) (pa_cons (pe_ix ix_tup (pv 0) pe_int (fun _ _ => rfl)) (pa_cons (pe_bltn (v := .ty "str") (by rfl) T.f_str (by decide +kernel) rfl) pa_nil)))))))))
      (pss_one (ps_ret pe_bl))
      pss_nil)
    (pss_cons (ps_if (PW.pt (pw_or (pt_not (pt_val (C8.pe_c (c_is_number_or_none T) hr (by decide) rfl (pa_cons (pe_ix ix_tup (pv 0) pe_int (fun _ _ => rfl)) pa_nil)))) (pw_or1 (pt_not (pt_val (C8.pe_c (c_is_number_or_none T) hr (by decide) rfl (pa_cons (pe_ix ix_tup (pv 0) pe_int (fun _ _ => rfl)) pa_nil)))))))
      (pss_one (ps_ret pe_bl))
      pss_nil)
    (pss_one (ps_ret (pe_and (C8.pe_c (c_is_number T) hr (by decide) rfl (pa_cons (pe_ix ix_tup (pv 0) pe_int (fun _ _ => rfl)) pa_nil)) (pe_and (C8.pe_c (c_is_number T) hr (by decide) rfl (pa_cons (pe_ix ix_tup (pv 0) pe_int (fun _ _ => rfl)) pa_nil)) (pe_one (C8.pe_c (c_is_number T) hr (by decide) rfl (pa_cons (pe_ix ix_tup (pv 0) pe_int (fun _ _ => rfl)) pa_nil))))))))), ?_⟩
      exact ⟨_, rfl, q, _, rfl, .inr (SqT.of hq), rfl, true, rfl, iteT k⟩
--# is_back_line
def spBL : Sp := fun vs H Q _ => ∃ (q : Addr) (p t z : Int), vs = [.ref q] ∧ H q = some (.tup (Tl.back p t z).vals) ∧ ∀ H', Same H H' → Q (.bl true) H'
theorem sc_is_back_line : FnScope ["value", "part"] ["value"] (defScope s_is_back_line) := ⟨rfl, rfl, rfl, by decide +kernel, rfl, by decide +kernel, by decide +kernel⟩
theorem c_is_back_line {P : Program} {w : World} {K : PySem.W.Frag} {mg : Str → Option Value} {base : Heap} (T : Tx K mg) : C8.Cal P w K mg base 2 "is_back_line" (spBL) [] := by
  refine calD T.F_is_back_line T.g_is_back_line (fun _ _ _ _ _ _ us hl => match us, hl with | [_], _ => rfl) sc_is_back_line (fun vs H Q E h => ?_) (fun cdv A outer s H vs Q E hr h => ?_)
  · obtain ⟨q, p, t, z, rfl, _⟩ := h
    rfl
  · obtain ⟨q, p, t, z, rfl, hq, k⟩ := h
    refine ⟨_, (pss_one (ps_ret (pe_and (pe_cmpR op_eq (pe_callB call_len_seq (by rfl) T.f_len (by decide +kernel) (pa_cons (pv 0) pa_nil)) pe_int (nomark _)) (pe_and (pe_cmpR op_eq (pe_ix ix_tup (pv 0) pe_int (fun _ _ => rfl)) pe_str (nomark _)) (pe_one (pe_callB (cr_all rfl) (by rfl) T.f_all (by decide +kernel) (pa_cons (pe_lc (own := [("part", 1)]) (g := gName 1) (tt := tYes) (by rfl) sc_is_back_line.nd (pi_tup (pe_slice sl_tup (pv 0) (po_some pe_int) po_none)) (blkOk_by (own := [("part", 1)]) (N := ["value", "part"]) (sc := defScope s_is_back_line) (by decide +kernel)) (fun _ _ _ _ _ => (pg_name (i := 1) sc_is_back_line.nd rfl (Or.inl rfl))) (fun _ _ _ _ _ => pts_nil) (fun _ _ _ _ _ => (C8.pe_c (c_is_number T) hr (by decide) rfl (pa_cons (pv 1) pa_nil)))) pa_nil))))))), ?_⟩
    refine ⟨_, rfl, q, _, rfl, .inr (SqT.of hq), rfl, true, rfl, iteT ⟨_, rfl, q, _, _, _, rfl, rfl, SqT.of hq, atI_nat (j := 0) rfl, rfl, true, rfl, iteT ?_⟩⟩
    refine ⟨_, rfl, 1, rfl, q, _, rfl, SqT.of hq, ?_, fun u nu => ?_⟩
    · intro w
      have z1 : HT.sIx 4 0 (some 1) = 0 := w.1
      rw [show HT.sIx 4 0 (some 1) = min 1 4 from HT.sIx_nat 4 0 1] at z1
      exact absurd z1 (by decide)
    rw [cut1']
    have s1 : Same H (upd H u (.tup [V.int p, V.int t, V.int z])) := same_upd nu
    have hu : (upd H u (.tup [V.int p, V.int t, V.int z])) u = some (.tup ([p, t, z].map V.int)) := upd_same
    refine ⟨u, rfl, ⟨_, SqT.of upd_same⟩, fun D nD => ?_⟩
    have nD' : (upd H u (.tup [V.int p, V.int t, V.int z])) D = none := nD
    refine lc_it (walk_tup (K := K) (a := u) (xs := [p, t, z].map V.int)) (fun i H1 => Same (upd H u (.tup [V.int p, V.int t, V.int z])) H1 ∧ H1 D = some (.lst ((List.replicate i true).map V.bl))) ⟨same_upd nD', upd_same⟩ (fun i H1 _ w => SqT.of (w.1 _ _ hu)) ?_ ?_
    · rintro i v H1 H2 hi ⟨s2, hD⟩ ⟨rfl, ev⟩
      obtain ⟨y, rfl, ey⟩ := ivs_of ev
      refine ⟨rfl, _, rfl, _, _, true, false, rfl, .base (.int y), is_ty (by decide +kernel), is_ty (by decide +kernel), _, hD, ?_, Same.chg s2 nD', ?_⟩
      · rw [List.length_map, List.length_replicate]
        have : i < 3 := hi
        exact small1000 (by omega)
      · rw [upd_same, List.replicate_succ', List.map_append]
        rfl
    · rintro H1 ⟨s2, hD⟩
      exact ⟨D, _, rfl, SqL.of hD, qt (all_true _) (k _ (s1.trans s2))⟩
--# is_line
def spLineOk : Sp := fun vs H Q _ => ∃ (q : Addr) (n : Tl), vs = [.ref q] ∧ H q = some (.tup n.vals) ∧ ∀ H', Same H H' → Q (.bl true) H'
theorem sc_is_line : FnScope ["value"] ["value"] (defScope s_is_line) := ⟨rfl, rfl, rfl, by decide +kernel, rfl, by decide +kernel, by decide +kernel⟩
theorem c_is_line {P : Program} {w : World} {K : PySem.W.Frag} {mg : Str → Option Value} {base : Heap} (T : Tx K mg) : C8.Cal P w K mg base 4 "is_line" (spLineOk) [] := by
  refine calD T.F_is_line T.g_is_line (fun _ _ _ _ _ _ us hl => match us, hl with | [_], _ => rfl) sc_is_line (fun vs H Q E h => ?_) (fun cdv A outer s H vs Q E hr h => ?_)
  · obtain ⟨q, n, rfl, _⟩ := h
    rfl
  · obtain ⟨q, n, rfl, hq, k⟩ := h
    refine ⟨_, (pss_cons (ps_if (PW.pt (pw_or (pt_not (pt_val (pe_callB call_isi (by rfl) T.f_isinstance (by decide +kernel) (pa_cons (pv 0) (pa_cons (pe_bltn (v := .ty "tuple") (by rfl) T.f_tuple (by decide +kernel) rfl) pa_nil))))) (pw_or (pt_not (pt_truth (pv 0) (by intro _; rfl))) (pw_or1 (pt_not (pt_val (pe_callB call_isi (by rfl) T.f_isinstance (by decide +kernel) (pa_cons (pe_ix ix_tup (pv 0) pe_int (fun _ _ => rfl)) (pa_cons (pe_bltn (v := .ty "str") (by rfl) T.f_str (by decide +kernel) rfl) pa_nil)))))))))
      (pss_one (ps_ret pe_bl))
      pss_nil)
    (pss_one (ps_ret (pe_or (C8.pe_c (c_is_phrase_line T) hr (by decide) rfl (pa_cons (pv 0) pa_nil)) (pe_or (C8.pe_c (c_is_put_line T) hr (by decide) rfl (pa_cons (pv 0) pa_nil)) (pe_one (C8.pe_c (c_is_back_line T) hr (by decide) rfl (pa_cons (pv 0) pa_nil)))))))), ?_⟩
    obtain ⟨w, r, ew⟩ : ∃ w r, n.vals = .str w :: r := by
      cases n <;> exact ⟨_, _, rfl⟩
    have hq' := hq
    rw [ew] at hq'
    refine ⟨_, rfl, _, _, _, _, true, rfl, .ty _, .base (.tup hq), is_ty (by decide +kernel), true, rfl, iteF ⟨_, rfl, true, .inr (.inl ⟨_, SqT.of hq', rfl⟩), iteF ⟨_, rfl, q, _, _, _, rfl, rfl, SqT.of hq', atI_nat (j := 0) rfl, _, _, _, _, true, rfl, .ty _, .base (.str w), is_ty (by decide +kernel), true, rfl, iteF ?_⟩⟩⟩
    refine ⟨_, rfl, q, n, rfl, hq, _, rfl, ?_⟩
    cases n with
    | phrase p x z => exact iteT (k H (Same.refl _))
    | put p t x s0 o z => exact iteF ⟨_, rfl, q, _, rfl, hq, _, rfl, iteT (k H (Same.refl _))⟩
    | back p t z => exact iteF ⟨_, rfl, q, .back p t z, rfl, hq, _, rfl, iteF ⟨_, rfl, q, p, t, z, rfl, hq, fun H1 s1 => k H1 s1⟩⟩
--# is_tale
def spTaleOk : Sp := fun vs H Q _ => ∃ (a : Addr) (l : List Tl), vs = [.ref a] ∧ TlAt H a l ∧ l.length ≤ 40 ∧ ∀ H', Same H H' → Q (.bl true) H'
theorem sc_is_tale : FnScope ["value", "line"] ["value"] (defScope s_is_tale) := ⟨rfl, rfl, rfl, by decide +kernel, rfl, by decide +kernel, by decide +kernel⟩
theorem c_is_tale {P : Program} {w : World} {K : PySem.W.Frag} {mg : Str → Option Value} {base : Heap} (T : Tx K mg) : C8.Cal P w K mg base 5 "is_tale" (spTaleOk) [] := by
  refine calD T.F_is_tale T.g_is_tale (fun _ _ _ _ _ _ us hl => match us, hl with | [_], _ => rfl) sc_is_tale (fun vs H Q E h => ?_) (fun cdv A outer s H vs Q E hr h => ?_)
  · obtain ⟨a, l, rfl, _⟩ := h
    rfl
  · obtain ⟨a, l, rfl, ha, hl, k⟩ := h
    refine ⟨_, (pss_one (ps_ret (pe_and (pe_callB call_isi (by rfl) T.f_isinstance (by decide +kernel) (pa_cons (pv 0) (pa_cons (pe_bltn (v := .ty "list") (by rfl) T.f_list (by decide +kernel) rfl) pa_nil))) (pe_and (pe_cmpR op_le (pe_callB call_len_seq (by rfl) T.f_len (by decide +kernel) (pa_cons (pv 0) pa_nil)) (pe_glob (v := .int 40) rfl (T.g_MOST_LINES).choose_spec ⟨_, rfl⟩) (nomark _)) (pe_one (pe_callB (cr_all rfl) (by rfl) T.f_all (by decide +kernel) (pa_cons (pe_lc (own := [("line", 1)]) (g := gName 1) (tt := tYes) (by rfl) sc_is_tale.nd (pi_list (pv 0)) (blkOk_by (own := [("line", 1)]) (N := ["value", "line"]) (sc := defScope s_is_tale) (by decide +kernel)) (fun _ _ _ _ _ => (pg_name (i := 1) sc_is_tale.nd rfl (Or.inl rfl))) (fun _ _ _ _ _ => pts_nil) (fun _ _ _ _ _ => (C8.pe_c (c_is_line T) hr (by decide) rfl (pa_cons (pv 1) pa_nil)))) pa_nil))))))), ?_⟩
    obtain ⟨vs, hv, hal⟩ := ha
    refine ⟨_, rfl, _, _, _, _, true, rfl, .ty _, .base (.lst hv), is_ty (by decide +kernel), true, rfl, iteT ⟨_, rfl, a, _, rfl, .inl (SqL.of hv), _, _, rfl, rfl, true, congrArg V.bl (decide_eq_true (by rw [hal.len]; omega)), iteT ?_⟩⟩
    refine ⟨_, rfl, a, rfl, ⟨_, SqL.of hv⟩, fun D nD => ?_⟩
    refine lc_list (K := K) (a := a) (xs := vs) (fun i H1 => Same H H1 ∧ H1 D = some (.lst ((List.replicate i true).map V.bl))) ⟨same_upd nD, upd_same⟩ (fun i H1 _ w => SqL.of (w.1 _ _ hv)) ?_ ?_
    · rintro i v H1 ev ⟨s2, hD⟩
      obtain ⟨n, en, q, rfl, hq⟩ := hal.at ev
      refine ⟨rfl, _, rfl, q, n, rfl, s2 _ _ hq, fun H2 s3 => ⟨_, s3 _ _ hD, ?_, Same.chg (s2.trans s3) nD, ?_⟩⟩
      · rw [List.length_map, List.length_replicate]
        have := (List.getElem?_eq_some_iff.mp en).1
        exact small1000 (by omega)
      · rw [upd_same, List.replicate_succ', List.map_append]
        rfl
    · rintro H1 ⟨s2, hD⟩
      exact ⟨D, _, rfl, SqL.of hD, qt (all_true _) (k _ s2)⟩
--# judged
def spJudged (CR CW : Addr) : Sp := fun vs H Q _ => ∃ (f : Addr) (fr : List Int) (a : Addr) (l : List Tl), vs = [.ref f, .ref a] ∧ LsAt H f fr ∧ FrOk fr ∧ TlAt H a l ∧ (∀ n ∈ l, n.short) ∧ l.length ≤ 40 ∧
  (wrongT fr De.none 0 l = none → ∀ (H' : Hp) (y dy : Addr), Same H H' → H y = none → H' y = some (.ins CR dy []) → Q (.ref y) H') ∧
  (∀ i, wrongT fr De.none 0 l = some i → ∀ (H' : Hp) (y dy : Addr), Same H H' → H y = none → H' y = some (.ins CW dy (wfs (i : Int))) → Q (.ref y) H')
theorem sc_judged : FnScope ["froms", "tale", "line"] ["froms", "tale"] (defScope s_judged) := ⟨rfl, rfl, rfl, by decide +kernel, rfl, by decide +kernel, by decide +kernel⟩
theorem c_judged {P : Program} {w : World} {K : PySem.W.Frag} {mg : Str → Option Value} {base : Heap} (T : Tx K mg) : C8.Cal P w K mg base 7 "judged" (spJudged (He.ga K "Right") (He.ga K "Wrong")) [] := by
  refine calD T.F_judged T.g_judged (fun _ _ _ _ _ _ us hl => match us, hl with | [_, _], _ => rfl) sc_judged (fun vs H Q E h => ?_) (fun cdv A outer s H vs Q E hr h => ?_)
  · obtain ⟨f, fr, a, l, rfl, _⟩ := h
    rfl
  · obtain ⟨f, fr, a, l, rfl, hf, fo, ha, sh, hl, q0, q1⟩ := h
    refine ⟨_, (pss_cons (ps_if (pt_not (pt_val (C8.pe_c (c_is_froms T) hr (by decide) rfl (pa_cons (pv 0) pa_nil))))
      (pss_one ps_never)
      pss_nil)
    (pss_cons (ps_if (pt_not (pt_val (C8.pe_c (c_is_tale T) hr (by decide) rfl (pa_cons (pv 1) pa_nil))))
      (pss_one ps_never)
      pss_nil)
    (pss_cons (ps_set (i := 2) sc_judged.nd rfl (Or.inl rfl) (C8.pe_c (c_first_wrong_line T) hr (by decide) rfl (pa_cons (pv 0) (pa_cons (pv 1) pa_nil))))
    (pss_cons (ps_if (pt_cmpR op_isN (pv 2) pe_non (nomark _))
      (pss_one (ps_ret (pe_bare T.b_Right rfl T.g_Right)))
      pss_nil)
    (pss_one (ps_ret (C8.pe_mk (c_Wrong_init T) hr (by decide) rfl (pa_cons (pv 2) pa_nil)))))))), ?_⟩
    refine ⟨_, rfl, f, fr, rfl, hf, fo, fun H1 s1 => ⟨true, rfl, iteF ?_⟩⟩
    refine ⟨_, rfl, a, l, rfl, ha.same s1, hl, fun H2 s2 => ⟨true, rfl, iteF ?_⟩⟩
    have s02 := s1.trans s2
    refine ⟨_, rfl, _, rfl, f, fr, a, l, rfl, hf.same s02, fo, ha.same s02, sh, by omega, fun H3 s3 => ?_⟩
    have s03 := s02.trans s3
    cases ew : wrongT fr De.none 0 l with
    | none =>
      refine ⟨_, rfl, rfl, true, rfl, iteT fun y dy ny ndy dne => ?_⟩
      exact q0 ew _ y dy (s03.trans ((same_upd ndy).trans (same_upd (by rw [upd_ne (Ne.symm dne)]; exact ny)))) (s03.free ny) upd_same
    | some i =>
      refine ⟨_, rfl, rfl, false, rfl, iteF ⟨_, rfl, fun y dy ny ndy dne => ⟨y, dy, (i : Int), rfl, upd_same, fun H4 h4 k4 => ⟨rfl, ?_⟩⟩⟩⟩
      exact q1 i ew H4 y dy (fun x u ex => k4 x u (by rw [upd_ne (ne_of_none (s03 _ _ ex) ny), upd_ne (ne_of_none (s03 _ _ ex) ndy)]; exact s03 _ _ ex) (ne_of_none (s03 _ _ ex) ny)) (s03.free ny) h4

end PD

namespace PD
open PySem PySem.Spec PyProof.Rows L2

/-! Phrasedesk, law_k10: a tale judged right -/
theorem All2.take {α : Type} {F : V → α → Prop} {vs : List V} {xs : List α} (h : All2 F vs xs) (k : Nat) : All2 F (vs.take k) (xs.take k) := by
  refine ⟨by rw [List.length_take, List.length_take, h.len], fun i x e => ?_⟩
  have hi : i < k := by
    have := (List.getElem?_eq_some_iff.mp e).1
    rw [List.length_take] at this
    omega
  rw [List.getElem?_take_of_lt hi] at e
  obtain ⟨v, e1, e2⟩ := h.each i x e
  exact ⟨v, by rw [List.getElem?_take_of_lt hi]; exact e1, e2⟩
theorem All2.drop {α : Type} {F : V → α → Prop} {vs : List V} {xs : List α} (h : All2 F vs xs) (k : Nat) : All2 F (vs.drop k) (xs.drop k) := by
  refine ⟨by rw [List.length_drop, List.length_drop, h.len], fun i x e => ?_⟩
  rw [List.getElem?_drop] at e
  obtain ⟨v, e1, e2⟩ := h.each (k + i) x e
  exact ⟨v, by rw [List.getElem?_drop]; exact e1, e2⟩
theorem All2.reverse {α : Type} {F : V → α → Prop} {vs : List V} {xs : List α} (h : All2 F vs xs) : All2 F vs.reverse xs.reverse := by
  refine ⟨by rw [List.length_reverse, List.length_reverse, h.len], fun i x e => ?_⟩
  have hi : i < xs.length := by
    have := (List.getElem?_eq_some_iff.mp e).1
    rwa [List.length_reverse] at this
  rw [List.getElem?_reverse hi] at e
  obtain ⟨v, e1, e2⟩ := h.each _ x e
  exact ⟨v, by rw [List.getElem?_reverse (by rw [h.len]; exact hi), h.len]; exact e1, e2⟩
theorem cut_to (xs : List V) (k : Nat) : cutV xs none (some (k : Int)) = xs.take k := by
  unfold cutV
  rw [HT.sIx_none, show HT.sIx xs.length xs.length (some (k : Int)) = min k xs.length from HT.sIx_nat _ _ k, List.drop_zero, Nat.sub_zero]
  by_cases c : k ≤ xs.length
  · rw [Nat.min_eq_left c]
  · rw [Nat.min_eq_right (by omega), List.take_of_length_le (Nat.le_refl _), List.take_of_length_le (by omega)]
theorem cut_from (xs : List V) (k : Nat) : cutV xs (some (k : Int)) none = xs.drop k := by
  unfold cutV
  rw [HT.sIx_none, show HT.sIx xs.length 0 (some (k : Int)) = min k xs.length from HT.sIx_nat _ _ k]
  by_cases c : k ≤ xs.length
  · rw [Nat.min_eq_left c, List.take_of_length_le (by rw [List.length_drop]; omega)]
  · rw [Nat.min_eq_right (by omega), List.drop_length, List.drop_of_length_le (by omega), List.take_nil]
/-- a tale that may be judged -/
structure TaleAt (H : Hp) (a : Addr) (l : List Tl) : Prop where
  at_ : TlAt H a l
  low : ∀ n ∈ l, n.Low
  len : l.length ≤ 100
theorem TaleAt.same {H H' : Hp} (s : Same H H') {a : Addr} {l : List Tl} (h : TaleAt H a l) : TaleAt H' a l := ⟨h.at_.same s, h.low, h.len⟩
theorem TaleAt.short {H : Hp} {a : Addr} {l : List Tl} (h : TaleAt H a l) : ∀ n ∈ l, n.short := fun n hn => (h.low n hn).short
theorem ln_tl {H : Hp} {a : Addr} {ls : List Line} (h : LnAt H a ls) : TlAt H a (ls.map Line.tl) := by
  obtain ⟨vs, hv, ha⟩ := h
  refine ⟨vs, hv, by rw [List.length_map]; exact ha.len, fun i n e => ?_⟩
  rw [List.getElem?_map] at e
  obtain ⟨m, em, rfl⟩ := Option.map_eq_some_iff.mp e
  obtain ⟨v, e1, q, e2, e3⟩ := ha.each i m em
  exact ⟨v, e1, q, e2, by rw [Line.tl_vals]; exact e3⟩
theorem wrongI_neg {fr : List Int} {l : List Tl} : decide (wrongI fr l < 0) = (wrongFrom fr De.none 0 l).isNone := by
  unfold wrongI
  cases wrongFrom fr De.none 0 l with
  | none => rfl
  | some i => exact decide_eq_false (by show ¬ ((i : Int) < 0); omega)
theorem wrongI_is {fr : List Int} {l : List Tl} {k : Int} : decide (some k = (wrongFrom fr De.none 0 l).map fun i => (i : Int)) = (decide (0 ≤ k) && decide (k = wrongI fr l)) := by
  unfold wrongI
  cases wrongFrom fr De.none 0 l with
  | none =>
    show false = (decide (0 ≤ k) && decide (k = -1))
    by_cases c : k = -1
    · rw [c]
      rfl
    · rw [decide_eq_false c, Bool.and_false]
  | some i =>
    show decide (some k = some (i : Int)) = (decide (0 ≤ k) && decide (k = (i : Int)))
    by_cases c : k = (i : Int)
    · subst c
      rw [decide_eq_true rfl, decide_eq_true rfl, decide_eq_true (by omega)]
      rfl
    · rw [decide_eq_false c, Bool.and_false, decide_eq_false (fun z => c (Option.some.inj z))]
theorem sc_law_whole : FnScope ["_law_found"] ["_law_found"] (defScope s_law_whole) := ⟨rfl, rfl, rfl, by decide +kernel, rfl, by decide +kernel, by decide +kernel⟩
theorem c_law_whole {P : Program} {w : World} {K : PySem.W.Frag} {mg : Str → Option Value} {base : Heap} (T : Tx K mg) : C8.Cal P w K mg base 1 "_law_whole" (spNum K) [] := by
  refine calD T.F_law_whole T.g_law_whole (fun _ _ _ _ _ _ us hl => match us, hl with | [_], _ => rfl) sc_law_whole (fun vs H Q E h => ?_) (fun cdv A outer s H vs Q E hr h => ?_)
  · obtain ⟨v, t, b1, b2, rfl, _⟩ := h
    rfl
  · obtain ⟨v, t, b1, b2, rfl, ty, k1, k2, q⟩ := h
    refine ⟨_, (pss_one (ps_ret (pe_and (pe_callB call_isi (by rfl) T.f_isinstance (by decide +kernel) (pa_cons (pv 0) (pa_cons (pe_bltn (v := .ty "int") (by rfl) T.f_int (by decide +kernel) rfl) pa_nil))) (pe_one (pe_not (pe_callB call_isi (by rfl) T.f_isinstance (by decide +kernel) (pa_cons (pv 0) (pa_cons (pe_bltn (v := .ty "bool") (by rfl) T.f_bool (by decide +kernel) rfl) pa_nil)))))))), ?_⟩
    refine ⟨_, rfl, _, _, t, _, b1, rfl, .ty _, ty, k1, b1, rfl, ?_⟩
    cases b1 with
    | false => exact iteF q
    | true => exact iteT ⟨_, rfl, _, _, t, _, b2, rfl, .ty _, ty, k2, b2, rfl, q⟩
--# _law_right10
def dTl : Tl → PyData
  | .phrase p x k => .tuple [.str "phrase", .int p, .str x, .int k]
  | .put p t x s o k => .tuple [.str "put", .int p, .int t, .str x, dO s, dO o, .int k]
  | .back p t k => .tuple [.str "back", .int p, .int t, .int k]
def dTs (l : List Tl) : PyData := .list (l.map dTl)
theorem strOkL {x : Str} (h : lowS x) : PyData.strOk x = true := by
  unfold PyData.strOk
  rw [← Array.all_toList]
  refine List.all_eq_true.mpr fun c hc => decide_eq_true ?_
  have := (h c hc).2
  omega
theorem lay_o10 (s : Option Int) : (dO s).canLay0 = true := by cases s <;> rfl
theorem lay_tl : ∀ {n : Tl}, n.Low → (dTl n).canLay0 = true
  | .phrase p x k, h => by
    simp only [dTl, PyData.canLay0, PyData.canLayAll0, strOkL h.1, show PyData.strOk (Str.ofString "phrase") = true by decide +kernel, Bool.and_self]
  | .put p t x s o k, h => by
    simp only [dTl, PyData.canLay0, PyData.canLayAll0, lay_o10, strOkL h.1, show PyData.strOk (Str.ofString "put") = true by decide +kernel, Bool.and_self]
  | .back p t k, h => by
    simp only [dTl, PyData.canLay0, PyData.canLayAll0, show PyData.strOk (Str.ofString "back") = true by decide +kernel, Bool.and_self]
theorem lay_tls : ∀ {l : List Tl}, (∀ n ∈ l, n.Low) → PyData.canLayAll0 (l.map dTl) = true
  | [], _ => rfl
  | c :: row, h => by
    rw [List.map_cons]
    simp only [PyData.canLayAll0, lay_tl (h c List.mem_cons_self), Bool.true_and]
    exact lay_tls fun n hn => h n (List.mem_cons_of_mem _ hn)
theorem dep_o10 (s : Option Int) : (dO s).depth = 0 := by cases s <;> rfl
theorem dep_tl (n : Tl) : (dTl n).depth ≤ 3 := by
  cases n <;> simp only [dTl, PyData.depth, PyData.depthAll, dep_o10] <;> omega
theorem dep_tls : ∀ l : List Tl, PyData.depthAll (l.map dTl) ≤ 3
  | [] => by decide
  | c :: l => by
    rw [List.map_cons]
    have := dep_tls l
    have := dep_tl c
    simp only [PyData.depthAll]
    omega
theorem shaped_ft (fr : List Int) {l : List Tl} (h : ∀ n ∈ l, n.Low) : SeqAt.shaped (.list [dI fr, dTs l]) = true := by
  have h1 : (dI fr).canLay0 = true := by
    unfold dI
    simp only [PyData.canLay0, lay_ints]
  have h2 : (dTs l).canLay0 = true := by
    unfold dTs
    simp only [PyData.canLay0, lay_tls h]
  have d1 : (dI fr).depth ≤ 1 := by
    unfold dI
    simp only [PyData.depth, depth_ints]
    decide
  have d2 : (dTs l).depth ≤ 4 := by
    unfold dTs
    simp only [PyData.depth]
    have := dep_tls l
    omega
  unfold SeqAt.shaped
  rw [Bool.and_eq_true]
  refine ⟨?_, decide_eq_true ?_⟩
  · simp only [PyData.canLay0, PyData.canLayAll0, h1, h2]
    rfl
  · simp only [PyData.depth, PyData.depthAll]
    omega
section
variable {K : PySem.W.Frag} {H : Hp}
theorem dp_tl {q : Addr} : ∀ {n : Tl}, H q = some (.tup n.vals) → Dp K H (.ref q) (dTl n)
  | .phrase p x k, h => .tup (SqT.of h) (.cons (.str _) (.cons (.int _) (.cons (.str _) (.cons (.int _) .nil))))
  | .put p t x s o k, h => .tup (SqT.of h) (.cons (.str _) (.cons (.int _) (.cons (.int _) (.cons (.str _) (.cons (dp_o s) (.cons (dp_o o) (.cons (.int _) .nil)))))))
  | .back p t k, h => .tup (SqT.of h) (.cons (.str _) (.cons (.int _) (.cons (.int _) (.cons (.int _) .nil))))
theorem dpa_tls : ∀ {vs : List V} {l : List Tl}, All2 (TlV H) vs l → DpAll K H vs (l.map dTl)
  | [], [], _ => .nil
  | [], _ :: _, h => by have := h.len; simp at this
  | _ :: _, [], h => by have := h.len; simp at this
  | v :: vs, q :: ps, h => by
    obtain ⟨⟨r, e, a⟩, b⟩ := h.tail
    rw [e]
    exact .cons (dp_tl a) (dpa_tls b)
theorem dp_tls {a : Addr} {l : List Tl} (h : TlAt H a l) : Dp K H (.ref a) (dTs l) := let ⟨vs, x, y⟩ := h; .lst (SqL.of x) (dpa_tls y)
theorem dp_ft {a x y : Addr} {fr : List Int} {l : List Tl} (h : H a = some (.lst [.ref x, .ref y])) (hx : LsAt H x fr) (hy : TlAt H y l) : Dp K H (.ref a) (.list [dI fr, dTs l]) :=
  .lst (SqL.of h) (.cons (dp_ints hx) (.cons (dp_tls hy) .nil))
end
def dB (bs : List Bool) : PyData := .list (bs.map .bool)
section
variable {K : PySem.W.Frag} {H : Hp}
theorem dpa_bools : ∀ bs : List Bool, DpAll K H (bs.map V.bl) (bs.map PyData.bool)
  | [] => .nil
  | b :: bs => .cons (.bl b) (dpa_bools bs)
theorem dp_bools {a : Addr} {bs : List Bool} (h : H a = some (.lst (bs.map V.bl))) : Dp K H (.ref a) (dB bs) := .lst (SqL.of h) (dpa_bools bs)
end
theorem shaped_bools4 (b1 b2 b3 b4 : Bool) : SeqAt.shaped (dB [b1, b2, b3, b4]) = true := by
  unfold SeqAt.shaped dB
  simp only [List.map_cons, List.map_nil, PyData.canLay0, PyData.canLayAll0, PyData.depth, PyData.depthAll]
  decide
theorem eqv_same {d : PyData} (h : SeqAt.shaped d = true) : PyData.eqv d d = true := SeqAt.eqv_refl d (SeqAt.canLay_of_shaped h)
theorem eqv_b4 : PyData.eqv (dB [true, false, false, false]) (dB [true, false, false, false]) = true := by decide
theorem eqv_b4' : PyData.eqv (dB [false, true, false, false]) (dB [false, true, false, false]) = true := by decide
theorem wfs_shows (k : Int) : (wfs k).lookup ("shows" : Str) = none := by
  unfold wfs
  have h : (("shows" : Str) == ("line" : Str)) = false := by decide +kernel
  simp only [List.lookup, h]
theorem wrongI_eq {fr : List Int} {l : List Tl} {i : Nat} : decide (some (i : Int) = (wrongFrom fr De.none 0 l).map fun i => (i : Int)) = decide (V.int (wrongI fr l) = V.int (i : Int)) := by
  rw [wrongI_is, dec_int', decide_eq_true (by omega : (0 : Int) ≤ (i : Int)), Bool.true_and]
  exact decide_eq_decide.mpr ⟨fun z => z.symm, fun z => z.symm⟩
def spRight10 : Sp := fun vs H Q _ => ∃ (f : Addr) (fr : List Int) (a : Addr) (l : List Tl) (o u f2 : Addr) (fr2 : List Int) (a2 : Addr) (l2 : List Tl), vs = [.ref f, .ref a, .ref o] ∧ LsAt H f fr ∧ FrOk fr ∧ TaleAt H a l ∧ l.length ≤ 40 ∧ H o = some (.lst [.ref u]) ∧ H u = some (.tup [.ref f2, .ref a2]) ∧ LsAt H f2 fr2 ∧ FrOk fr2 ∧ TaleAt H a2 l2 ∧ ∀ H' : Hp, Same H H' → Q (.bl true) H'
theorem sc_law_right : FnScope ["_law_froms_here", "_law_tale", "_law_others", "_law_one", "_law_two", "_law_place", "_law_again", "_law_found", "_law_sorts", "_law_some", "_law_other", "_law_first"] ["_law_froms_here", "_law_tale", "_law_others"] (defScope s_law_right) := ⟨rfl, rfl, rfl, by decide +kernel, rfl, by decide +kernel, by decide +kernel⟩
theorem c_law_right {P : Program} {w : World} {K : PySem.W.Frag} {mg : Str → Option Value} {base : Heap} (T : Tx K mg) : C8.Cal P w K mg base 9 "_law_right" (spRight10) [] := by
  refine calD T.F_law_right T.g_law_right (fun _ _ _ _ _ _ us hl => match us, hl with | [_, _, _], _ => rfl) sc_law_right (fun vs H Q E h => ?_) (fun cdv A outer s H vs Q E hr h => ?_)
  · obtain ⟨f, fr, a, l, o, u, f2, fr2, a2, l2, rfl, _⟩ := h
    rfl
  · obtain ⟨f, fr, a, l, o, u, f2, fr2, a2, l2, rfl, hf, fo, ta, l40, ho, hu, hf2, fo2, ta2, q⟩ := h
    obtain ⟨ts, hts, ats⟩ := id ta.at_
    have wl : wrongT fr De.none 0 l = wrongFrom fr De.none 0 l := wrongT_low ta.low
    have wl2 : wrongT fr2 De.none 0 l2 = wrongFrom fr2 De.none 0 l2 := wrongT_low ta2.low
    cases ew : wrongFrom fr De.none 0 l with
    | none =>
      have ei : wrongI fr l = -1 := by
        unfold wrongI
        rw [ew]
      refine ⟨_, (pss_cons (ps_par3 (i := 3) (j := 4) (l := 5) (by rfl) sc_law_right.nd rfl rfl rfl (by decide) (by decide) (by decide) rfl rfl rfl (pa_cons (pe_callTy call_list_of (by rfl) T.f_list (by decide +kernel) (pa_cons (pv 0) pa_nil)) (pa_cons (pe_callTy call_list_of (by rfl) T.f_list (by decide +kernel) (pa_cons (pv 1) pa_nil)) (pa_cons (C8.pe_c (c_law_wrong T) hr (by decide) rfl (pa_cons (pv 0) (pa_cons (pv 1) pa_nil))) pa_nil))) (by rfl))
    (pss_cons (ps_for PassesOwn.never rfl (pi_range1 (by rfl) T.f_range (pa_cons pe_int pa_nil)) (pg_name (i := 6) sc_law_right.nd rfl (Or.inl rfl))
      (pss_cons (ps_set (i := 7) sc_law_right.nd rfl (Or.inl rfl) (C8.pe_c (c_judged T) hr (by decide) rfl (pa_cons (pv 3) (pa_cons (pv 4) pa_nil))))
      (pss_cons (ps_set (i := 8) sc_law_right.nd rfl (Or.inl rfl) (pe_lst (pa_cons (pe_callB call_isi (by rfl) T.f_isinstance (by decide +kernel) (pa_cons (pv 7) (pa_cons (pe_glob (v := .ref (He.ga K "Right")) rfl T.g_Right rfl) pa_nil))) (pa_cons (pe_callB call_isi (by rfl) T.f_isinstance (by decide +kernel) (pa_cons (pv 7) (pa_cons (pe_glob (v := .ref (He.ga K "Wrong")) rfl T.g_Wrong rfl) pa_nil))) (pa_cons (pe_callB call_isi (by rfl) T.f_isinstance (by decide +kernel) (pa_cons (pv 7) (pa_cons (pe_glob (v := .ref (He.ga K "Fresh")) rfl T.g_Fresh rfl) pa_nil))) (pa_cons (pe_callB call_isi (by rfl) T.f_isinstance (by decide +kernel) (pa_cons (pv 7) (pa_cons (pe_glob (v := .ref (He.ga K "Old")) rfl T.g_Old rfl) pa_nil))) pa_nil))))))
      (pss_cons (ps_if (PW.pt (pw_or (pt_not (pt_val (pe_callB call_isi (by rfl) T.f_isinstance (by decide +kernel) (pa_cons (pv 7) (pa_cons (pe_glob (v := .ref (He.ga K "Answer")) rfl T.g_Answer rfl) pa_nil))))) (pw_or1 (pt_cmpR (op_neD hr.units) (pv 8) (pe_lst (pa_cons (pe_cmpR op_lt (pv 5) pe_int (nomark _)) (pa_cons (pe_cmpR op_ge (pv 5) pe_int (nomark _)) (pa_cons pe_bl (pa_cons pe_bl pa_nil))))) (nomark _)))))
        (pss_one (ps_ret pe_bl))
        pss_nil)
      (pss_cons (ps_if (PW.pt (pw_or (pt_val (pe_callB call_isi (by rfl) T.f_isinstance (by decide +kernel) (pa_cons (pv 7) (pa_cons (pe_glob (v := .ref (He.ga K "Rounds")) rfl T.g_Rounds rfl) pa_nil)))) (pw_or1 (pt_cmpR (op_neD hr.units) (pe_lst (pa_cons (pv 3) (pa_cons (pv 4) pa_nil))) (pe_lst (pa_cons (pv 0) (pa_cons (pv 1) pa_nil))) (nomark _)))))
        (pss_one (ps_ret pe_bl))
        pss_nil)
      (pss_cons (ps_if (PW.pt (pw_and (pt_cmpR op_ge (pv 5) pe_int (nomark _)) (pw_and1 (PW.pt (pw_or (pt_not (pt_val (C8.pe_c (c_law_whole T) hr (by decide) rfl (pa_cons (pe_fld (pv 7) (by rfl)) pa_nil)))) (pw_or1 (pt_cmpR op_ne (pe_fld (pv 7) (by rfl)) (pv 5) (nomark _))))))))
        (pss_one (ps_ret pe_bl))
        pss_nil)
      (pss_cons (ps_if (pt_not (pt_val (C8.pe_c (c_law_says T) hr (by decide) rfl (pa_cons (C8.pe_mt (c_Right_shows T) hr (by decide) (pv 7) (pa_cons (pv 0) (pa_cons (pv 1) pa_nil))) (pa_cons pe_bl pa_nil)))))
        (pss_one (ps_ret pe_bl))
        pss_nil)
      (pss_one (ps_for PassesOwn.never rfl (pi_list (pv 2)) (pg_tup rfl (pgs_cons (pg_name (i := 9) sc_law_right.nd rfl (Or.inl rfl)) (pgs_cons (pg_name (i := 10) sc_law_right.nd rfl (Or.inl rfl)) pgs_nil)))
        (pss_cons (ps_set (i := 11) sc_law_right.nd rfl (Or.inl rfl) (C8.pe_c (c_law_wrong T) hr (by decide) rfl (pa_cons (pv 9) (pa_cons (pv 10) pa_nil))))
        (pss_one (ps_if (pt_not (pt_val (C8.pe_c (c_law_says T) hr (by decide) rfl (pa_cons (C8.pe_mt (c_Right_shows T) hr (by decide) (pv 7) (pa_cons (pv 9) (pa_cons (pv 10) pa_nil))) (pa_cons (pe_ifExp (pt_cmpR op_lt (pv 5) pe_int (nomark _)) (pe_cmpR op_lt (pv 11) pe_int (nomark _)) (pe_cmpR op_eq (pv 11) (pv 5) (nomark _))) pa_nil)))))
          (pss_one (ps_ret pe_bl))
          pss_nil))))))))))))
    (pss_one (ps_ret pe_bl)))), ?_⟩
      refine ⟨_, rfl, f, _, rfl, .inl (SqL.of hf), fun one n1 => ?_⟩
      have s1 : Same H (upd H one (.lst (fr.map V.int))) := same_upd n1
      have l1 : LsAt (upd H one (.lst (fr.map V.int))) one fr := upd_same
      generalize upd H one (.lst (fr.map V.int)) = H1 at s1 l1 ⊢
      refine ⟨_, rfl, a, _, rfl, .inl (SqL.of (s1 _ _ hts)), fun two n2 => ?_⟩
      have s2 : Same H1 (upd H1 two (.lst ts)) := same_upd n2
      have r2 : TlAt (upd H1 two (.lst ts)) two l := ⟨ts, upd_same, ats.mono fun _ _ ⟨q, x, y⟩ => ⟨q, x, s2 _ _ (s1 _ _ y)⟩⟩
      generalize upd H1 two (.lst ts) = H2 at s2 r2 ⊢
      have s02 := s1.trans s2
      refine ⟨_, rfl, _, rfl, f, fr, a, l, rfl, hf.same s02, fo, ta.at_.same s02, ta.low, ta.len, fun H3 s3 => ?_⟩
      rw [ei]
      refine ⟨_, _, _, rfl, ?_⟩
      have s03 := s02.trans s3
      have l3 := (l1.same s2).same s3
      have r3 := r2.same s3
      refine ⟨2, rfl, by decide, by decide, ?_⟩
      refine for_range (lo := 0) (n := 2) (fun i σ H4 => ∃ v6 v7 v8 v9 v10 v11 : Option V, σ = [some (.ref f), some (.ref a), some (.ref o), some (.ref one), some (.ref two), some (.int (-1)), v6, v7, v8, v9, v10, v11] ∧ Same H3 H4) ⟨none, none, none, none, none, none, rfl, Same.refl _⟩ ?_ ?_
      · rintro i σ H4 hi ⟨v6, v7, v8, v9, v10, v11, rfl, s4⟩
        refine ⟨_, rfl, _, rfl, one, fr, two, l, rfl, l3.same s4, fo, r3.same s4, ta.short, l40, fun _ H5 y dy s5 ny hy => ?_, fun k ek => by rw [wl, ew] at ek; cases ek⟩
        have hF : ∀ {G : Hp}, Same H5 G → TyX K G (.ref y) (.ref (He.ga K "Right")) := fun s => T.t_Right.ty T.k_Right (s _ _ hy)
        have rf := Same.refl H5
        refine ⟨_, rfl, _, _, _, _, true, rfl, .own _, hF rf, T.is_Right_Right, _, rfl, _, _, _, _, false, rfl, .own _, hF rf, T.is_Right_Wrong, _, rfl, _, _, _, _, false, rfl, .own _, hF rf, T.is_Right_Fresh, _, rfl, _, _, _, _, false, rfl, .own _, hF rf, T.is_Right_Old, (by show 4 ≤ sizeLine; decide), fun so nso => ?_⟩
        have s6 := same_upd nso (o := .lst [V.bl true, V.bl false, V.bl false, V.bl false])
        have hso : (upd H5 so (.lst [V.bl true, V.bl false, V.bl false, V.bl false])) so = some (.lst ([true, false, false, false].map V.bl)) := upd_same
        generalize upd H5 so (.lst [V.bl true, V.bl false, V.bl false, V.bl false]) = H6 at s6 hso ⊢
        refine ⟨_, rfl, _, _, _, _, true, rfl, .own _, hF s6, T.is_Right_Answer, true, rfl, iteF ?_⟩
        refine ⟨_, rfl, _, rfl, _, _, rfl, rfl, _, rfl, _, _, rfl, rfl, (by show 4 ≤ sizeLine; decide), fun m3 nm3 => ?_⟩
        have s7 := same_upd nm3 (o := .lst [V.bl (decide ((-1 : Int) < 0)), V.bl (decide ((0 : Int) ≤ -1)), V.bl false, V.bl false])
        refine ⟨_, _, dp_bools (bs := [true, false, false, false]) (s7 _ _ hso), dp_bools (bs := [true, false, false, false]) upd_same, shaped_bools4 _ _ _ _, shaped_bools4 _ _ _ _, false, by rw [eqv_b4]; rfl, iteF ?_⟩
        have s57 := s6.trans s7
        generalize upd H6 m3 (.lst [V.bl (decide ((-1 : Int) < 0)), V.bl (decide ((0 : Int) ≤ -1)), V.bl false, V.bl false]) = H7 at s57 ⊢
        clear s7
        refine ⟨_, rfl, _, _, _, _, false, rfl, .own _, hF s57, T.is_Right_Rounds, false, rfl, iteF ?_⟩
        refine ⟨_, rfl, _, rfl, (by show 2 ≤ sizeLine; decide), fun w1 nw1 => ⟨_, rfl, _, rfl, (by show 2 ≤ sizeLine; decide), fun w2 nw2 => ?_⟩⟩
        have s8 := (same_upd nw1 (o := .lst [V.ref one, V.ref two])).trans (same_upd nw2 (o := .lst [V.ref f, V.ref a]))
        have s58 := s57.trans s8
        have s48 := (s4.trans s5).trans s58
        have s08 := s03.trans s48
        refine ⟨_, _, dp_ft (same_upd nw2 _ _ upd_same) (l3.same s48) (r3.same s48), dp_ft upd_same (hf.same s08) (ta.at_.same s08), shaped_ft _ ta.low, shaped_ft _ ta.low, false, by rw [eqv_same (shaped_ft fr ta.low)]; rfl, iteF ?_⟩
        generalize upd (upd H7 w1 (.lst [V.ref one, V.ref two])) w2 (.lst [V.ref f, V.ref a]) = H8 at s58 s48 s08 ⊢
        clear s8
        refine ⟨_, rfl, _, _, rfl, rfl, false, rfl, iteF ?_⟩
        refine ⟨_, rfl, y, dy, [], rfl, s58 _ _ hy, rfl, _, rfl, _, rfl, y, f, fr, a, l, rfl, hf.same s08, fo, ta.at_.same s08, ta.short, ta.len, fun H9 s9 => ?_⟩
        refine ⟨_, _, rfl, true, by rw [wl, ew]; rfl, iteF ?_⟩
        have s59 := s58.trans s9
        have s09 := s08.trans s9
        have ho9 := s09 _ _ ho
        refine ⟨_, rfl, o, rfl, ⟨_, SqL.of ho9⟩, ?_⟩
        refine for_list (K := K) (a := o) (xs := [V.ref u]) (fun j σ H11 => ∃ v9 v10 v11 : Option V, σ = [some (.ref f), some (.ref a), some (.ref o), some (.ref one), some (.ref two), some (.int (-1)), some (.int (0 + (i : Int))), some (.ref y), some (.ref so), v9, v10, v11] ∧ Same H9 H11) ⟨v9, v10, v11, rfl, Same.refl _⟩ (fun j σ H11 _ ⟨_, _, _, _, z⟩ => SqL.of (z _ _ ho9)) ?_ ?_
        · rintro j x σ H11 hx ⟨w9, w10, w11, rfl, s11⟩
          obtain ⟨rfl⟩ : x = V.ref u := by
            match j, hx with
            | 0, hx => exact (Option.some.inj hx).symm
          have s011 := s09.trans s11
          refine ⟨u, _, rfl, SqT.of (s011 _ _ hu), rfl, _, _, rfl, _, _, rfl, rfl, ?_⟩
          refine ⟨_, rfl, _, rfl, f2, fr2, a2, l2, rfl, hf2.same s011, fo2, ta2.at_.same s011, ta2.low, ta2.len, fun H12 s12 => ?_⟩
          have s012 := s011.trans s12
          have s512 := (s59.trans s11).trans s12
          refine ⟨_, rfl, y, dy, [], rfl, s512 _ _ hy, rfl, _, rfl, _, rfl, y, f2, fr2, a2, l2, rfl, hf2.same s012, fo2, ta2.at_.same s012, ta2.short, ta2.len, fun H13 s13 => ?_⟩
          refine ⟨_, rfl, _, _, rfl, rfl, true, rfl, iteT ⟨_, rfl, _, _, rfl, rfl, _, _, rfl, true, congrArg V.bl (decide_eq_true ?_), iteF ⟨_, _, _, rfl, (s11.trans s12).trans s13⟩⟩⟩
          rw [wl2, wrongI_neg]
        · rintro σ H11 ⟨w9, w10, w11, rfl, s11⟩
          exact ⟨_, _, _, _, _, _, rfl, ((s4.trans s5).trans s59).trans s11⟩
      · rintro σ H4 ⟨v6, v7, v8, v9, v10, v11, rfl, s4⟩
        exact q _ (s03.trans s4)
    | some k =>
      have ei : wrongI fr l = (k : Int) := by
        unfold wrongI
        rw [ew]
      refine ⟨_, (pss_cons (ps_par3 (i := 3) (j := 4) (l := 5) (by rfl) sc_law_right.nd rfl rfl rfl (by decide) (by decide) (by decide) rfl rfl rfl (pa_cons (pe_callTy call_list_of (by rfl) T.f_list (by decide +kernel) (pa_cons (pv 0) pa_nil)) (pa_cons (pe_callTy call_list_of (by rfl) T.f_list (by decide +kernel) (pa_cons (pv 1) pa_nil)) (pa_cons (C8.pe_c (c_law_wrong T) hr (by decide) rfl (pa_cons (pv 0) (pa_cons (pv 1) pa_nil))) pa_nil))) (by rfl))
    (pss_cons (ps_for PassesOwn.never rfl (pi_range1 (by rfl) T.f_range (pa_cons pe_int pa_nil)) (pg_name (i := 6) sc_law_right.nd rfl (Or.inl rfl))
      (pss_cons (ps_set (i := 7) sc_law_right.nd rfl (Or.inl rfl) (C8.pe_c (c_judged T) hr (by decide) rfl (pa_cons (pv 3) (pa_cons (pv 4) pa_nil))))
      (pss_cons (ps_set (i := 8) sc_law_right.nd rfl (Or.inl rfl) (pe_lst (pa_cons (pe_callB call_isi (by rfl) T.f_isinstance (by decide +kernel) (pa_cons (pv 7) (pa_cons (pe_glob (v := .ref (He.ga K "Right")) rfl T.g_Right rfl) pa_nil))) (pa_cons (pe_callB call_isi (by rfl) T.f_isinstance (by decide +kernel) (pa_cons (pv 7) (pa_cons (pe_glob (v := .ref (He.ga K "Wrong")) rfl T.g_Wrong rfl) pa_nil))) (pa_cons (pe_callB call_isi (by rfl) T.f_isinstance (by decide +kernel) (pa_cons (pv 7) (pa_cons (pe_glob (v := .ref (He.ga K "Fresh")) rfl T.g_Fresh rfl) pa_nil))) (pa_cons (pe_callB call_isi (by rfl) T.f_isinstance (by decide +kernel) (pa_cons (pv 7) (pa_cons (pe_glob (v := .ref (He.ga K "Old")) rfl T.g_Old rfl) pa_nil))) pa_nil))))))
      (pss_cons (ps_if (PW.pt (pw_or (pt_not (pt_val (pe_callB call_isi (by rfl) T.f_isinstance (by decide +kernel) (pa_cons (pv 7) (pa_cons (pe_glob (v := .ref (He.ga K "Answer")) rfl T.g_Answer rfl) pa_nil))))) (pw_or1 (pt_cmpR (op_neD hr.units) (pv 8) (pe_lst (pa_cons (pe_cmpR op_lt (pv 5) pe_int (nomark _)) (pa_cons (pe_cmpR op_ge (pv 5) pe_int (nomark _)) (pa_cons pe_bl (pa_cons pe_bl pa_nil))))) (nomark _)))))
        (pss_one (ps_ret pe_bl))
        pss_nil)
      (pss_cons (ps_if (PW.pt (pw_or (pt_val (pe_callB call_isi (by rfl) T.f_isinstance (by decide +kernel) (pa_cons (pv 7) (pa_cons (pe_glob (v := .ref (He.ga K "Rounds")) rfl T.g_Rounds rfl) pa_nil)))) (pw_or1 (pt_cmpR (op_neD hr.units) (pe_lst (pa_cons (pv 3) (pa_cons (pv 4) pa_nil))) (pe_lst (pa_cons (pv 0) (pa_cons (pv 1) pa_nil))) (nomark _)))))
        (pss_one (ps_ret pe_bl))
        pss_nil)
      (pss_cons (ps_if (PW.pt (pw_and (pt_cmpR op_ge (pv 5) pe_int (nomark _)) (pw_and1 (PW.pt (pw_or (pt_not (pt_val (C8.pe_c (c_law_whole T) hr (by decide) rfl (pa_cons (pe_fld (pv 7) (by rfl)) pa_nil)))) (pw_or1 (pt_cmpR op_ne (pe_fld (pv 7) (by rfl)) (pv 5) (nomark _))))))))
        (pss_one (ps_ret pe_bl))
        pss_nil)
      (pss_cons (ps_if (pt_not (pt_val (C8.pe_c (c_law_says T) hr (by decide) rfl (pa_cons (C8.pe_mt (c_Wrong_shows T) hr (by decide) (pv 7) (pa_cons (pv 0) (pa_cons (pv 1) pa_nil))) (pa_cons pe_bl pa_nil)))))
        (pss_one (ps_ret pe_bl))
        pss_nil)
      (pss_one (ps_for PassesOwn.never rfl (pi_list (pv 2)) (pg_tup rfl (pgs_cons (pg_name (i := 9) sc_law_right.nd rfl (Or.inl rfl)) (pgs_cons (pg_name (i := 10) sc_law_right.nd rfl (Or.inl rfl)) pgs_nil)))
        (pss_cons (ps_set (i := 11) sc_law_right.nd rfl (Or.inl rfl) (C8.pe_c (c_law_wrong T) hr (by decide) rfl (pa_cons (pv 9) (pa_cons (pv 10) pa_nil))))
        (pss_one (ps_if (pt_not (pt_val (C8.pe_c (c_law_says T) hr (by decide) rfl (pa_cons (C8.pe_mt (c_Wrong_shows T) hr (by decide) (pv 7) (pa_cons (pv 9) (pa_cons (pv 10) pa_nil))) (pa_cons (pe_ifExp (pt_cmpR op_lt (pv 5) pe_int (nomark _)) (pe_cmpR op_lt (pv 11) pe_int (nomark _)) (pe_cmpR op_eq (pv 11) (pv 5) (nomark _))) pa_nil)))))
          (pss_one (ps_ret pe_bl))
          pss_nil))))))))))))
    (pss_one (ps_ret pe_bl)))), ?_⟩
      refine ⟨_, rfl, f, _, rfl, .inl (SqL.of hf), fun one n1 => ?_⟩
      have s1 : Same H (upd H one (.lst (fr.map V.int))) := same_upd n1
      have l1 : LsAt (upd H one (.lst (fr.map V.int))) one fr := upd_same
      generalize upd H one (.lst (fr.map V.int)) = H1 at s1 l1 ⊢
      refine ⟨_, rfl, a, _, rfl, .inl (SqL.of (s1 _ _ hts)), fun two n2 => ?_⟩
      have s2 : Same H1 (upd H1 two (.lst ts)) := same_upd n2
      have r2 : TlAt (upd H1 two (.lst ts)) two l := ⟨ts, upd_same, ats.mono fun _ _ ⟨q, x, y⟩ => ⟨q, x, s2 _ _ (s1 _ _ y)⟩⟩
      generalize upd H1 two (.lst ts) = H2 at s2 r2 ⊢
      have s02 := s1.trans s2
      refine ⟨_, rfl, _, rfl, f, fr, a, l, rfl, hf.same s02, fo, ta.at_.same s02, ta.low, ta.len, fun H3 s3 => ?_⟩
      rw [ei]
      refine ⟨_, _, _, rfl, ?_⟩
      have s03 := s02.trans s3
      have l3 := (l1.same s2).same s3
      have r3 := r2.same s3
      have k0 : decide ((k : Int) < 0) = false := decide_eq_false (by omega)
      have k1 : decide ((0 : Int) ≤ (k : Int)) = true := decide_eq_true (by omega)
      refine ⟨2, rfl, by decide, by decide, ?_⟩
      refine for_range (lo := 0) (n := 2) (fun i σ H4 => ∃ v6 v7 v8 v9 v10 v11 : Option V, σ = [some (.ref f), some (.ref a), some (.ref o), some (.ref one), some (.ref two), some (.int (k : Int)), v6, v7, v8, v9, v10, v11] ∧ Same H3 H4) ⟨none, none, none, none, none, none, rfl, Same.refl _⟩ ?_ ?_
      · rintro i σ H4 hi ⟨v6, v7, v8, v9, v10, v11, rfl, s4⟩
        refine ⟨_, rfl, _, rfl, one, fr, two, l, rfl, l3.same s4, fo, r3.same s4, ta.short, l40, (fun en => by rw [wl, ew] at en; cases en), fun k' ek H5 y dy s5 ny hy => ?_⟩
        obtain rfl : k = k' := by
          rw [wl, ew] at ek
          exact Option.some.inj ek
        have hF : ∀ {G : Hp}, Same H5 G → TyX K G (.ref y) (.ref (He.ga K "Wrong")) := fun s => T.t_Wrong.ty T.k_Wrong (s _ _ hy)
        have rf := Same.refl H5
        refine ⟨_, rfl, _, _, _, _, false, rfl, .own _, hF rf, T.is_Wrong_Right, _, rfl, _, _, _, _, true, rfl, .own _, hF rf, T.is_Wrong_Wrong, _, rfl, _, _, _, _, false, rfl, .own _, hF rf, T.is_Wrong_Fresh, _, rfl, _, _, _, _, false, rfl, .own _, hF rf, T.is_Wrong_Old, (by show 4 ≤ sizeLine; decide), fun so nso => ?_⟩
        have s6 := same_upd nso (o := .lst [V.bl false, V.bl true, V.bl false, V.bl false])
        have hso : (upd H5 so (.lst [V.bl false, V.bl true, V.bl false, V.bl false])) so = some (.lst ([false, true, false, false].map V.bl)) := upd_same
        generalize upd H5 so (.lst [V.bl false, V.bl true, V.bl false, V.bl false]) = H6 at s6 hso ⊢
        refine ⟨_, rfl, _, _, _, _, true, rfl, .own _, hF s6, T.is_Wrong_Answer, true, rfl, iteF ?_⟩
        refine ⟨_, rfl, _, rfl, _, _, rfl, rfl, _, rfl, _, _, rfl, rfl, (by show 4 ≤ sizeLine; decide), fun m3 nm3 => ?_⟩
        have s7 := same_upd nm3 (o := .lst [V.bl (decide ((k : Int) < 0)), V.bl (decide ((0 : Int) ≤ (k : Int))), V.bl false, V.bl false])
        have h7 : (upd H6 m3 (.lst [V.bl (decide ((k : Int) < 0)), V.bl (decide ((0 : Int) ≤ (k : Int))), V.bl false, V.bl false])) m3 = some (.lst ([false, true, false, false].map V.bl)) := by
          rw [k0, k1]
          exact upd_same
        refine ⟨_, _, dp_bools (bs := [false, true, false, false]) (s7 _ _ hso), dp_bools (bs := [false, true, false, false]) h7, shaped_bools4 _ _ _ _, shaped_bools4 _ _ _ _, false, by rw [eqv_b4']; rfl, iteF ?_⟩
        have s57 := s6.trans s7
        clear h7
        generalize upd H6 m3 (.lst [V.bl (decide ((k : Int) < 0)), V.bl (decide ((0 : Int) ≤ (k : Int))), V.bl false, V.bl false]) = H7 at s57 ⊢
        clear s7
        refine ⟨_, rfl, _, _, _, _, false, rfl, .own _, hF s57, T.is_Wrong_Rounds, false, rfl, iteF ?_⟩
        refine ⟨_, rfl, _, rfl, (by show 2 ≤ sizeLine; decide), fun w1 nw1 => ⟨_, rfl, _, rfl, (by show 2 ≤ sizeLine; decide), fun w2 nw2 => ?_⟩⟩
        have s8 := (same_upd nw1 (o := .lst [V.ref one, V.ref two])).trans (same_upd nw2 (o := .lst [V.ref f, V.ref a]))
        have s58 := s57.trans s8
        have s48 := (s4.trans s5).trans s58
        have s08 := s03.trans s48
        refine ⟨_, _, dp_ft (same_upd nw2 _ _ upd_same) (l3.same s48) (r3.same s48), dp_ft upd_same (hf.same s08) (ta.at_.same s08), shaped_ft _ ta.low, shaped_ft _ ta.low, false, by rw [eqv_same (shaped_ft fr ta.low)]; rfl, iteF ?_⟩
        generalize upd (upd H7 w1 (.lst [V.ref one, V.ref two])) w2 (.lst [V.ref f, V.ref a]) = H8 at s58 s48 s08 ⊢
        clear s8
        have hy8 := s58 _ _ hy
        refine ⟨_, rfl, _, _, rfl, rfl, true, congrArg V.bl k1, iteT ⟨_, rfl, y, _, _, _, _, rfl, hy8, T.k_Wrong, T.n_Wrong_line, wfs_at _, _, _, true, false, rfl, .base (.int (k : Int)), is_ty (by decide +kernel), is_ty (by decide +kernel), true, rfl, iteF ⟨_, rfl, y, _, _, _, _, rfl, hy8, T.k_Wrong, T.n_Wrong_line, wfs_at _, _, rfl, rfl, false, by rw [decide_eq_true rfl]; rfl, iteF ?_⟩⟩⟩
        refine ⟨_, rfl, y, dy, _, rfl, hy8, wfs_shows _, _, rfl, _, rfl, y, dy, (k : Int), f, fr, a, l, rfl, hy8, hf.same s08, fo, ta.at_.same s08, ta.short, ta.len, fun H9 s9 => ?_⟩
        refine ⟨_, _, rfl, true, by rw [wl, ew]; exact congrArg V.bl (decide_eq_true (decide_eq_true rfl)), iteF ?_⟩
        have s59 := s58.trans s9
        have s09 := s08.trans s9
        have ho9 := s09 _ _ ho
        refine ⟨_, rfl, o, rfl, ⟨_, SqL.of ho9⟩, ?_⟩
        refine for_list (K := K) (a := o) (xs := [V.ref u]) (fun j σ H11 => ∃ v9 v10 v11 : Option V, σ = [some (.ref f), some (.ref a), some (.ref o), some (.ref one), some (.ref two), some (.int (k : Int)), some (.int (0 + (i : Int))), some (.ref y), some (.ref so), v9, v10, v11] ∧ Same H9 H11) ⟨v9, v10, v11, rfl, Same.refl _⟩ (fun j σ H11 _ ⟨_, _, _, _, z⟩ => SqL.of (z _ _ ho9)) ?_ ?_
        · rintro j x σ H11 hx ⟨w9, w10, w11, rfl, s11⟩
          obtain ⟨rfl⟩ : x = V.ref u := by
            match j, hx with
            | 0, hx => exact (Option.some.inj hx).symm
          have s011 := s09.trans s11
          refine ⟨u, _, rfl, SqT.of (s011 _ _ hu), rfl, _, _, rfl, _, _, rfl, rfl, ?_⟩
          refine ⟨_, rfl, _, rfl, f2, fr2, a2, l2, rfl, hf2.same s011, fo2, ta2.at_.same s011, ta2.low, ta2.len, fun H12 s12 => ?_⟩
          have s012 := s011.trans s12
          have hy12 := ((s59.trans s11).trans s12) _ _ hy
          refine ⟨_, rfl, y, dy, _, rfl, hy12, wfs_shows _, _, rfl, _, rfl, y, dy, (k : Int), f2, fr2, a2, l2, rfl, hy12, hf2.same s012, fo2, ta2.at_.same s012, ta2.short, ta2.len, fun H13 s13 => ?_⟩
          refine ⟨_, rfl, _, _, rfl, rfl, false, congrArg V.bl k0, iteF ⟨_, rfl, _, rfl, rfl, _, _, rfl, true, congrArg V.bl (decide_eq_true ?_), iteF ⟨_, _, _, rfl, (s11.trans s12).trans s13⟩⟩⟩
          rw [wl2, wrongI_eq]
        · rintro σ H11 ⟨w9, w10, w11, rfl, s11⟩
          exact ⟨_, _, _, _, _, _, rfl, ((s4.trans s5).trans s59).trans s11⟩
      · rintro σ H4 ⟨v6, v7, v8, v9, v10, v11, rfl, s4⟩
        exact q _ (s03.trans s4)

end PD

namespace PD
open PySem PySem.Spec PyProof.Rows L2

/-! Phrasedesk, law_k10: each part of a line another one -/
--# _law_spoilt10
theorem TlV.same {H H' : Hp} (s : Same H H') {v : V} {n : Tl} (h : TlV H v n) : TlV H' v n := let ⟨q, x, y⟩ := h; ⟨q, x, s _ _ y⟩
/-- tales in a list, none of them at D -/
def TlsA (D : Addr) (H : Hp) (vs : List V) : Prop := ∀ v ∈ vs, ∃ b l, v = .ref b ∧ b ≠ D ∧ TaleAt H b l ∧ l.length ≤ 40
theorem TaleAt.chg {H : Hp} {D b : Addr} {us : List V} {o : HO} {l : List Tl} (h : TaleAt H b l) (hD : H D = some (.lst us)) (n : b ≠ D) : TaleAt (upd H D o) b l := by
  obtain ⟨vs, hv, ha⟩ := h.at_
  refine ⟨⟨vs, by rw [upd_ne n]; exact hv, ha.mono ?_⟩, h.low, h.len⟩
  rintro v m ⟨q, e1, e2⟩
  exact ⟨q, e1, by rw [upd_ne (ne_of e2 hD (fun z => nomatch z))]; exact e2⟩
theorem TlsA.same {D : Addr} {H H' : Hp} (s : Same H H') {vs : List V} (h : TlsA D H vs) : TlsA D H' vs := fun v hv => let ⟨b, l, x, y, z, w⟩ := h v hv; ⟨b, l, x, y, z.same s, w⟩
theorem TlsA.chg {D E : Addr} {H : Hp} {us : List V} {o : HO} {vs : List V} (h : TlsA D H vs) (g : TlsA E H vs) (hE : H E = some (.lst us)) : TlsA D (upd H E o) vs := fun v hv => by
  obtain ⟨b, l, x, y, z, w⟩ := h v hv
  obtain ⟨b', _, x', y', _⟩ := g v hv
  rw [x] at x'
  cases x'
  exact ⟨b, l, x, y, z.chg hE y', w⟩
theorem TlsA.app {D : Addr} {H : Hp} {vs ws : List V} (h : TlsA D H vs) (g : TlsA D H ws) : TlsA D H (vs ++ ws) := fun v hv => (List.mem_append.mp hv).elim (h v) (g v)
theorem TlsA.one {D b : Addr} {H : Hp} {l : List Tl} (n : b ≠ D) (h : TaleAt H b l) (h4 : l.length ≤ 40) : TlsA D H [.ref b] := fun v hv => ⟨b, l, List.mem_singleton.mp hv, n, h, h4⟩
theorem cut_one {xs : List V} {k : Nat} (h : k < xs.length) : cutV xs (some (k : Int)) (some ((k : Int) + 1)) = (xs.drop k).take 1 := by
  unfold cutV
  rw [show HT.sIx xs.length 0 (some (k : Int)) = min k xs.length from HT.sIx_nat _ _ k, show HT.sIx xs.length xs.length (some ((k : Int) + 1)) = min (k + 1) xs.length from HT.sIx_nat _ _ (k + 1), show min k xs.length = k by omega, show min (k + 1) xs.length - k = 1 by omega]
def Tl.few : Tl → Prop
  | .phrase _ x _ => x.length ≤ 100
  | .put _ _ x _ _ _ => x.length ≤ 100
  | .back _ _ _ => True
def Good10 (n : Tl) (j : Nat) (w : V) : Prop := ∃ m : Tl, m.vals = n.vals.set j w ∧ m.Low
theorem spoil (n : Tl) (low : n.Low) (fw : n.few) (j : Nat) (h1 : 1 ≤ j) (h2 : j < n.vals.length) : ∃ v, n.vals[j]? = some v ∧
    ((∃ x, v = .str x ∧ lowS x ∧ x.length ≤ 100 ∧ ∀ y : Str, lowS y → y.length ≤ 5000 → Good10 n j (.str y)) ∨ (∃ z, v = .int z ∧ ∀ y : Int, Good10 n j (.int y)) ∨ (v = .non ∧ (∀ y : Int, Good10 n j (.int y)) ∧ Good10 n j .non)) ∧
    (n.isU = true → (j = 4 ∨ j = 5) → Good10 n j .non) := by
  cases n with
  | phrase p x k =>
    have h2' : j < 4 := h2
    match j, h1, h2' with
    | 1, _, _ => exact ⟨_, rfl, .inr (.inl ⟨_, rfl, fun y => ⟨.phrase y x k, rfl, low⟩⟩), fun z => nomatch z⟩
    | 2, _, _ => exact ⟨_, rfl, .inl ⟨_, rfl, low.1, fw, fun y a b => ⟨.phrase p y k, rfl, a, b⟩⟩, fun z => nomatch z⟩
    | 3, _, _ => exact ⟨_, rfl, .inr (.inl ⟨_, rfl, fun y => ⟨.phrase p x y, rfl, low⟩⟩), fun z => nomatch z⟩
  | put p t x s o k =>
    have h2' : j < 7 := h2
    match j, h1, h2' with
    | 1, _, _ => exact ⟨_, rfl, .inr (.inl ⟨_, rfl, fun y => ⟨.put y t x s o k, rfl, low⟩⟩), fun _ z => by omega⟩
    | 2, _, _ => exact ⟨_, rfl, .inr (.inl ⟨_, rfl, fun y => ⟨.put p y x s o k, rfl, low⟩⟩), fun _ z => by omega⟩
    | 3, _, _ => exact ⟨_, rfl, .inl ⟨_, rfl, low.1, fw, fun y a b => ⟨.put p t y s o k, rfl, a, b⟩⟩, fun _ z => by omega⟩
    | 4, _, _ =>
      refine ⟨_, rfl, ?_, fun _ _ => ⟨.put p t x none o k, rfl, low⟩⟩
      cases s with
      | none => exact .inr (.inr ⟨rfl, fun y => ⟨.put p t x (some y) o k, rfl, low⟩, ⟨.put p t x none o k, rfl, low⟩⟩)
      | some z => exact .inr (.inl ⟨_, rfl, fun y => ⟨.put p t x (some y) o k, rfl, low⟩⟩)
    | 5, _, _ =>
      refine ⟨_, rfl, ?_, fun _ _ => ⟨.put p t x s none k, rfl, low⟩⟩
      cases o with
      | none => exact .inr (.inr ⟨rfl, fun y => ⟨.put p t x s (some y) k, rfl, low⟩, ⟨.put p t x s none k, rfl, low⟩⟩)
      | some z => exact .inr (.inl ⟨_, rfl, fun y => ⟨.put p t x s (some y) k, rfl, low⟩⟩)
    | 6, _, _ => exact ⟨_, rfl, .inr (.inl ⟨_, rfl, fun y => ⟨.put p t x s o y, rfl, low⟩⟩), fun _ z => by omega⟩
  | back p t k =>
    have h2' : j < 4 := h2
    match j, h1, h2' with
    | 1, _, _ => exact ⟨_, rfl, .inr (.inl ⟨_, rfl, fun y => ⟨.back y t k, rfl, low⟩⟩), fun z => nomatch z⟩
    | 2, _, _ => exact ⟨_, rfl, .inr (.inl ⟨_, rfl, fun y => ⟨.back p y k, rfl, low⟩⟩), fun z => nomatch z⟩
    | 3, _, _ => exact ⟨_, rfl, .inr (.inl ⟨_, rfl, fun y => ⟨.back p t y, rfl, low⟩⟩), fun z => nomatch z⟩
theorem vals_len (n : Tl) : 4 ≤ n.vals.length ∧ n.vals.length ≤ 7 := by
  cases n <;> exact ⟨by simp [Tl.vals], by simp [Tl.vals]⟩
theorem set_cut {α : Type} {xs : List α} {j : Nat} {y : α} (h : j < xs.length) : xs.set j y = (xs.take j ++ [y]) ++ xs.drop (j + 1) := by
  rw [List.set_eq_take_append_cons_drop, if_pos h, List.append_assoc]
  rfl
theorem catT_use {K : PySem.W.Frag} {H : Hp} {Q : VK} {a b : Addr} {xs ys : List V} (ha : H a = some (.tup xs)) (hb : H b = some (.tup ys)) (nx : xs ≠ []) (sz : xs.length + ys.length ≤ sizeLine) (q : ∀ (G : Hp) (e : Addr), Same H G → G e = some (.tup (xs ++ ys)) → Q (.ref e) G) : rCatT K (.ref a) (.ref b) H Q := by
  refine ⟨a, b, xs, ys, rfl, rfl, SqT.of ha, SqT.of hb, nx, sz, fun em => q H a (Same.refl _) ?_, fun _ p np => q _ p (same_upd np) upd_same⟩
  rw [em, List.append_nil]
  exact ha
def rInTD (K : PySem.W.Frag) : R2 := fun x y H Q => ∃ d ds, Dp K H x d ∧ Dp K H y (.tuple ds) ∧ SeqAt.shaped d = true ∧ SeqAt.shaped (.tuple ds) = true ∧ Q (.bl (ds.any fun z => PyData.eqv z d)) H
theorem op_inTD {X : Cx} (hu : X.A.units + 65 < cLine) : OpR X (compareOp .In) (rInTD X.K) := by
  intro pins s σ H x y v u Q I rx ry ⟨d, ds, hd, he, sd, se, q⟩
  obtain ⟨_, r1⟩ := Dp.reads I d x v hd rx
  obtain ⟨_, r2⟩ := Dp.reads I (.tuple ds) y u he ry
  exact SeqAt.in_tuple_reads r2 r1 (SeqAt.canLay_of_shaped se) (SeqAt.canLay_of_shaped sd) (room_in_shaped sd hu) ⟨.bl _, H, I, rfl, q⟩
theorem any45 {j : Nat} : (([PyData.int 4, .int 5]).any fun z => PyData.eqv z (.int (j : Int))) = true → j = 4 ∨ j = 5 := by
  intro h
  simp [PyData.eqv] at h
  omega
def spSpoilt : Sp := fun vs H Q _ => ∃ (a : Addr) (l : List Tl) (k : Nat), vs = [.ref a, .int (k : Int)] ∧ TaleAt H a l ∧ l.length ≤ 40 ∧ (∀ n ∈ l, n.few) ∧ k < l.length ∧ ∀ (H' : Hp) (r : Addr) (us : List V), Same H H' → H r = none → H' r = some (.lst us) → TlsA r H' us → us.length ≤ 30 → Q (.ref r) H'
theorem sc_law_spoilt : FnScope ["_law_tale", "_law_at", "_law_found", "_law_line", "_law_spot", "_law_part", "_law_more", "_law_one"] ["_law_tale", "_law_at"] (defScope s_law_spoilt) := ⟨rfl, rfl, rfl, by decide +kernel, rfl, by decide +kernel, by decide +kernel⟩
theorem c_law_spoilt {P : Program} {w : World} {K : PySem.W.Frag} {mg : Str → Option Value} {base : Heap} (T : Tx K mg) : C8.Cal P w K mg base 2 "_law_spoilt" (spSpoilt) [] := by
  refine calD T.F_law_spoilt T.g_law_spoilt (fun _ _ _ _ _ _ us hl => match us, hl with | [_, _], _ => rfl) sc_law_spoilt (fun vs H Q E h => ?_) (fun cdv A outer s H vs Q E hr h => ?_)
  · obtain ⟨a, l, k, rfl, _⟩ := h
    rfl
  · obtain ⟨a, l, k, rfl, ta, l40, fw, kl, q⟩ := h
    refine ⟨_, (pss_cons (ps_set (i := 2) sc_law_spoilt.nd rfl (Or.inl rfl) (pe_lst pa_nil))
    (pss_cons (ps_for PassesOwn.never rfl (pi_list (pe_slice sl_list (pv 0) (po_some (pv 1)) (po_some (pe_op op_add (pv 1) pe_int)))) (pg_name (i := 3) sc_law_spoilt.nd rfl (Or.inr rfl))
      (pss_one (ps_for PassesOwn.never rfl (pi_range2 (by rfl) T.f_range (pa_cons pe_int (pa_cons (pe_callB call_len_seq (by rfl) T.f_len (by decide +kernel) (pa_cons (pv 3) pa_nil)) pa_nil))) (pg_name (i := 4) sc_law_spoilt.nd rfl (Or.inr rfl))
        (pss_cons (ps_set (i := 5) sc_law_spoilt.nd rfl (Or.inl rfl) (pe_ix ix_tup (pv 3) (pv 4) (fun _ _ => rfl)))
        (pss_cons (ps_set (i := 6) sc_law_spoilt.nd rfl (Or.inl rfl) (pe_lst (pa_cons pe_int (pa_cons pe_non pa_nil))))
        (C8.pss_cut (ps_if (pt_val (pe_callB call_isi (by rfl) T.f_isinstance (by decide +kernel) (pa_cons (pv 5) (pa_cons (pe_bltn (v := .ty "str") (by rfl) T.f_str (by decide +kernel) rfl) pa_nil))))
          (pss_one (ps_set (i := 6) sc_law_spoilt.nd rfl (Or.inl rfl) (pe_lst (pa_cons (pe_op op_add_str (pv 5) pe_str) (pa_cons pe_str (pa_cons pe_str pa_nil))))))
          (pss_one (ps_if (pt_cmpR op_notN (pv 5) pe_non (nomark _))
            (pss_one (ps_set (i := 6) sc_law_spoilt.nd rfl (Or.inl rfl) (pe_lst (pa_cons (pe_op op_add (pv 5) pe_int) (pa_cons (pe_op op_sub (pv 5) pe_int) pa_nil)))))
            pss_nil)))
        (C8.pss_cut (ps_if (PW.pt (pw_and (pt_cmpR op_eq (pe_ix ix_tup (pv 3) pe_int (fun _ _ => rfl)) pe_str (nomark _)) (pw_and1 (pt_cmpR (op_inTD (un65 hr)) (pv 4) (pe_tup (pa_cons pe_int (pa_cons pe_int pa_nil))) (by rfl)))))
          (pss_one (ps_expr (pe_bm PySem.F.plainAttrs_list PySem.F.slot_list_append PySem.F.type_list_append mt_append (pv 6) (pa_cons pe_non pa_nil))))
          pss_nil)
        (pss_one (ps_expr (pe_bm PySem.F.plainAttrs_list PySem.F.slot_list_extend PySem.F.type_list_extend mt_extend (pv 2) (pa_cons (pe_lc (own := [("_law_one", 7)]) (g := gName 7) (tt := tYes) (by rfl) sc_law_spoilt.nd (pi_list (pv 6)) (blkOk_by (own := [("_law_one", 7)]) (N := ["_law_tale", "_law_at", "_law_found", "_law_line", "_law_spot", "_law_part", "_law_more", "_law_one"]) (sc := defScope s_law_spoilt) (by decide +kernel)) (fun _ _ _ _ _ => (pg_name (i := 7) sc_law_spoilt.nd rfl (Or.inl rfl))) (fun _ _ _ _ _ => pts_nil) (fun _ _ _ _ _ => (pe_op op_cat (pe_op op_cat (pe_slice (show SlR _ (rSlL K) from sl_list) (pv 0) po_none (po_some (pv 1))) (pe_lst (pa_cons (pe_op (show OpR _ _ (rCatT K) from op_catT) (pe_op (show OpR _ _ (rCatT K) from op_catT) (pe_slice (show SlR _ (rSlT K) from sl_tup) (pv 3) po_none (po_some (pv 4))) (pe_tup (pa_cons (pv 7) pa_nil))) (pe_slice (show SlR _ (rSlT K) from sl_tup) (pv 3) (po_some (pe_op op_add (pv 4) pe_int)) po_none)) pa_nil))) (pe_slice (show SlR _ (rSlL K) from sl_list) (pv 0) (po_some (pe_op op_add (pv 1) pe_int)) po_none)))) pa_nil)))))))))))
    (pss_one (ps_ret (pv 2))))), ?_⟩
    obtain ⟨ts, hts, ats⟩ := id ta.at_
    have tsl := ats.len
    refine ⟨Nat.zero_le _, fun D nD => ?_⟩
    have s0 : Same H (upd H D (.lst [])) := same_upd nD
    have hD0 : (upd H D (.lst [])) D = some (.lst []) := upd_same
    generalize upd H D (.lst []) = H0 at s0 hD0 ⊢
    refine ⟨_, rfl, _, rfl, _, rfl, _, rfl, _, _, rfl, rfl, _, rfl, a, _, rfl, SqL.of (s0 _ _ hts), fun p1 n1 => ?_⟩
    have s1 : Same H0 (upd H0 p1 (.lst (cutV ts (some (k : Int)) (some ((k : Int) + 1))))) := same_upd n1
    have h1 : (upd H0 p1 (.lst (cutV ts (some (k : Int)) (some ((k : Int) + 1))))) p1 = some (.lst ((ts.drop k).take 1)) := by rw [upd_same, cut_one (by omega)]
    generalize upd H0 p1 (.lst (cutV ts (some (k : Int)) (some ((k : Int) + 1)))) = H1 at s1 h1 ⊢
    have hD1 := s1 _ _ hD0
    have s01 := s0.trans s1
    have p1D : p1 ≠ D := Ne.symm (ne_of_none hD0 n1)
    refine ⟨p1, rfl, ⟨_, SqL.of h1⟩, ?_⟩
    refine for_it (walk_list (K := K) (a := p1) (xs := (ts.drop k).take 1)) (fun j σ G => ∃ (v3 v4 v5 v6 v7 : Option V) (us : List V), σ = [some (.ref a), some (.int (k : Int)), some (.ref D), v3, v4, v5, v6, v7] ∧ Same H G ∧ G p1 = some (.lst ((ts.drop k).take 1)) ∧ G D = some (.lst us) ∧ TlsA D G us ∧ us.length ≤ 30 * j) ⟨none, none, none, none, none, [], rfl, s01, h1, hD1, (fun _ z => nomatch z), Nat.zero_le _⟩ (fun j σ G _ ⟨_, _, _, _, _, _, _, _, z, _⟩ => SqL.of z) ?_ ?_
    · rintro j v σ G0 G1 hj ⟨v3, v4, v5, v6, v7, us, rfl, sG, hp, hD, hU, lU⟩ ⟨rfl, ev⟩
      have j0 : j = 0 := by
        rw [List.length_take] at hj
        omega
      subst j0
      have ev' : ts[k]? = some v := by
        rw [List.getElem?_take_of_lt (by decide), List.getElem?_drop] at ev
        exact ev
      obtain ⟨n, en, b, rfl, hb⟩ := ats.at ev'
      have hn : n ∈ l := List.mem_of_getElem? en
      have low := ta.low n hn
      obtain ⟨l4, l7⟩ := vals_len n
      refine ⟨_, rfl, b, _, rfl, .inr (SqT.of (sG _ _ hb)), _, _, rfl, ⟨by decide, by decide, by omega, by omega⟩, ?_⟩
      refine for_range (lo := 1) (n := (((n.vals.length : Nat) : Int) - 1).toNat) (fun i σ G => ∃ (v4 v5 v6 v7 : Option V) (us : List V), σ = [some (.ref a), some (.int (k : Int)), some (.ref D), some (.ref b), v4, v5, v6, v7] ∧ Same H G ∧ G p1 = some (.lst ((ts.drop k).take 1)) ∧ G D = some (.lst us) ∧ TlsA D G us ∧ us.length ≤ 4 * i) ⟨_, _, _, _, us, rfl, sG, hp, hD, hU, by omega⟩ ?_ ?_
      · clear sG hp hD hU lU
        rintro i σ G2 hi ⟨v4, v5, v6, v7, us, rfl, sG, hp, hD, hU, lU⟩
        have ei : (1 : Int) + (i : Int) = ((1 + i : Nat) : Int) := by omega
        rw [ei]
        obtain ⟨v, ev, hv, hN⟩ := spoil n low (fw n hn) (1 + i) (by omega) (by omega)
        refine ⟨_, rfl, _, rfl, b, _, _, v, rfl, rfl, SqT.of (sG _ _ hb), atI_nat ev, ?_⟩
        refine ⟨(by show 2 ≤ sizeLine; decide), fun m nm => ?_⟩
        have s3 : Same G2 (upd G2 m (.lst [V.int 0, V.non])) := same_upd nm
        have h3 : (upd G2 m (.lst [V.int 0, V.non])) m = some (.lst [V.int 0, V.non]) := upd_same
        generalize upd G2 m (.lst [V.int 0, V.non]) = G3 at s3 h3 ⊢
        refine ⟨fun σ' G' => ∃ (mm : Addr) (ws : List V), σ' = [some (.ref a), some (.int (k : Int)), some (.ref D), some (.ref b), some (.int ((1 + i : Nat) : Int)), some v, some (.ref mm), v7] ∧ Same G2 G' ∧ G2 mm = none ∧ G' mm = some (.lst ws) ∧ ws.length ≤ 3 ∧ ∀ w ∈ ws, Good10 n (1 + i) w, ?_, ?_⟩
        · rcases hv with ⟨x, rfl, lx, xl, g⟩ | ⟨z, rfl, g⟩ | ⟨rfl, g, gn⟩
          · have low_a : lowS (x ++ (Str.ofString "a")) := by
              intro c hc
              rw [app_cps] at hc
              rcases List.mem_append.mp hc with z | z
              · exact lx c z
              · have : ∀ c ∈ (Str.ofString "a").cps.toList, 97 ≤ c ∧ c ≤ 122 := by decide +kernel
                exact this c z
            have len_a : (x ++ (Str.ofString "a")).length = x.length + 1 := by
              show (x.cps ++ (Str.ofString "a").cps).size = x.cps.size + 1
              rw [Array.size_append]
              rfl
            refine ⟨_, rfl, _, _, _, _, true, rfl, .ty _, .base (.str x), is_ty (by decide +kernel), true, rfl, iteT ⟨_, rfl, x, _, rfl, rfl, ?_, (by show 3 ≤ sizeLine; decide), fun m' nm' => ?_⟩⟩
            · exact Nat.le_of_lt (small1000 (by show x.length + 1 ≤ 1000; omega))
            · refine ⟨m', _, rfl, s3.trans (same_upd nm'), s3.free nm', upd_same, by show 3 ≤ 3; decide, fun w hw => ?_⟩
              simp only [List.mem_cons, List.not_mem_nil, or_false] at hw
              rcases hw with rfl | rfl | rfl
              · exact g _ low_a (by rw [len_a]; omega)
              · exact g _ (by unfold lowS; decide +kernel) (by decide +kernel)
              · exact g _ (by unfold lowS; decide +kernel) (by decide +kernel)
          · refine ⟨_, rfl, _, _, _, _, false, rfl, .ty _, .base (.int z), is_ty (by decide +kernel), false, rfl, iteF ⟨_, rfl, rfl, true, rfl, iteT ⟨_, rfl, _, _, rfl, rfl, _, rfl, _, _, rfl, rfl, (by show 2 ≤ sizeLine; decide), fun m' nm' => ?_⟩⟩⟩
            refine ⟨m', _, rfl, s3.trans (same_upd nm'), s3.free nm', upd_same, by show 2 ≤ 3; decide, fun w hw => ?_⟩
            simp only [List.mem_cons, List.not_mem_nil, or_false] at hw
            rcases hw with rfl | rfl
            · exact g _
            · exact g _
          · refine ⟨_, rfl, _, _, _, _, false, rfl, .ty _, .base .non, is_ty (by decide +kernel), false, rfl, iteF ⟨_, rfl, rfl, false, rfl, iteF ?_⟩⟩
            refine ⟨m, _, rfl, s3, nm, h3, by show 2 ≤ 3; decide, fun w hw => ?_⟩
            simp only [List.mem_cons, List.not_mem_nil, or_false] at hw
            rcases hw with rfl | rfl
            · exact g _
            · exact gn
        clear s3 h3 nm hv
        rintro σ' G4 ⟨mm, ws, rfl, s4, nm, h4, lw, gw⟩
        refine ⟨fun σ' G' => ∃ (ws : List V), σ' = [some (.ref a), some (.int (k : Int)), some (.ref D), some (.ref b), some (.int ((1 + i : Nat) : Int)), some v, some (.ref mm), v7] ∧ Same G2 G' ∧ G' mm = some (.lst ws) ∧ ws.length ≤ 4 ∧ ∀ w ∈ ws, Good10 n (1 + i) w, ?_, ?_⟩
        · have hb4 := s4 _ _ (sG _ _ hb)
          cases n with
          | phrase p x kk => exact ⟨_, rfl, b, _, _, _, rfl, rfl, SqT.of hb4, atI_nat (j := 0) rfl, rfl, false, rfl, iteF ⟨ws, rfl, s4, h4, by omega, gw⟩⟩
          | back p t kk => exact ⟨_, rfl, b, _, _, _, rfl, rfl, SqT.of hb4, atI_nat (j := 0) rfl, rfl, false, rfl, iteF ⟨ws, rfl, s4, h4, by omega, gw⟩⟩
          | put p t x s o kk =>
            refine ⟨_, rfl, b, _, _, _, rfl, rfl, SqT.of hb4, atI_nat (j := 0) rfl, rfl, true, rfl, iteT ⟨_, rfl, (by show 2 ≤ sizeLine; decide), fun t5 nt5 => ?_⟩⟩
            have s5 : Same G4 (upd G4 t5 (.tup [V.int 4, V.int 5])) := same_upd nt5
            have h5 : (upd G4 t5 (.tup [V.int 4, V.int 5])) t5 = some (.tup [V.int 4, V.int 5]) := upd_same
            generalize upd G4 t5 (.tup [V.int 4, V.int 5]) = G5 at s5 h5 ⊢
            have s25 := s4.trans s5
            have h45 := s5 _ _ h4
            refine ⟨.int ((1 + i : Nat) : Int), [.int 4, .int 5], .int _, .tup (SqT.of h5) (.cons (.int _) (.cons (.int _) .nil)), rfl, by decide +kernel, ([PyData.int 4, .int 5]).any fun z => PyData.eqv z (.int ((1 + i : Nat) : Int)), rfl, ?_⟩
            cases e45 : ([PyData.int 4, .int 5]).any fun z => PyData.eqv z (.int ((1 + i : Nat) : Int)) with
            | false => exact iteF ⟨ws, rfl, s25, h45, by omega, gw⟩
            | true =>
              refine iteT ⟨_, rfl, .inl ⟨rfl, _, SqL.of h45⟩, mm, _, _, rfl, rfl, h45, small1000 (by omega), ?_⟩
              refine ⟨ws ++ [V.non], rfl, Same.chg s25 nm, upd_same, by rw [List.length_append, List.length_singleton]; omega, fun w hw => ?_⟩
              rcases List.mem_append.mp hw with z | z
              · exact gw w z
              · rw [List.mem_singleton.mp z]
                exact hN rfl (any45 e45)
        clear s4 h4 gw lw
        rintro σ' G5 ⟨ws, rfl, s5, h5, lw, gw⟩
        have hD5 := s5 _ _ hD
        refine ⟨_, rfl, .inl ⟨rfl, _, SqL.of hD5⟩, _, rfl, mm, rfl, ⟨_, SqL.of h5⟩, fun C nC => ?_⟩
        have CD : C ≠ D := Ne.symm (ne_of_none hD5 nC)
        refine lc_list (K := K) (a := mm) (xs := ws) (fun i' G' => Same G5 G' ∧ ∃ zs, G' C = some (.lst zs) ∧ TlsA D G' zs ∧ TlsA C G' zs ∧ zs.length = i') ⟨same_upd nC, [], upd_same, (fun _ z => nomatch z), (fun _ z => nomatch z), rfl⟩ (fun i' G' _ z => SqL.of (z.1 _ _ h5)) ?_ ?_
        · rintro i' w G6 ew ⟨s6, zs, hC, hZ, hZ', lz⟩
          obtain ⟨m', em, lm⟩ := gw w (List.mem_of_getElem? ew)
          have il := (List.getElem?_eq_some_iff.mp ew).1
          have s06 := sG.trans (s5.trans s6)
          have full1 : ¬ (HT.sIx n.vals.length 0 none = 0 ∧ HT.sIx n.vals.length n.vals.length (some ((1 + i : Nat) : Int)) = n.vals.length) := fun w => by
            have := w.2
            rw [show HT.sIx n.vals.length n.vals.length (some ((1 + i : Nat) : Int)) = min (1 + i) n.vals.length from HT.sIx_nat _ _ _] at this
            omega
          have full2 : ¬ (HT.sIx n.vals.length 0 (some (((1 + i : Nat) : Int) + 1)) = 0 ∧ HT.sIx n.vals.length n.vals.length none = n.vals.length) := fun w => by
            have := w.1
            rw [show HT.sIx n.vals.length 0 (some (((1 + i : Nat) : Int) + 1)) = min (1 + i + 1) n.vals.length from HT.sIx_nat _ _ (1 + i + 1)] at this
            omega
          have ne1 : n.vals.take (1 + i) ≠ [] := fun w => by
            have := congrArg List.length w
            rw [List.length_take] at this
            simp only [List.length_nil] at this
            omega
          have small1 : (n.vals.take (1 + i)).length + 1 ≤ sizeLine := by
            rw [List.length_take]
            exact Nat.le_of_lt (small1000 (by omega))
          have small2 : ∀ {y : V}, (n.vals.take (1 + i) ++ [y]).length + (n.vals.drop (1 + i + 1)).length ≤ sizeLine := by
            intro y
            rw [List.length_append, List.length_take, List.length_drop, List.length_singleton]
            exact Nat.le_of_lt (small1000 (by omega))
          refine ⟨rfl, _, rfl, _, rfl, _, rfl, a, _, rfl, SqL.of (s06 _ _ hts), fun pa npa => ?_⟩
          have xa : Same G6 (upd G6 pa (.lst (cutV ts none (some (k : Int))))) := same_upd npa
          have ha : (upd G6 pa (.lst (cutV ts none (some (k : Int))))) pa = some (.lst (ts.take k)) := by rw [upd_same, cut_to]
          generalize upd G6 pa (.lst (cutV ts none (some (k : Int)))) = Ga at xa ha ⊢
          have ya := s06.trans xa
          refine ⟨_, rfl, _, rfl, _, rfl, b, _, rfl, SqT.of (ya _ _ hb), full1, fun pb npb => ?_⟩
          have xb : Same Ga (upd Ga pb (.tup (cutV n.vals none (some ((1 + i : Nat) : Int))))) := same_upd npb
          have hpb : (upd Ga pb (.tup (cutV n.vals none (some ((1 + i : Nat) : Int))))) pb = some (.tup (n.vals.take (1 + i))) := by rw [upd_same, cut_to]
          generalize upd Ga pb (.tup (cutV n.vals none (some ((1 + i : Nat) : Int)))) = Gb at xb hpb ⊢
          refine ⟨_, rfl, (by show 1 ≤ sizeLine; decide), fun pc npc => ?_⟩
          have xc : Same Gb (upd Gb pc (.tup [w])) := same_upd npc
          have hpc : (upd Gb pc (.tup [w])) pc = some (.tup [w]) := upd_same
          generalize upd Gb pc (.tup [w]) = Gc at xc hpc ⊢
          refine catT_use (xc _ _ hpb) hpc ne1 small1 fun Gd pd xd hpd => ?_
          have yd := ((ya.trans xb).trans xc).trans xd
          refine ⟨_, rfl, _, rfl, _, _, rfl, rfl, _, rfl, b, _, rfl, SqT.of (yd _ _ hb), full2, fun pe npe => ?_⟩
          have xe : Same Gd (upd Gd pe (.tup (cutV n.vals (some (((1 + i : Nat) : Int) + 1)) none))) := same_upd npe
          have hpe : (upd Gd pe (.tup (cutV n.vals (some (((1 + i : Nat) : Int) + 1)) none))) pe = some (.tup (n.vals.drop (1 + i + 1))) := by rw [upd_same]; exact congrArg (fun z => some (HO.tup z)) (cut_from n.vals (1 + i + 1))
          generalize upd Gd pe (.tup (cutV n.vals (some (((1 + i : Nat) : Int) + 1)) none)) = Ge at xe hpe ⊢
          refine catT_use (xe _ _ hpd) hpe (by simp) small2 fun Gf pf xf hpf => ?_
          rw [← set_cut (by omega : 1 + i < n.vals.length), ← em] at hpf
          have xaf := (((xb.trans xc).trans xd).trans xe).trans xf
          refine ⟨(by show 1 ≤ sizeLine; decide), fun pg npg => ?_⟩
          have xg : Same Gf (upd Gf pg (.lst [V.ref pf])) := same_upd npg
          have hpg : (upd Gf pg (.lst [V.ref pf])) pg = some (.lst [V.ref pf]) := upd_same
          generalize upd Gf pg (.lst [V.ref pf]) = Gg at xg hpg ⊢
          have xag := xaf.trans xg
          refine ⟨pa, pg, _, _, rfl, rfl, xag _ _ ha, hpg, ?_, fun ph nph => ?_⟩
          · rw [List.length_take]
            exact Nat.le_of_lt (small1000 (by show min k ts.length + 1 ≤ 1000; omega))
          have xh : Same Gg (upd Gg ph (.lst (ts.take k ++ [V.ref pf]))) := same_upd nph
          have hph : (upd Gg ph (.lst (ts.take k ++ [V.ref pf]))) ph = some (.lst (ts.take k ++ [V.ref pf])) := upd_same
          generalize upd Gg ph (.lst (ts.take k ++ [V.ref pf])) = Gh at xh hph ⊢
          have yh := (ya.trans xag).trans xh
          refine ⟨_, rfl, _, rfl, _, _, rfl, rfl, _, rfl, a, _, rfl, SqL.of (yh _ _ hts), fun pi npi => ?_⟩
          have xi : Same Gh (upd Gh pi (.lst (cutV ts (some ((k : Int) + 1)) none))) := same_upd npi
          have hpi : (upd Gh pi (.lst (cutV ts (some ((k : Int) + 1)) none))) pi = some (.lst (ts.drop (k + 1))) := by rw [upd_same]; exact congrArg (fun z => some (HO.lst z)) (cut_from ts (k + 1))
          generalize upd Gh pi (.lst (cutV ts (some ((k : Int) + 1)) none)) = Gi at xi hpi ⊢
          refine ⟨ph, pi, _, _, rfl, rfl, xi _ _ hph, hpi, ?_, fun pj npj => ?_⟩
          · rw [List.length_append, List.length_take, List.length_drop, List.length_singleton]
            exact Nat.le_of_lt (small1000 (by omega))
          have xj : Same Gi (upd Gi pj (.lst ((ts.take k ++ [V.ref pf]) ++ ts.drop (k + 1)))) := same_upd npj
          have hpj : (upd Gi pj (.lst ((ts.take k ++ [V.ref pf]) ++ ts.drop (k + 1)))) pj = some (.lst ((ts.take k ++ [V.ref pf]) ++ ts.drop (k + 1))) := upd_same
          have x6i := (((xa.trans xag).trans xh).trans xi)
          have CJ : pj ≠ C := Ne.symm (ne_of_none (x6i _ _ hC) npj)
          have DJ : pj ≠ D := Ne.symm (ne_of_none (x6i _ _ (s6 _ _ hD5)) npj)
          generalize upd Gi pj (.lst ((ts.take k ++ [V.ref pf]) ++ ts.drop (k + 1))) = Gj at xj hpj ⊢
          have x6j := x6i.trans xj
          have yj := s06.trans x6j
          have atj : All2 (TlV Gj) ts l := ats.mono fun _ _ z => z.same yj
          have hpfj : Gj pf = some (.tup m'.vals) := ((xg.trans xh).trans (xi.trans xj)) _ _ hpf
          have tj : TaleAt Gj pj ((l.take k ++ [m']) ++ l.drop (k + 1)) := by
            refine ⟨⟨_, hpj, ((atj.take k).app (All2.cons ⟨pf, rfl, hpfj⟩ All2.nil)).app (atj.drop (k + 1))⟩, fun n' hn' => ?_, ?_⟩
            · rcases List.mem_append.mp hn' with z | z
              · rcases List.mem_append.mp z with z | z
                · exact ta.low n' (List.mem_of_mem_take z)
                · rw [List.mem_singleton.mp z]
                  exact lm
              · exact ta.low n' (List.mem_of_mem_drop z)
            · rw [List.length_append, List.length_append, List.length_take, List.length_drop, List.length_singleton]
              omega
          have l4' : ((l.take k ++ [m']) ++ l.drop (k + 1)).length ≤ 40 := by
            rw [List.length_append, List.length_append, List.length_take, List.length_drop, List.length_singleton]
            omega
          have hCj := x6j _ _ hC
          refine ⟨zs, hCj, small1000 (by omega), Same.chg (s6.trans x6j) nC, zs ++ [V.ref pj], upd_same, ?_, ?_, by rw [List.length_append, List.length_singleton, lz]⟩
          · exact TlsA.chg ((hZ.same x6j).app (TlsA.one DJ tj l4')) ((hZ'.same x6j).app (TlsA.one CJ tj l4')) hCj
          · exact TlsA.chg ((hZ'.same x6j).app (TlsA.one CJ tj l4')) ((hZ'.same x6j).app (TlsA.one CJ tj l4')) hCj
        · rintro G6 ⟨s6, zs, hC, hZ, hZ', lz⟩
          have s26 := s5.trans s6
          have hD6 := s6 _ _ hD5
          refine ⟨D, C, us, zs, rfl, rfl, hD6, hC, Nat.le_of_lt (small1000 (by omega)), ?_⟩
          have hU6 := (hU.same s26).app hZ
          refine ⟨_, _, _, _, us ++ zs, rfl, Same.chg (sG.trans s26) nD, by rw [upd_ne p1D]; exact s26 _ _ hp, upd_same, TlsA.chg hU6 hU6 hD6, by rw [List.length_append]; omega⟩
      · rintro σ G2 ⟨v4, v5, v6, v7, us, rfl, sG, hp, hD, hU, lU⟩
        exact ⟨_, _, _, _, _, us, rfl, sG, hp, hD, hU, by omega⟩
    · rintro σ G ⟨v3, v4, v5, v6, v7, us, rfl, sG, hp, hD, hU, lU⟩
      refine ⟨_, rfl, q G D us sG nD hD hU ?_⟩
      rw [List.length_take] at lU
      omega

end PD

namespace PD
open PySem PySem.Spec PyProof.Rows L2

/-! Phrasedesk, law_k10: lists changed in place -/
--# _law_line_of
def lineI (fr : List Int) (l : List Tl) : Int := match wrongT fr De.none 0 l with
  | some i => (i : Int)
  | none => -1
def spLineOf : Sp := fun vs H Q _ => ∃ (f : Addr) (fr : List Int) (a : Addr) (l : List Tl), vs = [.ref f, .ref a] ∧ LsAt H f fr ∧ FrOk fr ∧ TlAt H a l ∧ (∀ n ∈ l, n.short) ∧ l.length ≤ 40 ∧ ∀ H' : Hp, Same H H' → Q (.int (lineI fr l)) H'
theorem sc_law_line_of : FnScope ["_law_froms_here", "_law_tale", "_law_found"] ["_law_froms_here", "_law_tale"] (defScope s_law_line_of) := ⟨rfl, rfl, rfl, by decide +kernel, rfl, by decide +kernel, by decide +kernel⟩
theorem c_law_line_of {P : Program} {w : World} {K : PySem.W.Frag} {mg : Str → Option Value} {base : Heap} (T : Tx K mg) : C8.Cal P w K mg base 8 "_law_line_of" (spLineOf) [] := by
  refine calD T.F_law_line_of T.g_law_line_of (fun _ _ _ _ _ _ us hl => match us, hl with | [_, _], _ => rfl) sc_law_line_of (fun vs H Q E h => ?_) (fun cdv A outer s H vs Q E hr h => ?_)
  · obtain ⟨f, fr, a, l, rfl, _⟩ := h
    rfl
  · obtain ⟨f, fr, a, l, rfl, hf, fo, ta, sh, l40, q⟩ := h
    refine ⟨_, (pss_cons (ps_set (i := 2) sc_law_line_of.nd rfl (Or.inl rfl) (C8.pe_c (c_judged T) hr (by decide) rfl (pa_cons (pv 0) (pa_cons (pv 1) pa_nil))))
    (pss_one (ps_ret (pe_ifExp (pt_val (pe_callB call_isi (by rfl) T.f_isinstance (by decide +kernel) (pa_cons (pv 2) (pa_cons (pe_glob (v := .ref (He.ga K "Wrong")) rfl T.g_Wrong rfl) pa_nil)))) (pe_fld (pv 2) (by rfl)) (pe_un un_neg pe_int))))), ?_⟩
    refine ⟨_, rfl, _, rfl, f, fr, a, l, rfl, hf, fo, ta, sh, l40, fun ew H1 y dy s1 ny hy => ?_, fun i ew H1 y dy s1 ny hy => ?_⟩
    · have z := q H1 s1
      unfold lineI at z
      rw [ew] at z
      exact ⟨_, rfl, _, _, _, _, false, rfl, .own _, T.t_Right.ty T.k_Right hy, T.is_Right_Wrong, false, rfl, iteF ⟨_, rfl, z⟩⟩
    · have z := q H1 s1
      unfold lineI at z
      rw [ew] at z
      exact ⟨_, rfl, _, _, _, _, true, rfl, .own _, T.t_Wrong.ty T.k_Wrong hy, T.is_Wrong_Wrong, true, rfl, iteT ⟨_, rfl, y, _, _, _, _, rfl, hy, T.k_Wrong, T.n_Wrong_line, wfs_at _, z⟩⟩
--# _law_changed_right10
def nA : Tl := .phrase 0 "a" 0
def nX (k : Int) : Tl := .put 0 2 "x" (some 0) none k
/-- froms, a tale of two lines, and a list -/
structure Ch (H G : Hp) (f t L : Addr) (fr : List Int) (k : Int) (ls : List V) : Prop where
  same : Same H G
  hf : LsAt G f fr
  ht : ∃ q0 q1, G t = some (.lst [.ref q0, .ref q1]) ∧ G q0 = some (.tup nA.vals) ∧ G q1 = some (.tup (nX k).vals)
  hL : G L = some (.lst ls)
section
variable {H G G' : Hp} {f t L q : Addr} {fr fr' : List Int} {k k' : Int} {ls ls' : List V}
theorem Ch.next (c : Ch H G f t L fr k ls) (s : Same G G') : Ch H G' f t L fr k ls := ⟨c.same.trans s, c.hf.same s, let ⟨a, b, x, y, z⟩ := c.ht; ⟨a, b, s _ _ x, s _ _ y, s _ _ z⟩, s _ _ c.hL⟩
theorem Ch.setF (c : Ch H G f t L fr k ls) (nf : H f = none) (tf : t ≠ f) (Lf : L ≠ f) : Ch H (upd G f (.lst (fr'.map V.int))) f t L fr' k ls := by
  obtain ⟨a, b, x, y, z⟩ := c.ht
  refine ⟨Same.chg c.same nf, upd_same, ⟨a, b, ?_, ?_, ?_⟩, ?_⟩
  · rw [upd_ne tf]
    exact x
  · rw [upd_ne (ne_of y c.hf fun z => nomatch z)]
    exact y
  · rw [upd_ne (ne_of z c.hf fun z => nomatch z)]
    exact z
  · rw [upd_ne Lf]
    exact c.hL
theorem Ch.setT (c : Ch H G f t L fr k ls) (nt : H t = none) (ft : f ≠ t) (Lt : L ≠ t) {q0 q1 : Addr} (x : G t = some (.lst [.ref q0, .ref q1])) (hq : G q = some (.tup (nX k').vals)) : Ch H (upd G t (.lst [.ref q0, .ref q])) f t L fr k' ls := by
  obtain ⟨a, b, x', y, _⟩ := c.ht
  rw [x] at x'
  cases x'
  refine ⟨Same.chg c.same nt, ?_, ⟨q0, q, upd_same, ?_, ?_⟩, ?_⟩
  · unfold LsAt
    rw [upd_ne ft]
    exact c.hf
  · rw [upd_ne (ne_of y x fun z => nomatch z)]
    exact y
  · rw [upd_ne (ne_of hq x fun z => nomatch z)]
    exact hq
  · rw [upd_ne Lt]
    exact c.hL
theorem Ch.setL (c : Ch H G f t L fr k ls) (nL : H L = none) (fL : f ≠ L) (tL : t ≠ L) : Ch H (upd G L (.lst ls')) f t L fr k ls' := by
  obtain ⟨a, b, x, y, z⟩ := c.ht
  refine ⟨Same.chg c.same nL, ?_, ⟨a, b, ?_, ?_, ?_⟩, upd_same⟩
  · unfold LsAt
    rw [upd_ne fL]
    exact c.hf
  · rw [upd_ne tL]
    exact x
  · rw [upd_ne (ne_of y c.hL fun z => nomatch z)]
    exact y
  · rw [upd_ne (ne_of z c.hL fun z => nomatch z)]
    exact z
theorem Ch.tl (c : Ch H G f t L fr k ls) : TlAt G t [nA, nX k] := let ⟨a, b, x, y, z⟩ := c.ht; ⟨_, x, All2.cons ⟨a, rfl, y⟩ (All2.cons ⟨b, rfl, z⟩ All2.nil)⟩
end
theorem short2 (k : Int) : ∀ n ∈ [nA, nX k], n.short := by
  intro n hn
  simp only [List.mem_cons, List.not_mem_nil, or_false] at hn
  rcases hn with rfl | rfl
  · show (Str.ofString "a").length ≤ 5000
    decide
  · show (Str.ofString "x").length ≤ 5000
    decide
theorem fo1 : FrOk [0] := ⟨by decide, by decide, fun i x e => by
  match i, e with
  | 0, e =>
    cases (Option.some.inj e)
    exact ⟨by decide, by decide⟩
  | i + 1, e => cases e⟩
theorem fo2 (z : Int) (h0 : 0 ≤ z) (h1 : z ≤ 1) : FrOk [0, z] := ⟨by show 1 ≤ 2; decide, by show 2 ≤ 7; decide, fun i x e => by
  match i, e with
  | 0, e =>
    cases (Option.some.inj e)
    exact ⟨by decide, by decide⟩
  | 1, e =>
    cases (Option.some.inj e)
    exact ⟨h0, h1⟩
  | i + 2, e => cases e⟩
def frJ : Nat → Int
  | 1 => 1
  | _ => 0
def lnJ : Nat → List Int
  | 0 => [-1]
  | 1 => [-1, 1]
  | _ => [-1, 1, -1]
def spYes10 : Sp := fun vs H Q _ => vs = [] ∧ ∀ H' : Hp, Same H H' → Q (.bl true) H'
def badS : List Str := ["`", "{", "a{", "aB", "b`b", "", "A", "abcdefg", "a1", "a\n", "abcde\n"]
def goodS : List Str := ["zzzzzz", "a"]
theorem bad_at : ∀ x ∈ badS, lineI [0] [.phrase 0 x 0] = 0 ∧ lineI [0] [.phrase 0 "ab" 0, .put 0 1 x (some 0) none 1] = 1 ∧ x.length ≤ 5000 := by decide +kernel
theorem good_at : ∀ x ∈ goodS, lineI [0] [.phrase 0 x 0, .put 0 1 x (some 0) none 1] = -1 ∧ x.length ≤ 5000 := by decide +kernel
theorem e00a : lineI [0, 0] [nA, nX 1] = -1 := by decide +kernel
theorem e01a : lineI [0, 1] [nA, nX 1] = 1 := by decide +kernel
theorem e00b : lineI [0, 0] [nA, nX 2] = 1 := by decide +kernel
theorem e0a : lineI [0] [nA, nX 1] = 1 := by decide +kernel
theorem w00a : wrongT [0, 0] De.none 0 [nA, nX 1] = none := by decide +kernel
theorem w00b : wrongT [0, 0] De.none 0 [nA, nX 2] = some 1 := by decide +kernel
theorem dp_bls {K : PySem.W.Frag} {H : Hp} {a : Addr} {x y : Bool} (h : H a = some (.lst [.bl x, .bl y])) : Dp K H (.ref a) (.list [.bool x, .bool y]) := .lst (SqL.of h) (.cons (.bl _) (.cons (.bl _) .nil))
theorem sc_law_changed_right : FnScope ["_law_froms_here", "_law_tale", "_law_lines", "_law_tongue", "_law_elder", "_law_tells", "_law_number_here", "_law_text_here"] [] (defScope s_law_changed_right) := ⟨rfl, rfl, rfl, by decide +kernel, rfl, by decide +kernel, by decide +kernel⟩
theorem c_law_changed_right {P : Program} {w : World} {K : PySem.W.Frag} {mg : Str → Option Value} {base : Heap} (T : Tx K mg) : C8.Cal P w K mg base 9 "_law_changed_right" (spYes10) [] := by
  refine calD T.F_law_changed_right T.g_law_changed_right (fun _ _ _ _ _ _ us hl => match us, hl with | [], _ => rfl) sc_law_changed_right (fun vs H Q E h => ?_) (fun cdv A outer s H vs Q E hr h => ?_)
  · obtain ⟨rfl, _⟩ := h
    rfl
  · obtain ⟨rfl, q⟩ := h
    refine ⟨_, (pss_cons (ps_par (i := 0) (j := 1) (by rfl) sc_law_changed_right.nd rfl rfl (by decide) rfl rfl (pa_cons (pe_lst (pa_cons pe_int (pa_cons pe_int pa_nil))) (pa_cons (pe_lst (pa_cons (pe_tup (pa_cons pe_str (pa_cons pe_int (pa_cons pe_str (pa_cons pe_int pa_nil))))) (pa_cons (pe_tup (pa_cons pe_str (pa_cons pe_int (pa_cons pe_int (pa_cons pe_str (pa_cons pe_int (pa_cons pe_non (pa_cons pe_int pa_nil)))))))) pa_nil))) pa_nil)) (by rfl))
    (pss_cons (ps_set (i := 2) sc_law_changed_right.nd rfl (Or.inl rfl) (pe_lst (pa_cons (C8.pe_c (c_law_line_of T) hr (by decide) rfl (pa_cons (pv 0) (pa_cons (pv 1) pa_nil))) pa_nil)))
    (pss_cons (ps_for PassesOwn.never rfl (pi_tup (pe_tup (pa_cons pe_int (pa_cons pe_int pa_nil)))) (pg_name (i := 3) sc_law_changed_right.nd rfl (Or.inl rfl))
      (pss_cons (ps_asg (pv 3) (pg_sub (pv 0) pe_int set_list))
      (pss_one (ps_expr (pe_bm PySem.F.plainAttrs_list PySem.F.slot_list_append PySem.F.type_list_append mt_append (pv 2) (pa_cons (C8.pe_c (c_law_line_of T) hr (by decide) rfl (pa_cons (pv 0) (pa_cons (pv 1) pa_nil))) pa_nil))))))
    (pss_cons (ps_asg (pe_tup (pa_cons pe_str (pa_cons pe_int (pa_cons pe_int (pa_cons pe_str (pa_cons pe_int (pa_cons pe_non (pa_cons pe_int pa_nil)))))))) (pg_sub (pv 1) pe_int set_list))
    (pss_cons (ps_expr (pe_bm PySem.F.plainAttrs_list PySem.F.slot_list_append PySem.F.type_list_append mt_append (pv 2) (pa_cons (C8.pe_c (c_law_line_of T) hr (by decide) rfl (pa_cons (pv 0) (pa_cons (pv 1) pa_nil))) pa_nil)))
    (pss_cons (ps_asg (pe_tup (pa_cons pe_str (pa_cons pe_int (pa_cons pe_int (pa_cons pe_str (pa_cons pe_int (pa_cons pe_non (pa_cons pe_int pa_nil)))))))) (pg_sub (pv 1) pe_int set_list))
    (pss_cons (ps_expr (pe_bm0 PySem.F.plainAttrs_list PySem.F.slot_list_pop PySem.F.type_list_pop mt_pop (pv 0)))
    (pss_cons (ps_expr (pe_bm PySem.F.plainAttrs_list PySem.F.slot_list_append PySem.F.type_list_append mt_append (pv 2) (pa_cons (C8.pe_c (c_law_line_of T) hr (by decide) rfl (pa_cons (pv 0) (pa_cons (pv 1) pa_nil))) pa_nil)))
    (pss_cons (ps_if (pt_cmpR (op_neD hr.units) (pv 2) (pe_lst (pa_cons (pe_un un_neg pe_int) (pa_cons pe_int (pa_cons (pe_un un_neg pe_int) (pa_cons pe_int (pa_cons pe_int pa_nil)))))) (nomark _))
      (pss_one (ps_ret pe_bl))
      pss_nil)
    (pss_cons (ps_asg (pe_tup (pa_cons pe_str (pa_cons pe_int (pa_cons pe_int (pa_cons pe_str (pa_cons pe_int (pa_cons pe_non (pa_cons pe_int pa_nil)))))))) (pg_sub (pv 1) pe_int set_list))
    (pss_cons (ps_par3 (i := 0) (j := 4) (l := 5) (by rfl) sc_law_changed_right.nd rfl rfl rfl (by decide) (by decide) (by decide) rfl rfl rfl (pa_cons (pe_lst (pa_cons pe_int (pa_cons pe_int pa_nil))) (pa_cons (C8.pe_c (c_judged T) hr (by decide) rfl (pa_cons (pe_lst (pa_cons pe_int (pa_cons pe_int pa_nil))) (pa_cons (pv 1) pa_nil))) (pa_cons (pe_lst pa_nil) pa_nil))) (by rfl))
    (pss_cons (ps_for PassesOwn.never rfl (pi_tup (pe_tup (pa_cons pe_int (pa_cons pe_int pa_nil)))) (pg_name (i := 6) sc_law_changed_right.nd rfl (Or.inl rfl))
      (pss_cons (ps_asg (pe_tup (pa_cons pe_str (pa_cons pe_int (pa_cons pe_int (pa_cons pe_str (pa_cons pe_int (pa_cons pe_non (pa_cons (pv 6) pa_nil)))))))) (pg_sub (pv 1) pe_int set_list))
      (pss_one (ps_expr (pe_bm PySem.F.plainAttrs_list PySem.F.slot_list_append PySem.F.type_list_append mt_append (pv 5) (pa_cons (C8.pe_mt (c_Right_shows T) hr (by decide) (pv 4) (pa_cons (pv 0) (pa_cons (pv 1) pa_nil))) pa_nil))))))
    (pss_cons (ps_if (pt_cmpR (op_neD hr.units) (pv 5) (pe_lst (pa_cons pe_bl (pa_cons pe_bl pa_nil))) (nomark _))
      (pss_one (ps_ret pe_bl))
      pss_nil)
    (pss_cons (ps_for PassesOwn.never rfl (pi_tup (pe_tup (pa_cons pe_str (pa_cons pe_str (pa_cons pe_str (pa_cons pe_str (pa_cons pe_str (pa_cons pe_str (pa_cons pe_str (pa_cons pe_str (pa_cons pe_str (pa_cons pe_str (pa_cons pe_str pa_nil))))))))))))) (pg_name (i := 7) sc_law_changed_right.nd rfl (Or.inl rfl))
      (pss_cons (ps_if (pt_cmpR op_ne (C8.pe_c (c_law_line_of T) hr (by decide) rfl (pa_cons (pe_lst (pa_cons pe_int pa_nil)) (pa_cons (pe_lst (pa_cons (pe_tup (pa_cons pe_str (pa_cons pe_int (pa_cons (pv 7) (pa_cons pe_int pa_nil))))) pa_nil)) pa_nil))) pe_int (nomark _))
        (pss_one (ps_ret pe_bl))
        pss_nil)
      (pss_one (ps_if (pt_cmpR op_ne (C8.pe_c (c_law_line_of T) hr (by decide) rfl (pa_cons (pe_lst (pa_cons pe_int pa_nil)) (pa_cons (pe_lst (pa_cons (pe_tup (pa_cons pe_str (pa_cons pe_int (pa_cons pe_str (pa_cons pe_int pa_nil))))) (pa_cons (pe_tup (pa_cons pe_str (pa_cons pe_int (pa_cons pe_int (pa_cons (pv 7) (pa_cons pe_int (pa_cons pe_non (pa_cons pe_int pa_nil)))))))) pa_nil))) pa_nil))) pe_int (nomark _))
        (pss_one (ps_ret pe_bl))
        pss_nil))))
    (pss_cons (ps_for PassesOwn.never rfl (pi_tup (pe_tup (pa_cons pe_str (pa_cons pe_str pa_nil)))) (pg_name (i := 7) sc_law_changed_right.nd rfl (Or.inl rfl))
      (pss_one (ps_if (pt_cmpR op_ne (C8.pe_c (c_law_line_of T) hr (by decide) rfl (pa_cons (pe_lst (pa_cons pe_int pa_nil)) (pa_cons (pe_lst (pa_cons (pe_tup (pa_cons pe_str (pa_cons pe_int (pa_cons (pv 7) (pa_cons pe_int pa_nil))))) (pa_cons (pe_tup (pa_cons pe_str (pa_cons pe_int (pa_cons pe_int (pa_cons (pv 7) (pa_cons pe_int (pa_cons pe_non (pa_cons pe_int pa_nil)))))))) pa_nil))) pa_nil))) (pe_un un_neg pe_int) (nomark _))
        (pss_one (ps_ret pe_bl))
        pss_nil)))
    (pss_one (ps_ret pe_bl))))))))))))))))), ?_⟩
    refine ⟨(by show 2 ≤ sizeLine; decide), fun f nf => ?_⟩
    have s1 : Same H (upd H f (.lst [V.int 0, V.int 0])) := same_upd nf
    have hf1 : LsAt (upd H f (.lst [V.int 0, V.int 0])) f [0, 0] := upd_same
    generalize upd H f (.lst [V.int 0, V.int 0]) = H1 at s1 hf1 ⊢
    refine ⟨(by show 4 ≤ sizeLine; decide), fun q0 nq0 => ?_⟩
    have s2 : Same H1 (upd H1 q0 (.tup [V.str "phrase", V.int 0, V.str "a", V.int 0])) := same_upd nq0
    have hq0 : (upd H1 q0 (.tup [V.str "phrase", V.int 0, V.str "a", V.int 0])) q0 = some (.tup nA.vals) := upd_same
    generalize upd H1 q0 (.tup [V.str "phrase", V.int 0, V.str "a", V.int 0]) = H2 at s2 hq0 ⊢
    refine ⟨(by show 7 ≤ sizeLine; decide), fun q1 nq1 => ?_⟩
    have s3 : Same H2 (upd H2 q1 (.tup [V.str "put", V.int 0, V.int 2, V.str "x", V.int 0, V.non, V.int 1])) := same_upd nq1
    have hq1 : (upd H2 q1 (.tup [V.str "put", V.int 0, V.int 2, V.str "x", V.int 0, V.non, V.int 1])) q1 = some (.tup (nX 1).vals) := upd_same
    generalize upd H2 q1 (.tup [V.str "put", V.int 0, V.int 2, V.str "x", V.int 0, V.non, V.int 1]) = H3 at s3 hq1 ⊢
    refine ⟨(by show 2 ≤ sizeLine; decide), fun t nt => ⟨_, _, rfl, ?_⟩⟩
    have s4 : Same H3 (upd H3 t (.lst [V.ref q0, V.ref q1])) := same_upd nt
    have ht4' : (upd H3 t (.lst [V.ref q0, V.ref q1])) t = some (.lst [V.ref q0, V.ref q1]) := upd_same
    have s03 := (s1.trans s2).trans s3
    have nt0 : H t = none := s03.free nt
    have tf : t ≠ f := Ne.symm (ne_of_none (hf1.same (s2.trans s3)) nt)
    show tSeq _ _ _ _ (upd H3 t (.lst [V.ref q0, V.ref q1]))
    generalize upd H3 t (.lst [V.ref q0, V.ref q1]) = H4 at s4 ht4' ⊢
    have s04 := s03.trans s4
    have hf4 : LsAt H4 f [0, 0] := hf1.same ((s2.trans s3).trans s4)
    have ht4 : ∃ q0 q1, H4 t = some (.lst [.ref q0, .ref q1]) ∧ H4 q0 = some (.tup nA.vals) ∧ H4 q1 = some (.tup (nX 1).vals) := ⟨q0, q1, ht4', (s3.trans s4) _ _ hq0, s4 _ _ hq1⟩
    clear s1 s2 s3 s4 nq0 nq1 nt s03 hf1 hq0 hq1 ht4'
    have tl4 : TlAt H4 t [nA, nX 1] := let ⟨a, b, x, y, z⟩ := ht4; ⟨_, x, All2.cons ⟨a, rfl, y⟩ (All2.cons ⟨b, rfl, z⟩ All2.nil)⟩
    refine ⟨_, rfl, _, rfl, f, [0, 0], t, [nA, nX 1], rfl, hf4, fo2 0 (by decide) (by decide), tl4, short2 1, by decide, fun H5 s5 => ⟨(by show 1 ≤ sizeLine; decide), fun L nL => ?_⟩⟩
    rw [e00a]
    have s6 := same_upd nL (o := .lst ([-1].map V.int))
    have c6 : Ch H (upd H5 L (.lst ([-1].map V.int))) f t L [0, 0] 1 ([-1].map V.int) := ⟨(s04.trans s5).trans s6, (hf4.same s5).same s6, let ⟨a, b, x, y, z⟩ := ht4; ⟨a, b, s6 _ _ (s5 _ _ x), s6 _ _ (s5 _ _ y), s6 _ _ (s5 _ _ z)⟩, upd_same⟩
    have nL0 : H L = none := (s04.trans s5).free nL
    have fL : f ≠ L := ne_of_none (hf4.same s5) nL
    have tL : t ≠ L := by
      obtain ⟨a, b, x, _⟩ := ht4
      exact ne_of_none (s5 _ _ x) nL
    show tSeq _ _ _ _ (upd H5 L (.lst ([-1].map V.int)))
    generalize upd H5 L (.lst ([-1].map V.int)) = H6 at c6 ⊢
    clear hf4 ht4 s04 tl4 s5 s6
    refine ⟨(by show 2 ≤ sizeLine; decide), fun tp ntp => ⟨tp, rfl, ⟨_, SqT.of upd_same⟩, ?_⟩⟩
    have s7 := same_upd ntp (o := .tup [V.int 1, V.int 0])
    have hT : (upd H6 tp (.tup [V.int 1, V.int 0])) tp = some (.tup [V.int 1, V.int 0]) := upd_same
    refine for_tup (K := K) (a := tp) (xs := [V.int 1, V.int 0]) (fun i σ G => ∃ v3 : Option V, σ = [some (.ref f), some (.ref t), some (.ref L), v3, none, none, none, none] ∧ G tp = some (.tup [V.int 1, V.int 0]) ∧ Ch H G f t L [0, frJ i] 1 ((lnJ i).map V.int))
      ⟨none, rfl, hT, c6.next s7⟩ (fun i σ G _ ⟨_, _, z, _⟩ => SqT.of z) ?_ ?_
    · rintro i x σ G hx ⟨v3, rfl, hG, c⟩
      obtain ⟨z, rfl, z0, z1, ez, l3, el⟩ : ∃ z : Int, x = .int z ∧ 0 ≤ z ∧ z ≤ 1 ∧ frJ (i + 1) = z ∧ (lnJ i).length ≤ 3 ∧ lnJ (i + 1) = lnJ i ++ [lineI [0, z] [nA, nX 1]] := by
        match i, hx with
        | 0, hx =>
          cases (Option.some.inj hx)
          exact ⟨1, rfl, by decide, by decide, rfl, by decide, by rw [e01a]; rfl⟩
        | 1, hx =>
          cases (Option.some.inj hx)
          exact ⟨0, rfl, by decide, by decide, rfl, by decide, by rw [e00a]; rfl⟩
      refine ⟨_, rfl, _, rfl, f, _, _, 1, rfl, rfl, c.hf, rfl, ?_⟩
      have c1 : Ch H (upd G f (.lst ([0, z].map V.int))) f t L [0, z] 1 ((lnJ i).map V.int) := c.setF nf tf fL.symm
      have h1 : (upd G f (.lst ([0, z].map V.int))) tp = some (.tup [V.int 1, V.int 0]) := by rw [upd_ne (ne_of hG c.hf fun z => nomatch z)]; exact hG
      have e12 : upd G f (.lst (([0, frJ i].map V.int).set 1 (V.int z))) = upd G f (.lst ([0, z].map V.int)) := rfl
      rw [e12]
      generalize upd G f (.lst ([0, z].map V.int)) = G1 at c1 h1 ⊢
      refine ⟨_, rfl, .inl ⟨rfl, _, SqL.of c1.hL⟩, _, rfl, _, rfl, f, [0, z], t, [nA, nX 1], rfl, c1.hf, fo2 z z0 z1, c1.tl, short2 1, by show 2 ≤ 40; decide, fun G2 s2 => ?_⟩
      have c2 := c1.next s2
      refine ⟨L, _, _, rfl, rfl, c2.hL, by rw [List.length_map]; exact small1000 (by omega), ?_⟩
      refine ⟨_, rfl, by rw [upd_ne (ne_of (s2 _ _ h1) c2.hL fun z => nomatch z)]; exact s2 _ _ h1, ?_⟩
      rw [ez, el, List.map_append]
      exact c2.setL nL0 fL tL
    rintro σ G ⟨v3, rfl, _, c⟩
    have c' : Ch H G f t L [0, 0] 1 ([-1, 1, -1].map V.int) := c
    clear c
    refine ⟨(by show 7 ≤ sizeLine; decide), fun b1 nb1 => ?_⟩
    have s1 : Same G (upd G b1 (.tup [V.str "put", V.int 0, V.int 2, V.str "x", V.int 0, V.non, V.int 2])) := same_upd nb1
    have hb1 : (upd G b1 (.tup [V.str "put", V.int 0, V.int 2, V.str "x", V.int 0, V.non, V.int 2])) b1 = some (.tup (nX 2).vals) := upd_same
    generalize upd G b1 (.tup [V.str "put", V.int 0, V.int 2, V.str "x", V.int 0, V.non, V.int 2]) = J1 at s1 hb1 ⊢
    have d1 := c'.next s1
    obtain ⟨x1, y1, ht1, _, _⟩ := d1.ht
    refine ⟨_, rfl, t, _, _, 1, rfl, rfl, ht1, rfl, ?_⟩
    have c1 := d1.setT nt0 (Ne.symm tf) (Ne.symm tL) ht1 hb1
    show tSeq _ _ _ _ (upd J1 t (.lst [V.ref x1, V.ref b1]))
    generalize upd J1 t (.lst [V.ref x1, V.ref b1]) = G1 at c1 ⊢
    clear s1 hb1 d1 ht1 nb1
    refine ⟨_, rfl, .inl ⟨rfl, _, SqL.of c1.hL⟩, _, rfl, _, rfl, f, [0, 0], t, [nA, nX 2], rfl, c1.hf, fo2 0 (by decide) (by decide), c1.tl, short2 2, by show 2 ≤ 40; decide, fun J2 s2 => ?_⟩
    have d2 := c1.next s2
    refine ⟨L, _, _, rfl, rfl, d2.hL, by decide, ?_⟩
    rw [e00b]
    have c2 : Ch H (upd J2 L (.lst ([-1, 1, -1, 1].map V.int))) f t L [0, 0] 2 ([-1, 1, -1, 1].map V.int) := d2.setL nL0 fL tL
    show tSeq _ _ _ _ (upd J2 L (.lst ([-1, 1, -1, 1].map V.int)))
    generalize upd J2 L (.lst ([-1, 1, -1, 1].map V.int)) = G2 at c2 ⊢
    clear s2 d2
    refine ⟨(by show 7 ≤ sizeLine; decide), fun b3 nb3 => ?_⟩
    have s3 : Same G2 (upd G2 b3 (.tup [V.str "put", V.int 0, V.int 2, V.str "x", V.int 0, V.non, V.int 1])) := same_upd nb3
    have hb3 : (upd G2 b3 (.tup [V.str "put", V.int 0, V.int 2, V.str "x", V.int 0, V.non, V.int 1])) b3 = some (.tup (nX 1).vals) := upd_same
    generalize upd G2 b3 (.tup [V.str "put", V.int 0, V.int 2, V.str "x", V.int 0, V.non, V.int 1]) = J3 at s3 hb3 ⊢
    have d3 := c2.next s3
    obtain ⟨x3, y3, ht3, _, _⟩ := d3.ht
    refine ⟨_, rfl, t, _, _, 1, rfl, rfl, ht3, rfl, ?_⟩
    have c3 := d3.setT nt0 (Ne.symm tf) (Ne.symm tL) ht3 hb3
    show tSeq _ _ _ _ (upd J3 t (.lst [V.ref x3, V.ref b3]))
    generalize upd J3 t (.lst [V.ref x3, V.ref b3]) = G3 at c3 ⊢
    clear s3 hb3 d3 ht3 nb3
    refine ⟨_, rfl, .inl ⟨rfl, _, SqL.of c3.hf⟩, f, _, _, rfl, rfl, c3.hf, rfl, ?_⟩
    have c4 : Ch H (upd G3 f (.lst ([0].map V.int))) f t L [0] 1 ([-1, 1, -1, 1].map V.int) := c3.setF nf tf fL.symm
    show tSeq _ _ _ _ (upd G3 f (.lst ([0].map V.int)))
    generalize upd G3 f (.lst ([0].map V.int)) = G4 at c4 ⊢
    refine ⟨_, rfl, .inl ⟨rfl, _, SqL.of c4.hL⟩, _, rfl, _, rfl, f, [0], t, [nA, nX 1], rfl, c4.hf, fo1, c4.tl, short2 1, by show 2 ≤ 40; decide, fun J5 s5 => ?_⟩
    have d5 := c4.next s5
    refine ⟨L, _, _, rfl, rfl, d5.hL, by decide, ?_⟩
    rw [e0a]
    have c5 : Ch H (upd J5 L (.lst ([-1, 1, -1, 1, 1].map V.int))) f t L [0] 1 ([-1, 1, -1, 1, 1].map V.int) := d5.setL nL0 fL tL
    show tSeq _ _ _ _ (upd J5 L (.lst ([-1, 1, -1, 1, 1].map V.int)))
    generalize upd J5 L (.lst ([-1, 1, -1, 1, 1].map V.int)) = G5 at c5 ⊢
    clear s5 d5
    refine ⟨_, rfl, _, rfl, _, rfl, (by show 5 ≤ sizeLine; decide), fun m nm => ?_⟩
    have s6 : Same G5 (upd G5 m (.lst ([-1, 1, -1, 1, 1].map V.int))) := same_upd nm
    have hm : LsAt (upd G5 m (.lst ([-1, 1, -1, 1, 1].map V.int))) m [-1, 1, -1, 1, 1] := upd_same
    refine ⟨_, _, dp_ints (ns := [-1, 1, -1, 1, 1]) (s6 _ _ c5.hL), dp_ints hm, shaped_ints _, shaped_ints _, false, by rw [eqv_ints]; rfl, iteF ?_⟩
    have c6 := c5.next s6
    show tSeq _ _ _ _ (upd G5 m (.lst ([-1, 1, -1, 1, 1].map V.int)))
    generalize upd G5 m (.lst ([-1, 1, -1, 1, 1].map V.int)) = G6 at c6 ⊢
    clear s6 hm nm
    refine ⟨(by show 7 ≤ sizeLine; decide), fun b7 nb7 => ?_⟩
    have s7 : Same G6 (upd G6 b7 (.tup [V.str "put", V.int 0, V.int 2, V.str "x", V.int 0, V.non, V.int 1])) := same_upd nb7
    have hb7 : (upd G6 b7 (.tup [V.str "put", V.int 0, V.int 2, V.str "x", V.int 0, V.non, V.int 1])) b7 = some (.tup (nX 1).vals) := upd_same
    generalize upd G6 b7 (.tup [V.str "put", V.int 0, V.int 2, V.str "x", V.int 0, V.non, V.int 1]) = J7 at s7 hb7 ⊢
    have d7 := c6.next s7
    obtain ⟨x7, y7, ht7, _, _⟩ := d7.ht
    refine ⟨_, rfl, t, _, _, 1, rfl, rfl, ht7, rfl, ?_⟩
    have c7 := d7.setT nt0 (Ne.symm tf) (Ne.symm tL) ht7 hb7
    show tSeq _ _ _ _ (upd J7 t (.lst [V.ref x7, V.ref b7]))
    generalize upd J7 t (.lst [V.ref x7, V.ref b7]) = G7 at c7 ⊢
    clear s7 hb7 d7 ht7 nb7
    refine ⟨(by show 2 ≤ sizeLine; decide), fun g ng => ?_⟩
    have s8 : Same G7 (upd G7 g (.lst [V.int 0, V.int 0])) := same_upd ng
    have hg8 : LsAt (upd G7 g (.lst [V.int 0, V.int 0])) g [0, 0] := upd_same
    have ng0 : H g = none := c7.same.free ng
    have tg : t ≠ g := by
      obtain ⟨a, b, x, _⟩ := c7.ht
      exact ne_of_none x ng
    generalize upd G7 g (.lst [V.int 0, V.int 0]) = G8 at s8 hg8 ⊢
    have c8 := c7.next s8
    refine ⟨(by show 2 ≤ sizeLine; decide), fun g2 ng2 => ?_⟩
    have s9 : Same G8 (upd G8 g2 (.lst [V.int 0, V.int 0])) := same_upd ng2
    have hg9 : LsAt (upd G8 g2 (.lst [V.int 0, V.int 0])) g2 [0, 0] := upd_same
    generalize upd G8 g2 (.lst [V.int 0, V.int 0]) = G9 at s9 hg9 ⊢
    have c9 := c8.next s9
    refine ⟨_, rfl, g2, [0, 0], t, [nA, nX 1], rfl, hg9, fo2 0 (by decide) (by decide), c9.tl, short2 1, by show 2 ≤ 40; decide, fun _ G10 y dy s10 ny hy => ?_, fun i ei => by rw [w00a] at ei; cases ei⟩
    have c10 := c9.next s10
    have hg10 := hg8.same (s9.trans s10)
    refine ⟨Nat.zero_le _, fun E nE => ⟨_, _, _, rfl, ?_⟩⟩
    have s11 : Same G10 (upd G10 E (.lst [])) := same_upd nE
    have nE0 : H E = none := c10.same.free nE
    have tE : t ≠ E := by
      obtain ⟨a, b, x, _⟩ := c10.ht
      exact ne_of_none x nE
    have gE : g ≠ E := ne_of_none hg10 nE
    have c11 : Ch H (upd G10 E (.lst [])) g t E [0, 0] 1 [] := ⟨(c10.next s11).same, hg10.same s11, (c10.next s11).ht, upd_same⟩
    have hy11 := s11 _ _ hy
    have yt : y ≠ t := by
      obtain ⟨a, b, x, _⟩ := c9.ht
      exact Ne.symm (ne_of_none x ny)
    have yE : y ≠ E := ne_of_none hy nE
    show tSeq _ _ _ _ (upd G10 E (.lst []))
    generalize upd G10 E (.lst []) = G11 at c11 hy11 ⊢
    clear s8 hg8 s9 hg9 c8 c9 s10 ny hy c10 hg10 s11 nE
    refine ⟨(by show 2 ≤ sizeLine; decide), fun tq ntq => ⟨tq, rfl, ⟨_, SqT.of upd_same⟩, ?_⟩⟩
    have s12 := same_upd ntq (o := .tup [V.int 2, V.int 1])
    have hT12 : (upd G11 tq (.tup [V.int 2, V.int 1])) tq = some (.tup [V.int 2, V.int 1]) := upd_same
    refine for_tup (K := K) (a := tq) (xs := [V.int 2, V.int 1]) (fun i σ G => ∃ (v6 : Option V) (k : Int), σ = [some (.ref g), some (.ref t), some (.ref L), v3, some (.ref y), some (.ref E), v6, none] ∧ G tq = some (.tup [V.int 2, V.int 1]) ∧ G y = some (.ins (He.ga K "Right") dy []) ∧ Ch H G g t E [0, 0] k (([false, true].take i).map V.bl))
      ⟨none, 1, rfl, hT12, s12 _ _ hy11, c11.next s12⟩ (fun i σ G _ ⟨_, _, _, z, _⟩ => SqT.of z) ?_ ?_
    · rintro i x σ G hx ⟨v6, k, rfl, hG, hyG, c⟩
      obtain ⟨z, rfl, il, ez⟩ : ∃ z : Int, x = .int z ∧ i < 2 ∧ ([false, true].take (i + 1)).map V.bl = ([false, true].take i).map V.bl ++ [V.bl (wrongT [0, 0] De.none 0 [nA, nX z]).isNone] := by
        match i, hx with
        | 0, hx =>
          cases (Option.some.inj hx)
          exact ⟨2, rfl, by decide, by rw [w00b]; rfl⟩
        | 1, hx =>
          cases (Option.some.inj hx)
          exact ⟨1, rfl, by decide, by rw [w00a]; rfl⟩
      refine ⟨_, rfl, (by show 7 ≤ sizeLine; decide), fun b nb => ?_⟩
      have s1 : Same G (upd G b (.tup [V.str "put", V.int 0, V.int 2, V.str "x", V.int 0, V.non, V.int z])) := same_upd nb
      have hb : (upd G b (.tup [V.str "put", V.int 0, V.int 2, V.str "x", V.int 0, V.non, V.int z])) b = some (.tup (nX z).vals) := upd_same
      generalize upd G b (.tup [V.str "put", V.int 0, V.int 2, V.str "x", V.int 0, V.non, V.int z]) = J at s1 hb ⊢
      have d := c.next s1
      obtain ⟨x1, y1, ht1, _, _⟩ := d.ht
      refine ⟨_, rfl, t, _, _, 1, rfl, rfl, ht1, rfl, ?_⟩
      have e := d.setT nt0 (Ne.symm tg) (Ne.symm tE) ht1 hb
      have hy1 : (upd J t (.lst [V.ref x1, V.ref b])) y = some (.ins (He.ga K "Right") dy []) := by rw [upd_ne yt]; exact s1 _ _ hyG
      have hq1 : (upd J t (.lst [V.ref x1, V.ref b])) tq = some (.tup [V.int 2, V.int 1]) := by rw [upd_ne (ne_of (s1 _ _ hG) ht1 fun z => nomatch z)]; exact s1 _ _ hG
      have e12 : upd J t (.lst ([V.ref x1, V.ref y1].set 1 (V.ref b))) = upd J t (.lst [V.ref x1, V.ref b]) := rfl
      rw [e12]
      generalize upd J t (.lst [V.ref x1, V.ref b]) = J1 at e hy1 hq1 ⊢
      refine ⟨_, rfl, .inl ⟨rfl, _, SqL.of e.hL⟩, _, rfl, y, dy, [], rfl, hy1, rfl, _, rfl, _, rfl, y, g, [0, 0], t, [nA, nX z], rfl, e.hf, fo2 0 (by decide) (by decide), e.tl, short2 z, by show 2 ≤ 100; decide, fun J2 s2 => ?_⟩
      have e2 := e.next s2
      refine ⟨E, _, _, rfl, rfl, e2.hL, by rw [List.length_map, List.length_take]; exact small1000 (by omega), ?_⟩
      refine ⟨_, z, rfl, by rw [upd_ne (ne_of (s2 _ _ hq1) e2.hL fun z => nomatch z)]; exact s2 _ _ hq1, by rw [upd_ne yE]; exact s2 _ _ hy1, ?_⟩
      rw [ez]
      exact e2.setL nE0 gE tE
    rintro σ G ⟨v6, k, rfl, _, _, c⟩
    have cE : G E = some (.lst [V.bl false, V.bl true]) := c.hL
    refine ⟨_, rfl, (by show 2 ≤ sizeLine; decide), fun m nm => ?_⟩
    have s13 : Same G (upd G m (.lst [V.bl false, V.bl true])) := same_upd nm
    refine ⟨_, _, dp_bls (s13 _ _ cE), dp_bls upd_same, by decide, by decide, false, by decide, iteF ?_⟩
    have s0 := c.same.trans s13
    show tSeq _ _ _ _ (upd G m (.lst [V.bl false, V.bl true]))
    generalize upd G m (.lst [V.bl false, V.bl true]) = G13 at s0 ⊢
    clear s13 nm cE c
    refine ⟨(by show 11 ≤ sizeLine; decide), fun tr ntr => ⟨tr, rfl, ⟨_, SqT.of upd_same⟩, ?_⟩⟩
    have s14 := same_upd ntr (o := .tup (badS.map V.str))
    have hT14 : (upd G13 tr (.tup (badS.map V.str))) tr = some (.tup (badS.map V.str)) := upd_same
    refine for_tup (K := K) (a := tr) (xs := badS.map V.str) (fun i σ G => ∃ v7 : Option V, σ = [some (.ref g), some (.ref t), some (.ref L), v3, some (.ref y), some (.ref E), v6, v7] ∧ G tr = some (.tup (badS.map V.str)) ∧ Same H G)
      ⟨none, rfl, hT14, s0.trans s14⟩ (fun i σ G _ ⟨_, _, z, _⟩ => SqT.of z) ?_ ?_
    · rintro i x σ J hx ⟨v7, rfl, hJ, sJ⟩
      rw [List.getElem?_map] at hx
      obtain ⟨z, ez, rfl⟩ := Option.map_eq_some_iff.mp hx
      obtain ⟨e1, e2, zl⟩ := bad_at z (List.mem_of_getElem? ez)
      refine ⟨(by show 1 ≤ sizeLine; decide), fun a1 n1 => ⟨_, rfl, (by show 4 ≤ sizeLine; decide), fun c1 m1 => ⟨(by show 1 ≤ sizeLine; decide), fun a2 n2 => ?_⟩⟩⟩
      have w1 := same_upd n1 (o := .lst [V.int 0])
      have w2 := same_upd m1 (o := .tup [V.str "phrase", V.int 0, V.str z, V.int 0])
      have w3 := same_upd n2 (o := .lst [V.ref c1])
      refine ⟨a1, [0], a2, [.phrase 0 z 0], rfl, w3 _ _ (w2 _ _ upd_same), fo1, ⟨_, upd_same, All2.cons ⟨c1, rfl, w3 _ _ upd_same⟩ All2.nil⟩, fun n hn => by rw [List.mem_singleton.mp hn]; exact zl, by show 1 ≤ 40; decide, fun J1 u1 => ?_⟩
      rw [e1]
      refine ⟨rfl, false, rfl, iteF ?_⟩
      have k1 := ((w1.trans w2).trans w3).trans u1
      clear w1 w2 w3 u1
      refine ⟨(by show 1 ≤ sizeLine; decide), fun a3 n3 => ⟨(by show 4 ≤ sizeLine; decide), fun c3 m3 => ⟨_, rfl, (by show 7 ≤ sizeLine; decide), fun c4 m4 => ⟨(by show 2 ≤ sizeLine; decide), fun a4 n4 => ?_⟩⟩⟩⟩
      have w1 := same_upd n3 (o := .lst [V.int 0])
      have w2 := same_upd m3 (o := .tup [V.str "phrase", V.int 0, V.str "ab", V.int 0])
      have w3 := same_upd m4 (o := .tup [V.str "put", V.int 0, V.int 1, V.str z, V.int 0, V.non, V.int 1])
      have w4 := same_upd n4 (o := .lst [V.ref c3, V.ref c4])
      refine ⟨a3, [0], a4, [.phrase 0 "ab" 0, .put 0 1 z (some 0) none 1], rfl, w4 _ _ (w3 _ _ (w2 _ _ upd_same)), fo1, ⟨_, upd_same, All2.cons ⟨c3, rfl, w4 _ _ (w3 _ _ upd_same)⟩ (All2.cons ⟨c4, rfl, w4 _ _ upd_same⟩ All2.nil)⟩, fun n hn => ?_, by show 2 ≤ 40; decide, fun J2 u2 => ?_⟩
      · simp only [List.mem_cons, List.not_mem_nil, or_false] at hn
        rcases hn with rfl | rfl
        · show (Str.ofString "ab").length ≤ 5000
          decide
        · exact zl
      rw [e2]
      have k2 := (((w1.trans w2).trans w3).trans w4).trans u2
      exact ⟨rfl, false, rfl, iteF ⟨_, rfl, k2 _ _ (k1 _ _ hJ), sJ.trans (k1.trans k2)⟩⟩
    rintro σ J ⟨v7, rfl, _, sJ⟩
    refine ⟨(by show 2 ≤ sizeLine; decide), fun tz ntz => ⟨tz, rfl, ⟨_, SqT.of upd_same⟩, ?_⟩⟩
    have s15 := same_upd ntz (o := .tup (goodS.map V.str))
    have hT15 : (upd J tz (.tup (goodS.map V.str))) tz = some (.tup (goodS.map V.str)) := upd_same
    refine for_tup (K := K) (a := tz) (xs := goodS.map V.str) (fun i σ G => ∃ v7 : Option V, σ = [some (.ref g), some (.ref t), some (.ref L), v3, some (.ref y), some (.ref E), v6, v7] ∧ G tz = some (.tup (goodS.map V.str)) ∧ Same H G)
      ⟨_, rfl, hT15, sJ.trans s15⟩ (fun i σ G _ ⟨_, _, z, _⟩ => SqT.of z) ?_ ?_
    · rintro i x σ J3 hx ⟨v7, rfl, hJ, sJ⟩
      rw [List.getElem?_map] at hx
      obtain ⟨z, ez, rfl⟩ := Option.map_eq_some_iff.mp hx
      obtain ⟨e1, zl⟩ := good_at z (List.mem_of_getElem? ez)
      refine ⟨(by show 1 ≤ sizeLine; decide), fun a3 n3 => ⟨_, rfl, (by show 4 ≤ sizeLine; decide), fun c3 m3 => ⟨_, rfl, (by show 7 ≤ sizeLine; decide), fun c4 m4 => ⟨(by show 2 ≤ sizeLine; decide), fun a4 n4 => ?_⟩⟩⟩⟩
      have w1 := same_upd n3 (o := .lst [V.int 0])
      have w2 := same_upd m3 (o := .tup [V.str "phrase", V.int 0, V.str z, V.int 0])
      have w3 := same_upd m4 (o := .tup [V.str "put", V.int 0, V.int 1, V.str z, V.int 0, V.non, V.int 1])
      have w4 := same_upd n4 (o := .lst [V.ref c3, V.ref c4])
      refine ⟨a3, [0], a4, [.phrase 0 z 0, .put 0 1 z (some 0) none 1], rfl, w4 _ _ (w3 _ _ (w2 _ _ upd_same)), fo1, ⟨_, upd_same, All2.cons ⟨c3, rfl, w4 _ _ (w3 _ _ upd_same)⟩ (All2.cons ⟨c4, rfl, w4 _ _ upd_same⟩ All2.nil)⟩, fun n hn => ?_, by show 2 ≤ 40; decide, fun J2 u2 => ?_⟩
      · simp only [List.mem_cons, List.not_mem_nil, or_false] at hn
        rcases hn with rfl | rfl
        · exact zl
        · exact zl
      rw [e1]
      have k2 := (((w1.trans w2).trans w3).trans w4).trans u2
      exact ⟨_, rfl, rfl, false, rfl, iteF ⟨_, rfl, k2 _ _ hJ, sJ.trans k2⟩⟩
    rintro σ J3 ⟨v7, rfl, _, sJ3⟩
    exact q _ sJ3

end PD

namespace PD
open PySem PySem.Spec PyProof.Rows L2

/-! Phrasedesk, law_k10: the law -/
--# law
def spLaw (K : PySem.W.Frag) : Sp := fun vs H Q _ => ∃ (a : Addr) (ns : List Int), vs = [.ref a] ∧ SqL K H a (ns.map V.int) ∧ ∀ H' : Hp, Q (.bl true) H'
/-- tales -/
def TlsE (H : Hp) (vs : List V) : Prop := ∀ v ∈ vs, ∃ b l, v = .ref b ∧ TaleAt H b l ∧ l.length ≤ 40
theorem TlsE.same {H H' : Hp} (s : Same H H') {vs : List V} (h : TlsE H vs) : TlsE H' vs := fun v hv => let ⟨b, l, x, z, w⟩ := h v hv; ⟨b, l, x, z.same s, w⟩
theorem TlsE.app {H : Hp} {vs ws : List V} (h : TlsE H vs) (g : TlsE H ws) : TlsE H (vs ++ ws) := fun v hv => (List.mem_append.mp hv).elim (h v) (g v)
theorem TlsA.e {D : Addr} {H : Hp} {vs : List V} (h : TlsA D H vs) : TlsE H vs := fun v hv => let ⟨b, l, x, _, z, w⟩ := h v hv; ⟨b, l, x, z, w⟩
theorem TlsE.off {H : Hp} {T t0 : Addr} {r us vs : List V} {o : HO} (h : TlsE H vs) (hT : H T = some (.lst (.ref t0 :: r))) (h0 : H t0 = some (.lst us)) : TlsE (upd H T o) vs := fun v hv => by
  obtain ⟨b, l, x, z, w⟩ := h v hv
  refine ⟨b, l, x, z.chg hT fun e => ?_, w⟩
  subst e
  obtain ⟨ws, e1, e2⟩ := z.at_
  rw [hT] at e1
  cases (HO.lst.inj (Option.some.inj e1))
  obtain ⟨n, _, q, e3, e4⟩ := e2.at (i := 0) rfl
  cases e3
  rw [h0] at e4
  cases e4
def g1 : Tl := .phrase 0 "ab" 0
def g2 : Tl := .put 0 1 "x" (some 0) none 1
def g3 : Tl := .put 0 0 "cd" none (some 0) 2
def g4 : Tl := .back 0 0 2
def goodL : List Tl := [g1, g2, g3, g4]
def sh3 : Tl → Bool
  | .phrase _ x _ => decide (x.length ≤ 5000)
  | .put _ _ x _ _ _ => decide (x.length ≤ 5000)
  | .back _ _ _ => true
theorem sh3_ok {l : List Tl} (h : l.all sh3 = true) : ∀ n ∈ l, n.short := by
  intro n hn
  have z := List.all_eq_true.mp h n hn
  cases n with
  | phrase p x k =>
    have w : x.length ≤ 5000 := of_decide_eq_true z
    exact w
  | put p t x s o k =>
    have w : x.length ≤ 5000 := of_decide_eq_true z
    exact w
  | back p t k => trivial
theorem jw1 : wrongT [0] De.none 0 (goodL ++ [.put 0 1 "y" (some 2) (some 1) 3]) = none := by decide +kernel
theorem jw2 : wrongT [0] De.none 0 (goodL.take 1 ++ [.back 0 0 0]) = some 1 := by decide +kernel
theorem jw3 : wrongT [0] De.none 0 (goodL ++ goodL.drop 3) = some 4 := by decide +kernel
def everyT (i : Nat) : List Tl := (List.range i).map fun (k : Nat) => Tl.phrase (k : Int) "ab" (k : Int)
theorem everyT_succ {i : Nat} : everyT (i + 1) = everyT i ++ [Tl.phrase (i : Int) "ab" (i : Int)] := by
  unfold everyT
  rw [List.range_succ, List.map_append]
  rfl
theorem jw4 : wrongT [0] De.none 0 (everyT 7) = some 6 := by decide +kernel
theorem jw5 : wrongT [0] De.none 0 ((everyT 7).take 6) = none := by decide +kernel
theorem jw6 : ∀ i : Nat, i < 2 → wrongT [0] De.none 0 (((everyT 7).take 2) ++ [.put (i : Int) 1 "x" (some (1 - (i : Int))) none 2]) = some 2 := by
  intro i hi
  match i, hi with
  | 0, _ => decide +kernel
  | 1, _ => decide +kernel
theorem jw7 : wrongT [0] De.none 0 (goodL.take 1 ++ [.put 0 1 "x" (some 0) (some 0) 1]) = some 1 := by decide +kernel
theorem jsh {i : Nat} : ∀ n ∈ ((everyT 7).take 2) ++ [.put (i : Int) 1 "x" (some (1 - (i : Int))) none 2], n.short := by
  intro n hn
  rcases List.mem_append.mp hn with z | z
  · exact sh3_ok (l := (everyT 7).take 2) (by decide +kernel) n z
  · rw [List.mem_singleton.mp z]
    show (Str.ofString "x").length ≤ 5000
    decide
theorem sc_law : FnScope ["_law_script", "_law_by", "_law_good", "_law_found", "_law_every", "_law_again", "_law_two", "_law_phrase", "_law_froms_here", "_law_other", "_law_desk", "_law_here", "_law_tale", "_law_at", "_law_tales", "_law_spoilt_here", "_law_some"] ["_law_script"] (defScope s_law) := ⟨rfl, rfl, rfl, by decide +kernel, rfl, by decide +kernel, by decide +kernel⟩
theorem lawG {P : Program} {w : World} {K : PySem.W.Frag} {mg : Str → Option Value} {base : Heap} {fd : FuncData} (T : Tx K mg) (F : FunD K "law" "law" (defArgs s_law) (defBody s_law) (defScope s_law) [] [] (He.ga K "law") fd) : FnG P w K mg base 11 (He.ga K "law") fd ["_law_script"] (spLaw K) := by
  refine okG F sc_law (fun vs H Q E h => ?_) (fun cdv A outer s H vs Q E hgd hr h => ?_)
  · obtain ⟨a, ns, rfl, _⟩ := h
    rfl
  · obtain ⟨a, ns, rfl, hS, q⟩ := h
    refine ⟨_, (pss_cons (ps_for PassesOwn.never rfl (pi_range1 (by rfl) T.f_range (pa_cons pe_int pa_nil)) (pg_name (i := 1) sc_law.nd rfl (Or.inl rfl))
      (pss_cons (ps_par (i := 8) (j := 9) (by rfl) sc_law.nd rfl rfl (by decide) rfl rfl (pa_cons (C8.pe_c (c_law_froms T) hr (by decide) rfl (pa_cons (pv 0) (pa_cons (pv 1) pa_nil))) (pa_cons (C8.pe_c (c_law_froms T) hr (by decide) rfl (pa_cons (pv 0) (pa_cons (pe_op op_add (pv 1) pe_int) pa_nil))) pa_nil)) (by rfl))
      (pss_cons (ps_asg (C8.pe_c (c_law_played T) hr (by decide) rfl (pa_cons (pv 0) (pa_cons (pv 1) (pa_cons (pv 8) (pa_cons (pe_op op_add pe_int (pe_op op_mul pe_int (pv 1))) pa_nil))))) (pg_tup rfl (pgs_cons (pg_name (i := 10) sc_law.nd rfl (Or.inl rfl)) (pgs_cons (pg_name (i := 11) sc_law.nd rfl (Or.inl rfl)) (pgs_cons (pg_name (i := 12) sc_law.nd rfl (Or.inl rfl)) pgs_nil)))))
      (pss_cons (ps_set (i := 12) sc_law.nd rfl (Or.inl rfl) (pe_slice sl_list (pv 12) po_none (po_some pe_int)))
      (pss_cons (ps_set (i := 13) sc_law.nd rfl (Or.inl rfl) (C8.pe_c (c_law_number T) hr (by decide) rfl (pa_cons (C8.pe_c (c_law_cell_at T) hr (by decide) rfl (pa_cons (pv 0) (pa_cons (pv 1) pa_nil))) (pa_cons (pe_op op_add (pv 1) pe_int) (pa_cons (pe_callB call_len_seq (by rfl) T.f_len (by decide +kernel) (pa_cons (pv 12) pa_nil)) pa_nil)))))
      (pss_cons (ps_set (i := 14) sc_law.nd rfl (Or.inl rfl) (pe_lst (pa_cons (pv 12) (pa_cons (pe_slice sl_list (pv 12) po_none (po_some (pv 13))) (pa_cons (pe_op op_cat (pe_slice sl_list (pv 12) po_none (po_some (pv 13))) (pe_slice sl_list (pv 12) (po_some (pe_op op_add (pv 13) pe_int)) po_none)) (pa_cons (pe_op op_cat (pe_op op_cat (pe_slice sl_list (pv 12) po_none (po_some (pv 13))) (pe_slice sl_list (pv 12) (po_some (pe_op op_add (pv 13) pe_int)) po_none)) (pe_slice sl_list (pv 12) (po_some (pv 13)) (po_some (pe_op op_add (pv 13) pe_int)))) (pa_cons (pe_revL (pv 12)) pa_nil)))))))
      (pss_cons (ps_set (i := 15) sc_law.nd rfl (Or.inl rfl) (pe_op op_cat (C8.pe_c (c_law_spoilt T) hr (by decide) rfl (pa_cons (pv 12) (pa_cons (pv 13) pa_nil))) (pe_slice sl_list (C8.pe_c (c_law_spoilt T) hr (by decide) rfl (pa_cons (pv 12) (pa_cons (pe_op op_sub (pe_callB call_len_seq (by rfl) T.f_len (by decide +kernel) (pa_cons (pv 12) pa_nil)) pe_int) pa_nil))) po_none (po_some pe_int))))
      (pss_cons (ps_expr (pe_bm PySem.F.plainAttrs_list PySem.F.slot_list_append PySem.F.type_list_append mt_append (pv 14) (pa_cons (pe_slice sl_list (pe_op op_cat (pe_slice sl_list (pv 12) po_none (po_some (pe_op op_add (pv 13) pe_int))) (pe_slice sl_list (pv 12) (po_some (pv 13)) po_none)) po_none (po_some pe_int)) pa_nil)))
      (pss_cons (ps_for PassesOwn.never rfl (pi_list (pe_op op_cat (pv 14) (pe_slS (pv 15) (po_some (pv 1)) (by decide)))) (pg_name (i := 16) sc_law.nd rfl (Or.inl rfl))
        (pss_one (ps_if (pt_not (pt_val (C8.pe_c (c_law_right T) hr (by decide) rfl (pa_cons (pv 8) (pa_cons (pv 16) (pa_cons (pe_lst (pa_cons (pe_tup (pa_cons (pv 9) (pa_cons (pv 16) pa_nil))) pa_nil)) pa_nil))))))
          (pss_one (ps_ret pe_bl))
          pss_nil)))
      (pss_one (ps_if (pt_not (pt_val (C8.pe_c (c_law_right T) hr (by decide) rfl (pa_cons (pv 9) (pa_cons (pv 12) (pa_cons (pe_lst (pa_cons (pe_tup (pa_cons (pv 8) (pa_cons (pv 12) pa_nil))) pa_nil)) pa_nil))))))
        (pss_one (ps_ret pe_bl))
        pss_nil)))))))))))
    (pss_cons (ps_set (i := 2) sc_law.nd rfl (Or.inl rfl) (pe_lst (pa_cons (pe_tup (pa_cons pe_str (pa_cons pe_int (pa_cons pe_str (pa_cons pe_int pa_nil))))) (pa_cons (pe_tup (pa_cons pe_str (pa_cons pe_int (pa_cons pe_int (pa_cons pe_str (pa_cons pe_int (pa_cons pe_non (pa_cons pe_int pa_nil)))))))) (pa_cons (pe_tup (pa_cons pe_str (pa_cons pe_int (pa_cons pe_int (pa_cons pe_str (pa_cons pe_non (pa_cons pe_int (pa_cons pe_int pa_nil)))))))) (pa_cons (pe_tup (pa_cons pe_str (pa_cons pe_int (pa_cons pe_int (pa_cons pe_int pa_nil))))) pa_nil))))))
    (pss_cons (ps_if (pt_not (pt_val (pe_callB call_isi (by rfl) T.f_isinstance (by decide +kernel) (pa_cons (C8.pe_c (c_judged T) hr (by decide) rfl (pa_cons (pe_lst (pa_cons pe_int pa_nil)) (pa_cons (pe_op op_cat (pv 2) (pe_lst (pa_cons (pe_tup (pa_cons pe_str (pa_cons pe_int (pa_cons pe_int (pa_cons pe_str (pa_cons pe_int (pa_cons pe_int (pa_cons pe_int pa_nil)))))))) pa_nil))) pa_nil))) (pa_cons (pe_glob (v := .ref (He.ga K "Right")) rfl T.g_Right rfl) pa_nil)))))
      (pss_one (ps_ret pe_bl))
      pss_nil)
    (pss_cons (ps_set (i := 3) sc_law.nd rfl (Or.inl rfl) (C8.pe_c (c_judged T) hr (by decide) rfl (pa_cons (pe_lst (pa_cons pe_int pa_nil)) (pa_cons (pe_op op_cat (pe_slice sl_list (pv 2) po_none (po_some pe_int)) (pe_lst (pa_cons (pe_tup (pa_cons pe_str (pa_cons pe_int (pa_cons pe_int (pa_cons pe_int pa_nil))))) pa_nil))) pa_nil))))
    (pss_cons (ps_if (PW.pt (pw_or (pt_not (pt_val (pe_callB call_isi (by rfl) T.f_isinstance (by decide +kernel) (pa_cons (pv 3) (pa_cons (pe_glob (v := .ref (He.ga K "Wrong")) rfl T.g_Wrong rfl) pa_nil))))) (pw_or (pt_cmpR op_ne (pe_fld (pv 3) (by rfl)) pe_int (nomark _)) (pw_or1 (pt_cmpR op_ne (pe_fld (C8.pe_c (c_judged T) hr (by decide) rfl (pa_cons (pe_lst (pa_cons pe_int pa_nil)) (pa_cons (pe_op op_cat (pv 2) (pe_slice sl_list (pv 2) (po_some pe_int) po_none)) pa_nil))) (by rfl)) pe_int (nomark _))))))
      (pss_one (ps_ret pe_bl))
      pss_nil)
    (pss_cons (ps_if (pt_not (pt_val (pe_c0 (c_law_changed_right T) hr (by decide) rfl)))
      (pss_one (ps_ret pe_bl))
      pss_nil)
    (pss_cons (ps_setLc (i := 4) (own := [("_law_at", 13)]) (g := gName 13) (tt := tYes) (by rfl) sc_law.nd rfl rfl (sw_true rfl rfl rfl (by decide +kernel)) (pi_range1 (by rfl) T.f_range (pa_cons pe_int pa_nil)) (blkOk_by (own := [("_law_at", 13)]) (N := ["_law_script", "_law_by", "_law_good", "_law_found", "_law_every", "_law_again", "_law_two", "_law_phrase", "_law_froms_here", "_law_other", "_law_desk", "_law_here", "_law_tale", "_law_at", "_law_tales", "_law_spoilt_here", "_law_some"]) (sc := defScope s_law) (by decide +kernel)) (fun _ _ _ _ _ => (pg_name (i := 13) sc_law.nd rfl (Or.inl rfl))) (fun _ _ _ _ _ => pts_nil) (fun _ _ _ _ _ => (pe_tup (pa_cons pe_str (pa_cons (pv 13) (pa_cons pe_str (pa_cons (pv 13) pa_nil)))))))
    (pss_cons (ps_par (i := 3) (j := 5) (by rfl) sc_law.nd rfl rfl (by decide) rfl rfl (pa_cons (C8.pe_c (c_judged T) hr (by decide) rfl (pa_cons (pe_lst (pa_cons pe_int pa_nil)) (pa_cons (pv 4) pa_nil))) (pa_cons (C8.pe_c (c_judged T) hr (by decide) rfl (pa_cons (pe_lst (pa_cons pe_int pa_nil)) (pa_cons (pe_slice sl_list (pv 4) po_none (po_some pe_int)) pa_nil))) pa_nil)) (by rfl))
    (pss_cons (ps_if (PW.pt (pw_or (pt_not (pt_val (pe_callB call_isi (by rfl) T.f_isinstance (by decide +kernel) (pa_cons (pv 3) (pa_cons (pe_glob (v := .ref (He.ga K "Wrong")) rfl T.g_Wrong rfl) pa_nil))))) (pw_or (pt_cmpR op_ne (pe_fld (pv 3) (by rfl)) pe_int (nomark _)) (pw_or1 (pt_not (pt_val (pe_callB call_isi (by rfl) T.f_isinstance (by decide +kernel) (pa_cons (pv 5) (pa_cons (pe_glob (v := .ref (He.ga K "Right")) rfl T.g_Right rfl) pa_nil)))))))))
      (pss_one (ps_ret pe_bl))
      pss_nil)
    (pss_cons (ps_set (i := 6) sc_law.nd rfl (Or.inl rfl) (pe_slice sl_list (pv 4) po_none (po_some pe_int)))
    (pss_cons (ps_for PassesOwn.never rfl (pi_range1 (by rfl) T.f_range (pa_cons pe_int pa_nil)) (pg_name (i := 7) sc_law.nd rfl (Or.inl rfl))
      (pss_cons (ps_set (i := 3) sc_law.nd rfl (Or.inl rfl) (C8.pe_c (c_judged T) hr (by decide) rfl (pa_cons (pe_lst (pa_cons pe_int pa_nil)) (pa_cons (pe_op op_cat (pv 6) (pe_lst (pa_cons (pe_tup (pa_cons pe_str (pa_cons (pv 7) (pa_cons pe_int (pa_cons pe_str (pa_cons (pe_op op_sub pe_int (pv 7)) (pa_cons pe_non (pa_cons pe_int pa_nil)))))))) pa_nil))) pa_nil))))
      (pss_one (ps_if (PW.pt (pw_or (pt_not (pt_val (pe_callB call_isi (by rfl) T.f_isinstance (by decide +kernel) (pa_cons (pv 3) (pa_cons (pe_glob (v := .ref (He.ga K "Wrong")) rfl T.g_Wrong rfl) pa_nil))))) (pw_or1 (pt_cmpR op_ne (pe_fld (pv 3) (by rfl)) pe_int (nomark _)))))
        (pss_one (ps_ret pe_bl))
        pss_nil))))
    (pss_one (ps_ret (pe_cmpR op_eq (pe_fld (C8.pe_c (c_judged T) hr (by decide) rfl (pa_cons (pe_lst (pa_cons pe_int pa_nil)) (pa_cons (pe_op op_cat (pe_slice sl_list (pv 2) po_none (po_some pe_int)) (pe_lst (pa_cons (pe_tup (pa_cons pe_str (pa_cons pe_int (pa_cons pe_int (pa_cons pe_str (pa_cons pe_int (pa_cons pe_int (pa_cons pe_int pa_nil)))))))) pa_nil))) pa_nil))) (by rfl)) pe_int (nomark _))))))))))))))), ?_⟩
    refine ⟨2, rfl, by decide, by decide, ?_⟩
    refine for_range (lo := 0) (n := 2) (fun i σ H1 => ∃ v1 v2 v3 v4 v5 v6 v7 v8 v9 v10 v11 v12 v13 v14 v15 v16 : Option V, σ = [some (.ref a), v1, v2, v3, v4, v5, v6, v7, v8, v9, v10, v11, v12, v13, v14, v15, v16] ∧ Same H H1) ⟨none, none, none, none, none, none, none, none, none, none, none, none, none, none, none, none, rfl, Same.refl _⟩ ?_ ?_
    · rintro i σ H1 hi ⟨v1, v2, v3, v4, v5, v6, v7, v8, v9, v10, v11, v12, v13, v14, v15, v16, rfl, s1⟩
      rw [Int.zero_add]
      refine ⟨_, rfl, _, rfl, a, ns, _, rfl, s1.seq hS, by omega, by omega, fun H2 f fr s2 nf hf fo => ?_⟩
      have s02 := s1.trans s2
      refine ⟨_, rfl, _, rfl, _, _, rfl, rfl, a, ns, _, rfl, s02.seq hS, by omega, by omega, fun H3 g fg s3 ng hg fog => ⟨_, _, rfl, ?_⟩⟩
      have s03 := s02.trans s3
      refine ⟨_, rfl, _, rfl, _, rfl, _, rfl, _, _, rfl, rfl, .inl ⟨by decide, by decide⟩, _, _, rfl, rfl, a, ns, _, _, f, fr, rfl, s03.seq hS, by omega, by omega, by omega, by omega, hf.same s3, fo, fun H4 r d o l e tl S ls F b4 nr hr4 pl ll l0 => ?_⟩
      refine ⟨r, _, rfl, .inl (.inl hr4), rfl, _, _, rfl, _, _, rfl, _, _, rfl, rfl, ?_⟩
      have s04 := s03.trans b4.same
      have hf4 := (hf.same s3).same b4.same
      have hg4 := hg.same b4.same
      obtain ⟨ts, hts, ats⟩ := ln_tl b4.tale
      have tlow : ∀ n ∈ ls.map Line.tl, n.Low := fun n hn => by
        obtain ⟨m, hm, rfl⟩ := List.mem_map.mp hn
        exact (b4.txs m hm).low
      have tfew : ∀ n ∈ ls.map Line.tl, n.few := fun n hn => by
        obtain ⟨m, hm, rfl⟩ := List.mem_map.mp hn
        have z := b4.txs m hm
        cases m with
        | phrase p x k => exact Nat.le_trans (TxOk.hi z) (by decide)
        | put p t x s o k => exact Nat.le_trans (TxOk.hi z) (by decide)
        | back p t k => trivial
      have tpos : 0 < (ls.map Line.tl).length := by
        rw [List.length_map]
        exact l0 (by omega)
      generalize ls.map Line.tl = tale at ats tlow tfew tpos
      clear b4 nr hr4 pl ll l0
      refine ⟨_, rfl, _, rfl, tl, _, rfl, SqL.of hts, fun t0 nt0 => ?_⟩
      have s5 : Same H4 (upd H4 t0 (.lst (cutV ts none (some 40)))) := same_upd nt0
      have h5 : (upd H4 t0 (.lst (cutV ts none (some 40)))) t0 = some (.lst (ts.take 40)) := by
        rw [upd_same]
        exact congrArg (fun z => some (HO.lst z)) (cut_to ts 40)
      generalize upd H4 t0 (.lst (cutV ts none (some 40))) = H5 at s5 h5 ⊢
      have s05 := s04.trans s5
      have hf5 := hf4.same s5
      have hg5 := hg4.same s5
      have at5 : All2 (TlV H5) (ts.take 40) (tale.take 40) := (ats.mono fun _ _ (z : TlV H4 _ _) => z.same s5).take 40
      have low5 : ∀ n ∈ tale.take 40, n.Low := fun n hn => tlow n (List.mem_of_mem_take hn)
      have few5 : ∀ n ∈ tale.take 40, n.few := fun n hn => tfew n (List.mem_of_mem_take hn)
      have len5 : (tale.take 40).length ≤ 40 := by
        rw [List.length_take]
        omega
      have pos5 : 0 < (tale.take 40).length := by
        rw [List.length_take]
        omega
      generalize tale.take 40 = T5 at at5 low5 few5 len5 pos5
      generalize ts.take 40 = V5 at h5 at5
      clear hts ats tlow tfew tpos s5
      have vl := at5.len
      refine ⟨_, rfl, _, rfl, a, ns, _, rfl, s05.seq hS, by omega, fun cy => ⟨_, rfl, _, _, rfl, rfl, _, rfl, t0, _, rfl, .inl (SqL.of h5), _, _, _, rfl, by omega, by omega, by rw [vl]; omega, by rw [vl]; omega, fun H6 at_ s6 a0 a1 => ?_⟩⟩
      rw [vl] at a1
      obtain ⟨k, rfl⟩ : ∃ k : Nat, at_ = (k : Int) := ⟨at_.toNat, by omega⟩
      have k1 : k < T5.length := by omega
      have s06 := s05.trans s6
      have h6 := s6 _ _ h5
      have at6 : All2 (TlV H6) V5 T5 := at5.mono fun _ _ (z : TlV H5 _ _) => z.same s6
      have hf6 := hf5.same s6
      have hg6 := hg5.same s6
      clear s6 h5 at5
      have kV : k < V5.length := by omega
      -- tales
      refine ⟨_, rfl, _, rfl, _, rfl, _, rfl, t0, _, rfl, SqL.of h6, fun p1 n1 => ?_⟩
      have x1 : Same H6 (upd H6 p1 (.lst (cutV V5 none (some (k : Int))))) := same_upd n1
      have y1 : (upd H6 p1 (.lst (cutV V5 none (some (k : Int))))) p1 = some (.lst (V5.take k)) := by rw [upd_same, cut_to]
      generalize upd H6 p1 (.lst (cutV V5 none (some (k : Int)))) = G1 at x1 y1 ⊢
      refine ⟨_, rfl, _, rfl, _, rfl, t0, _, rfl, SqL.of (x1 _ _ h6), fun p2 n2 => ?_⟩
      have x2 : Same G1 (upd G1 p2 (.lst (cutV V5 none (some (k : Int))))) := same_upd n2
      have y2 : (upd G1 p2 (.lst (cutV V5 none (some (k : Int))))) p2 = some (.lst (V5.take k)) := by rw [upd_same, cut_to]
      generalize upd G1 p2 (.lst (cutV V5 none (some (k : Int)))) = G2 at x2 y2 ⊢
      have x12 := x1.trans x2
      refine ⟨_, rfl, _, rfl, _, _, rfl, rfl, _, rfl, t0, _, rfl, SqL.of (x12 _ _ h6), fun p3 n3 => ?_⟩
      have x3 : Same G2 (upd G2 p3 (.lst (cutV V5 (some ((k : Int) + 1)) none))) := same_upd n3
      have y3 : (upd G2 p3 (.lst (cutV V5 (some ((k : Int) + 1)) none))) p3 = some (.lst (V5.drop (k + 1))) := by
        rw [upd_same]
        exact congrArg (fun z => some (HO.lst z)) (cut_from V5 (k + 1))
      generalize upd G2 p3 (.lst (cutV V5 (some ((k : Int) + 1)) none)) = G3 at x3 y3 ⊢
      have x13 := x12.trans x3
      refine ⟨p2, p3, _, _, rfl, rfl, x3 _ _ y2, y3, ?_, fun p4 n4 => ?_⟩
      · rw [List.length_take, List.length_drop]
        exact Nat.le_of_lt (small1000 (by omega))
      have x4 : Same G3 (upd G3 p4 (.lst (V5.take k ++ V5.drop (k + 1)))) := same_upd n4
      have y4 : (upd G3 p4 (.lst (V5.take k ++ V5.drop (k + 1)))) p4 = some (.lst (V5.take k ++ V5.drop (k + 1))) := upd_same
      generalize upd G3 p4 (.lst (V5.take k ++ V5.drop (k + 1))) = G4 at x4 y4 ⊢
      have x14 := x13.trans x4
      refine ⟨_, rfl, _, rfl, _, rfl, t0, _, rfl, SqL.of (x14 _ _ h6), fun p5 n5 => ?_⟩
      have x5 : Same G4 (upd G4 p5 (.lst (cutV V5 none (some (k : Int))))) := same_upd n5
      have y5 : (upd G4 p5 (.lst (cutV V5 none (some (k : Int))))) p5 = some (.lst (V5.take k)) := by rw [upd_same, cut_to]
      generalize upd G4 p5 (.lst (cutV V5 none (some (k : Int)))) = G5 at x5 y5 ⊢
      have x15 := x14.trans x5
      refine ⟨_, rfl, _, rfl, _, _, rfl, rfl, _, rfl, t0, _, rfl, SqL.of (x15 _ _ h6), fun p6 n6 => ?_⟩
      have x6 : Same G5 (upd G5 p6 (.lst (cutV V5 (some ((k : Int) + 1)) none))) := same_upd n6
      have y6 : (upd G5 p6 (.lst (cutV V5 (some ((k : Int) + 1)) none))) p6 = some (.lst (V5.drop (k + 1))) := by
        rw [upd_same]
        exact congrArg (fun z => some (HO.lst z)) (cut_from V5 (k + 1))
      generalize upd G5 p6 (.lst (cutV V5 (some ((k : Int) + 1)) none)) = G6 at x6 y6 ⊢
      have x16 := x15.trans x6
      refine ⟨p5, p6, _, _, rfl, rfl, x6 _ _ y5, y6, ?_, fun p7 n7 => ?_⟩
      · rw [List.length_take, List.length_drop]
        exact Nat.le_of_lt (small1000 (by omega))
      have x7 : Same G6 (upd G6 p7 (.lst (V5.take k ++ V5.drop (k + 1)))) := same_upd n7
      have y7 : (upd G6 p7 (.lst (V5.take k ++ V5.drop (k + 1)))) p7 = some (.lst (V5.take k ++ V5.drop (k + 1))) := upd_same
      generalize upd G6 p7 (.lst (V5.take k ++ V5.drop (k + 1))) = G7 at x7 y7 ⊢
      have x17 := x16.trans x7
      refine ⟨_, rfl, _, rfl, _, rfl, _, rfl, _, _, rfl, rfl, _, rfl, t0, _, rfl, SqL.of (x17 _ _ h6), fun p8 n8 => ?_⟩
      have x8 : Same G7 (upd G7 p8 (.lst (cutV V5 (some (k : Int)) (some ((k : Int) + 1))))) := same_upd n8
      have y8 : (upd G7 p8 (.lst (cutV V5 (some (k : Int)) (some ((k : Int) + 1))))) p8 = some (.lst ((V5.drop k).take 1)) := by rw [upd_same, cut_one kV]
      generalize upd G7 p8 (.lst (cutV V5 (some (k : Int)) (some ((k : Int) + 1)))) = G8 at x8 y8 ⊢
      have x18 := x17.trans x8
      refine ⟨p7, p8, _, _, rfl, rfl, x8 _ _ y7, y8, ?_, fun p9 n9 => ?_⟩
      · rw [List.length_append, List.length_take, List.length_drop, List.length_take, List.length_drop]
        exact Nat.le_of_lt (small1000 (by omega))
      have x9 : Same G8 (upd G8 p9 (.lst ((V5.take k ++ V5.drop (k + 1)) ++ (V5.drop k).take 1))) := same_upd n9
      have y9 : (upd G8 p9 (.lst ((V5.take k ++ V5.drop (k + 1)) ++ (V5.drop k).take 1))) p9 = some (.lst ((V5.take k ++ V5.drop (k + 1)) ++ (V5.drop k).take 1)) := upd_same
      generalize upd G8 p9 (.lst ((V5.take k ++ V5.drop (k + 1)) ++ (V5.drop k).take 1)) = G9 at x9 y9 ⊢
      have x19 := x18.trans x9
      refine ⟨_, rfl, t0, _, rfl, SqL.of (x19 _ _ h6), fun p10 n10 => ?_⟩
      have x10 : Same G9 (upd G9 p10 (.lst V5.reverse)) := same_upd n10
      have y10 : (upd G9 p10 (.lst V5.reverse)) p10 = some (.lst V5.reverse) := upd_same
      generalize upd G9 p10 (.lst V5.reverse) = GA at x10 y10 ⊢
      have x1A := x19.trans x10
      have lows : ∀ {l : List Tl}, (∀ n ∈ l, n ∈ T5) → ∀ n ∈ l, n.Low := fun h n hn => low5 n (h n hn)
      have e5 : TlsE GA [V.ref t0, V.ref p1, V.ref p4, V.ref p9, V.ref p10] := by
        have aA : All2 (TlV GA) V5 T5 := at6.mono fun _ _ (z : TlV H6 _ _) => z.same x1A
        intro v hv
        simp only [List.mem_cons, List.not_mem_nil, or_false] at hv
        rcases hv with rfl | rfl | rfl | rfl | rfl
        · exact ⟨t0, T5, rfl, ⟨⟨V5, x1A _ _ h6, aA⟩, low5, by omega⟩, len5⟩
        · refine ⟨p1, T5.take k, rfl, ⟨⟨_, ((((((((x2.trans x3).trans x4).trans x5).trans x6).trans x7).trans x8).trans x9).trans x10) _ _ y1, aA.take k⟩, lows fun n hn => List.mem_of_mem_take hn, ?_⟩, ?_⟩ <;> rw [List.length_take] <;> omega
        · refine ⟨p4, T5.take k ++ T5.drop (k + 1), rfl, ⟨⟨_, (((((x5.trans x6).trans x7).trans x8).trans x9).trans x10) _ _ y4, (aA.take k).app (aA.drop (k + 1))⟩, lows fun n hn => (List.mem_append.mp hn).elim List.mem_of_mem_take List.mem_of_mem_drop, ?_⟩, ?_⟩ <;> rw [List.length_append, List.length_take, List.length_drop] <;> omega
        · refine ⟨p9, (T5.take k ++ T5.drop (k + 1)) ++ (T5.drop k).take 1, rfl, ⟨⟨_, x10 _ _ y9, ((aA.take k).app (aA.drop (k + 1))).app ((aA.drop k).take 1)⟩, lows fun n hn => (List.mem_append.mp hn).elim (fun z => (List.mem_append.mp z).elim List.mem_of_mem_take List.mem_of_mem_drop) (fun z => List.mem_of_mem_drop (List.mem_of_mem_take z)), ?_⟩, ?_⟩ <;> rw [List.length_append, List.length_append, List.length_take, List.length_drop, List.length_take, List.length_drop] <;> omega
        · exact ⟨p10, T5.reverse, rfl, ⟨⟨_, y10, aA.reverse⟩, lows fun n hn => List.mem_reverse.mp hn, by rw [List.length_reverse]; omega⟩, by rw [List.length_reverse]; omega⟩
      clear x1 x2 x3 x4 x5 x6 x7 x8 x9 x10 x12 x13 x14 x15 x16 x17 x18 x19 y1 y2 y3 y4 y5 y6 y7 y8 y9 y10 n1 n2 n3 n4 n5 n6 n7 n8 n9 n10
      refine ⟨(by show 5 ≤ sizeLine; decide), fun Tn nT => ?_⟩
      have xT : Same GA (upd GA Tn (.lst [V.ref t0, V.ref p1, V.ref p4, V.ref p9, V.ref p10])) := same_upd nT
      have hT : (upd GA Tn (.lst [V.ref t0, V.ref p1, V.ref p4, V.ref p9, V.ref p10])) Tn = some (.lst (V.ref t0 :: [V.ref p1, V.ref p4, V.ref p9, V.ref p10])) := upd_same
      have r5 : [V.ref p1, V.ref p4, V.ref p9, V.ref p10].length = 4 := rfl
      show tSeq _ _ _ _ (upd GA Tn (.lst [V.ref t0, V.ref p1, V.ref p4, V.ref p9, V.ref p10]))
      generalize upd GA Tn (.lst [V.ref t0, V.ref p1, V.ref p4, V.ref p9, V.ref p10]) = GB at xT hT ⊢
      generalize [V.ref p1, V.ref p4, V.ref p9, V.ref p10] = R5 at e5 hT r5
      have xB := x1A.trans xT
      have s0A := s06.trans x1A
      have hB := xB _ _ h6
      have aB : All2 (TlV GB) V5 T5 := at6.mono fun _ _ (z : TlV H6 _ _) => z.same xB
      have tB : TaleAt GB t0 T5 := ⟨⟨V5, hB, aB⟩, low5, by omega⟩
      -- spoilt ones
      refine ⟨_, rfl, _, rfl, t0, T5, k, rfl, tB, len5, few5, k1, fun GC r1 us1 sC nr1 hr1 A1 lu1 => ?_⟩
      have hC := sC _ _ hB
      refine ⟨_, rfl, _, rfl, t0, _, rfl, .inl (SqL.of hC), _, _, rfl, rfl, t0, T5, T5.length - 1, ?_, tB.same sC, len5, few5, by omega, fun GD r2 us2 sD nr2 hr2 A2 lu2 => ?_⟩
      · show [V.ref t0, V.int (((V5.length : Nat) : Int) - 1)] = [V.ref t0, V.int ((T5.length - 1 : Nat) : Int)]
        rw [vl, show ((T5.length : Nat) : Int) - 1 = ((T5.length - 1 : Nat) : Int) by omega]
      refine ⟨_, rfl, r2, _, rfl, SqL.of hr2, fun c4 nc4 => ?_⟩
      have xE : Same GD (upd GD c4 (.lst (cutV us2 none (some 4)))) := same_upd nc4
      have hE : (upd GD c4 (.lst (cutV us2 none (some 4)))) c4 = some (.lst (us2.take 4)) := by
        rw [upd_same]
        exact congrArg (fun z => some (HO.lst z)) (cut_to us2 4)
      generalize upd GD c4 (.lst (cutV us2 none (some 4))) = GE at xE hE ⊢
      have xCE := sD.trans xE
      refine ⟨r1, c4, _, _, rfl, rfl, xCE _ _ hr1, hE, ?_, fun sp nsp => ?_⟩
      · rw [List.length_take]
        exact Nat.le_of_lt (small1000 (by omega))
      have spT : sp ≠ Tn := Ne.symm (ne_of_none ((sC.trans xCE) _ _ hT) nsp)
      have xF : Same GE (upd GE sp (.lst (us1 ++ us2.take 4))) := same_upd nsp
      have hF : (upd GE sp (.lst (us1 ++ us2.take 4))) sp = some (.lst (us1 ++ us2.take 4)) := upd_same
      have eS : TlsE (upd GE sp (.lst (us1 ++ us2.take 4))) (us1 ++ us2.take 4) := (A1.e.same (xCE.trans xF)).app fun v hv => (A2.e.same (xE.trans xF)) v (List.mem_of_mem_take hv)
      have lS : (us1 ++ us2.take 4).length ≤ 40 := by
        rw [List.length_append, List.length_take]
        omega
      show tSeq _ _ _ _ (upd GE sp (.lst (us1 ++ us2.take 4)))
      generalize upd GE sp (.lst (us1 ++ us2.take 4)) = GF at xF hF eS ⊢
      generalize us1 ++ us2.take 4 = US at hF eS lS
      have xBF := (sC.trans xCE).trans xF
      clear sC nr1 hr1 A1 lu1 hC sD nr2 hr2 A2 lu2 nc4 xE hE xCE nsp
      have hTF := xBF _ _ hT
      have h0F := xBF _ _ hB
      -- one more
      refine ⟨_, rfl, .inl ⟨rfl, _, SqL.of hTF⟩, _, rfl, _, rfl, _, _, rfl, rfl, _, rfl, t0, _, rfl, SqL.of h0F, fun u1 m1 => ?_⟩
      have z1 : Same GF (upd GF u1 (.lst (cutV V5 none (some ((k : Int) + 1))))) := same_upd m1
      have w1 : (upd GF u1 (.lst (cutV V5 none (some ((k : Int) + 1))))) u1 = some (.lst (V5.take (k + 1))) := by
        rw [upd_same]
        exact congrArg (fun z => some (HO.lst z)) (cut_to V5 (k + 1))
      generalize upd GF u1 (.lst (cutV V5 none (some ((k : Int) + 1)))) = J1 at z1 w1 ⊢
      refine ⟨_, rfl, _, rfl, _, rfl, t0, _, rfl, SqL.of (z1 _ _ h0F), fun u2 m2 => ?_⟩
      have z2 : Same J1 (upd J1 u2 (.lst (cutV V5 (some (k : Int)) none))) := same_upd m2
      have w2 : (upd J1 u2 (.lst (cutV V5 (some (k : Int)) none))) u2 = some (.lst (V5.drop k)) := by rw [upd_same, cut_from]
      generalize upd J1 u2 (.lst (cutV V5 (some (k : Int)) none)) = J2 at z2 w2 ⊢
      refine ⟨u1, u2, _, _, rfl, rfl, z2 _ _ w1, w2, ?_, fun u3 m3 => ?_⟩
      · rw [List.length_take, List.length_drop]
        exact Nat.le_of_lt (small1000 (by omega))
      have z3 : Same J2 (upd J2 u3 (.lst (V5.take (k + 1) ++ V5.drop k))) := same_upd m3
      have w3 : (upd J2 u3 (.lst (V5.take (k + 1) ++ V5.drop k))) u3 = some (.lst (V5.take (k + 1) ++ V5.drop k)) := upd_same
      generalize upd J2 u3 (.lst (V5.take (k + 1) ++ V5.drop k)) = J3 at z3 w3 ⊢
      refine ⟨_, rfl, u3, _, rfl, SqL.of w3, fun u4 m4 => ?_⟩
      have z4 : Same J3 (upd J3 u4 (.lst (cutV (V5.take (k + 1) ++ V5.drop k) none (some 40)))) := same_upd m4
      have w4 : (upd J3 u4 (.lst (cutV (V5.take (k + 1) ++ V5.drop k) none (some 40)))) u4 = some (.lst ((V5.take (k + 1) ++ V5.drop k).take 40)) := by
        rw [upd_same]
        exact congrArg (fun z => some (HO.lst z)) (cut_to _ 40)
      generalize upd J3 u4 (.lst (cutV (V5.take (k + 1) ++ V5.drop k) none (some 40))) = J4 at z4 w4 ⊢
      have zF4 := ((z1.trans z2).trans z3).trans z4
      have hT4 := zF4 _ _ hTF
      have h04 := zF4 _ _ h0F
      have xB4 := xBF.trans zF4
      have a4 : All2 (TlV J4) V5 T5 := aB.mono fun _ _ (z : TlV GB _ _) => z.same xB4
      have e4 : TlsE J4 [V.ref u4] := by
        intro v hv
        refine ⟨u4, (T5.take (k + 1) ++ T5.drop k).take 40, List.mem_singleton.mp hv, ⟨⟨_, w4, ((a4.take (k + 1)).app (a4.drop k)).take 40⟩, lows fun n hn => (List.mem_append.mp (List.mem_of_mem_take hn)).elim List.mem_of_mem_take List.mem_of_mem_drop, ?_⟩, ?_⟩ <;> rw [List.length_take] <;> omega
      refine ⟨Tn, _, _, rfl, rfl, hT4, by rw [List.length_cons, r5]; exact small1000 (by decide), ?_⟩
      have eT : TlsE (upd J4 Tn (.lst ((V.ref t0 :: R5) ++ [V.ref u4]))) ((V.ref t0 :: R5) ++ [V.ref u4]) := (((e5.same xT).same xB4).app e4).off hT4 h04
      have eU : TlsE (upd J4 Tn (.lst ((V.ref t0 :: R5) ++ [V.ref u4]))) US := (eS.same zF4).off hT4 h04
      have hT5 : (upd J4 Tn (.lst ((V.ref t0 :: R5) ++ [V.ref u4]))) Tn = some (.lst ((V.ref t0 :: R5) ++ [V.ref u4])) := upd_same
      have hsp : (upd J4 Tn (.lst ((V.ref t0 :: R5) ++ [V.ref u4]))) sp = some (.lst US) := by
        rw [upd_ne spT]
        exact zF4 _ _ hF
      have sJ : Same GA (upd J4 Tn (.lst ((V.ref t0 :: R5) ++ [V.ref u4]))) := Same.chg (xT.trans xB4) nT
      generalize upd J4 Tn (.lst ((V.ref t0 :: R5) ++ [V.ref u4])) = J5 at eT eU hT5 hsp sJ ⊢
      have s0J := s0A.trans sJ
      have hfJ := (hf6.same x1A).same sJ
      have hgJ := (hg6.same x1A).same sJ
      have tJ : TaleAt J5 t0 T5 := (⟨⟨V5, x1A _ _ h6, at6.mono fun _ _ (z : TlV H6 _ _) => z.same x1A⟩, low5, by omega⟩ : TaleAt GA t0 T5).same sJ
      have lT : ((V.ref t0 :: R5) ++ [V.ref u4]).length = 6 := by
        rw [List.length_append, List.length_cons, r5]
        rfl
      generalize (V.ref t0 :: R5) ++ [V.ref u4] = L6 at eT hT5 lT
      clear hf6 hg6 h6 at6 x1A e5 xT hT r5 xB hB aB tB eS hF xBF hTF h0F zF4 hT4 h04 xB4 a4 e4 sJ s0A z1 z2 z3 z4 w1 w2 w3 w4 s06 s05 hf5 hg5
      refine ⟨_, rfl, _, rfl, _, rfl, _, rfl, sp, _, rfl, SqL.of hsp, fun p zs np lz mz => ?_⟩
      have xp : Same J5 (upd J5 p (.lst zs)) := same_upd np
      have hp : (upd J5 p (.lst zs)) p = some (.lst zs) := upd_same
      have ez : TlsE (upd J5 p (.lst zs)) zs := fun v hv => (eU.same xp) v (mz v hv)
      generalize upd J5 p (.lst zs) = J6 at xp hp ez ⊢
      refine ⟨Tn, p, _, _, rfl, rfl, xp _ _ hT5, hp, Nat.le_of_lt (small1000 (by omega)), fun W nW => ?_⟩
      have xW : Same J6 (upd J6 W (.lst (L6 ++ zs))) := same_upd nW
      have hW : (upd J6 W (.lst (L6 ++ zs))) W = some (.lst (L6 ++ zs)) := upd_same
      have eW : TlsE (upd J6 W (.lst (L6 ++ zs))) (L6 ++ zs) := ((eT.same xp).app ez).same xW
      refine ⟨W, rfl, ⟨_, SqL.of hW⟩, ?_⟩
      have s57 := xp.trans xW
      generalize upd J6 W (.lst (L6 ++ zs)) = J7 at hW eW s57 ⊢
      refine for_it (walk_list (K := K) (a := W) (xs := L6 ++ zs)) (fun j σ G => ∃ v16 : Option V, σ = [some (.ref a), some (.int (i : Int)), v2, v3, v4, v5, v6, v7, some (.ref f), some (.ref g), some (.ref d), some (.ref o), some (.ref t0), some (.int (k : Int)), some (.ref Tn), some (.ref sp), v16] ∧ Same J7 G) ⟨_, rfl, Same.refl _⟩ (fun j σ G _ ⟨_, _, z⟩ => SqL.of (z _ _ hW)) ?_ ?_
      · rintro j v σ G0 G1 hj ⟨v16, rfl, sG⟩ ⟨rfl, ev⟩
        obtain ⟨b, lb, rfl, tb, lb4⟩ := (eW.same sG) v (List.mem_of_getElem? ev)
        have s5G := s57.trans sG
        refine ⟨_, rfl, _, rfl, _, rfl, _, rfl, (by show 2 ≤ sizeLine; decide), fun u nu => ⟨(by show 1 ≤ sizeLine; decide), fun oo noo => ?_⟩⟩
        have q1 := same_upd nu (o := .tup [V.ref g, V.ref b])
        have q2 := same_upd noo (o := .lst [V.ref u])
        have q12 := q1.trans q2
        have q5 := s5G.trans q12
        exact ⟨f, fr, b, lb, oo, u, g, fg, b, lb, rfl, hfJ.same q5, fo, tb.same q12, lb4, upd_same, q2 _ _ upd_same, hgJ.same q5, fog, tb.same q12, fun G' s' => ⟨true, rfl, iteF ⟨_, rfl, (sG.trans q12).trans s'⟩⟩⟩
      · rintro σ G ⟨v16, rfl, sG⟩
        have s5G := s57.trans sG
        refine ⟨_, rfl, _, rfl, _, rfl, _, rfl, (by show 2 ≤ sizeLine; decide), fun u nu => ⟨(by show 1 ≤ sizeLine; decide), fun oo noo => ?_⟩⟩
        have q1 := same_upd nu (o := .tup [V.ref f, V.ref t0])
        have q2 := same_upd noo (o := .lst [V.ref u])
        have q12 := q1.trans q2
        have q5 := s5G.trans q12
        exact ⟨g, fg, t0, T5, oo, u, f, fr, t0, T5, rfl, hgJ.same q5, fog, tJ.same q5, len5, upd_same, q2 _ _ upd_same, hfJ.same q5, fo, tJ.same q5, fun G' s' => ⟨true, rfl, iteF ⟨_, _, _, _, _, _, _, _, _, _, _, _, _, _, _, _, rfl, (s0J.trans q5).trans s'⟩⟩⟩
    · rintro σ H1 ⟨v1, v2, v3, v4, v5, v6, v7, v8, v9, v10, v11, v12, v13, v14, v15, v16, rfl, s1⟩
      refine ⟨(by show 4 ≤ sizeLine; decide), fun c1 n1 => ?_⟩
      have x1 : Same H1 (upd H1 c1 (.tup [V.str "phrase", V.int 0, V.str "ab", V.int 0])) := same_upd n1
      have y1 : (upd H1 c1 (.tup [V.str "phrase", V.int 0, V.str "ab", V.int 0])) c1 = some (.tup g1.vals) := upd_same
      generalize upd H1 c1 (.tup [V.str "phrase", V.int 0, V.str "ab", V.int 0]) = H2 at x1 y1 ⊢
      refine ⟨(by show 7 ≤ sizeLine; decide), fun c2 n2 => ?_⟩
      have x2 : Same H2 (upd H2 c2 (.tup [V.str "put", V.int 0, V.int 1, V.str "x", V.int 0, V.non, V.int 1])) := same_upd n2
      have y2 : (upd H2 c2 (.tup [V.str "put", V.int 0, V.int 1, V.str "x", V.int 0, V.non, V.int 1])) c2 = some (.tup g2.vals) := upd_same
      generalize upd H2 c2 (.tup [V.str "put", V.int 0, V.int 1, V.str "x", V.int 0, V.non, V.int 1]) = H3 at x2 y2 ⊢
      refine ⟨(by show 7 ≤ sizeLine; decide), fun c3 n3 => ?_⟩
      have x3 : Same H3 (upd H3 c3 (.tup [V.str "put", V.int 0, V.int 0, V.str "cd", V.non, V.int 0, V.int 2])) := same_upd n3
      have y3 : (upd H3 c3 (.tup [V.str "put", V.int 0, V.int 0, V.str "cd", V.non, V.int 0, V.int 2])) c3 = some (.tup g3.vals) := upd_same
      generalize upd H3 c3 (.tup [V.str "put", V.int 0, V.int 0, V.str "cd", V.non, V.int 0, V.int 2]) = H4 at x3 y3 ⊢
      refine ⟨(by show 4 ≤ sizeLine; decide), fun c4 n4 => ?_⟩
      have x4 : Same H4 (upd H4 c4 (.tup [V.str "back", V.int 0, V.int 0, V.int 2])) := same_upd n4
      have y4 : (upd H4 c4 (.tup [V.str "back", V.int 0, V.int 0, V.int 2])) c4 = some (.tup g4.vals) := upd_same
      generalize upd H4 c4 (.tup [V.str "back", V.int 0, V.int 0, V.int 2]) = H5 at x4 y4 ⊢
      refine ⟨(by show 4 ≤ sizeLine; decide), fun gd n5 => ?_⟩
      have x5 : Same H5 (upd H5 gd (.lst [V.ref c1, V.ref c2, V.ref c3, V.ref c4])) := same_upd n5
      have t5 : TlAt (upd H5 gd (.lst [V.ref c1, V.ref c2, V.ref c3, V.ref c4])) gd goodL := ⟨_, upd_same, All2.cons ⟨c1, rfl, (((x2.trans x3).trans x4).trans x5) _ _ y1⟩ (All2.cons ⟨c2, rfl, ((x3.trans x4).trans x5) _ _ y2⟩ (All2.cons ⟨c3, rfl, (x4.trans x5) _ _ y3⟩ (All2.cons ⟨c4, rfl, x5 _ _ y4⟩ All2.nil)))⟩
      generalize upd H5 gd (.lst [V.ref c1, V.ref c2, V.ref c3, V.ref c4]) = H6 at t5 ⊢
      clear x1 x2 x3 x4 x5 y1 y2 y3 y4 n1 n2 n3 n4 n5 s1
      obtain ⟨gv, hgv, agv⟩ := t5
      have gl : gv.length = 4 := agv.len
      have gone : cutV gv none (some 1) = gv.take 1 := cut_to gv 1
      have gthree : cutV gv (some 3) none = gv.drop 3 := cut_from gv 3
      refine ⟨(by show 1 ≤ sizeLine; decide), fun a1 m1 => ⟨_, rfl, (by show 7 ≤ sizeLine; decide), fun b1 k1 => ⟨(by show 1 ≤ sizeLine; decide), fun z1 k2 => ?_⟩⟩⟩
      have u1 := same_upd m1 (o := .lst [V.int 0])
      have u2 := same_upd k1 (o := .tup [V.str "put", V.int 0, V.int 1, V.str "y", V.int 2, V.int 1, V.int 3])
      have u3 := same_upd k2 (o := .lst [V.ref b1])
      have u13 := (u1.trans u2).trans u3
      refine ⟨gd, z1, _, _, rfl, rfl, u13 _ _ hgv, upd_same, by rw [gl]; show 4 + 1 ≤ sizeLine; decide, fun w1 k3 => ?_⟩
      have u4 := same_upd k3 (o := .lst (gv ++ [V.ref b1]))
      have u14 := u13.trans u4
      refine ⟨a1, [0], w1, goodL ++ [.put 0 1 "y" (some 2) (some 1) 3], rfl, ((u2.trans u3).trans u4) _ _ upd_same, fo1, ⟨_, upd_same, (agv.mono fun _ _ z => TlV.same u14 z).app (All2.cons ⟨b1, rfl, (u3.trans u4) _ _ upd_same⟩ All2.nil)⟩, sh3_ok (by decide +kernel), by show 5 ≤ 40; decide, fun _ H7 y dy u5 ny hy => ?_, fun k ek => by rw [jw1] at ek; cases ek⟩
      refine ⟨_, _, _, _, true, rfl, .own _, T.t_Right.ty T.k_Right hy, T.is_Right_Right, true, rfl, iteF ?_⟩
      have v7 := u14.trans u5
      have hg7 := v7 _ _ hgv
      have ag7 : All2 (TlV H7) gv goodL := agv.mono fun _ _ z => TlV.same v7 z
      clear u1 u2 u3 u13 u4 u14 u5 v7 m1 k1 k2 k3 ny hy hgv agv
      -- found
      refine ⟨(by show 1 ≤ sizeLine; decide), fun a1 m1 => ?_⟩
      have u1 := same_upd m1 (o := .lst [V.int 0])
      refine ⟨_, rfl, _, rfl, gd, _, rfl, SqL.of (u1 _ _ hg7), fun c m => ?_⟩
      rw [gone]
      have u2 := same_upd m (o := .lst (gv.take 1))
      refine ⟨(by show 4 ≤ sizeLine; decide), fun b1 k1 => ⟨(by show 1 ≤ sizeLine; decide), fun z1 k2 => ?_⟩⟩
      have u3 := same_upd k1 (o := .tup [V.str "back", V.int 0, V.int 0, V.int 0])
      have u4 := same_upd k2 (o := .lst [V.ref b1])
      refine ⟨c, z1, _, _, rfl, rfl, (u3.trans u4) _ _ upd_same, upd_same, by rw [List.length_take, gl]; show 1 + 1 ≤ sizeLine; decide, fun w1 k3 => ?_⟩
      have u5 := same_upd k3 (o := .lst (gv.take 1 ++ [V.ref b1]))
      have u15 := (((u1.trans u2).trans u3).trans u4).trans u5
      refine ⟨a1, [0], w1, goodL.take 1 ++ [.back 0 0 0], rfl, (((u2.trans u3).trans u4).trans u5) _ _ upd_same, fo1, ⟨_, upd_same, ((ag7.take 1).mono fun _ _ z => TlV.same u15 z).app (All2.cons ⟨b1, rfl, (u4.trans u5) _ _ upd_same⟩ All2.nil)⟩, sh3_ok (by decide +kernel), by show 2 ≤ 40; decide, (fun ek => by rw [jw2] at ek; cases ek), ?_⟩
      intro k ek H8 y dy u6 ny hy
      rw [jw2] at ek
      cases (Option.some.inj ek)
      have v8 := u15.trans u6
      have hg8 := v8 _ _ hg7
      have ag8 : All2 (TlV H8) gv goodL := ag7.mono fun _ _ z => TlV.same v8 z
      clear u1 u2 u3 u4 u5 u15 u6 v8 m1 m k1 k2 k3 ny hg7 ag7
      refine ⟨_, rfl, _, _, _, _, true, rfl, .own _, T.t_Wrong.ty T.k_Wrong hy, T.is_Wrong_Wrong, true, rfl, iteF ⟨_, rfl, y, _, _, _, _, rfl, hy, T.k_Wrong, T.n_Wrong_line, wfs_at _, rfl, false, rfl, iteF ?_⟩⟩
      refine ⟨(by show 1 ≤ sizeLine; decide), fun a1 m1 => ?_⟩
      have u1 := same_upd m1 (o := .lst [V.int 0])
      refine ⟨_, rfl, _, rfl, _, rfl, gd, _, rfl, SqL.of (u1 _ _ hg8), fun c m => ?_⟩
      rw [gthree]
      have u2 := same_upd m (o := .lst (gv.drop 3))
      refine ⟨gd, c, _, _, rfl, rfl, (u1.trans u2) _ _ hg8, upd_same, by rw [List.length_drop, gl]; show 4 + 1 ≤ sizeLine; decide, fun w1 k3 => ?_⟩
      have u3 := same_upd k3 (o := .lst (gv ++ gv.drop 3))
      have u13 := (u1.trans u2).trans u3
      have agX := ag8.mono fun _ _ z => TlV.same u13 z
      refine ⟨a1, [0], w1, goodL ++ goodL.drop 3, rfl, (u2.trans u3) _ _ upd_same, fo1, ⟨_, upd_same, agX.app (agX.drop 3)⟩, sh3_ok (by decide +kernel), by show 5 ≤ 40; decide, (fun ek => by rw [jw3] at ek; cases ek), ?_⟩
      intro k ek H9 y2 dy2 u6 ny2 hy2
      rw [jw3] at ek
      cases (Option.some.inj ek)
      have v9 := u13.trans u6
      have hg9 := v9 _ _ hg8
      have ag9 : All2 (TlV H9) gv goodL := ag8.mono fun _ _ z => TlV.same v9 z
      clear agX u1 u2 u3 u13 u6 v9 m1 m k3 hg8 ag8 hy
      refine ⟨y2, _, _, _, _, rfl, hy2, T.k_Wrong, T.n_Wrong_line, wfs_at _, rfl, false, rfl, iteF ?_⟩
      refine ⟨rfl, fun H10 s10 => ⟨true, rfl, iteF ?_⟩⟩
      have hg10 := s10 _ _ hg9
      have ag10 : All2 (TlV H10) gv goodL := ag9.mono fun _ _ z => TlV.same s10 z
      clear hg9 ag9 hy2 s10
      -- every
      refine ⟨7, rfl, by decide, by decide, fun D nD => ?_⟩
      refine lc_range (lo := 0) (n := 7) (fun i G => Same H10 G ∧ ∃ vs, G D = some (.lst vs) ∧ All2 (TlV G) vs (everyT i)) ⟨same_upd nD, [], upd_same, All2.nil⟩ ?_ ?_
      · rintro i G hi ⟨sG, vs, hD, hvs⟩
        rw [Int.zero_add]
        refine ⟨rfl, _, rfl, _, rfl, (by show 4 ≤ sizeLine; decide), fun p np => ?_⟩
        have u1 := same_upd np (o := .tup [V.str "phrase", V.int (i : Int), V.str "ab", V.int (i : Int)])
        have hl := hvs.len
        have hl2 : (everyT i).length = i := by
          unfold everyT
          rw [List.length_map, List.length_range]
        refine ⟨vs, u1 _ _ hD, small1000 (by omega), Same.chg (sG.trans u1) nD, vs ++ [V.ref p], upd_same, ?_⟩
        rw [everyT_succ]
        have keep : ∀ {v : V} {n : Tl}, TlV (upd G p (.tup [V.str "phrase", V.int (i : Int), V.str "ab", V.int (i : Int)])) v n → TlV (upd (upd G p (.tup [V.str "phrase", V.int (i : Int), V.str "ab", V.int (i : Int)])) D (.lst (vs ++ [V.ref p]))) v n := by
          rintro v n ⟨q, e1, e2⟩
          exact ⟨q, e1, by rw [upd_ne (ne_of e2 (u1 _ _ hD) fun z => nomatch z)]; exact e2⟩
        exact (hvs.mono fun _ _ z => keep (TlV.same u1 z)).app (All2.cons (keep ⟨p, rfl, upd_same⟩) All2.nil)
      rintro H11 ⟨s11, ev, hD, aev⟩
      have hg11 := s11 _ _ hg10
      have ag11 : All2 (TlV H11) gv goodL := ag10.mono fun _ _ z => TlV.same s11 z
      clear s11 hg10 ag10
      have aev : All2 (TlV H11) ev (everyT 7) := aev
      have el : ev.length = 7 := aev.len
      have esix : cutV ev none (some 6) = ev.take 6 := cut_to ev 6
      have etwo : cutV ev none (some 2) = ev.take 2 := cut_to ev 2
      -- found, again
      refine ⟨(by show 1 ≤ sizeLine; decide), fun a1 m1 => ?_⟩
      have u1 := same_upd m1 (o := .lst [V.int 0])
      refine ⟨_, rfl, a1, [0], D, everyT 7, rfl, upd_same, fo1, ⟨_, u1 _ _ hD, aev.mono fun _ _ z => TlV.same u1 z⟩, sh3_ok (by decide +kernel), by decide, (fun ek => by rw [jw4] at ek; cases ek), ?_⟩
      intro k ek H12 y dy u2 ny hy
      rw [jw4] at ek
      cases (Option.some.inj ek)
      have v12 := u1.trans u2
      have hD12 := v12 _ _ hD
      have ae12 : All2 (TlV H12) ev (everyT 7) := aev.mono fun _ _ z => TlV.same v12 z
      have hg12 := v12 _ _ hg11
      have ag12 : All2 (TlV H12) gv goodL := ag11.mono fun _ _ z => TlV.same v12 z
      clear u1 u2 v12 m1 ny hD aev hg11 ag11
      refine ⟨(by show 1 ≤ sizeLine; decide), fun a2 m2 => ?_⟩
      have u1 := same_upd m2 (o := .lst [V.int 0])
      refine ⟨_, rfl, _, rfl, D, _, rfl, SqL.of (u1 _ _ hD12), fun c m => ?_⟩
      rw [esix]
      have u2 := same_upd m (o := .lst (ev.take 6))
      have u12 := u1.trans u2
      refine ⟨a2, [0], c, (everyT 7).take 6, rfl, u2 _ _ upd_same, fo1, ⟨_, upd_same, (ae12.take 6).mono fun _ _ z => TlV.same u12 z⟩, sh3_ok (by decide +kernel), by decide, fun _ H13 y2 dy2 u3 ny2 hy2 => ?_, fun k ek => by rw [jw5] at ek; cases ek⟩
      have v13 := u12.trans u3
      have hD13 := v13 _ _ hD12
      have ae13 : All2 (TlV H13) ev (everyT 7) := ae12.mono fun _ _ z => TlV.same v13 z
      have hg13 := v13 _ _ hg12
      have ag13 : All2 (TlV H13) gv goodL := ag12.mono fun _ _ z => TlV.same v13 z
      have hy13 := v13 _ _ hy
      clear u1 u2 u12 u3 v13 m2 m ny2 hD12 ae12 hg12 ag12 hy
      refine ⟨_, _, rfl, ?_⟩
      refine ⟨_, rfl, _, _, _, _, true, rfl, .own _, T.t_Wrong.ty T.k_Wrong hy13, T.is_Wrong_Wrong, true, rfl, iteF ⟨_, rfl, y, _, _, _, _, rfl, hy13, T.k_Wrong, T.n_Wrong_line, wfs_at _, rfl, false, rfl, iteF ?_⟩⟩
      refine ⟨_, rfl, _, _, _, _, true, rfl, .own _, T.t_Right.ty T.k_Right hy2, T.is_Right_Right, true, rfl, iteF ?_⟩
      -- two
      refine ⟨_, rfl, _, rfl, D, _, rfl, SqL.of hD13, fun tw mtw => ?_⟩
      rw [etwo]
      have u1 := same_upd mtw (o := .lst (ev.take 2))
      have htw : (upd H13 tw (.lst (ev.take 2))) tw = some (.lst (ev.take 2)) := upd_same
      have atw : All2 (TlV (upd H13 tw (.lst (ev.take 2)))) (ev.take 2) ((everyT 7).take 2) := (ae13.take 2).mono fun _ _ z => TlV.same u1 z
      have hg14 := u1 _ _ hg13
      have ag14 : All2 (TlV (upd H13 tw (.lst (ev.take 2)))) gv goodL := ag13.mono fun _ _ z => TlV.same u1 z
      have tl2 : (ev.take 2).length = 2 := by
        rw [List.length_take]
        omega
      generalize upd H13 tw (.lst (ev.take 2)) = H14 at htw atw hg14 ag14 ⊢
      generalize ev.take 2 = ew at htw atw tl2
      clear u1 hD13 ae13 hg13 ag13 hy13 hy2
      refine ⟨2, rfl, by decide, by decide, ?_⟩
      refine for_range (lo := 0) (n := 2) (fun i σ G => ∃ v3 v7 : Option V, σ = [some (.ref a), v1, some (.ref gd), v3, some (.ref D), some (.ref y2), some (.ref tw), v7, v8, v9, v10, v11, v12, v13, v14, v15, v16] ∧ Same H14 G) ⟨_, _, rfl, Same.refl _⟩ ?_ ?_
      · rintro i σ G hi ⟨v3, v7, rfl, sG⟩
        rw [Int.zero_add]
        refine ⟨(by show 1 ≤ sizeLine; decide), fun a1 m1 => ⟨_, rfl, _, rfl, _, rfl, _, _, rfl, rfl, (by show 7 ≤ sizeLine; decide), fun b1 k1 => ⟨(by show 1 ≤ sizeLine; decide), fun z1 k2 => ?_⟩⟩⟩
        have u1 := same_upd m1 (o := .lst [V.int 0])
        have u2 := same_upd k1 (o := .tup (Tl.put (i : Int) 1 "x" (some (1 - (i : Int))) none 2).vals)
        have u3 := same_upd k2 (o := .lst [V.ref b1])
        have u13 := (u1.trans u2).trans u3
        refine ⟨tw, z1, _, _, rfl, rfl, u13 _ _ (sG _ _ htw), upd_same, by rw [tl2]; show 2 + 1 ≤ sizeLine; decide, fun w1 k3 => ?_⟩
        have u4 := same_upd k3 (o := .lst (ew ++ [V.ref b1]))
        have u14 := u13.trans u4
        have sX := sG.trans u14
        refine ⟨a1, [0], w1, ((everyT 7).take 2) ++ [.put (i : Int) 1 "x" (some (1 - (i : Int))) none 2], rfl, ((u2.trans u3).trans u4) _ _ upd_same, fo1, ⟨_, upd_same, (atw.mono fun _ _ z => TlV.same sX z).app (All2.cons ⟨b1, rfl, (u3.trans u4) _ _ upd_same⟩ All2.nil)⟩, jsh, by show 3 ≤ 40; decide, (fun ek => by rw [jw6 i hi] at ek; cases ek), ?_⟩
        intro k ek H15 y dy u5 ny hy
        rw [jw6 i hi] at ek
        cases (Option.some.inj ek)
        exact ⟨_, rfl, _, _, _, _, true, rfl, .own _, T.t_Wrong.ty T.k_Wrong hy, T.is_Wrong_Wrong, true, rfl, iteF ⟨_, rfl, y, _, _, _, _, rfl, hy, T.k_Wrong, T.n_Wrong_line, wfs_at _, rfl, false, rfl, iteF ⟨_, _, rfl, sX.trans u5⟩⟩⟩
      rintro σ G ⟨v3, v7, rfl, sG⟩
      have hg15 := sG _ _ hg14
      have ag15 : All2 (TlV G) gv goodL := ag14.mono fun _ _ z => TlV.same sG z
      refine ⟨(by show 1 ≤ sizeLine; decide), fun a1 m1 => ?_⟩
      have u1 := same_upd m1 (o := .lst [V.int 0])
      refine ⟨_, rfl, _, rfl, gd, _, rfl, SqL.of (u1 _ _ hg15), fun c m => ?_⟩
      rw [gone]
      have u2 := same_upd m (o := .lst (gv.take 1))
      refine ⟨(by show 7 ≤ sizeLine; decide), fun b1 k1 => ⟨(by show 1 ≤ sizeLine; decide), fun z1 k2 => ?_⟩⟩
      have u3 := same_upd k1 (o := .tup (Tl.put 0 1 "x" (some 0) (some 0) 1).vals)
      have u4 := same_upd k2 (o := .lst [V.ref b1])
      refine ⟨c, z1, _, _, rfl, rfl, (u3.trans u4) _ _ upd_same, upd_same, by rw [List.length_take, gl]; show 1 + 1 ≤ sizeLine; decide, fun w1 k3 => ?_⟩
      have u5 := same_upd k3 (o := .lst (gv.take 1 ++ [V.ref b1]))
      have u15 := (((u1.trans u2).trans u3).trans u4).trans u5
      refine ⟨a1, [0], w1, goodL.take 1 ++ [.put 0 1 "x" (some 0) (some 0) 1], rfl, (((u2.trans u3).trans u4).trans u5) _ _ upd_same, fo1, ⟨_, upd_same, ((ag15.take 1).mono fun _ _ z => TlV.same u15 z).app (All2.cons ⟨b1, rfl, (u4.trans u5) _ _ upd_same⟩ All2.nil)⟩, sh3_ok (by decide +kernel), by show 2 ≤ 40; decide, (fun ek => by rw [jw7] at ek; cases ek), ?_⟩
      intro k ek H15 y dy u6 ny hy
      rw [jw7] at ek
      cases (Option.some.inj ek)
      exact ⟨y, _, _, _, _, rfl, hy, T.k_Wrong, T.n_Wrong_line, wfs_at _, rfl, q H15⟩

end PD

namespace PD
open PySem PySem.Spec PyProof.Rows L2
theorem facts {P : Program} {w : World} {K : PySem.W.Frag} {h : Heap} {mg : Str → Option Value} {f : Addr} (X : K.In h) (G : h.Ns mainGlobals mg) (hfa : mg ("law" : Str) = some (.ref f)) (c : He.SaysX fa fn [] tfs ex w h K) :
    ∃ fd : FuncData, (∀ (t : Shared) (v : Value), BindsTo t fd ⟨[v], []⟩ [("_law_script", v)]) ∧ ∀ base : Heap, K.In base → base.Ns mainGlobals mg → FnG P w K mg base 11 f fd ["_law_script"] (spLaw K) := by
  have T : Tx K mg := tx_mk X G c
  obtain ⟨fd, F⟩ := T.F_law
  have e := hfa.symm.trans T.g_law
  cases e
  have b := FunD.bindsA (ps := ["_law_script"]) F fun _ _ _ _ _ _ us hl => match us, hl with | [_], _ => rfl
  refine ⟨fd, fun t v => b t [v] rfl, fun base _ _ => lawG T F⟩
end PD
open PySem PySem.W PySem.Calls PyProof.Rows
set_option maxRecDepth 100000 in
set_option maxHeartbeats 0 in
theorem PySem.Challenge.cw_phrasedesk_k10_whole_judged_holds : PySem.Challenge.rw_phrasedesk_k10_whole_judged.Holds := by
  w_on; o_law
  refine HandSHeadRun.head_any (r := OpenLaw.row PySem.Challenge.rw_phrasedesk_k10_whole_judged) (q := view (OpenLaw.row PySem.Challenge.rw_phrasedesk_k10_whole_judged).prog [90]) (H := PD.hk) (ob := PD.ob) (M := 8000) (loose := PD.loose) (d := HandSHeadRun.topDef (OpenLaw.row PySem.Challenge.rw_phrasedesk_k10_whole_judged).prog 90) (kwd := []) PD.ob_eq
    (by kernel_rfl) (fun s => by kernel_rfl) PD.run (by kernel_rfl) (by kernel_rfl) (by kernel_rfl) (by rfl) (by first | assumption | decide +kernel) (by decide +kernel) ⟨rfl, rfl, rfl, rfl, rfl, by decide +kernel⟩ ?hw ?hc
  case hw => w_witness2
  case hc =>
    refine PD.walkG (l := PySem.Challenge.rw_phrasedesk_k10_whole_judged) (n := 63) (lv := 11) (x := "_law_script") rfl (by decide) (by kernel_rfl) ⟨rfl, by decide, by decide⟩ ?F
    intro w mg fa h Y G hmg0
    obtain ⟨K, KX, c⟩ := Y
    have hmg : mg ("law" : PySem.Str) = some (.ref fa) := by
      have e : (HandSHeadRun.topDef (OpenLaw.row PySem.Challenge.rw_phrasedesk_k10_whole_judged).prog 90).name = ("law" : PySem.Str) := by kernel_rfl
      rw [← e]
      exact hmg0
    obtain ⟨fd, hb, hF⟩ := PD.facts (P := (PySem.Challenge.rw_phrasedesk_k10_whole_judged).prog) (w := w) KX G hmg c
    exact ⟨K, fd, PD.spLaw K, KX, hb, fun G' a ns _ _ hS => ⟨a, ns, rfl, hS, fun _ => rfl⟩, hF⟩
