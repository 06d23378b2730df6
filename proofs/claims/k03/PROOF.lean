import PyProof.Rows.All
import Wide.All
import OpenK.AllK
import Wide.FinOn
import HandS.ForMost
import HandS.ForExc
import HandS.IsInst
import HandS.Style
import HandS.Conv
import HandS.Wide
import HandS.Walk
import HandS.Defaults
import HandS.Codes
import PyProof.ReprRoads
import HandS.DictComp
import HandS.TupLen
import HandS.Deep
import HandS.Set
import HandS.SetFor
import HandS.Strs
import HandS.More
import HandS.Iter
import KE.KStateDown
import HandS.Head0
import HandS.Head1
import HandS.Head2
import HandS.HeadEnd
import HandS.HeadHook1
import HandS.HeadHook2
import HandS.HeadHook3
import HandS.HeadHook4
import PySem.Challenge.RW_phrasedesk_k03_whole_fresh
set_option Elab.async false
set_option linter.all false
set_option maxRecDepth 100000
set_option maxHeartbeats 0
/-! Phrasedesk, part 0: what every law needs over the hand layer: promises of defs that write data out as texts, a class without an __init__ of its own, rows and froms on the heap, chains. -/
namespace PD
open PySem PySem.Spec PyProof.Rows L2

/-! ### promises kept where nothing is being written out around -/
structure FnG (P : Program) (w : World) (K : PySem.W.Frag) (mg : Str → Option Value) (base : Heap) (lv : Nat) (f : Addr) (fd : FuncData) (ps : List Str) (sp : Sp) : Prop where
  many : ∀ xs G Q E, sp xs G Q E → xs.length = ps.length
  goes : ∀ (B : Around) (fr : List Env) (z : Shared) (G : Hp) (ar : Args) (us : List Value) (xs : List V) (Q : VK) (E : XK), B.guards = some [] → Room lv B →
    Env0 P w K mg base B fr z G → BindsTo z fd ar (ps.zip us) → Vals xs us → sp xs G Q E → codeAny (model P w) B (.call (.ref f) ar) (CR CX0 fr P w G z Q E) z

section
variable {P : Program} {w : World} {K : PySem.W.Frag} {mg : Str → Option Value} {base : Heap}
theorem FnG.of {lv : Nat} {f : Addr} {fd : FuncData} {ps : List Str} {sp : Sp} (F : FnOk P w K mg base CX0 lv f fd ps sp) : FnG P w K mg base lv f fd ps sp :=
  ⟨F.len, fun B fr z G ar us xs Q E _ hr e0 hb hv hs => F.run B fr z G ar us xs Q E hr e0 hb hv hs⟩
theorem FnG.up {lv m : Nat} {f : Addr} {fd : FuncData} {ps : List Str} {sp : Sp} (F : FnG P w K mg base lv f fd ps sp) (h : lv ≤ m) : FnG P w K mg base m f fd ps sp :=
  ⟨F.many, fun B fr z G ar us xs Q E hg hr => F.goes B fr z G ar us xs Q E hg (hr.mono h)⟩

/-- a def's body as a term of rules and its reading, where nothing is being written out -/
theorem okG {x qual : Str} {params : Arguments} {body : List Stmt} {scope : Scope} {dvs : List V} {kws : List (Str × V)} {f : Addr} {fd : FuncData} {N ps : List Str} {lv : Nat} {sp : Sp}
    (F : FunD K x qual params body scope dvs kws f fd) (S : FnScope N ps scope) (len : ∀ xs G Q E, sp xs G Q E → xs.length = ps.length)
    (bd : ∀ (cv : Value) (B : Around) (fr : List Env) (z : Shared) (G : Hp) (xs : List V) (Q : VK) (E : XK), (B.deeper (envOfC qual scope z.heap.objs.size f cv)).guards = some [] →
      Room lv (B.deeper (envOfC qual scope z.heap.objs.size f cv)) → sp xs G Q E →
      ∃ t, PSs (cxOf CX0 P w K mg base N qual scope f cv B fr z G E).nox body t ∧ t { nx := fun _ G' => Q .non G', rt := Q } (start N xs) G) :
    FnG P w K mg base (lv + 1) f fd ps sp := by
  obtain ⟨oc, od, dV, kV, doc, pm, an, cv, ct, sl, rfl, lk, hc, -, -⟩ := F.ex
  constructor
  · exact len
  · intro B fr z G ar us xs Q E hg hr e0 hb hv hs
    have hl := len xs G Q E hs
    have st : ∀ b o, base.get? b = some o → z.heap.get? b = some o := fun b o e => (e0.bs b o e).1
    have KZ : K.In z.heap := e0.mod.kin.keeps st
    have kinds : ∀ y ∈ ps.zip us, scope.names.lookup y.1 = some .local ∨
        (scope.names.lookup y.1 = some .cell ∧ ((cellsFrom (z.heap.objs.size + 1) scope.names []).lookup y.1).isSome = true) := by
      rintro ⟨n, v⟩ hy
      cases S.par n (List.of_mem_zip hy).1 with
      | inl q => exact .inl q
      | inr q => exact .inr ⟨q, PySem.W.cellsFrom_some _ _ _ (.inl q)⟩
    refine codeAny_call_function hr.depth (KZ _ _ lk) rfl S.co S.gen rfl (PySem.W.codeRec_of KZ hc) (hb _ _ _ _ ?_)
    refine wpAny_newFunctionEnv_cells S.kind kinds ?_
    intro env ee z1 ic
    cases ee
    refine ⟨(e0.mod.nolimit.keeps st).keeps ic.toInCall.keep, codeAny_func ?_⟩
    obtain ⟨t, ht, q⟩ := bd cv B fr z G xs Q E hg (hr.deeper _) hs
    have I : Inv (cxOf CX0 P w K mg base N qual scope f cv B fr z G E) [] (start N xs) G z1 := inv_start S hr.hd e0 hl hv ic
    refine wpAny_mono (ht.nox.run [] z1 (start N xs) G _ I q) ?_ fun e z2 h2 => h2
    intro fl z2 h2
    cases fl with
    | ret u =>
      obtain ⟨v, σ', G', J, rv, q2⟩ := h2
      exact ⟨v, G', J.os, J.bare, J.base, J.hok, rv, q2⟩
    | next =>
      obtain ⟨σ', G', J, q2⟩ := h2
      exact ⟨V.non, G', J.os, J.bare, J.base, J.hok, rfl, q2⟩
    | brk => exact h2.elim fun _ h3 => h3.elim fun _ h4 => False.elim h4.2
    | cont => exact h2.elim fun _ h3 => h3.elim fun _ h4 => False.elim h4.2
end

section
variable {X : Cx} {lv : Nat} {f : Addr} {fd : FuncData} {ps : List Str} {sp : Sp} {x : Str} {p pos : Pos} {e : Expr} {es : List Expr} {t : TA}
theorem runG {pins : List (Addr × Obj)} {σ : L2.St} {G : Hp} {z : Shared} {Q : VK} {us : List Value} {xs : List V} (F : FnG X.prog X.w X.K X.mg X.base lv f fd ps sp) (hg : X.A.guards = some []) (hr : Room lv X.A)
    (hb : Binds X.K fd ps []) (I : Inv X pins σ G z) (r : Vals xs us) (h : sp xs G Q E0) : wpAny (model X.prog X.w) X.A (call (.ref f) us) (EP X pins σ Q) X.xe z := by
  have hl : (us ++ []).length = ps.length := by
    rw [List.append_nil, ← r.length]
    exact F.many _ _ _ _ h
  have hbd := hb z us I.kIn hl
  rw [List.append_nil] at hbd
  refine wpAny_call (codeAny_mono (F.goes X.A X.stack z G ⟨us, []⟩ us xs Q E0 hg hr I.env0 hbd r h) ?_)
  intro res z2 hq
  cases res with
  | error er => exact (show False from hq).elim
  | ok fl =>
    cases fl with
    | ret u => exact I.after hq
    | next => exact (show False from hq).elim
    | brk => exact (show False from hq).elim
    | cont => exact (show False from hq).elim
/-- f(e, ..), f such a def -/
theorem pe_callG (F : FnG X.prog X.w X.K X.mg X.base lv f fd ps sp) (hgd : X.A.guards = some []) (hr : Room lv X.A) (hg : Gl X x) (hm : X.mg x = some (.ref f)) (hk : PySem.W.keepIn X.K (.ref f) = true)
    (hb : Binds X.K fd ps []) (ha : PA X (e :: es) t) (hdb : (x == ("__debug__" : Str)) = false := by decide)
    (he : starEach (e :: es) X.env = (false, eval e X.env) :: starEach es X.env := by rfl) (hpl : (backTo pos (starEach es X.env)).any (·.1) = false := by rfl) :
    PE X (.Call (.Name x p) (e :: es) [] pos) (fun σ G Q => t σ G fun xs G1 => sp xs G1 Q E0) := by
  constructor
  intro pins z σ G Q I h
  refine wpAny_Call_Name_kw (ld_glob I hg hm ?_ hdb)
  refine PySem.W.callWith_K (h₀ := X.base) I.ok.mod.kin hk (thn (ha.run pos pins z σ G _ I h) ?_) he hpl
  rintro us z1 ⟨xs, G1, I1, r, q⟩
  exact ⟨I1.kIn, runG F hgd hr hb I1 r q⟩

/-! ### str(data) -/
def rStrD (K : PySem.W.Frag) : List V → Hp → VK → Prop := fun xs G Q => ∃ (a : Addr) (d : PyData), xs = [.ref a] ∧ Dp K G (.ref a) d ∧ d.showable = true ∧ d.hasDict = false ∧
  d.depth ≤ 60 ∧ d.shown.length ≤ sizeLine ∧ Q (.str d.shown) G
theorem call_strD (hg : X.A.guards = some []) (hu : X.A.units + 64 < cLine) : CallR X (.type "str") (rStrD X.K) := by
  intro pins z σ G xs us Q I r h
  obtain ⟨a, d, rfl, dp, hs, hd, hz, hl, q⟩ := h
  obtain ⟨u, rfl, r1⟩ := vals1 r
  cases (show u = Value.ref a from r1)
  obtain ⟨as, rd⟩ := Dp.reads I d (.ref a) (.ref a) dp rfl
  refine str_of_reads rd hs (fun e => by rw [hd] at e; cases e) hg (by omega) (fun b o e => e) (fun h' u tk hk => ?_) hl
  exact ⟨.str d.shown, G, I.kept (h' := h') (t' := tk) hk, ⟨u, rfl⟩, q⟩

/-! ### C() of a class without an __init__ of its own -/
def tBare (C : Addr) : TE := fun _ G Q => ∀ y dy, G y = none → G dy = none → dy ≠ y → Q (.ref y) (upd (upd G dy (.own y)) y (.ins C dy []))
structure Bare (K : PySem.W.Frag) (C : Addr) : Prop where
  makes : PySem.W.makesIn K C = true
  init : PySem.W.findIn K (.ref C) "__init__" = some (some (.builtin "object.__init__"))
  kp : PySem.W.keepIn K (.ref C) = true
theorem pe_bare {C : Addr} (M : Bare X.K C) (hg : Gl X x) (hm : X.mg x = some (.ref C)) (hdb : (x == ("__debug__" : Str)) = false := by decide) : PE X (.Call (.Name x p) [] [] pos) (tBare C) := by
  constructor
  intro pins z σ G Q I h
  refine wpAny_Call_Name_kw (ld_glob I hg hm ?_ hdb)
  refine PySem.W.callWith_K0 I.kIn M.kp ?_
  have J := Inv.made (C := C) I
  have q := h (z.heap.objs.size + 1) z.heap.objs.size (I.hok.fresh (Nat.le_succ _)) (I.hok.fresh (Nat.le_refl _)) (Nat.ne_of_lt (Nat.lt_succ_self _))
  have Y := PySem.W.makes_of (M := model X.prog X.w) I.kIn M.makes
  refine wpAny_call (make_map0 I.kIn M.makes M.init (fun self => PySem.W.Looks.of_pure (PySem.W.oi_bind self)) ?_)
  have at1 : ((z.heap.push PySem.W.emptyDict).push (PySem.W.instObj C z.heap.objs.size)).get? (z.heap.objs.size + 1) = some (PySem.W.instObj C z.heap.objs.size) := by
    have g := Heap.get?_push_size (z.heap.push PySem.W.emptyDict) (o := PySem.W.instObj C z.heap.objs.size) rfl
    rwa [Heap.size_push] at g
  have ty : PySem.W.Looks (model X.prog X.w) ((z.heap.push PySem.W.emptyDict).push (PySem.W.instObj C z.heap.objs.size)) (typeOf (.ref (z.heap.objs.size + 1))) (.ref C) := (PySem.W.Looks.ld at1).andThen .now
  have io : PySem.W.Looks (model X.prog X.w) ((z.heap.push PySem.W.emptyDict).push (PySem.W.instObj C z.heap.objs.size)) (isInstance (.ref (z.heap.objs.size + 1)) (.type "object")) true :=
    ty.andThen (Y.top.keeps fun b o e => Heap.get?_push_of_some _ (Heap.get?_push_of_some _ e))
  refine codeAny_call_builtin PySem.W.oi_plain PySem.W.entry_oi
    (@PySem.W.check_slot (model X.prog X.w) _ _ _ "object.__init__" "object" "__init__" (.ref (z.heap.objs.size + 1)) [] [] _ PySem.W.oi_kind PySem.W.oi_split io (PySem.W.oi_args (.ref (z.heap.objs.size + 1))) ?_)
  rw [PySem.W.oi_run]
  exact wpAny_pure (And.intro rfl ⟨.ref (z.heap.objs.size + 1), _, J, rfl, q⟩)
end
/-! ### defs of the text, from the head's facts -/
section
variable {P : Program} {w : World} {K : PySem.W.Frag} {mg : Str → Option Value} {base : Heap} {x qual : Str} {st : Stmt} {f : Addr} {N ps : List Str} {k : Nat} {sp : Sp}
/-- how a def without defaults binds -/
abbrev BindOk (x qual : Str) (st : Stmt) (ps : List Str) : Prop := ∀ (kV doc pm : Value) (an : Option Addr) (cdv ct : Value) (us : List Value), us.length = ps.length →
  bindArgs (PySem.W.fnOf x qual (defArgs st) (defBody st) (defScope st) .none kV doc pm an cdv ct) ⟨us, []⟩ = pure (ps.zip us)
abbrev BodyOk (P : Program) (w : World) (K : PySem.W.Frag) (mg : Str → Option Value) (base : Heap) (qual : Str) (st : Stmt) (f : Addr) (N : List Str) (k : Nat) (sp : Sp) : Prop :=
  ∀ (cdv : Value) (A : Around) (outer : List Env) (s : Shared) (H : Hp) (vs : List V) (Q : VK) (E : XK), Room k (A.deeper (envOfC qual (defScope st) s.heap.objs.size f cdv)) → sp vs H Q E →
    ∃ t, PSs (cxOf CX0 P w K mg base N qual (defScope st) f cdv A outer s H E).nox (defBody st) t ∧ t { nx := fun _ H' => Q .non H', rt := Q } (start N vs) H
theorem fnD {fd : FuncData} (F : FunD K x qual (defArgs st) (defBody st) (defScope st) [] [] f fd) (S : FnScope N ps (defScope st)) (len : ∀ vs H Q E, sp vs H Q E → vs.length = ps.length)
    (b : BodyOk P w K mg base qual st f N k sp) : FnOk P w K mg base CX0 (k + 1) f fd ps sp := by
  refine F.ok S len ?_
  intro cdv A outer s H vs Q E hr h
  obtain ⟨t, h1, h2⟩ := b cdv A outer s H vs Q E hr h
  exact ⟨t, h1.nox, h2⟩
theorem calD (F : ∃ fd, FunD K x x (defArgs st) (defBody st) (defScope st) [] [] f fd) (hm : mg x = some (.ref f)) (hb : BindOk x x st ps) (S : FnScope N ps (defScope st)) (len : ∀ vs H Q E, sp vs H Q E → vs.length = ps.length)
    (b : BodyOk P w K mg base x st f N k sp) : C8.Cal P w K mg base (k + 1) x sp [] := by
  obtain ⟨fd, F⟩ := F
  exact ⟨f, fd, ps, [], fnD F S len b, hm, F.kp, F.bindsN hb, .nil⟩
theorem metD {C : Addr} {m : Str} (F : ∃ fd, FunD K m qual (defArgs st) (defBody st) (defScope st) [] [] f fd) (c : Cls K C) (hm : Meth K C m f) (hb : BindOk m qual st ps) (S : FnScope N ps (defScope st)) (len : ∀ vs H Q E, sp vs H Q E → vs.length = ps.length)
    (b : BodyOk P w K mg base qual st f N k sp) : C8.Met P w K mg base (k + 1) C m sp [] := by
  obtain ⟨fd, F⟩ := F
  exact ⟨f, fd, ps, [], c, hm, fnD F S len b, F.bindsN hb, .nil⟩
theorem makD {C : Addr} (F : ∃ fd, FunD K "__init__" qual (defArgs st) (defBody st) (defScope st) [] [] f fd) (M : Mk K C f) (hg : mg x = some (.ref C)) (hb : BindOk "__init__" qual st ps) (S : FnScope N ps (defScope st)) (len : ∀ vs H Q E, sp vs H Q E → vs.length = ps.length)
    (b : BodyOk P w K mg base qual st f N k sp) : C8.Mak P w K mg base (k + 1) x C sp [] := by
  obtain ⟨fd, F⟩ := F
  exact ⟨f, fd, ps, [], M, fnD F S len b, hg, F.bindsN hb, .nil⟩
/-- a def that writes data out, or calls one that does -/
structure CalG (P : Program) (w : World) (K : PySem.W.Frag) (mg : Str → Option Value) (base : Heap) (k : Nat) (x : Str) (sp : Sp) : Prop where
  ex : ∃ (f : Addr) (fd : FuncData) (ps : List Str), FnG P w K mg base k f fd ps sp ∧ mg x = some (.ref f) ∧ PySem.W.keepIn K (.ref f) = true ∧ Binds K fd ps []
theorem calG (F : ∃ fd, FunD K x x (defArgs st) (defBody st) (defScope st) [] [] f fd) (hm : mg x = some (.ref f)) (hb : BindOk x x st ps) (S : FnScope N ps (defScope st)) (len : ∀ vs H Q E, sp vs H Q E → vs.length = ps.length)
    (b : ∀ (cv : Value) (B : Around) (fr : List Env) (z : Shared) (G : Hp) (xs : List V) (Q : VK) (E : XK), (B.deeper (envOfC x (defScope st) z.heap.objs.size f cv)).guards = some [] →
      Room k (B.deeper (envOfC x (defScope st) z.heap.objs.size f cv)) → sp xs G Q E →
      ∃ t, PSs (cxOf CX0 P w K mg base N x (defScope st) f cv B fr z G E).nox (defBody st) t ∧ t { nx := fun _ G' => Q .non G', rt := Q } (start N xs) G) : CalG P w K mg base (k + 1) x sp := by
  obtain ⟨fd, F⟩ := F
  exact ⟨f, fd, ps, okG F S len b, hm, F.kp, F.bindsN hb⟩
end
section
variable {X : Cx} {k j : Nat} {sp : Sp} {x : Str} {p pos : Pos} {e : Expr} {es : List Expr} {t : TA}
theorem pe_cG (c : CalG X.prog X.w X.K X.mg X.base k x sp) (hgd : X.A.guards = some []) (hr : Room j X.A) (hk : k ≤ j) (hg : Gl X x) (ha : PA X (e :: es) t) (hdb : (x == ("__debug__" : Str)) = false := by decide)
    (he : starEach (e :: es) X.env = (false, eval e X.env) :: starEach es X.env := by rfl) (hpl : (backTo pos (starEach es X.env)).any (·.1) = false := by rfl) :
    PE X (.Call (.Name x p) (e :: es) [] pos) (fun σ G Q => t σ G fun xs G1 => sp xs G1 Q E0) := by
  obtain ⟨f, fd, ps, F, hm, kp, b⟩ := c.ex
  exact pe_callG F hgd (hr.mono hk) hg hm kp b ha hdb he hpl
theorem pe_c0 (c : C8.Cal X.prog X.w X.K X.mg X.base k x sp []) (hr : Room j X.A) (hk : k ≤ j) (hg : Gl X x) (hdb : (x == ("__debug__" : Str)) = false := by decide) :
    PE X (.Call (.Name x p) [] [] pos) (tCall sp [] E0 tNil) := by
  obtain ⟨f, fd, ps, ds, F, hm, kp, b, d⟩ := c.ex
  exact pe_call0 F (hr.mono hk) hg hm kp b d pass0 hdb
end
/-! ### instances asked by isinstance -/
structure Ins1 (K : PySem.W.Frag) (C : Addr) : Prop where
  cls : PySem.W.findIn K (.ref C) "__class__" = some (some (.builtin "object.__class__"))
  get : PySem.W.specialIn K (.builtin "object.__class__") "__get__" = some (some (.builtin "getset_descriptor.__get__"))
  tak : PySem.W.takesIn K (.builtin "object.__class__") = some true
  mro : PySem.W.mroIn K C (.type "object") = some true
theorem Ins1.ty {K : PySem.W.Frag} {C a dx : Addr} {fs : List (Str × V)} {H : Hp} (i : Ins1 K C) (c : Cls K C) (e : H a = some (.ins C dx fs)) : TyX K H (.ref a) (.ref C) := .base (.ins e c i.cls i.get i.tak i.mro)
theorem is_ty {K : PySem.W.Frag} {a b : String} {r : Bool} (h : kitB a b = some r) : PySem.W.kitOne K (.type a) (.type b) = some r := h
/-! ### heaps -/
theorem same_upd {H : Hp} {p : Addr} {o : HO} (h : H p = none) : Same H (upd H p o) := fun b x e => by
  rw [upd_ne (ne_of_none e h)]
  exact e
theorem Same.tup {K : PySem.W.Frag} {H H' : Hp} {a : Addr} {xs : List V} (e : Same H H') (h : SqT K H a xs) : SqT K H' a xs := by
  rcases h with (h | ⟨o, h⟩) | h
  · exact .inl (.inl (e _ _ h))
  · exact .inl (.inr ⟨o, e _ _ h⟩)
  · exact .inr h
/-- a change of a list that was new leaves what was -/
theorem Same.chg {H H' : Hp} {p : Addr} {o : HO} (e : Same H H') (h : H p = none) : Same H (upd H' p o) := fun b x q => by
  rw [upd_ne (ne_of_none q h)]
  exact e b x q
/-! ### rows and froms -/
abbrev Cell := Option (Int × Option Int)
def oV : Option Int → V
  | none => .non
  | some i => .int i
def CellV (H : Hp) (v : V) : Cell → Prop
  | none => v = .non
  | some (a, b) => ∃ p, v = .ref p ∧ H p = some (.tup [.int a, oV b])
theorem CellV.same {H H' : Hp} (e : Same H H') {v : V} : ∀ {c : Cell}, CellV H v c → CellV H' v c
  | none, h => h
  | some (a, b), ⟨p, h1, h2⟩ => ⟨p, h1, e _ _ h2⟩
structure Cells (H : Hp) (vs : List V) (row : List Cell) : Prop where
  len : vs.length = row.length
  each : ∀ (i : Nat) (c : Cell), row[i]? = some c → ∃ v, vs[i]? = some v ∧ CellV H v c
theorem Cells.same {H H' : Hp} (e : Same H H') {vs : List V} {row : List Cell} (h : Cells H vs row) : Cells H' vs row :=
  ⟨h.len, fun i c q => let ⟨v, h1, h2⟩ := h.each i c q; ⟨v, h1, h2.same e⟩⟩
/-- a row stands at p -/
def RowAt (H : Hp) (p : Addr) (row : List Cell) : Prop := ∃ vs, H p = some (.lst vs) ∧ Cells H vs row
theorem RowAt.same {H H' : Hp} (e : Same H H') {p : Addr} {row : List Cell} (h : RowAt H p row) : RowAt H' p row :=
  let ⟨vs, h1, h2⟩ := h; ⟨vs, e _ _ h1, h2.same e⟩
/-- a list of ints stands at p -/
def LsAt (H : Hp) (p : Addr) (ns : List Int) : Prop := H p = some (.lst (ns.map V.int))
theorem LsAt.same {H H' : Hp} (e : Same H H') {p : Addr} {ns : List Int} (h : LsAt H p ns) : LsAt H' p ns := e _ _ h
structure FrOk (fr : List Int) : Prop where
  lo : 1 ≤ fr.length
  hi : fr.length ≤ 7
  each : ∀ (i : Nat) (x : Int), fr[i]? = some x → 0 ≤ x ∧ x ≤ (i : Int)
structure RowOk (fr : List Int) (row : List Cell) : Prop where
  len : row.length = fr.length + 1
  src : ∃ a, row[0]? = some (some (a, none)) ∧ 0 ≤ a
  each : ∀ (i : Nat) (c : Cell), row[i + 1]? = some c → c = none ∨ ∃ a b, c = some (a, some b) ∧ 0 ≤ a ∧ 0 ≤ b
/-! ### chains -/
def up (fr : List Int) (t : Nat) : Nat := (fr.getD (t - 1) 0).toNat
def brk (fr : List Int) (row : List Cell) (t : Nat) : Bool := match row.getD t none, row.getD (up fr t) none with
  | some (_, b), some (a, _) => !decide (b = some a)
  | _, _ => true
def chainN (fr : List Int) (row : List Cell) : Nat → Nat → Option (List Int)
  | 0, _ => none
  | n + 1, t => if t = 0 then none else if brk fr row t then some [(t : Int)] else (chainN fr row n (up fr t)).map ((t : Int) :: ·)
def chain (fr : List Int) (row : List Cell) (t : Nat) : Option (List Int) := chainN fr row (t + 1) t
section
variable {fr : List Int} {row : List Cell}
theorem FrOk.at (h : FrOk fr) {t : Nat} (h0 : 0 < t) (h1 : t ≤ fr.length) : ∃ x : Int, fr[t - 1]? = some x ∧ 0 ≤ x ∧ x < (t : Int) ∧ x = (up fr t : Int) := by
  have hl : t - 1 < fr.length := by omega
  have e : fr[t - 1]? = some fr[t - 1] := List.getElem?_eq_getElem hl
  obtain ⟨a, b⟩ := h.each _ _ e
  refine ⟨fr[t - 1], e, a, by omega, ?_⟩
  unfold up
  rw [List.getD_eq_getElem?_getD, e, Option.getD_some]
  omega
theorem up_lt (h : FrOk fr) {t : Nat} (h0 : 0 < t) (h1 : t ≤ fr.length) : up fr t < t := by
  obtain ⟨x, _, _, b, c⟩ := h.at h0 h1
  omega
theorem chainN_more (h : FrOk fr) : ∀ (n m t : Nat), t ≤ fr.length → t < n → t < m → chainN fr row n t = chainN fr row m t := by
  intro n
  induction n with
  | zero => intro m t _ h1; omega
  | succ n ih =>
    intro m t ht h1 h2
    obtain ⟨m, rfl⟩ : ∃ k, m = k + 1 := ⟨m - 1, by omega⟩
    unfold chainN
    by_cases h0 : t = 0
    · rw [if_pos h0, if_pos h0]
    · rw [if_neg h0, if_neg h0]
      have hu := up_lt h (by omega : 0 < t) ht
      rw [ih m (up fr t) (by omega) (by omega) (by omega)]
theorem chain_zero : chain fr row 0 = none := rfl
theorem chain_step (h : FrOk fr) {t : Nat} (h0 : 0 < t) (h1 : t ≤ fr.length) : chain fr row t = if brk fr row t then some [(t : Int)] else (chain fr row (up fr t)).map ((t : Int) :: ·) := by
  have hu := up_lt h h0 h1
  show chainN fr row (t + 1) t = _
  unfold chainN
  rw [if_neg (by omega)]
  unfold chain
  rw [chainN_more h t (up fr t + 1) (up fr t) (by omega) (by omega) (by omega)]
theorem chain_mem (h : FrOk fr) : ∀ (t : Nat) (c : List Int), t ≤ fr.length → chain fr row t = some c → c ≠ [] ∧ c.length ≤ t ∧ ∀ x ∈ c, 1 ≤ x ∧ x ≤ (t : Int) := by
  intro t
  induction t using Nat.strongRecOn with
  | _ t ih =>
    intro c ht e
    by_cases h0 : t = 0
    · subst h0
      cases e
    · rw [chain_step h (by omega) ht] at e
      have hu := up_lt h (by omega : 0 < t) ht
      split at e
      · have e2 := Option.some.inj e
        subst e2
        refine ⟨by simp, by simp; omega, ?_⟩
        intro x hx
        have : x = (t : Int) := by simpa using hx
        omega
      · obtain ⟨r, e1, e2⟩ := Option.map_eq_some_iff.mp e
        obtain ⟨_, h2, h3⟩ := ih _ hu r (by omega) e1
        subst e2
        refine ⟨by simp, by simp; omega, ?_⟩
        intro x hx
        rcases List.mem_cons.mp hx with q | q
        · omega
        · have := h3 x q
          omega
end
end PD

namespace PD
open PySem PySem.Spec PyProof.Rows L2
/-! ### the law's call, from a promise that is kept where nothing is being written out -/
section
variable {P : Program} {w : World} {K : PySem.W.Frag} {mg mb : Str → Option Value} {lv : Nat} {fa a : Addr} {fd : FuncData} {x : Str} {sp : Sp} {z : Shared} {us : List Value} {ns : List Int}
/-- from one abstract heap that tracks the script alone, or nothing -/
theorem call_from {G : Hp} (KZ : K.In z.heap) (hns : z.heap.Ns mainGlobals mg) (hbn : z.heap.Ns builtinsNs mb) (hbb : ∀ y : Str, y ≠ "__name__" → mb y = bootBuiltins y) (lim : z.heap.NoLimit) (hgn : z.gens = #[])
    (obj : z.heap.get? a = some { cls := .type "list", data := .seq us.toArray }) (room : Room lv callerA) (F : ∀ base : Heap, K.In base → base.Ns mainGlobals mg → FnG P w K mg base lv fa fd [x] sp)
    (bind : ∀ (t : Shared) (u : Value), BindsTo t fd ⟨[u], []⟩ [(x, u)]) (only : Only G) (goal : sp [.ref a] G (fun v _ => v = .bl true) fun _ _ _ => False) (ok : HOk P w G z.heap)
    (at_ : ∀ b, G b ≠ none → b = a) (out : G a ≠ none → K.lookup a = none) :
    codeAny (model P w) callerA (.call (.ref fa) ⟨[.ref a], []⟩) (fun r t => r = .ok (.ret (.bool true)) ∧ OldK z.heap t.heap ∧ t.os = z.os ∧ AllBare t.gens) z := by
  have stays : ∀ {b : Addr} {o : Obj}, z.heap.get? b = some o → G b = none → (hidT z.heap G).get? b = some o := fun e n => hidT_get e n
  have untracked : ∀ {b : Addr} {o : Obj} {es : Array DictEntry} {ep : Nat}, z.heap.get? b = some o → o.data = .dict es ep → G b = none := by
    intro b o es ep e d
    cases t : G b with
    | none => rfl
    | some v =>
      have eb : b = a := at_ b (by rw [t]; simp)
      rw [eb, obj] at e
      rw [← Option.some.inj e] at d
      have d2 : Data.seq us.toArray _ = Data.dict es ep := d
      cases d2
  have nsH : ∀ {b : Addr} {m : Str → Option Value}, z.heap.Ns b m → (hidT z.heap G).Ns b m := by
    rintro b m ⟨o, es, ep, e, d, r⟩
    exact ⟨o, es, ep, stays e (untracked e d), d, r⟩
  have KH : K.In (hidT z.heap G) := by
    intro b o e
    refine stays (KZ b o e) ?_
    cases t : G b with
    | none => rfl
    | some v =>
      have eb : b = a := at_ b (by rw [t]; simp)
      rw [eb] at e t
      rw [out (by rw [t]; simp)] at e
      cases e
  have md : Mod K mg (hidT z.heap G) := by
    obtain ⟨mc, h1, h2⟩ := lim
    exact ⟨KH, nsH hns, ⟨mb, nsH hbn, hbb⟩, ⟨mc, nsH h1, h2⟩⟩
  have e0 : Env0 P w K mg (hidT z.heap G) callerA [] z G := by
    refine ⟨rfl, md, fun b o e => of_hidT e, Nat.le_of_eq (hidT_size _ _), trivial, ?_, ok, .of_eq hgn⟩
    intro b hb
    exact absurd (show b ∈ ([] : List Addr) from hb) (by simp)
  have run := (F _ KH (nsH hns)).goes callerA [] z G ⟨[.ref a], []⟩ [.ref a] [.ref a] _ _ rfl room e0 (bind z (.ref a)) (.cons rfl .nil) goal
  refine codeAny_mono run ?_
  intro r t h
  cases r with
  | error er => exact (show False from h).elim
  | ok fl =>
    cases fl with
    | next => exact (show False from h).elim
    | brk => exact (show False from h).elim
    | cont => exact (show False from h).elim
    | ret u =>
      obtain ⟨v, G', os, bare, un, ok', rv, qv⟩ := h
      cases (show v = .bl true from qv)
      cases (show u = Value.bool true from rv)
      refine ⟨rfl, OldK.of_keep ?_, os, bare⟩
      intro b o e
      cases t2 : G b with
      | none => exact un.keep b o e t2 (fun m => absurd (show b ∈ ([] : List Addr) from m) (by simp)) (by simp)
      | some v =>
        rcases only b with n | ⟨ob, xs, n⟩
        · rw [t2] at n
          cases n
        · obtain ⟨q1, _⟩ := ok b _ n
          obtain ⟨q2, _⟩ := ok' b _ (un.frzs b ob _ n)
          rw [e] at q1
          rw [Option.some.inj q1]
          exact q2
theorem call_goes (KZ : K.In z.heap) (hns : z.heap.Ns mainGlobals mg) (hbn : z.heap.Ns builtinsNs mb) (hbb : ∀ y : Str, y ≠ "__name__" → mb y = bootBuiltins y) (lim : z.heap.NoLimit) (hgn : z.gens = #[])
    (obj : z.heap.get? a = some { cls := .type "list", data := .seq us.toArray }) (isn : IntsAre us ns) (small : ns.length ≤ sizeLine) (room : Room lv callerA) (F : ∀ base : Heap, K.In base → base.Ns mainGlobals mg → FnG P w K mg base lv fa fd [x] sp)
    (bind : ∀ (t : Shared) (u : Value), BindsTo t fd ⟨[u], []⟩ [(x, u)]) (goal : ∀ G : Hp, Only G → SqL K G a (ns.map V.int) → sp [.ref a] G (fun v _ => v = .bl true) fun _ _ _ => False) :
    codeAny (model P w) callerA (.call (.ref fa) ⟨[.ref a], []⟩) (fun r t => r = .ok (.ret (.bool true)) ∧ OldK z.heap t.heap ∧ t.os = z.os ∧ AllBare t.gens) z := by
  have rv := vals_ints isn
  have len := isn.length
  cases inK : K.lookup a with
  | some o =>
    have e := KZ a o inK
    rw [obj] at e
    have eo := Option.some.inj e
    subst eo
    have none1 : Only (fun _ => none) := fun _ => .inl rfl
    have sq : SqL K (fun _ => none) a (ns.map V.int) := .inr ⟨_, us.toArray, _, inK, rfl, rfl, rfl, by rw [List.size_toArray, len]; exact small, by simpa using rv⟩
    refine call_from (G := fun _ => none) KZ hns hbn hbb lim hgn obj room F bind none1 (goal _ none1 sq) ?_ (fun b n => absurd rfl n) fun n => absurd rfl n
    intro b u n
    have n2 : (none : Option HO) = some u := n
    cases n2
  | none =>
    let G : Hp := fun b => if b = a then some (.frz { cls := .type "list", data := .seq us.toArray } (.lst (ns.map V.int))) else none
    have at1 : G a = some (.frz { cls := .type "list", data := .seq us.toArray } (.lst (ns.map V.int))) := if_pos rfl
    have el : ∀ b, b ≠ a → G b = none := fun b n => if_neg n
    have only : Only G := by
      intro b
      by_cases h : b = a
      · rw [h]
        exact .inr ⟨_, _, at1⟩
      · exact .inl (el b h)
    refine call_from (G := G) KZ hns hbn hbb lim hgn obj room F bind only (goal G only (.inl (.inr ⟨_, at1⟩))) ?_ ?_ fun _ => inK
    · intro b u n
      by_cases h : b = a
      · rw [h, at1] at n
        rw [← Option.some.inj n, h]
        exact ⟨obj, by rw [List.length_map]; exact small, us, _, rv, obj⟩
      · rw [el b h] at n
        cases n
    · intro b n
      by_cases h : b = a
      · exact h
      · exact absurd (el b h) n
end
/-- the head's last goal, from the law's promise -/
theorem walkG {l : PySem.W.OpenLaw} {n lv : Nat} {q : Program} {loose : List Str} {XP : (Str → Option Value) → Heap → Prop} {YP : World → Heap → Prop} {d : DefRec} {x : Str} (most : l.most = some n) (small : n ≤ sizeLine) (nodef : d.params.defaults = []) (room : Room lv callerA)
    (F : ∀ (w : World) (mg : Str → Option Value) (fa : Addr) (h : Heap), YP w h → h.Ns mainGlobals mg → mg d.name = some (.ref fa) → ∃ (K : PySem.W.Frag) (fd : FuncData) (sp : Sp), K.In h ∧ (∀ (t : Shared) (u : Value), BindsTo t fd ⟨[u], []⟩ [(x, u)]) ∧
      (∀ (G : Hp) (a : Addr) (ns : List Int), ns.length ≤ n → Only G → SqL K G a (ns.map V.int) → sp [.ref a] G (fun v _ => v = .bl true) fun _ _ _ => False) ∧ ∀ base : Heap, K.In base → base.Ns mainGlobals mg → FnG l.prog w K mg base lv fa fd [x] sp) :
    PySem.W.WalkO q loose XP YP l.row.toRowW d [] (fun f vs => PySem.call f vs) := by
  refine Att.attach_call most nodef ?_
  intro w z0 z mg mb fa o pm cd doc a us ns G Y ho hd hcd hmg obj isn len gens
  obtain ⟨K, fd, sp, KZ, bind, goal, hF⟩ := F w mg fa _ Y G.T.g hmg
  exact call_goes KZ G.T.g G.T.b G.T.builtins G.T.nolimit gens obj isn (Nat.le_trans len small) room hF bind fun G' h1 h2 => goal G' a ns len h1 h2
end PD

namespace PD
open PySem PySem.Spec PyProof.Rows L2
/-! ### data: lists of ints, rows -/
def dI (ns : List Int) : PyData := .list (ns.map .int)
section
variable {K : PySem.W.Frag} {H : Hp}
theorem dpa_ints : ∀ ns : List Int, DpAll K H (ns.map V.int) (ns.map PyData.int)
  | [] => .nil
  | n :: ns => .cons (.int n) (dpa_ints ns)
theorem dp_ints {a : Addr} {ns : List Int} (h : LsAt H a ns) : Dp K H (.ref a) (dI ns) := .lst (SqL.of h) (dpa_ints ns)
theorem lay_ints : ∀ ns : List Int, PyData.canLayAll0 (ns.map PyData.int) = true
  | [] => rfl
  | n :: ns => by
    rw [List.map_cons]
    simp only [PyData.canLayAll0, PyData.canLay0, Bool.true_and]
    exact lay_ints ns
theorem depth_ints : ∀ ns : List Int, PyData.depthAll (ns.map PyData.int) = 0
  | [] => rfl
  | n :: ns => by
    rw [List.map_cons]
    simp only [PyData.depthAll, PyData.depth, depth_ints ns, Nat.max_self]
theorem shaped_ints (ns : List Int) : SeqAt.shaped (dI ns) = true := by
  unfold SeqAt.shaped dI
  simp only [PyData.canLay0, PyData.depth, lay_ints, depth_ints]
  rfl
theorem eqva_ints : ∀ ns ms : List Int, PyData.eqvAll (ns.map PyData.int) (ms.map PyData.int) = decide (ns = ms)
  | [], [] => rfl
  | [], m :: ms => rfl
  | n :: ns, [] => rfl
  | n :: ns, m :: ms => by
    rw [List.map_cons, List.map_cons]
    simp only [PyData.eqvAll, PyData.eqv, eqva_ints ns ms]
    by_cases h1 : n = m
    · by_cases h2 : ns = ms
      · simp [h1, h2]
      · simp [h1, h2]
    · simp [h1]
theorem eqv_ints (ns ms : List Int) : PyData.eqv (dI ns) (dI ms) = decide (ns = ms) := by
  unfold dI
  simp only [PyData.eqv, eqva_ints]
def dO : Option Int → PyData
  | none => .none
  | some i => .int i
def dC : Cell → PyData
  | none => .none
  | some (a, b) => .tuple [.int a, dO b]
theorem dp_o : ∀ b : Option Int, Dp K H (oV b) (dO b)
  | none => .non
  | some i => .int i
theorem dp_cell {v : V} : ∀ {c : Cell}, CellV H v c → Dp K H v (dC c)
  | none, h => by
    cases (show v = .non from h)
    exact .non
  | some (a, b), ⟨p, e, h⟩ => by
    subst e
    exact .tup (SqT.of h) (.cons (.int a) (.cons (dp_o b) .nil))
theorem dpa_cells : ∀ {vs : List V} {row : List Cell}, Cells H vs row → DpAll K H vs (row.map dC)
  | [], [], _ => .nil
  | [], _ :: _, h => by
    have := h.len
    simp at this
  | _ :: _, [], h => by
    have := h.len
    simp at this
  | v :: vs, c :: row, h => by
    obtain ⟨u, e1, e2⟩ := h.each 0 c rfl
    cases (Option.some.inj e1)
    have h' : Cells H vs row := ⟨by have := h.len; simpa using this, fun i d e => h.each (i + 1) d e⟩
    exact .cons (dp_cell e2) (dpa_cells h')
def dRow (row : List Cell) : PyData := .list (row.map dC)
theorem dp_row {p : Addr} {row : List Cell} (h : RowAt H p row) : Dp K H (.ref p) (dRow row) := by
  obtain ⟨vs, h1, h2⟩ := h
  exact .lst (SqL.of h1) (dpa_cells h2)
theorem lay_cell : ∀ c : Cell, (dC c).canLay0 = true
  | none => rfl
  | some (a, none) => rfl
  | some (a, some b) => rfl
theorem lay_cells : ∀ row : List Cell, PyData.canLayAll0 (row.map dC) = true
  | [] => rfl
  | c :: row => by
    rw [List.map_cons]
    simp only [PyData.canLayAll0, lay_cell c, Bool.true_and]
    exact lay_cells row
theorem depth_cell : ∀ c : Cell, (dC c).depth ≤ 1
  | none => by decide
  | some (a, none) => by simp [dC, dO, PyData.depth, PyData.depthAll]
  | some (a, some b) => by simp [dC, dO, PyData.depth, PyData.depthAll]
theorem depth_cells : ∀ row : List Cell, PyData.depthAll (row.map dC) ≤ 1
  | [] => by simp [PyData.depthAll]
  | c :: row => by
    rw [List.map_cons]
    simp only [PyData.depthAll]
    have := depth_cell c
    have := depth_cells row
    omega
end
/-! ### digits -/
def isDig (c : Nat) : Bool := decide (48 ≤ c) && decide (c ≤ 57)
theorem str_digit : ∀ n : Int, 0 ≤ n → n ≤ 9 → (Str.ofString (toString n)).cps.toList = [48 + n.toNat] := by
  intro n h0 h9
  have h : n = 0 ∨ n = 1 ∨ n = 2 ∨ n = 3 ∨ n = 4 ∨ n = 5 ∨ n = 6 ∨ n = 7 ∨ n = 8 ∨ n = 9 := by omega
  rcases h with rfl | rfl | rfl | rfl | rfl | rfl | rfl | rfl | rfl | rfl <;> decide +kernel
theorem shownAll_map : ∀ ns : List Int, PyData.shownAll (ns.map PyData.int) = ns.map fun n => Str.ofString (toString n)
  | [] => rfl
  | n :: ns => by
    rw [List.map_cons, List.map_cons]
    simp only [PyData.shownAll, PyData.shown, shownAll_map ns]
theorem text_digits : ∀ (ns : List Int) (k : Nat) (acc : Str), (∀ n ∈ ns, 0 ≤ n ∧ n ≤ 9) →
    ((textFrom k acc (ns.map fun n => Str.ofString (toString n))).cps.toList).filter isDig = (acc.cps.toList).filter isDig ++ ns.map fun n => 48 + n.toNat
  | [], k, acc, _ => by simp [textFrom]
  | n :: ns, k, acc, h => by
    rw [List.map_cons, List.map_cons]
    show ((textFrom (k + 1) (acc ++ (if k > 0 then ", " else "" : String) ++ Str.ofString (toString n)) (ns.map fun n => Str.ofString (toString n))).cps.toList).filter isDig = _
    rw [text_digits ns _ _ fun m hm => h m (List.mem_cons_of_mem _ hm)]
    obtain ⟨h0, h9⟩ := h n List.mem_cons_self
    have e1 : (Str.ofString (toString n)).cps.toList = [48 + n.toNat] := str_digit n h0 h9
    have e2 : (((if k > 0 then ", " else "" : String) : Str)).cps.toList.filter isDig = [] := by
      split <;> decide +kernel
    have e3 : isDig (48 + n.toNat) = true := by
      unfold isDig
      rw [decide_eq_true (by omega), decide_eq_true (by omega)]
      rfl
    rw [Str.cps_append, Str.cps_append, Array.toList_append, Array.toList_append, List.filter_append, List.filter_append, e1, e2]
    simp [e3]
theorem shown_digits {ns : List Int} (h : ∀ n ∈ ns, 0 ≤ n ∧ n ≤ 9) : ((dI ns).shown.cps.toList).filter isDig = ns.map fun n => 48 + n.toNat := by
  have e : (dI ns).shown = textFrom 0 "[" (ns.map fun n => Str.ofString (toString n)) ++ "]" := by
    unfold dI
    simp only [PyData.shown, shownAll_map]
    rfl
  have e2 : ((("]" : String) : Str)).cps.toList.filter isDig = [] := by decide +kernel
  have e3 : ((("[" : String) : Str)).cps.toList.filter isDig = [] := by decide +kernel
  rw [e, Str.cps_append, Array.toList_append, List.filter_append, text_digits ns 0 _ h, e2, e3]
  simp
theorem map_inj : ∀ {ns ms : List Int}, (∀ n ∈ ns, 0 ≤ n ∧ n ≤ 9) → (∀ n ∈ ms, 0 ≤ n ∧ n ≤ 9) → (ns.map fun n => 48 + n.toNat) = (ms.map fun n => 48 + n.toNat) → ns = ms
  | [], [], _, _, _ => rfl
  | [], _ :: _, _, _, e => by simp at e
  | _ :: _, [], _, _, e => by simp at e
  | n :: ns, m :: ms, h1, h2, e => by
    rw [List.map_cons, List.map_cons] at e
    injection e with e1 e2
    have a := h1 n List.mem_cons_self
    have b := h2 m List.mem_cons_self
    have r := map_inj (fun x hx => h1 x (List.mem_cons_of_mem _ hx)) (fun x hx => h2 x (List.mem_cons_of_mem _ hx)) e2
    have : n = m := by omega
    rw [this, r]
theorem shown_inj {ns ms : List Int} (h1 : ∀ n ∈ ns, 0 ≤ n ∧ n ≤ 9) (h2 : ∀ n ∈ ms, 0 ≤ n ∧ n ≤ 9) : decide ((dI ns).shown = (dI ms).shown) = decide (ns = ms) := by
  by_cases h : ns = ms
  · rw [h, decide_eq_true rfl, decide_eq_true rfl]
  · have h3 : ¬ (dI ns).shown = (dI ms).shown := fun e => h (map_inj h1 h2 (by rw [← shown_digits h1, ← shown_digits h2, e]))
    rw [decide_eq_false h, decide_eq_false h3]
theorem text_len : ∀ (ns : List Int) (k : Nat) (acc : Str), (∀ n ∈ ns, 0 ≤ n ∧ n ≤ 9) → (textFrom k acc (ns.map fun n => Str.ofString (toString n))).length ≤ acc.length + 3 * ns.length
  | [], k, acc, _ => by simp [textFrom]
  | n :: ns, k, acc, h => by
    rw [List.map_cons]
    show (textFrom (k + 1) (acc ++ (if k > 0 then ", " else "" : String) ++ Str.ofString (toString n)) (ns.map fun n => Str.ofString (toString n))).length ≤ _
    have i := text_len ns (k + 1) (acc ++ (if k > 0 then ", " else "" : String) ++ Str.ofString (toString n)) fun m hm => h m (List.mem_cons_of_mem _ hm)
    obtain ⟨h0, h9⟩ := h n List.mem_cons_self
    have e1 : (Str.ofString (toString n)).length = 1 := by
      show (Str.ofString (toString n)).cps.size = 1
      rw [← Array.length_toList, str_digit n h0 h9]
      rfl
    have e2 : (((if k > 0 then ", " else "" : String) : Str)).length ≤ 2 := by
      split <;> decide +kernel
    rw [strLen_append, strLen_append, e1] at i
    rw [List.length_cons]
    omega
theorem shown_len {ns : List Int} (h : ∀ n ∈ ns, 0 ≤ n ∧ n ≤ 9) (hl : ns.length ≤ 1000) : (dI ns).shown.length ≤ sizeLine := by
  have e : (dI ns).shown = textFrom 0 "[" (ns.map fun n => Str.ofString (toString n)) ++ "]" := by
    unfold dI
    simp only [PyData.shown, shownAll_map]
    rfl
  have e1 := text_len ns 0 "[" h
  have e2 : ((("[" : String) : Str)).length = 1 := rfl
  have e3 : ((("]" : String) : Str)).length = 1 := rfl
  rw [e, strLen_append]
  have : (3002 : Nat) ≤ sizeLine := by decide
  omega
theorem show_ints : ∀ {ns : List Int}, (∀ n ∈ ns, 0 ≤ n ∧ n ≤ 9) → PyData.showableAll (ns.map PyData.int) = true
  | [], _ => rfl
  | n :: ns, h => by
    rw [List.map_cons]
    obtain ⟨h0, h9⟩ := h n List.mem_cons_self
    have e : n.natAbs.log2 < 1920 := by
      have h1 : n.natAbs < 2 ^ 4 := by omega
      have := PySem.Flt.log2_lt_of (by decide : 0 < 4) h1
      omega
    simp only [PyData.showableAll, PyData.showable, decide_eq_true e, Bool.true_and]
    exact show_ints fun m hm => h m (List.mem_cons_of_mem _ hm)
theorem nodict_ints (ns : List Int) : (dI ns).hasDict = false := PyData.hasDict_of_canLay _ (by unfold dI; simp only [PyData.canLay0, lay_ints])
end PD

namespace PD
open PySem PySem.Spec PyProof.Rows L2
/-! ### a dict comprehension whose keys are tuples -/
theorem put_tup {X : Cx} {pins : List (Addr × Obj)} {σ : L2.St} {G : Hp} {z : Shared} {E : Value → Shared → Prop} {d b : Addr} {kvs : List (List Key × V)} {k : List Key} {v : V} {r : Value} {Q : Unit → Shared → Prop} (hu : X.A.units < cLine)
    (I : Inv X pins σ G z) (hd : G d = some (.dT kvs)) (hb : G b = some (.tup (k.map kV))) (hz : kvs.length < sizeLine) (rv : RelV v r) (h : ∀ z', Inv X pins σ (upd G d (.dT (putK kvs k v))) z' → Q () z') :
    wpAny (model X.prog X.w) X.A (dictSet d (.ref b) r) Q E z := by
  obtain ⟨y, ns, xs, rel, dd⟩ := dt_of I.hok hd
  have few : xs.length ≤ sizeLine := by
    rw [← Paired.length rel]
    exact y
  have more : (putK kvs k v).length ≤ sizeLine := by
    have := length_putK kvs k v
    omega
  refine wpAny_dictSet_heap (hsz := few) hu (key_of I.hok hb) dd ?_
  intro h' dd' hs
  obtain ⟨q, es, ep, hq, h2, h3, h4, -, h5⟩ := dd'
  refine h _ (d_write I (by rw [hd]; exact True.intro) hs ⟨q, hq⟩ ⟨more, ns, _, (rel.put k hb rv).keeps ?_, q, es, ep, hq, h2, h3, h4, h5⟩)
  intro c ys ec
  rw [upd_ne (ne_of ec hd (fun t => nomatch t))]
  exact ec
section
variable {X : Cx}
def tDcT (wi : TI) (g : TG) (tt : TT) (tk tv : TE) (vs : List Nat) : TE := fun σ G Q => wi σ G fun J G1 => ∀ D, G1 D = none → ∃ W : Nat → Nat → Hp → Prop, (∃ m, W 0 m (upd G1 D (.dT []))) ∧
  ∀ i m G, W i m G → (J.stop i G ∧ Q (.ref D) G) ∨ (J.go i G ∧ ∃ Nx : Hp → Prop, (∀ G', Nx G' → ∃ m', m' < m ∧ W (i + 1) m' G') ∧
    ∀ x G', J.yld i G x G' → g x (wipe σ vs) G' fun σ2 G2 => wipe σ2 vs = wipe σ vs ∧ tt σ2 G2 fun b G3 =>
      if b = true then tk σ2 G3 fun y G4 => tv σ2 G4 fun u G5 => ∃ kvs k q, y = .ref q ∧ G5 q = some (.tup (k.map kV)) ∧ G5 D = some (.dT kvs) ∧ kvs.length < sizeLine ∧ Nx (upd G5 D (.dT (putK kvs k u))) else Nx G3)
theorem dcT_core {pins : List (Addr × Obj)} {z : Shared} {σ : L2.St} {G : Hp} {Q : VK} {kx vx tg iter : Expr} {ifs : List Expr} {scope : Scope} {own : List (Str × Nat)} {pos pos' : Pos} {wi : TI} {g : TG} {tt : TT} {tk tv : TE} {use : Option (Value → Sem Unit)} {Qf : Value → Shared → Prop}
    (hu : X.A.units < cLine) (hc : X.calm = true) (hN : X.N.Nodup) (I : Inv X pins σ G z) (hi : PI X tg iter wi) (ok : BlkOk X.N X.env.scope scope own)
    (hg : ∀ (z : Shared) (G : Hp) (C : Addr) (cl : List (Str × Addr)) (fp : List Addr), PG (X.blk z G scope (compEnvC scope cl C X.env) fp) tg g)
    (ht : ∀ (z : Shared) (G : Hp) (C : Addr) (cl : List (Str × Addr)) (fp : List Addr), PTs (X.blk z G scope (compEnvC scope cl C X.env) fp) ifs tt)
    (hk : ∀ (z : Shared) (G : Hp) (C : Addr) (cl : List (Str × Addr)) (fp : List Addr), PE (X.blk z G scope (compEnvC scope cl C X.env) fp) kx tk)
    (hv : ∀ (z : Shared) (G : Hp) (C : Addr) (cl : List (Str × Addr)) (fp : List Addr), PE (X.blk z G scope (compEnvC scope cl C X.env) fp) vx tv)
    (hs : ∀ x, foldedSetIterable iter X.env x = pure x) (h : tDcT wi g tt tk tv (own.map (·.2)) σ G Q)
    (last : ∀ D C z' m G', Inv X pins σ G' z' → Q (.ref D) G' → z'.heap.Ns C m → FpOk X pins G' C → compPost (model X.prog X.w) X.A X.xe use Qf (.ref D) C (.ok .next) z') :
    wpAny (model X.prog X.w) X.A (comprehension (.DictComp kx vx [⟨tg, iter, ifs, 0⟩] scope pos) scope X.env pos' newDict false (eval iter X.env) use) Qf X.xe z := by
  have clo : ∀ y ∈ scope.names, y.2 = .free → ∃ c, X.env.cells.lookup y.1 = some c := by
    intro y hy e
    exact I.ok.has _ (ok.free y hy e)
  refine wpAny_comprehension_free (use := use) rfl hs (closure_ok clo) ok.kind (fun y hy e => by rw [ok.uniq y hy, e]) (thn (hi.run pins z σ G _ I h) fun xv z1 hx => thn hx ?_)
  rintro itv z2 ⟨it, fp, tn, J, G2, rfl, I2, T, st2, f2, q⟩
  refine wpAny_newObj_type (newEnv_comp ?_)
  generalize eD : z2.heap.objs.size = D
  obtain ⟨W, ⟨m0, w0⟩, turn⟩ := q D (I2.hok.fresh (Nat.le_of_eq eD))
  generalize ez3 : ({ z2 with heap := z2.heap.push { cls := .type "dict", data := .dict #[] } } : Shared) = z3
  have e3 : z3.heap = z2.heap.push { cls := .type "dict", data := .dict #[] } := by rw [← ez3]
  have I3 : Inv X pins σ (upd G2 D (.dT [])) z3 := by
    rw [← ez3]
    refine I2.laid (t' := z2.toks) (fun b o e => Heap.get?_push_of_some _ e) (Nat.le_of_eq eD) ?_
    rw [← eD]
    exact dt_empty z2.heap I2.big
  have lt2 : ∀ b ∈ fp, b < z2.heap.objs.size := by
    intro b hb
    obtain ⟨o, e, _⟩ := T.obj _ _ st2 b hb
    exact Heap.lt_size e
  have f3 : ∀ b ∈ fp, FpOk X pins (upd G2 D (.dT [])) b ∧ b < z3.heap.objs.size := by
    intro b hb
    have lt := lt2 b hb
    constructor
    · refine ⟨?_, (f2 b hb).2⟩
      rw [upd_ne (by rw [← eD]; exact Nat.ne_of_lt lt)]
      exact (f2 b hb).1
    · rw [e3, Heap.size_push]
      exact Nat.lt_succ_of_lt lt
  have st3 : tn 0 z3.heap := T.keep _ _ _ st2 (by intro b _ o e; rw [e3]; exact Heap.get?_push_of_some _ e)
  have I4 := block_start I3 ok hN f3
  have pg := hg z3 (upd G2 D (.dT [])) z3.heap.objs.size (cellsFrom (z3.heap.objs.size + 1) scope.names (cloFrom X.env.cells scope.names [])) fp
  have pt := ht z3 (upd G2 D (.dT [])) z3.heap.objs.size (cellsFrom (z3.heap.objs.size + 1) scope.names (cloFrom X.env.cells scope.names [])) fp
  have pk := hk z3 (upd G2 D (.dT [])) z3.heap.objs.size (cellsFrom (z3.heap.objs.size + 1) scope.names (cloFrom X.env.cells scope.names [])) fp
  have pw := hv z3 (upd G2 D (.dT [])) z3.heap.objs.size (cellsFrom (z3.heap.objs.size + 1) scope.names (cloFrom X.env.cells scope.names [])) fp
  have nfp : ∀ b ∈ fp, (upd G2 D (.dT [])) b = none := fun b hb => (f3 b hb).1.1
  refine (?_ : codeAny _ _ (.compStart (.DictComp kx vx [⟨tg, iter, ifs, 0⟩] scope pos) 0 (.ref it) (.ref D) (compEnvC scope (cellsFrom (z3.heap.objs.size + 1) scope.names (cloFrom X.env.cells scope.names [])) z3.heap.objs.size X.env)) _ { z3 with heap := pushCells (z3.heap.push { cls := .type "dict", data := .dict #[] }) scope.names })
  generalize ece : compEnvC scope (cellsFrom (z3.heap.objs.size + 1) scope.names (cloFrom X.env.cells scope.names [])) z3.heap.objs.size X.env = ce at I4 pg pt pk pw ⊢
  have cl : ce.locals = z3.heap.objs.size := by
    subst ece
    rfl
  generalize eG3 : upd G2 D (.dT []) = G3 at I3 I4 pg pt pk pw w0 nfp f3
  generalize ez4 : ({ z3 with heap := pushCells (z3.heap.push { cls := .type "dict", data := .dict #[] }) scope.names } : Shared) = z4 at I4 ⊢
  have st4 : tn 0 z4.heap := T.keep _ _ _ st3 (by intro b _ o e; rw [← ez4]; exact pushCells_keeps _ _ _ _ (Heap.get?_push_of_some _ e))
  have stat : ∀ {σ' : L2.St} {G' : Hp} {z' : Shared}, Inv (X.blk z3 G3 scope ce fp) [] σ' G' z' → (∀ b ∈ fp, G' b = none) → ∀ b ∈ fp, FpOk (X.blk z3 G3 scope ce fp) [] G' b := by
    intro σ' G' z' J' hn b hb
    exact ⟨hn b hb, (J'.ok.exf b hb).1, J'.ok.exfs b hb, .inl hb, fun x c e => (J'.ok.exf b hb).2 x c e, fun p hp => absurd (show p ∈ ([] : List (Addr × Obj)) ++ [] from hp) (by simp)⟩
  have loop : codeAny (model X.prog X.w) X.A (.compLoop (.DictComp kx vx [⟨tg, iter, ifs, 0⟩] scope pos) 0 (.ref it) (.ref D) ce) (compPost (model X.prog X.w) X.A X.xe use Qf (.ref D) z3.heap.objs.size) z4 := by
    refine compLoop_anyD (fun n z' => ∃ i G', Inv (X.blk z3 G3 scope ce fp) [] (wipe σ (own.map (·.2))) G' z' ∧ tn i z'.heap ∧ (∀ b ∈ fp, G' b = none) ∧ W i n G') ?_ m0 ⟨0, G3, I4, st4, nfp, w0⟩
    rintro n z5 ⟨i, G5, I5, st5, n5, w5⟩
    rcases turn i n G5 w5 with ⟨stop, qq⟩ | ⟨go, Nx, hNx, step⟩
    · refine thnF (T.done (X.blk z3 G3 scope ce fp) rfl rfl rfl hc i [] z5 _ G5 (fun _ _ => False) I5 (stat I5 n5) st5 stop) ?_
      rintro r z6 ⟨rfl, I6⟩
      have I7 : Inv X pins σ G5 z6 := I3.call' (ch := fp) I6.os I6.base I6.hok I6.bare fun b hb => let y := (f3 b hb).1.2; ⟨y.2.2.1, y.1, y.2.2.2.1, y.2.2.2.2⟩
      have nC : G5 z3.heap.objs.size = none := by
        have t : G5 ce.locals = none := I6.free
        rwa [cl] at t
      obtain ⟨m, hn, _⟩ := I6.loc
      have hn2 : z6.heap.Ns ce.locals m := hn
      rw [cl] at hn2
      exact last D z3.heap.objs.size z6 m G5 I7 qq hn2 (I3.fpOk (Nat.le_refl _) nC)
    · refine thnF (T.item (X.blk z3 G3 scope ce fp) rfl rfl rfl hc i [] z5 _ G5 (fun _ _ => False) I5 (stat I5 n5) st5 go) ?_
      rintro r z6 ⟨u, rfl, h6⟩
      refine thnF h6 ?_
      rintro _ z7 ⟨x, G7, I7, r7, y7, st7, n7⟩
      refine thnF (pg.run _ z7 _ G7 x u _ (I7.pinned (stat I7 n7) (T.obj _ _ st7)) r7 (step x G7 y7)) ?_
      rintro _ z8 ⟨σ8, G8, I8, hw8, q8⟩
      refine thnF (pt.run _ z8 σ8 G8 _ I8 q8) ?_
      rintro b z9 ⟨G9, I9, q9⟩
      have fin : ∀ {z' : Shared} {G' : Hp}, Inv (X.blk z3 G3 scope ce fp) ([] ++ pinsAt fp z7.heap) σ8 G' z' → Nx G' →
          ∃ m, m < n ∧ ∃ i G', Inv (X.blk z3 G3 scope ce fp) [] (wipe σ (own.map (·.2))) G' z' ∧ tn i z'.heap ∧ (∀ b ∈ fp, G' b = none) ∧ W i m G' := by
        intro z' G' J' nx
        obtain ⟨m', hm, w'⟩ := hNx G' nx
        have kept : ∀ b ∈ fp, ∀ o, z7.heap.get? b = some o → z'.heap.get? b = some o ∧ G' b = none := by
          intro b hb o e
          have y := J'.pin (b, o) (List.mem_append_right _ (List.mem_append_right _ (mem_pinsAt hb e)))
          exact ⟨y.1, y.2.1⟩
        have hl : (wipe σ (own.map (·.2))).length = σ8.length := by
          rw [← hw8, wipe_length]
        refine ⟨m', hm, i + 1, G', (J'.unpinned (pins := [])).weak hl ?_, T.keep _ _ _ st7 (fun b hb o e => (kept b hb o e).1), ?_, w'⟩
        · intro j v e
          rw [← hw8] at e
          exact (wipe_some e).1
        · intro b hb
          obtain ⟨o, e, _⟩ := T.obj _ _ st7 b hb
          exact (kept b hb o e).2
      cases b with
      | false => exact fin I9 q9
      | true =>
        refine thnF (pk.run _ z9 σ8 G9 _ I9 q9) ?_
        rintro kv z10 ⟨yk, G10, I10, r10, q10⟩
        refine thnF (pw.run _ z10 σ8 G10 _ I10 q10) ?_
        rintro vv z11 ⟨yv, G11, I11, r11, kvs, k, b, rfl, hb, hD, hz, nx⟩
        cases (show kv = Value.ref b from r10)
        exact put_tup (X := X.blk z3 G3 scope ce fp) hu I11 hD hb hz r11 fun z12 I12 => fin I12 nx
  exact codeAny_compStart_dict loop (T.self X.A 0 _ _ _ st4 loop)
theorem pe_dcT {kx vx tg iter : Expr} {ifs : List Expr} {scope : Scope} {own : List (Str × Nat)} {pos : Pos} {wi : TI} {g : TG} {tt : TT} {tk tv : TE} (hu : X.A.units < cLine) (hc : X.calm = true) (hN : X.N.Nodup) (hi : PI X tg iter wi) (ok : BlkOk X.N X.env.scope scope own)
    (hg : ∀ (z : Shared) (G : Hp) (C : Addr) (cl : List (Str × Addr)) (fp : List Addr), PG (X.blk z G scope (compEnvC scope cl C X.env) fp) tg g)
    (ht : ∀ (z : Shared) (G : Hp) (C : Addr) (cl : List (Str × Addr)) (fp : List Addr), PTs (X.blk z G scope (compEnvC scope cl C X.env) fp) ifs tt)
    (hk : ∀ (z : Shared) (G : Hp) (C : Addr) (cl : List (Str × Addr)) (fp : List Addr), PE (X.blk z G scope (compEnvC scope cl C X.env) fp) kx tk)
    (hv : ∀ (z : Shared) (G : Hp) (C : Addr) (cl : List (Str × Addr)) (fp : List Addr), PE (X.blk z G scope (compEnvC scope cl C X.env) fp) vx tv)
    (hs : ∀ x, foldedSetIterable iter X.env x = pure x := by intro _; rfl) : PE X (.DictComp kx vx [⟨tg, iter, ifs, 0⟩] scope pos) (tDcT wi g tt tk tv (own.map (·.2))) := by
  constructor
  intro pins z σ G Q I h
  rw [arm_eval_DictComp]
  refine dcT_core hu hc hN I hi ok hg ht hk hv hs h ?_
  intro D C z' m G' I' q hn f
  refine ⟨m, hn, ?_⟩
  intro h'' sb
  obtain ⟨g0, g1, g2, g3, g4, g5⟩ := f
  exact ⟨.ref D, G', I'.turned (t' := z'.toks) (fun b o hb e => (sb.2 b hb).trans e) g0 g1 g3 g4 g5, rfl, q⟩
/-- name = {..} on one line, the name a local -/
theorem ps_setDcT {i : Nat} {y : Str} {py : Pos} {kx vx tg iter : Expr} {ifs : List Expr} {scope : Scope} {own : List (Str × Nat)} {pos spos : Pos} {wi : TI} {g : TG} {tt : TT} {tk tv : TE} (hu : X.A.units < cLine) (hc : X.calm = true) (hN : X.N.Nodup)
    (hy : X.N[i]? = some y) (hyl : X.env.scope.names.lookup y = some .local) (hsw : swapsWith (.DictComp kx vx [⟨tg, iter, ifs, 0⟩] scope pos) (some (.Name y py)) spos.line X.env = pure true) (hi : PI X tg iter wi) (ok : BlkOk X.N X.env.scope scope own)
    (hg : ∀ (z : Shared) (G : Hp) (C : Addr) (cl : List (Str × Addr)) (fp : List Addr), PG (X.blk z G scope (compEnvC scope cl C X.env) fp) tg g)
    (ht : ∀ (z : Shared) (G : Hp) (C : Addr) (cl : List (Str × Addr)) (fp : List Addr), PTs (X.blk z G scope (compEnvC scope cl C X.env) fp) ifs tt)
    (hk : ∀ (z : Shared) (G : Hp) (C : Addr) (cl : List (Str × Addr)) (fp : List Addr), PE (X.blk z G scope (compEnvC scope cl C X.env) fp) kx tk)
    (hv : ∀ (z : Shared) (G : Hp) (C : Addr) (cl : List (Str × Addr)) (fp : List Addr), PE (X.blk z G scope (compEnvC scope cl C X.env) fp) vx tv)
    (hs : ∀ x, foldedSetIterable iter X.env x = pure x := by intro _; rfl) :
    PS X (.Assign [.Name y py] (.DictComp kx vx [⟨tg, iter, ifs, 0⟩] scope pos) spos) (tAsg (tDcT wi g tt tk tv (own.map (·.2))) (gName i)) := by
  constructor
  intro pins z σ G D I h
  rw [exec_Assign_Name_used _ _ _ _ hsw]
  refine wpAny_bind (wpAny_standAt (wpAny_bind ?_))
  show wpAny _ X.A (do let _ ← comprehension (.DictComp kx vx [⟨tg, iter, ifs, 0⟩] scope pos) scope X.env (firstIterPos [⟨tg, iter, ifs, 0⟩] pos) newDict false (eval iter X.env) (some (assign (.Name y py) X.env))) _ _ z
  have h2 : tDcT wi g tt tk tv (own.map (·.2)) σ G (fun x G1 => gName i x σ G1 D.nx) := h
  refine wpAny_bind (thn (dcT_core (Qf := fun _ z' => SP X pins D .next z') hu hc hN I hi ok hg ht hk hv hs h2 ?_) fun _ z' hq => wpAny_pure (wpAny_pure hq))
  intro L C z' m G' I' q hn f
  show wpAny _ _ (assign (.Name y py) X.env (.ref L)) _ _ _
  refine wpAny_assign_Name (store_ok2 (v := V.ref L) I' hN hy (.inl hyl) rfl ?_ (.inr hyl))
  rintro z2 I2 ⟨b, sb, hb⟩
  obtain ⟨g0, g1, g2, g3, g4, g5⟩ := f
  have apart : C ≠ b := by
    cases hb with
    | inl e => rw [e]; exact g1
    | inr e => exact fun t => g4 y b e t.symm
  refine ⟨m, hn.sameBut sb apart, ?_⟩
  intro h3 sb3
  exact ⟨_, G', I2.turned (t' := z2.toks) (fun c o hb e => (sb3.2 c hb).trans e) g0 g1 g3 g4 g5, q⟩
theorem swD {kx vx : Expr} {gs : List Comprehension} {scope : Scope} {pos py : Pos} {y : Str} {l : Nat} {env : Env} (hk : env.scope.kind = .function) (hy : env.scope.names.lookup y = some .local) (hl : (py.line == pos.line) = true)
    (ha : (scope.names.any fun (n, k) => n == y && (k == .local || k == .cell)) = false) : swapsWith (.DictComp kx vx gs scope pos) (some (.Name y py)) l env = pure true := by
  have k1 : env.kindOf y = some .local := hy
  have k2 : env.blockKind = .function := by
    unfold Env.blockKind
    rw [hk]
    rfl
  unfold swapsWith
  simp only [k2, k1, ha, Expr.pos, hl]
  rfl
/-- over a walk -/
theorem dcT_it {J : It} {n : Nat} {Gd : Hp → Prop} {Y : Nat → Hp → V → Hp → Prop} (wk : Walk J n Gd Y) {g : TG} {tt : TT} {tk tv : TE} {vs : List Nat} {σ : L2.St} {G1 : Hp} {D : Addr} {Qd : Hp → Prop} (Pv : Nat → Hp → Prop) (h0 : Pv 0 (upd G1 D (.dT []))) (hG : ∀ i G, i ≤ n → Pv i G → Gd G)
    (hs : ∀ i x G G', i < n → Pv i G → Y i G x G' → g x (wipe σ vs) G' fun σ2 G2 => wipe σ2 vs = wipe σ vs ∧ tt σ2 G2 fun b G3 =>
      if b = true then tk σ2 G3 fun y G4 => tv σ2 G4 fun u G5 => ∃ kvs k q, y = .ref q ∧ G5 q = some (.tup (k.map kV)) ∧ G5 D = some (.dT kvs) ∧ kvs.length < sizeLine ∧ Pv (i + 1) (upd G5 D (.dT (putK kvs k u))) else Pv (i + 1) G3) (hd : ∀ G, Pv n G → Qd G) :
    ∃ W : Nat → Nat → Hp → Prop, (∃ m, W 0 m (upd G1 D (.dT []))) ∧ ∀ i m G, W i m G → (J.stop i G ∧ Qd G) ∨ (J.go i G ∧ ∃ Nx : Hp → Prop, (∀ G', Nx G' → ∃ m', m' < m ∧ W (i + 1) m' G') ∧
      ∀ x G', J.yld i G x G' → g x (wipe σ vs) G' fun σ2 G2 => wipe σ2 vs = wipe σ vs ∧ tt σ2 G2 fun b G3 =>
        if b = true then tk σ2 G3 fun y G4 => tv σ2 G4 fun u G5 => ∃ kvs k q, y = .ref q ∧ G5 q = some (.tup (k.map kV)) ∧ G5 D = some (.dT kvs) ∧ kvs.length < sizeLine ∧ Nx (upd G5 D (.dT (putK kvs k u))) else Nx G3) := by
  refine ⟨fun i m G => m = n - i ∧ i ≤ n ∧ Pv i G, ⟨n, by simp, Nat.zero_le _, h0⟩, ?_⟩
  rintro i m G ⟨rfl, hi, p⟩
  by_cases lt : i < n
  · exact .inr ⟨wk.goes i G lt (hG i G hi p), Pv (i + 1), fun G' p' => ⟨n - (i + 1), by omega, rfl, lt, p'⟩, fun x G' y => hs i x G G' lt p (wk.yields i G x G' lt (hG i G hi p) y)⟩
  · obtain rfl : i = n := by omega
    exact .inl ⟨wk.stops G (hG i G hi p), hd G p⟩
end
end PD

namespace PD
open PySem PySem.Spec PyProof.Rows L2
theorem un65 {k : Nat} {A : Around} (hr : Room k A) : A.units + 65 < cLine := by
  have := hr.un
  omega
/-! ### pairs of numbers on the heap -/
abbrev Pr := Int × Int
def PrV (H : Hp) (v : V) (q : Pr) : Prop := ∃ p, v = .ref p ∧ H p = some (.tup [.int q.1, .int q.2])
theorem PrV.same {H H' : Hp} (s : Same H H') {v : V} {q : Pr} (h : PrV H v q) : PrV H' v q := let ⟨p, a, b⟩ := h; ⟨p, a, s _ _ b⟩
theorem PrV.upd {H : Hp} {v : V} {q : Pr} {p : Addr} {u o : HO} (h : PrV H v q) (hp : H p = some u) (n : ∀ xs, u ≠ .tup xs) : PrV (upd H p o) v q := by
  obtain ⟨b, e, hb⟩ := h
  exact ⟨b, e, by rw [upd_ne (ne_of hb hp (fun z => n _ z.symm))]; exact hb⟩
/-- values that stand for things, one by one -/
structure All2 {α : Type} (F : V → α → Prop) (vs : List V) (xs : List α) : Prop where
  len : vs.length = xs.length
  each : ∀ (i : Nat) (x : α), xs[i]? = some x → ∃ v, vs[i]? = some v ∧ F v x
theorem All2.mono {α : Type} {F G : V → α → Prop} {vs : List V} {xs : List α} (h : All2 F vs xs) (f : ∀ v x, F v x → G v x) : All2 G vs xs := ⟨h.len, fun i x e => let ⟨v, a, b⟩ := h.each i x e; ⟨v, a, f v x b⟩⟩
theorem All2.nil {α : Type} {F : V → α → Prop} : All2 F [] [] := ⟨rfl, fun i c e => by simp at e⟩
theorem All2.cons {α : Type} {F : V → α → Prop} {v : V} {x : α} {vs : List V} {xs : List α} (h : F v x) (r : All2 F vs xs) : All2 F (v :: vs) (x :: xs) := by
  refine ⟨by rw [List.length_cons, List.length_cons, r.len], fun i d e => ?_⟩
  cases i with
  | zero =>
    cases (Option.some.inj e)
    exact ⟨v, rfl, h⟩
  | succ i => exact r.each i d e
theorem All2.tail {α : Type} {F : V → α → Prop} {v : V} {x : α} {vs : List V} {xs : List α} (h : All2 F (v :: vs) (x :: xs)) : F v x ∧ All2 F vs xs := by
  obtain ⟨u, e1, e2⟩ := h.each 0 x rfl
  cases (Option.some.inj e1)
  exact ⟨e2, by have := h.len; simpa using this, fun i d e => h.each (i + 1) d e⟩
theorem All2.app {α : Type} {F : V → α → Prop} : ∀ {vs ws : List V} {xs ys : List α}, All2 F vs xs → All2 F ws ys → All2 F (vs ++ ws) (xs ++ ys)
  | [], ws, [], ys, _, h => h
  | [], _, _ :: _, _, h, _ => by have := h.len; simp at this
  | _ :: _, _, [], _, h, _ => by have := h.len; simp at this
  | v :: vs, ws, x :: xs, ys, h, h' => by
    obtain ⟨a, b⟩ := h.tail
    exact .cons a (b.app h')
theorem All2.at {α : Type} {F : V → α → Prop} {vs : List V} {xs : List α} (h : All2 F vs xs) {i : Nat} {v : V} (e : vs[i]? = some v) : ∃ x, xs[i]? = some x ∧ F v x := by
  have hi : i < xs.length := by
    rw [← h.len]
    exact (List.getElem?_eq_some_iff.mp e).1
  obtain ⟨u, e1, e2⟩ := h.each i xs[i] (List.getElem?_eq_getElem hi)
  cases (Option.some.inj (e.symm.trans e1))
  exact ⟨_, List.getElem?_eq_getElem hi, e2⟩
abbrev Prs (H : Hp) (vs : List V) (ps : List Pr) : Prop := All2 (PrV H) vs ps
def PrsAt (H : Hp) (a : Addr) (ps : List Pr) : Prop := ∃ vs, H a = some (.lst vs) ∧ Prs H vs ps
theorem PrsAt.same {H H' : Hp} (s : Same H H') {a : Addr} {ps : List Pr} (h : PrsAt H a ps) : PrsAt H' a ps := let ⟨vs, x, y⟩ := h; ⟨vs, s _ _ x, y.mono fun _ _ z => z.same s⟩
def RwsAt (H : Hp) (a : Addr) (rows : List (List Pr)) : Prop := ∃ vs, H a = some (.lst vs) ∧ All2 (fun v row => ∃ r, v = .ref r ∧ PrsAt H r row) vs rows
theorem RwsAt.same {H H' : Hp} (s : Same H H') {a : Addr} {rows : List (List Pr)} (h : RwsAt H a rows) : RwsAt H' a rows := let ⟨vs, x, y⟩ := h; ⟨vs, s _ _ x, y.mono fun _ _ ⟨r, z, u⟩ => ⟨r, z, u.same s⟩⟩
/-! ### pairs as keys -/
def kk (q : Pr) : List Key := [Sum.inl q.1, Sum.inl q.2]
theorem kk_inj {p q : Pr} (h : kk p = kk q) : p = q := by
  unfold kk at h
  injection h with h1 h2
  injection h2 with h3 _
  exact Prod.ext (Sum.inl.inj h1) (Sum.inl.inj h3)
theorem kk_tup {H : Hp} {b : Addr} {q : Pr} (h : H b = some (.tup [.int q.1, .int q.2])) : H b = some (.tup ((kk q).map kV)) := h
def dk {α : Type} (f : α → V) (l : List (Pr × α)) : List (List Key × V) := l.map fun x => (kk x.1, f x.2)
theorem dk_get {α : Type} (f : α → V) (q : Pr) : ∀ l : List (Pr × α), valV (dk f l) (kk q) = (l.lookup q).map f
  | [] => rfl
  | (p, x) :: l => by
    have ih := dk_get f q l
    by_cases h : p = q
    · subst h
      show valV ((kk p, f x) :: dk f l) (kk p) = _
      rw [valV_pos rfl]
      simp [List.lookup]
    · show valV ((kk p, f x) :: dk f l) (kk q) = _
      rw [valV_neg (fun e => h (kk_inj e)), ih]
      have hb : (q == p) = false := beq_eq_false_iff_ne.mpr fun e => h e.symm
      simp [List.lookup, hb]
theorem dk_put {α : Type} (f : α → V) (q : Pr) (x : α) (l : List (Pr × α)) (h : l.lookup q = none) : putK (dk f l) (kk q) (f x) = dk f (l ++ [(q, x)]) := by
  have h2 : valV (dk f l) (kk q) = none := by
    rw [dk_get, h]
    rfl
  rw [putK_new _ h2]
  unfold dk
  rw [List.map_append]
  rfl
theorem lookup_none {α : Type} {q : Pr} : ∀ {l : List (Pr × α)}, l.lookup q = none ↔ q ∉ l.map (·.1)
  | [] => by simp
  | (p, x) :: l => by
    by_cases h : q = p
    · subst h
      simp [List.lookup]
    · have hb : (q == p) = false := beq_eq_false_iff_ne.mpr h
      simp [List.lookup, hb, lookup_none (l := l), h]
theorem lookup_snoc {α : Type} {q p : Pr} {x : α} : ∀ {l : List (Pr × α)}, (l ++ [(p, x)]).lookup q = match l.lookup q with | some y => some y | none => if q = p then some x else none
  | [] => by
    by_cases h : q = p
    · subst h
      simp [List.lookup]
    · have hb : (q == p) = false := beq_eq_false_iff_ne.mpr h
      simp [List.lookup, hb, h]
  | (r, y) :: l => by
    by_cases h : q = r
    · subst h
      simp [List.lookup]
    · have hb : (q == r) = false := beq_eq_false_iff_ne.mpr h
      have ih := lookup_snoc (q := q) (p := p) (x := x) (l := l)
      simp only [List.cons_append, List.lookup, hb]
      exact ih
/-! ### pairs as data -/
def dP (q : Pr) : PyData := .tuple [.int q.1, .int q.2]
section
variable {K : PySem.W.Frag} {H : Hp}
theorem dp_pr {v : V} {q : Pr} (h : PrV H v q) : Dp K H v (dP q) := by
  obtain ⟨p, rfl, e⟩ := h
  exact .tup (SqT.of e) (.cons (.int _) (.cons (.int _) .nil))
theorem dpa_prs : ∀ {vs : List V} {ps : List Pr}, Prs H vs ps → DpAll K H vs (ps.map dP)
  | [], [], _ => .nil
  | [], _ :: _, h => by have := h.len; simp at this
  | _ :: _, [], h => by have := h.len; simp at this
  | v :: vs, q :: ps, h => by
    obtain ⟨a, b⟩ := h.tail
    exact .cons (dp_pr a) (dpa_prs b)
def dPs (ps : List Pr) : PyData := .list (ps.map dP)
theorem dp_prs {a : Addr} {ps : List Pr} (h : PrsAt H a ps) : Dp K H (.ref a) (dPs ps) := let ⟨vs, x, y⟩ := h; .lst (SqL.of x) (dpa_prs y)
theorem dpa_rws : ∀ {vs : List V} {rows : List (List Pr)}, All2 (fun v row => ∃ r, v = .ref r ∧ PrsAt H r row) vs rows → DpAll K H vs (rows.map dPs)
  | [], [], _ => .nil
  | [], _ :: _, h => by have := h.len; simp at this
  | _ :: _, [], h => by have := h.len; simp at this
  | v :: vs, q :: ps, h => by
    obtain ⟨⟨r, e, a⟩, b⟩ := h.tail
    rw [e]
    exact .cons (dp_prs a) (dpa_rws b)
def dRs (rows : List (List Pr)) : PyData := .list (rows.map dPs)
theorem dp_rws {a : Addr} {rows : List (List Pr)} (h : RwsAt H a rows) : Dp K H (.ref a) (dRs rows) := let ⟨vs, x, y⟩ := h; .lst (SqL.of x) (dpa_rws y)
end
theorem lay_prs : ∀ ps : List Pr, PyData.canLayAll0 (ps.map dP) = true
  | [] => rfl
  | q :: ps => by
    rw [List.map_cons]
    simp only [PyData.canLayAll0, dP, PyData.canLay0, Bool.true_and]
    exact lay_prs ps
theorem depth_prs : ∀ ps : List Pr, PyData.depthAll (ps.map dP) ≤ 1
  | [] => by simp [PyData.depthAll]
  | q :: ps => by
    rw [List.map_cons]
    have := depth_prs ps
    simp only [PyData.depthAll, dP, PyData.depth]
    omega
theorem shaped_pr (q : Pr) : SeqAt.shaped (dP q) = true := by
  unfold SeqAt.shaped dP
  simp only [PyData.canLay0, PyData.canLayAll0, PyData.depth, PyData.depthAll]
  rfl
theorem shaped_prs (ps : List Pr) : SeqAt.shaped (dPs ps) = true := by
  unfold SeqAt.shaped
  rw [Bool.and_eq_true]
  refine ⟨?_, decide_eq_true ?_⟩
  · unfold dPs
    simp only [PyData.canLay0, lay_prs]
  · unfold dPs
    simp only [PyData.depth]
    have := depth_prs ps
    omega
theorem lay_rws : ∀ rows : List (List Pr), PyData.canLayAll0 (rows.map dPs) = true
  | [] => rfl
  | q :: ps => by
    rw [List.map_cons]
    simp only [PyData.canLayAll0, dPs, PyData.canLay0, lay_prs, Bool.true_and]
    exact lay_rws ps
theorem depth_rws : ∀ rows : List (List Pr), PyData.depthAll (rows.map dPs) ≤ 2
  | [] => by simp [PyData.depthAll]
  | q :: ps => by
    rw [List.map_cons]
    have := depth_rws ps
    have := depth_prs q
    simp only [PyData.depthAll, dPs, PyData.depth]
    omega
theorem shaped_rws (rows : List (List Pr)) : SeqAt.shaped (dRs rows) = true := by
  unfold SeqAt.shaped
  rw [Bool.and_eq_true]
  refine ⟨?_, decide_eq_true ?_⟩
  · unfold dRs
    simp only [PyData.canLay0, lay_rws]
  · unfold dRs
    simp only [PyData.depth]
    have := depth_rws rows
    omega
theorem eqv_pr (p q : Pr) : PyData.eqv (dP p) (dP q) = decide (p = q) := by
  unfold dP
  simp only [PyData.eqv, PyData.eqvAll, Bool.and_true]
  by_cases h : p = q
  · subst h
    simp
  · rw [decide_eq_false h]
    by_cases h1 : p.1 = q.1
    · have h2 : ¬ p.2 = q.2 := fun e => h (Prod.ext h1 e)
      simp [h2]
    · simp [h1]
theorem eqva_prs : ∀ ps qs : List Pr, PyData.eqvAll (ps.map dP) (qs.map dP) = decide (ps = qs)
  | [], [] => rfl
  | [], _ :: _ => rfl
  | _ :: _, [] => rfl
  | p :: ps, q :: qs => by
    rw [List.map_cons, List.map_cons]
    simp only [PyData.eqvAll, eqv_pr, eqva_prs ps qs]
    by_cases h1 : p = q
    · by_cases h2 : ps = qs
      · simp [h1, h2]
      · simp [h1, h2]
    · simp [h1]
theorem eqva_rws : ∀ rs qs : List (List Pr), PyData.eqvAll (rs.map dPs) (qs.map dPs) = decide (rs = qs)
  | [], [] => rfl
  | [], _ :: _ => rfl
  | _ :: _, [] => rfl
  | p :: ps, q :: qs => by
    rw [List.map_cons, List.map_cons]
    have e : PyData.eqv (dPs p) (dPs q) = decide (p = q) := by
      unfold dPs
      simp only [PyData.eqv, eqva_prs]
    simp only [PyData.eqvAll, e, eqva_rws ps qs]
    by_cases h1 : p = q
    · by_cases h2 : ps = qs
      · simp [h1, h2]
      · simp [h1, h2]
    · simp [h1]
theorem any_prs (q : Pr) : ∀ ps : List Pr, ((ps.map dP).any fun z => PyData.eqv z (dP q)) = decide (q ∈ ps)
  | [] => by simp
  | p :: ps => by
    rw [List.map_cons, List.any_cons, any_prs q ps, eqv_pr]
    by_cases h : p = q
    · subst h
      simp
    · have h2 : ¬ q = p := fun e => h e.symm
      by_cases h3 : q ∈ ps
      · simp [h3]
      · simp [h, h2, h3]
end PD

/-! Phrasedesk: sorted(set(xs)) of a list of texts -/
namespace PD
open PySem PySem.Spec PyProof.Rows L2
def txK (e : Int × Value) : Str := match e.2 with | .str k _ => k | _ => Str.empty
def TxE (P : Program) (w : World) (e : Int × Value) : Prop := ∃ y tk, e.2 = Value.str y tk ∧ e.1 = (strKind P w).hash y
/-- a set of texts: its members and how many they are -/
def SetS (P : Program) (w : World) (g : Heap) (a : Addr) (M : Str → Bool) (c : Nat) : Prop :=
  ∃ o es ep t, g.get? a = some o ∧ o.ExactSet ∧ o.data = .set es ep t ∧ (∀ e ∈ es.toList, TxE P w e) ∧ (es.toList.map txK).Nodup ∧ (∀ y, M y = true ↔ y ∈ es.toList.map txK) ∧ es.size < scanBound ∧ t.fits es.size = true ∧ es.size = c ∧ Ris t.place.toList ∧ (w.params.followText "set-order" = true ∨ t.led = true)
section
variable {P : Program} {w : World} {g g' : Heap} {a : Addr} {M : Str → Bool} {c : Nat}
theorem SetS.at (R : SetS P w g a M c) (st : ∀ o, g.get? a = some o → g'.get? a = some o) : SetS P w g' a M c := by
  obtain ⟨o, es, ep, t, ho, more⟩ := R
  exact ⟨o, es, ep, t, st o ho, more⟩
theorem SetS.as {M' : Str → Bool} (R : SetS P w g a M c) (e : ∀ y, M' y = M y) : SetS P w g a M' c := by
  rw [show M' = M from funext e]
  exact R
theorem txE_elems {l : List (Int × Value)} (h : ∀ e ∈ l, TxE P w e) : ElemsOf (strKind P w) l := by
  intro e he
  obtain ⟨y, tk, h1, h2⟩ := h e he
  refine ⟨⟨y, ?_, h2⟩, ?_⟩
  · rw [h1]
    exact strKind_is P w y tk
  · rw [h1]
    rfl
theorem txE_is {e : Int × Value} (h : TxE P w e) (y : Str) : (strKind P w).is y e.2 = true ↔ txK e = y := by
  obtain ⟨y0, tk, h1, _⟩ := h
  unfold txK
  rw [h1]
  show ((y0 == y) = true) ↔ y0 = y
  exact beq_iff_eq
theorem txE_mem {l : List (Int × Value)} (h : ∀ e ∈ l, TxE P w e) (y : Str) : y ∈ l.map txK ↔ ∃ e ∈ l, (strKind P w).is y e.2 = true := by
  rw [List.mem_map]
  refine ⟨?_, ?_⟩
  · intro ⟨e, he, q⟩
    exact ⟨e, he, (txE_is (h e he) y).2 q⟩
  · intro ⟨e, he, q⟩
    exact ⟨e, he, (txE_is (h e he) y).1 q⟩
end
section
variable {P : Program} {w : World} {A : Around} {E : Value → Shared → Prop} {z : Shared} {a : Addr} {M : Str → Bool} {c : Nat}
theorem setS_tail {f : Bool → Sem Unit} (hf : ∀ (b : Bool) (z1 : Shared) (Q' : Unit → Shared → Prop), Q' () z1 → wpAny (model P w) A (f b) Q' E z1)
    {o : Obj} {es : Array (Int × Value)} {ep : Nat} {t : SetTable} (ho : z.heap.get? a = some o) (hx : o.ExactSet) (hd : o.data = .set es ep t)
    {es1 : Array (Int × Value)} {t2 : SetTable} {M' : Str → Bool} (g1 : ∀ e ∈ es1.toList, TxE P w e) (n1 : (es1.toList.map txK).Nodup) (m1 : ∀ y, M' y = true ↔ y ∈ es1.toList.map txK)
    (b1 : es1.size < scanBound) (f2 : t2.fits es1.size = true) (ri : Ris t2.place.toList) (le : w.params.followText "set-order" = true ∨ t2.led = true) {wd : Bool} {R : Option Bool → Shared → Prop}
    (hR : ∀ g', Heap.SameBut a z.heap g' → SetS P w g' a M' es1.size → R (some true) { z with heap := g' }) :
    wpAny (model P w) A (do
        storeSet a es1 t2
        if (!wd && t2.tooFull) = true then do
            f (relayAll t2 es1 (SetTable.grown es1.size)).2.2
            storeSet a (relayAll t2 es1 (SetTable.grown es1.size)).1 (relayAll t2 es1 (SetTable.grown es1.size)).2.1
            pure (some true)
          else pure (some true)) R E z := by
  have o1 := store_at (es' := es1) (t' := t2) ho hd
  have sb := Heap.SameBut.update z.heap a (Obj.putSet es1 t2)
  refine wpAny_bind (wpAny_storeSet_of ho hd ?_ (fits_of_scanBound b1))
  split
  · have pm := relayAll_perm t2 es1 (SetTable.grown es1.size)
    have f3 := relayAll_fits t2 es1 (SetTable.grown es1.size)
    have r3 := relayAll_ris t2 es1 (SetTable.grown es1.size)
    have l3 := relayAll_led t2 es1 (SetTable.grown es1.size)
    generalize relayAll t2 es1 (SetTable.grown es1.size) = Z at pm f3 r3 l3 ⊢
    obtain ⟨es2, t3, gv⟩ := Z
    dsimp only at pm f3 r3 l3 ⊢
    have sz : es2.size = es1.size := by
      rw [← Array.length_toList, pm.length_eq, Array.length_toList]
    have b2 : es2.size < scanBound := by
      rw [sz]
      exact b1
    refine wpAny_bind (hf _ _ _ (wpAny_bind (wpAny_storeSet_of o1 rfl ?_ (fits_of_scanBound b2))))
    have o2 := store_at (es' := es2) (t' := t3) o1 rfl
    refine wpAny_pure (hR _ (sb.trans (Heap.SameBut.update _ a _)) ⟨_, es2, _, t3, o2, hx, rfl, ?_, (pm.map txK).nodup_iff.mpr n1, ?_, b2, f3, sz, r3, ?_⟩)
    · intro e he
      exact g1 e (pm.mem_iff.mp he)
    · intro y
      exact (m1 y).trans (pm.map txK).mem_iff.symm
    · rcases le with q | q
      · exact .inl q
      · exact .inr (by rw [l3]; exact q)
  · exact wpAny_pure (hR _ sb ⟨_, es1, _, t2, o1, hx, rfl, g1, n1, m1, b1, f2, rfl, ri, le⟩)
theorem setS_add {y : Str} {tk : Tok} {Q : Bool → Shared → Prop} (R : SetS P w z.heap a M c) (room : c + 1 < scanBound)
    (hQ : ∀ g', Heap.SameBut a z.heap g' → SetS P w g' a (fun j => M j || decide (j = y)) (if M y = true then c else c + 1) → Q (!M y) { z with heap := g' }) :
    wpAny (model P w) A (setAddHashed a (.str y tk) ((strKind P w).hash y)) Q E z := by
  obtain ⟨o, es, ep, t, ho, hx, hd, gd, nd, hm, hb, hf, hn, ri, le⟩ := R
  have key : (strKind P w).is y (.str y tk) = true := strKind_is P w y tk
  have sc : (Value.str y tk).scannable = true := rfl
  have el : ElemsOf (strKind P w) es.toList := txE_elems gd
  unfold setAddHashed setAddHashedIn
  refine wpAny_holding (wpAny_bind (wpAny_setState_of ho hd hf ?_))
  dsimp only
  rw [byScan_of sc hb el]
  simp only [↓reduceIte]
  unfold setAddByScan
  refine wpAny_bind (wpAny_bind (wpAny_rule (wpAny_bind (wpAny_setScan_of key ho hd hf el ?_))))
  cases fi : List.findIdx? (fun e => (strKind P w).is y e.2) es.toList with
  | some j =>
    dsimp only
    obtain ⟨hj, pj, _⟩ := List.findIdx?_eq_some_iff_getElem.mp fi
    have My : M y = true := (hm y).2 ((txE_mem (P := P) (w := w) gd y).2 ⟨es.toList[j], List.getElem_mem hj, pj⟩)
    have q := hQ z.heap (Heap.SameBut.refl a z.heap) ⟨o, es, ep, t, ho, hx, hd, gd, nd, ?_, hb, hf, by rw [if_pos My]; exact hn, ri, le⟩
    · rw [My] at q
      exact wpAny_pure (wpAny_pure q)
    · intro i
      rw [Bool.or_eq_true, decide_eq_true_eq, ← hm i]
      exact ⟨fun k => k.elim id (fun e => e ▸ My), .inl⟩
  | none =>
    dsimp only
    have ny : y ∉ es.toList.map txK := by
      intro k
      obtain ⟨e, he, q⟩ := (txE_mem (P := P) (w := w) gd y).1 k
      have d := List.findIdx?_eq_none_iff.mp fi e he
      rw [q] at d
      cases d
    have My : M y = false := by
      cases q : M y with
      | false => rfl
      | true => exact absurd ((hm y).1 q) ny
    have gw : ∀ (b : Bool) {z1 : Shared} {Q' : Unit → Shared → Prop}, Q' () z1 → wpAny (model P w) A (match b with | true => rule "set.scan.the-table-gave-way" | false => pure ()) Q' E z1 := by
      intro b z1 Q' q
      cases b <;> first | exact wpAny_pure q | exact wpAny_rule q
    have pm := layNew_perm t es ((strKind P w).hash y) (.str y tk)
    have f1 := layNew_fits t es ((strKind P w).hash y) (.str y tk)
    have r1 := layNew_ris t es ((strKind P w).hash y) (.str y tk) ri
    have l1 := layNew_led t es ((strKind P w).hash y) (.str y tk)
    generalize layNew t es ((strKind P w).hash y) (.str y tk) = Z at pm f1 r1 l1 ⊢
    obtain ⟨es1, t1, wd, gv⟩ := Z
    dsimp only at pm f1 r1 l1 ⊢
    rw [Array.toList_push] at pm
    have pc : es1.toList.Perm (((strKind P w).hash y, Value.str y tk) :: es.toList) := pm.trans (List.perm_append_singleton _ _)
    have pk : (es1.toList.map txK).Perm (y :: es.toList.map txK) := pc.map txK
    have g1 : ∀ e ∈ es1.toList, TxE P w e := by
      intro e he
      rcases List.mem_cons.mp (pc.mem_iff.mp he) with k | k
      · rw [k]
        exact ⟨y, tk, rfl, rfl⟩
      · exact gd e k
    have n1 : (es1.toList.map txK).Nodup := pk.nodup_iff.mpr (List.nodup_cons.mpr ⟨ny, nd⟩)
    have m1 : ∀ i, (M i || decide (i = y)) = true ↔ i ∈ es1.toList.map txK := by
      intro i
      rw [Bool.or_eq_true, decide_eq_true_eq, hm i, pk.mem_iff, List.mem_cons]
      exact Or.comm
    have sz : es1.size = c + 1 := by
      rw [← Array.length_toList, pc.length_eq, List.length_cons, Array.length_toList, hn]
    have b1 : es1.size < scanBound := by
      rw [sz]
      exact room
    have le1 : w.params.followText "set-order" = true ∨ t1.led = true := by
      rcases le with q | q
      · exact .inl q
      · exact .inr (by rw [l1]; exact q)
    have fin : ∀ g', Heap.SameBut a z.heap g' → SetS P w g' a (fun j => M j || decide (j = y)) es1.size → Q true { z with heap := g' } := by
      intro g' sb r
      have q := hQ g' sb
      rw [My] at q
      rw [sz] at r
      exact q r
    refine wpAny_bind (gw _ ?_)
    split
    · refine wpAny_bind ?_
      rw [hashByValue_scannable 8 sc]
      refine wpAny_pure ?_
      refine setS_tail ?_ ho hx hd g1 n1 m1 b1 ?_ ?_ ?_ ?_
      · intro b z1 Q' q
        cases b <;> first | exact wpAny_pure q | exact wpAny_rule q
      · first | (split <;> first | exact f1 | exact SetTable.fits_plain_off f1) | exact f1
      · first | (split <;> exact r1) | exact r1
      · first | (split <;> exact le1) | exact le1
      · intro g' sb r
        dsimp only
        exact wpAny_pure (fin g' sb r)
    · refine wpAny_bind (wpAny_pure ?_)
      simp only [↓reduceIte]
      refine setS_tail ?_ ho hx hd g1 n1 m1 b1 f1 r1 le1 ?_
      · intro b z1 Q' q
        cases b <;> first | exact wpAny_pure q | exact wpAny_rule q
      · intro g' sb r
        dsimp only
        exact wpAny_pure (fin g' sb r)
end

/-- a new set's object -/
abbrev newSet (w : World) : Obj := { cls := .type "set", dict := none, data := .set #[] 0 (.fresh 0 0 (!w.params.followText "set-order")) }
theorem setS_none {P : Program} {w : World} {g : Heap} {a : Addr} (ho : g.get? a = some (newSet w)) : SetS P w g a (fun _ => false) 0 := by
  refine ⟨_, #[], 0, _, ho, ⟨rfl, rfl, rfl⟩, rfl, ?_, by simp, by simp, by decide, rfl, rfl, List.Pairwise.nil, ?_⟩
  · intro e he
    simp at he
  · show _ ∨ (!w.params.followText "set-order") = true
    cases w.params.followText "set-order"
    · exact Or.inr rfl
    · exact Or.inl rfl
section
variable {P : Program} {w : World} {A : Around} {E : Value → Shared → Prop} {z : Shared}
theorem setS_all {I : Addr} {fp wr : List Addr} {G : Array GenState → Array GenState → Prop} {n : Nat} {Pv : Nat → Value → Prop} {Sx : Nat → Shared → Prop} {R : Result → Shared → Prop}
    (W : WalksS P w A.in1 I fp wr G n Pv Sx) (D : Addr) (hD : D ∉ fp) (ys : List Str) (hn : n = ys.length) (hb : ys.length + 1 < scanBound) (hv : ∀ i v, Pv i v → ∃ y t, ys[i]? = some y ∧ v = .str y t) :
    ∀ (k i : Nat) (z : Shared), n - i = k → i ≤ n → Sx i z → (∃ c, c ≤ i ∧ SetS P w z.heap D (fun j => decide (j ∈ ys.take i)) c) →
      (∀ z' c, Moved (D :: wr) G z z' → c ≤ n → SetS P w z'.heap D (fun j => decide (j ∈ ys)) c → R (.ok (.ret .none)) z') →
      codeAny (model P w) A (.builtin "set.update.loop" ⟨[.ref D, .ref I], []⟩) R z := by
  have nw : D ∉ wr := fun h => hD (W.sub _ h)
  have up : ∀ b ∈ wr, b ∈ D :: wr := fun b h => List.mem_cons_of_mem _ h
  intro k
  induction k with
  | zero =>
    rintro i z e hi st ⟨c, hc, hS⟩ hR
    have ei : i = n := by omega
    subst ei
    refine codeAny_builtin F.entry_set_update_loop ?_
    rw [Around.under_plainId F.plain_set_update_loop _]
    show wpAny _ A.in1 (pyNext (.ref I) >>= _) _ _ z
    refine wpAny_bind (W.done z _ _ st fun z' hm => ?_)
    show wpAny _ A.in1 (ret Value.none) _ _ z'
    have et : ys.take i = ys := List.take_of_length_le (by omega)
    rw [et] at hS
    exact wpAny_pure (hR z' c (hm.mono up) hc (hS.at fun o e => hm.heap D o nw e))
  | succ k ih =>
    rintro i z e hi st ⟨c, hc, hS⟩ hR
    have lt : i < n := by omega
    refine codeAny_builtin F.entry_set_update_loop ?_
    rw [Around.under_plainId F.plain_set_update_loop _]
    show wpAny _ A.in1 (pyNext (.ref I) >>= _) _ _ z
    refine wpAny_bind (W.item i z _ _ lt st fun v z' hP st' hm => ?_)
    obtain ⟨y, t, ey, rfl⟩ := hv i v hP
    have hS' : SetS P w z'.heap D (fun j => decide (j ∈ ys.take i)) c := hS.at fun o e => hm.heap D o nw e
    show wpAny _ A.in1 (holding [Value.str y t] (setAdd D (.str y t)) >>= _) _ _ z'
    refine wpAny_bind (wpAny_holding ?_)
    unfold setAdd
    refine wpAny_holding (wpAny_bind ((strKind P w).pyHash (k := y) (strKind_is _ _ _ _) ?_))
    refine setS_add (z := { z' with toks := z'.toks + 1 }) hS' (by omega) fun g' sb hS2 => ?_
    have hS3 : SetS P w g' D (fun j => decide (j ∈ ys.take (i + 1))) (if decide (y ∈ ys.take i) = true then c else c + 1) := by
      refine hS2.as fun j => ?_
      rw [List.take_add_one, ey]
      simp [List.mem_append]
    have c3 : (if decide (y ∈ ys.take i) = true then c else c + 1) ≤ i + 1 := by
      split <;> omega
    refine wpAny_pure ⟨plainId_quiet F.plain_set_update_loop _, ih (i + 1) _ (by omega) lt (W.frame _ z' _ _ st' (Nat.le_succ _) fun b hb o e => ?_) ⟨_, c3, hS3⟩ fun z2 c2 m2 k2 S2 => ?_⟩
    · rw [sb.2 b (fun h : b = D => hD (by rw [← h]; exact hb))]
      exact e
    · refine hR z2 c2 (Moved.trans W.gtrans ((hm.mono up).then_heap (Nat.le_succ _) fun b o hb e => ?_) m2) k2 S2
      rw [sb.2 b (fun h : b = D => hb (by rw [h]; exact List.mem_cons_self))]
      exact e
theorem set_texts {l : Addr} {its : Array Value} (ys : List Str) {Q : Value → Shared → Prop} (hh : A.handled = none) (hl : z.heap.IsList l its) (hit : StrsAre its.toList ys) (hb : ys.length + 1 < scanBound)
    (h : ∀ (g' : Heap) (tk c : Nat), SetS P w g' z.heap.objs.size (fun j => decide (j ∈ ys)) c → c ≤ ys.length → (∀ b o, z.heap.get? b = some o → g'.get? b = some o) → Q (.ref z.heap.objs.size) { z with heap := g', toks := tk }) :
    wpAny (model P w) A (call (.type "set") [.ref l]) Q E z := by
  have isz : its.size = ys.length := by
    rw [← StrsAre.len_eq hit, Array.length_toList]
  obtain ⟨cl, tl, hmro⟩ := F.called_set.mro
  have made := F.called_set.made
  have sub := F.called_set.sub
  refine wpAny_call (codeAny_of_tree (show wpAny _ _ (callAny (.type "set") _) _ _ _ from wpAny_pure ⟨Code.quiet_builtin _ (by decide +kernel), codeAny_builtin F.entry_type_call ?_⟩))
  rw [Around.under_plain (weight_type_call_type "set" [.ref l] []) rfl]
  have k1 := F.called_set.notType
  have k2 := F.called_set.canCreate
  have k3 := F.typeCall_set_1 (.ref l)
  repeat (any_goals (first | assumption | wp_step))
  refine codeAny_mono (code_set_led1 (.ref l) (E := E) (Q₁ := fun x z1 => x = .ref z.heap.objs.size ∧ z1 = { z with heap := z.heap.push (newSet w) }) ⟨rfl, rfl⟩) fun r z1 hr => ?_
  cases r with
  | error e => exact hr
  | ok fl =>
    cases fl with
    | ret ob =>
      obtain ⟨rfl, rfl⟩ := hr
      have hS : (z.heap.push (newSet w)).get? z.heap.objs.size = some (newSet w) := Heap.get?_push_size _ rfl
      have hT : Shared.TypeIs { z with heap := z.heap.push (newSet w) } (.ref z.heap.objs.size) "set" := ⟨_, hS, rfl⟩
      have hli := F.called_set.init.lookup
      have hbi := F.called_set.init.bind (.ref z.heap.objs.size)
      repeat (any_goals (first | assumption | wp_step))
      refine codeAny_mono (codeAny_call_builtin (R := wants (fun r z2 => r = .none ∧ ∃ g' tk c, z2 = { z with heap := g', toks := tk } ∧ SetS P w g' z.heap.objs.size (fun j => decide (j ∈ ys)) c ∧ c ≤ ys.length ∧ (∀ b o, z.heap.get? b = some o → g'.get? b = some o)) E) F.called_set.init.plain F.entry_set_init (check_set_init_1 hT ?_)) fun r2 z2 hr2 => ?_
      · obtain ⟨ol, hol, hcl, nl, hdl⟩ := hl
        obtain ⟨ocls, odict, odata, oslots⟩ := ol
        dsimp only at hcl hdl
        cases hcl
        cases hdl
        have hol' : (z.heap.push (newSet w)).get? l = some { cls := .type "list", dict := odict, data := .seq its nl, slots := oslots } := Heap.get?_push_of_some _ hol
        have hsls := F.sub_list_set
        have hslf := F.sub_list_frozenset
        have hne : (Value.type "list" == Value.type "dict") = false := by decide
        have hl1 : (z.heap.push (newSet w)).IsList l its := ⟨_, hol', rfl, nl, rfl⟩
        unfold Builtin.«set.__init__» noKeywords Builtin.Frozenset.updateFrom
        generalize hPI : pyIter = PI
        wp_walk
        subst hPI
        refine wpAny_pyIter_list hl1 (wpAny_bind (wpAny_runValue ?_))
        have lS : l < z.heap.objs.size := Heap.lt_size hol
        have h3 : A.in1.in1.in1.handled = none := by simp [hh]
        have nI : l ≠ (z.heap.push (newSet w)).objs.size := by
          rw [Heap.size_push]
          exact Nat.ne_of_lt (Nat.lt_succ_of_lt lS)
        have nS : z.heap.objs.size ∉ [(z.heap.push (newSet w)).objs.size, l] := by
          rw [Heap.size_push]
          simp only [List.mem_cons, List.not_mem_nil, or_false, not_or]
          exact ⟨Nat.ne_of_lt (Nat.lt_succ_self z.heap.objs.size), Nat.ne_of_gt lS⟩
        have val : ∀ (i : Nat) (v : Value), its[i]? = some v → ∃ y t, ys[i]? = some y ∧ v = .str y t := by
          intro i v ev
          have li : i < ys.length := by
            rw [← isz]
            exact (Array.getElem?_eq_some_iff.mp ev).1
          obtain ⟨t, e⟩ := SS.strs_at hit i v (by rw [Array.getElem?_toList]; exact ev)
          refine ⟨ys[i], t, List.getElem?_eq_getElem li, ?_⟩
          rw [e, List.getD_eq_getElem?_getD, List.getElem?_eq_getElem li]
          rfl
        refine setS_all ((Walks.list h3 _ l nI its).toS) z.heap.objs.size nS ys isz hb val (its.size - 0) 0 _ (by omega) (Nat.zero_le _) ⟨⟨_, Heap.get?_push_size _ rfl, rfl, rfl⟩, (hl1.push _)⟩ ⟨0, Nat.le_refl 0, ?_⟩ ?_
        · refine (setS_none (g := _) (a := z.heap.objs.size) (Heap.get?_push_of_some _ hS)).as fun j => ?_
          simp
        · intro z' c' hm lc hS'
          obtain ⟨g', g2, d', tk', os'⟩ := z'
          cases (show g2 = z.gens from hm.gens)
          cases (show d' = z.drawn from hm.drawn)
          cases (show os' = z.os from hm.os)
          show wpAny _ _ _ _ _ _
          refine wpAny_pure ?_
          show wpAny _ _ (ret Value.none) _ _ _
          rw [isz] at lc
          refine wpAny_pure ⟨rfl, g', tk', c', rfl, hS', lc, fun b o e => ?_⟩
          have b0 : b < z.heap.objs.size := Heap.lt_size e
          refine hm.heap b o ?_ (Heap.get?_push_of_some _ (Heap.get?_push_of_some _ e))
          rw [Heap.size_push]
          simp only [List.mem_cons, List.not_mem_nil, or_false, not_or]
          exact ⟨Nat.ne_of_lt b0, Nat.ne_of_lt (Nat.lt_succ_of_lt b0)⟩
      · cases r2 with
        | error e => exact hr2
        | ok fl2 =>
          cases fl2 with
          | ret r =>
            obtain ⟨rfl, g', tk, c', rfl, hS', lc, kp⟩ := hr2
            repeat (any_goals (first | assumption | wp_step))
            exact h _ _ _ hS' lc kp
          | _ => exact hr2.elim
    | _ => exact hr.elim
/-- what is in a list of values, as texts -/
theorem texts_of : ∀ (l : List Value), (∀ v ∈ l, ∃ y tk, v = Value.str y tk) → StrsAre l (l.map fun v => txK (0, v))
  | [], _ => .nil
  | v :: l, h => by
    obtain ⟨y, tk, rfl⟩ := h v List.mem_cons_self
    exact .cons y tk (texts_of l fun u hu => h u (List.mem_cons_of_mem _ hu))
theorem sorted_texts {a : Addr} {M : Str → Bool} {c : Nat} {Q : Value → Shared → Prop} (R : SetS P w z.heap a M c) (hh : A.handled = none) (h64 : c < 64)
    (hQ : ∀ z' p (out : Array Value) (n : Nat) (ys : List Str), (∀ b o, z.heap.get? b = some o → z'.heap.get? b = some o) → z'.gens = z.gens → z'.os = z.os → z.heap.objs.size ≤ p →
      z'.heap.get? p = some (seqObj "list" out n) → StrsAre out.toList ys → sortedS ys = true → ys.Nodup → (∀ y, y ∈ ys ↔ M y = true) → ys.length = c → Q (.ref p) z') :
    wpAny (model P w) A (call (.builtin "sorted") [.ref a]) Q E z := by
  obtain ⟨o, es, ep, t, ho, hx, hd, gd, nd, hm, hb, hf, hn, ri, le⟩ := R
  refine Calls.call_function_entry kind_sorted plain_sorted entry_sorted (args_sorted1 _) ?_
  unfold Builtin.«sorted»
  refine wpAny_bind (m := checkCount "sorted" 1 1 _) (wpAny_pure (wpAny_bind (collect_set (A := A.in1) hh ⟨o, ho, hx.1, hd⟩ hf hb ri le fun z1 vs k1 hz g1 o1 pm => ?_)))
  have vl : vs.length = c := by
    rw [pm.length_eq, List.length_map, Array.length_toList]
    exact hn
  have hS : StrsAre vs (vs.map fun v => txK (0, v)) := texts_of vs fun v hv => by
    obtain ⟨e, he, q⟩ := List.mem_map.mp (pm.mem_iff.mp hv)
    obtain ⟨y, tk, h1, _⟩ := gd e he
    exact ⟨y, tk, q ▸ h1⟩
  have pk : (vs.map fun v => txK (0, v)).Perm (es.toList.map txK) := by
    have q := pm.map fun v => txK (0, v)
    rw [List.map_map] at q
    exact q
  refine wpAny_bind (wpAny_newList ?_ (by rw [vl, sizeLine_eq]; omega))
  have oL : (z1.heap.push (seqObj "list" vs.toArray 0)).get? z1.heap.objs.size = some (seqObj "list" vs.toArray 0) := Heap.get?_push_size _ rfl
  refine wpAny_bind (wpAny_holding (wpAny_call_entry slot_list_sort ⟨_, oL, rfl⟩ entry_list_sort (list_sort_treeK strKind_oneLt (s := { z1 with heap := z1.heap.push (seqObj "list" vs.toArray 0) }) oL hS.keysOf (fun v1 v2 rest e => keyKind_strs (by rw [← e]; exact hS)) (by rw [vl]; exact h64) fun st' hp hs => ⟨_, rfl, ?_⟩) (args_list_sort _)))
  obtain ⟨ys, q1, q2, q3⟩ := sorted_out_str hS hp hs
  obtain ⟨n, hc⟩ := sortedHeap_at (vs := vs) (out := (arrOf st').map (·.2)) oL
  have pn : ys.Perm (es.toList.map txK) := q2.trans pk
  refine wpAny_pure ⟨_, rfl, hQ _ z1.heap.objs.size _ n ys (fun b u e => ?_) g1 o1 hz hc q1 q3 (pn.nodup_iff.mpr nd) (fun y => by rw [pn.mem_iff, ← hm y]) ?_⟩
  · have q := k1 b u e
    have lt := Heap.lt_size q
    show (sortedHeap (z1.heap.push (seqObj "list" vs.toArray 0)) z1.heap.objs.size vs _).get? b = some u
    rw [sortedHeap_old (Nat.ne_of_lt lt) (by rw [size_push']; exact Nat.lt_succ_of_lt lt)]
    exact Heap.get?_push_of_some _ q
  · rw [pn.length_eq, List.length_map, Array.length_toList]
    exact hn
end
section
variable {X : Cx}
/-- sorted(set(e)), e a list of fewer than 64 texts -/
def tSrt (K : PySem.W.Frag) (ta : TE) : TE := fun σ G Q => ta σ G fun x G1 => ∃ (l : Addr) (ys : List Str), x = .ref l ∧ SqL K G1 l (ys.map V.str) ∧ ys.length < 63 ∧
  ∀ (ts : List Str) (p : Addr), sortedS ts = true → ts.Nodup → (∀ y, y ∈ ts ↔ y ∈ ys) → G1 p = none → Q (.ref p) (upd G1 p (.lst (ts.map V.str)))
theorem pe_srt {e : Expr} {ta : TE} {p p2 q pos : Pos} (hc : X.calm = true) (hg : Gl X "sorted") (hm : X.mg "sorted" = none) (hg2 : Gl X "set") (hm2 : X.mg "set" = none) (ha : PE X e ta)
    (na : starEach [e] X.env = (false, eval e X.env) :: starEach [] X.env := by rfl) : PE X (.Call (.Name "sorted" p) [.Call (.Name "set" p2) [e] [] q] [] pos) (tSrt X.K ta) := by
  refine ⟨fun pins z σ G Q I h => Call_ (ld_blt I hg hm boot_sorted (PyProof.Rows.callWith_builtin1 (PyProof.Rows.args_cons (Call_ (ld_blt I hg2 hm2 boot_set ?_)) rfl) rfl rfl))⟩
  refine PyProof.Rows.callWith_type1 (PyProof.Rows.args_cons (thn (ha.run pins z σ G _ I h) fun v z1 ⟨x, G1, I1, r1, q1⟩ => PyProof.Rows.args_nil ?_) na) na rfl
  obtain ⟨l, ys, rfl, hs, hl, q1⟩ := q1
  cases r1
  obtain ⟨its, rv, pl, _⟩ := I1.list hs
  have hS : StrsAre its.toArray.toList ys := by simpa using strsAre_of rv
  refine set_texts ys (I1.ok.hd hc) pl.isList hS (by unfold scanBound; omega) fun g' tk c R lc kp => PyProof.Rows.args_nil ?_
  have I2 : Inv X pins σ G1 { z1 with heap := g', toks := tk } := I1.kept kp
  refine sorted_texts (z := { z1 with heap := g', toks := tk }) R (I2.ok.hd hc) (by omega) fun z2 a out n ts k2 e2 o2 za ha' hts srt nd mem ln => ?_
  have len : (ts.map V.str).length ≤ sizeLine := by
    rw [List.length_map, ln, sizeLine_eq]
    omega
  have na : G1 a = none := I2.hok.fresh za
  have J : Inv X pins σ (upd G1 a (.lst (ts.map V.str))) { { z1 with heap := g', toks := tk } with heap := z2.heap, gens := z2.gens, drawn := z2.drawn, toks := z2.toks } :=
    I2.call (ch := []) (Un.laid k2 za na) (I2.hok.laid k2 za ⟨len, out.toList, n, vals_of_strs hts, by rw [Array.toArray_toList]; exact ha'⟩) (by rw [e2]; exact I2.bare) (fun _ y => nomatch y)
  have ez : z2 = { { z1 with heap := g', toks := tk } with heap := z2.heap, gens := z2.gens, drawn := z2.drawn, toks := z2.toks } := by
    cases z2
    cases z1
    cases o2
    rfl
  rw [ez]
  exact ⟨.ref a, _, J, rfl, q1 ts a srt nd (fun y => by rw [mem y, decide_eq_true_iff]) na⟩
end
end PD

/-! Phrasedesk: a desk's state, as it lies in a dict of the law's own -/
namespace PD
open PySem PySem.Spec PyProof.Rows L2
structure Pt where
  p : Nat
  t : Nat
  x : Str
  s : Option Int
structure De where
  n : Nat
  puts : List Pt
  lie : Nat → Nat → List Int
def De.none : De := ⟨0, [], fun _ _ => []⟩
def De.now (S : De) (p t : Nat) : Option Int := (S.lie p t).getLast?
def setL (f : Nat → Nat → List Int) (p t : Nat) (ns : List Int) : Nat → Nat → List Int := fun p' t' => if p' = p ∧ t' = t then ns else f p' t'
def De.lay (S : De) (p t : Nat) (x : Str) (s : Option Int) : De := ⟨S.n, S.puts ++ [⟨p, t, x, s⟩], setL S.lie p t (S.lie p t ++ [(S.puts.length : Int)])⟩
def De.more (S : De) : De := ⟨S.n + 1, S.puts, S.lie⟩
def De.off (S : De) (p t : Nat) : De := ⟨S.n, S.puts, setL S.lie p t (S.lie p t).dropLast⟩
def De.pt (S : De) (k : Int) : Pt := S.puts.getD k.toNat ⟨0, 0, Str.empty, Option.none⟩
def De.cell (S : De) (p t : Nat) : Cell := (S.now p t).map fun k => (k, (S.pt k).s)
def De.row (S : De) (m p : Nat) : List Cell := (List.range m).map fun t => S.cell p t
/-- a put as it lies -/
def PtV (H : Hp) (v : V) (u : Pt) : Prop := ∃ q, v = .ref q ∧ H q = some (.tup [.int u.p, .int u.t, .str u.x, oV u.s])
theorem PtV.same {H H' : Hp} (e : Same H H') {v : V} {u : Pt} (h : PtV H v u) : PtV H' v u := let ⟨q, a, b⟩ := h; ⟨q, a, e _ _ b⟩
def LieV (H : Hp) (l : Addr) : Option V → List Int → Prop
  | .none, ns => ns = []
  | .some v, ns => ∃ a, v = .ref a ∧ a ≠ l ∧ LsAt H a ns
theorem LieV.same {H H' : Hp} {l : Addr} (e : Same H H') : ∀ {r : Option V} {ns : List Int}, LieV H l r ns → LieV H' l r ns
  | .none, _, h => h
  | .some _, _, ⟨a, x, z, y⟩ => ⟨a, x, z, y.same e⟩
abbrev ty (p t : Nat) : List Key := [Sum.inl (p : Int), Sum.inl (t : Int)]
theorem ty_inj {p t p' t' : Nat} (h : ty p t = ty p' t') : p = p' ∧ t = t' := by
  have h1 : (Sum.inl (p : Int) : Key) = Sum.inl (p' : Int) := (List.cons.inj h).1
  have h2 : (Sum.inl (t : Int) : Key) = Sum.inl (t' : Int) := (List.cons.inj (List.cons.inj h).2).1
  have h3 := Sum.inl.inj h1
  have h4 := Sum.inl.inj h2
  omega
abbrev kP : Key := Sum.inr "phrases"
abbrev kU : Key := Sum.inr "puts"
abbrev kL : Key := Sum.inr "lying"
abbrev topK (n : Nat) (l d : Addr) : List (Key × V) := [(kP, .int (n : Int)), (kU, .ref l), (kL, .ref d)]
structure Here (H : Hp) (o l d : Addr) (S : De) : Prop where
  top : H o = some (.dK (topK S.n l d))
  puts : ∃ vs, H l = some (.lst vs) ∧ All2 (PtV H) vs S.puts
  lie : ∃ kvs, H d = some (.dT kvs) ∧ kvs.length ≤ S.puts.length ∧ ∀ p t : Nat, LieV H l (valV kvs (ty p t)) (S.lie p t)
  few : S.puts.length ≤ 5000
  lens : ∀ p t, (S.lie p t).length ≤ S.puts.length
theorem Here.same {H H' : Hp} (e : Same H H') {o l d : Addr} {S : De} (h : Here H o l d S) : Here H' o l d S := by
  obtain ⟨vs, h1, h2⟩ := h.puts
  obtain ⟨kvs, h3, h4, h5⟩ := h.lie
  exact ⟨e _ _ h.top, ⟨vs, e _ _ h1, h2.mono fun _ _ z => z.same e⟩, ⟨kvs, e _ _ h3, h4, fun p t => (h5 p t).same e⟩, h.few, h.lens⟩
theorem topP (n : Nat) (l d : Addr) : valV (topK n l d) kP = some (.int (n : Int)) := rfl
theorem topU (n : Nat) (l d : Addr) : valV (topK n l d) kU = some (.ref l) := rfl
theorem topL (n : Nat) (l d : Addr) : valV (topK n l d) kL = some (.ref d) := rfl
/-- all but the three stays -/
def Off (o l d : Addr) (H H' : Hp) : Prop := ∀ a x, a ≠ o → a ≠ l → a ≠ d → H a = some x → H' a = some x
/-- a text that may be put -/
structure TxOk (x : Str) : Prop where
  lo : 1 ≤ x.length
  hi : x.length ≤ 6
  each : ∀ c ∈ x.cps.toList, 97 ≤ c ∧ c ≤ 122
theorem app_cps (x y : Str) : (x ++ y).cps.toList = x.cps.toList ++ y.cps.toList := Array.toList_append
theorem app_len (x y : Str) : (x ++ y).length = x.length + y.length := Array.size_append
theorem az_at : ∀ j : Nat, j < 26 → (Str.ofString "abcdefghijklmnopqrstuvwxyz").cps.toList[j]? = some (97 + j) := by
  have h : ∀ j : _root_.Fin 26, (Str.ofString "abcdefghijklmnopqrstuvwxyz").cps.toList[j.val]? = some (97 + j.val) := by decide +kernel
  exact fun j hj => h ⟨j, hj⟩
theorem Off.same {o l d : Addr} {H H' H2 : Hp} (h : Off o l d H H') (e : Same H' H2) : Off o l d H H2 := fun a x h1 h2 h3 q => e _ _ (h a x h1 h2 h3 q)
theorem off_same {o l d : Addr} {H H' H2 : Hp} (e : Same H H') (h : Off o l d H' H2) : Off o l d H H2 := fun a x h1 h2 h3 q => h a x h1 h2 h3 (e _ _ q)
theorem Off.refl {o l d : Addr} {H : Hp} : Off o l d H H := fun _ _ _ _ _ q => q
theorem Off.trans {o l d : Addr} {H H' H2 : Hp} (h : Off o l d H H') (e : Off o l d H' H2) : Off o l d H H2 := fun a x h1 h2 h3 q => e a x h1 h2 h3 (h a x h1 h2 h3 q)
theorem Here.ne {H : Hp} {o l d : Addr} {S : De} (h : Here H o l d S) : o ≠ l ∧ o ≠ d ∧ l ≠ d := by
  obtain ⟨vs, h1, _⟩ := h.puts
  obtain ⟨kvs, h2, _⟩ := h.lie
  exact ⟨ne_of h.top h1 (fun z => nomatch z), ne_of h.top h2 (fun z => nomatch z), ne_of h1 h2 (fun z => nomatch z)⟩
/-- one more phrase -/
theorem Here.one {H : Hp} {o l d : Addr} {S : De} (h : Here H o l d S) : Here (upd H o (.dK (topK (S.n + 1) l d))) o l d S.more := by
  obtain ⟨n1, n2, n3⟩ := h.ne
  obtain ⟨vs, h1, h2⟩ := h.puts
  obtain ⟨kvs, h3, h4, h5⟩ := h.lie
  refine ⟨upd_same, ⟨vs, ?_, h2.mono ?_⟩, ⟨kvs, ?_, h4, ?_⟩, h.few, h.lens⟩
  · rw [upd_ne (Ne.symm n1)]
    exact h1
  · rintro v u ⟨q, a, b⟩
    refine ⟨q, a, ?_⟩
    rw [upd_ne (ne_of b h.top (fun z => nomatch z))]
    exact b
  · rw [upd_ne (Ne.symm n2)]
    exact h3
  · intro p t
    have z := h5 p t
    cases e : valV kvs (ty p t) with
    | none =>
      rw [e] at z
      exact z
    | some v =>
      rw [e] at z
      obtain ⟨a, x, nl, y⟩ := z
      refine ⟨a, x, nl, ?_⟩
      unfold LsAt
      rw [upd_ne (ne_of y h.top (fun z => nomatch z))]
      exact y
theorem off_o {o l d : Addr} {H : Hp} {x : HO} : Off o l d H (upd H o x) := fun a y h1 _ _ q => by
  rw [upd_ne h1]
  exact q
theorem off_l {o l d : Addr} {H : Hp} {x : HO} : Off o l d H (upd H l x) := fun a y _ h1 _ q => by
  rw [upd_ne h1]
  exact q
theorem off_d {o l d : Addr} {H : Hp} {x : HO} : Off o l d H (upd H d x) := fun a y _ _ h1 q => by
  rw [upd_ne h1]
  exact q
/-- one is put -/
theorem Here.lay {H H1 H3 : Hp} {o l d q a : Addr} {S : De} {vs : List V} {kvs : List (List Key × V)} {p t : Nat} {x : Str} {s : Option Int} (h : Here H o l d S) (fw : S.puts.length < 5000) (s1 : Same H H1) (hq : H1 q = some (.tup [.int p, .int t, .str x, oV s]))
    (hl : H1 l = some (.lst vs)) (s3 : Same (upd H1 l (.lst (vs ++ [.ref q]))) H3) (hd : H3 d = some (.dT kvs)) (na : a ≠ l) (ha : LsAt H3 a (S.lie p t ++ [(S.puts.length : Int)])) :
    Here (upd H3 d (.dT (putK kvs (ty p t) (.ref a)))) o l d (S.lay p t x s) ∧ Off o l d H (upd H3 d (.dT (putK kvs (ty p t) (.ref a)))) := by
  obtain ⟨n1, n2, n3⟩ := h.ne
  have h1 := h.same s1
  obtain ⟨vs', e1, h2⟩ := h1.puts
  rw [hl] at e1
  cases (HO.lst.inj (Option.some.inj e1))
  obtain ⟨kvs', e3, h4, h5⟩ := h1.lie
  have e3' : H3 d = some (.dT kvs') := s3 _ _ (by rw [upd_ne (Ne.symm n3)]; exact e3)
  rw [hd] at e3'
  cases (HO.dT.inj (Option.some.inj e3'))
  have keepT : ∀ {b : Addr} {xs : List V}, H1 b = some (.tup xs) → (upd H3 d (.dT (putK kvs (ty p t) (.ref a)))) b = some (.tup xs) := by
    intro b xs e
    have z : H3 b = some (.tup xs) := s3 _ _ (by rw [upd_ne (ne_of e hl (fun z => nomatch z))]; exact e)
    rw [upd_ne (ne_of z hd (fun z => nomatch z))]
    exact z
  refine ⟨⟨?_, ⟨vs ++ [.ref q], ?_, ?_⟩, ⟨_, upd_same, ?_, ?_⟩, ?_, ?_⟩, ?_⟩
  · rw [upd_ne n2]
    exact s3 _ _ (by rw [upd_ne n1]; exact h1.top)
  · rw [upd_ne n3]
    exact s3 _ _ upd_same
  · refine All2.app (h2.mono ?_) (All2.cons ⟨q, rfl, keepT hq⟩ All2.nil)
    rintro v u ⟨b, x, y⟩
    exact ⟨b, x, keepT y⟩
  · show _ ≤ (S.puts ++ [_]).length
    have := length_putK kvs (ty p t) (.ref a)
    rw [List.length_append, List.length_singleton]
    omega
  · intro p' t'
    rw [valV_put]
    show LieV _ l _ (setL S.lie p t _ p' t')
    unfold setL
    by_cases e : ty p' t' = ty p t
    · rw [if_pos e, if_pos (ty_inj e)]
      refine ⟨a, rfl, na, ?_⟩
      unfold LsAt
      rw [upd_ne (ne_of ha hd (fun z => nomatch z))]
      exact ha
    · rw [if_neg e, if_neg (fun z => e (by rw [z.1, z.2]))]
      have z := h5 p' t'
      cases ev : valV kvs (ty p' t') with
      | none =>
        rw [ev] at z
        exact z
      | some v =>
        rw [ev] at z
        obtain ⟨b, x1, bl, y1⟩ := z
        refine ⟨b, x1, bl, ?_⟩
        have y3 : H3 b = some (.lst ((S.lie p' t').map V.int)) := s3 _ _ (by rw [upd_ne bl]; exact y1)
        unfold LsAt
        rw [upd_ne (ne_of y3 hd (fun z => nomatch z))]
        exact y3
  · show (S.puts ++ [_]).length ≤ 5000
    rw [List.length_append, List.length_singleton]
    omega
  · intro p' t'
    show (setL S.lie p t _ p' t').length ≤ (S.puts ++ [_]).length
    have z := h.lens p' t'
    rw [List.length_append, List.length_singleton]
    unfold setL
    split
    · next e =>
      rw [e.1, e.2] at z
      rw [List.length_append, List.length_singleton]
      omega
    · omega
  · exact (off_same s1 off_l).trans ((Off.refl.same s3).trans off_d)
/-- what stands is taken back -/
theorem Here.back {H H3 : Hp} {o l d a : Addr} {S : De} {kvs : List (List Key × V)} {p t : Nat} (h : Here H o l d S) (s3 : Same H H3) (hd : H3 d = some (.dT kvs)) (there : (valV kvs (ty p t)).isSome = true) (na : a ≠ l) (ha : LsAt H3 a (S.lie p t).dropLast) :
    Here (upd H3 d (.dT (putK kvs (ty p t) (.ref a)))) o l d (S.off p t) ∧ Off o l d H (upd H3 d (.dT (putK kvs (ty p t) (.ref a)))) := by
  obtain ⟨n1, n2, n3⟩ := h.ne
  have h3 := h.same s3
  obtain ⟨vs, e1, h2⟩ := h3.puts
  obtain ⟨kvs', e3, h4, h5⟩ := h3.lie
  rw [hd] at e3
  cases (HO.dT.inj (Option.some.inj e3))
  refine ⟨⟨?_, ⟨vs, ?_, h2.mono ?_⟩, ⟨_, upd_same, ?_, ?_⟩, h.few, ?_⟩, off_same s3 off_d⟩
  · rw [upd_ne n2]
    exact h3.top
  · rw [upd_ne n3]
    exact e1
  · rintro v u ⟨b, x, y⟩
    refine ⟨b, x, ?_⟩
    rw [upd_ne (ne_of y hd (fun z => nomatch z))]
    exact y
  · unfold putK
    rw [valV_any, there, if_pos rfl, List.length_map]
    exact h4
  · intro p' t'
    rw [valV_put]
    show LieV _ l _ (setL S.lie p t _ p' t')
    unfold setL
    by_cases e : ty p' t' = ty p t
    · rw [if_pos e, if_pos (ty_inj e)]
      refine ⟨a, rfl, na, ?_⟩
      unfold LsAt
      rw [upd_ne (ne_of ha hd (fun z => nomatch z))]
      exact ha
    · rw [if_neg e, if_neg (fun z => e (by rw [z.1, z.2]))]
      have z := h5 p' t'
      cases ev : valV kvs (ty p' t') with
      | none =>
        rw [ev] at z
        exact z
      | some v =>
        rw [ev] at z
        obtain ⟨b, x1, bl, y1⟩ := z
        refine ⟨b, x1, bl, ?_⟩
        unfold LsAt
        rw [upd_ne (ne_of y1 hd (fun z => nomatch z))]
        exact y1
  · intro p' t'
    show (setL S.lie p t _ p' t').length ≤ S.puts.length
    have z := h.lens p' t'
    unfold setL
    split
    · next e =>
      rw [e.1, e.2] at z
      rw [List.length_dropLast]
      omega
    · exact z
theorem one_ix {j n : Nat} {α : Type} {x y : α} (h : n ≤ j) (e : [x][j - n]? = some y) : j = n ∧ y = x := by
  have ej : j - n = 0 := by
    by_cases z : j - n = 0
    · exact z
    · rw [show j - n = (j - n - 1) + 1 by omega] at e
      simp at e
  rw [ej] at e
  exact ⟨by omega, (Option.some.inj e).symm⟩
theorem RowAt.snoc {H : Hp} {D : Addr} {vs : List V} {row : List Cell} {v : V} {c : Cell} (h : RowAt H D row) (hv : H D = some (.lst vs)) (hc : CellV H v c) : RowAt (upd H D (.lst (vs ++ [v]))) D (row ++ [c]) := by
  obtain ⟨ws, hw, hcs⟩ := h
  rw [hv] at hw
  cases (HO.lst.inj (Option.some.inj hw))
  have keep : ∀ {v : V} {c : Cell}, CellV H v c → CellV (upd H D (.lst (vs ++ [v]))) v c := by
    intro v c h
    match c, h with
    | none, h => exact h
    | some (n, b), ⟨q, e1, e2⟩ => exact ⟨q, e1, by rw [upd_ne (ne_of e2 hv (fun z => nomatch z))]; exact e2⟩
  have keep2 : ∀ {u : V} {c : Cell}, CellV H u c → CellV (upd H D (.lst (vs ++ [v]))) u c := by
    intro u c h
    match c, h with
    | none, h => exact h
    | some (n, b), ⟨q, e1, e2⟩ => exact ⟨q, e1, by rw [upd_ne (ne_of e2 hv (fun z => nomatch z))]; exact e2⟩
  refine ⟨_, upd_same, ⟨by rw [List.length_append, List.length_append, hcs.len]; rfl, fun i d e => ?_⟩⟩
  by_cases hi : i < row.length
  · rw [List.getElem?_append_left hi] at e
    obtain ⟨w, h1, h2⟩ := hcs.each i d e
    exact ⟨w, by rw [List.getElem?_append_left (by rw [hcs.len]; exact hi)]; exact h1, keep2 h2⟩
  · rw [List.getElem?_append_right (by omega)] at e
    obtain ⟨e1, rfl⟩ := one_ix (by omega) e
    subst e1
    exact ⟨v, by rw [List.getElem?_append_right (by rw [hcs.len]; omega), hcs.len, Nat.sub_self]; rfl, keep2 hc⟩
/-- all that was ever put: numbers and texts -/
def evG (p t : Nat) : Nat → List Pt → List (Int × Str)
  | _, [] => []
  | k, u :: r => (if u.p = p ∧ u.t = t then [((k : Int), u.x)] else []) ++ evG p t (k + 1) r
theorem evG_snoc {p t : Nat} {u : Pt} : ∀ {l : List Pt} {k : Nat}, evG p t k (l ++ [u]) = evG p t k l ++ (if u.p = p ∧ u.t = t then [(((k + l.length : Nat) : Int), u.x)] else [])
  | [], k => by
    show (_ ++ []) = _
    rw [List.append_nil]
    rfl
  | v :: r, k => by
    show _ ++ evG p t (k + 1) (r ++ [u]) = (_ ++ evG p t (k + 1) r) ++ _
    rw [evG_snoc, List.append_assoc, List.length_cons, show k + 1 + r.length = k + (r.length + 1) by omega]
def De.ever (S : De) (p t : Nat) : List (Int × Str) := evG p t 0 S.puts
theorem evG_mem {p t : Nat} {e : Int × Str} : ∀ {l : List Pt} {k : Nat}, e ∈ evG p t k l ↔ ∃ (j : Nat) (u : Pt), l[j]? = some u ∧ u.p = p ∧ u.t = t ∧ e = (((k + j : Nat) : Int), u.x)
  | [], k => by simp [evG]
  | v :: r, k => by
    show e ∈ _ ++ evG p t (k + 1) r ↔ _
    rw [List.mem_append, evG_mem]
    constructor
    · rintro (h | ⟨j, u, h1, h2, h3, h4⟩)
      · by_cases c : v.p = p ∧ v.t = t
        · rw [if_pos c] at h
          exact ⟨0, v, rfl, c.1, c.2, List.mem_singleton.mp h⟩
        · rw [if_neg c] at h
          cases h
      · exact ⟨j + 1, u, by simpa using h1, h2, h3, by rw [h4, show k + 1 + j = k + (j + 1) by omega]⟩
    · rintro ⟨j, u, h1, h2, h3, h4⟩
      cases j with
      | zero =>
        cases (Option.some.inj h1)
        refine .inl ?_
        rw [if_pos ⟨h2, h3⟩]
        exact List.mem_singleton.mpr h4
      | succ j => exact .inr ⟨j, u, by simpa using h1, h2, h3, by rw [h4, show k + 1 + j = k + (j + 1) by omega]⟩
theorem evG_len {p t : Nat} : ∀ {l : List Pt} {k : Nat}, (evG p t k l).length ≤ l.length
  | [], k => Nat.le_refl _
  | v :: r, k => by
    show (_ ++ evG p t (k + 1) r).length ≤ r.length + 1
    rw [List.length_append]
    have := evG_len (p := p) (t := t) (l := r) (k := k + 1)
    by_cases c : v.p = p ∧ v.t = t
    · rw [if_pos c]
      show 1 + _ ≤ _
      omega
    · rw [if_neg c]
      show 0 + _ ≤ _
      omega
def EvV (H : Hp) (v : V) (e : Int × Str) : Prop := ∃ q, v = .ref q ∧ H q = some (.tup [.int e.1, .str e.2])
theorem EvV.same {H H' : Hp} (s : Same H H') {v : V} {e : Int × Str} (h : EvV H v e) : EvV H' v e := let ⟨q, a, b⟩ := h; ⟨q, a, s _ _ b⟩
def EvAt (H : Hp) (a : Addr) (l : List (Int × Str)) : Prop := ∃ vs, H a = some (.lst vs) ∧ All2 (EvV H) vs l
theorem EvAt.same {H H' : Hp} (s : Same H H') {a : Addr} {l : List (Int × Str)} (h : EvAt H a l) : EvAt H' a l := let ⟨vs, x, y⟩ := h; ⟨vs, s _ _ x, y.mono fun _ _ z => z.same s⟩
theorem EvAt.snoc {H : Hp} {D : Addr} {vs : List V} {l : List (Int × Str)} {v : V} {e : Int × Str} (h : EvAt H D l) (hv : H D = some (.lst vs)) (he : EvV H v e) : EvAt (upd H D (.lst (vs ++ [v]))) D (l ++ [e]) := by
  obtain ⟨ws, hw, ha⟩ := h
  rw [hv] at hw
  cases (HO.lst.inj (Option.some.inj hw))
  have keep : ∀ {u : V} {e : Int × Str}, EvV H u e → EvV (upd H D (.lst (vs ++ [v]))) u e := by
    rintro u e ⟨q, e1, e2⟩
    exact ⟨q, e1, by rw [upd_ne (ne_of e2 hv (fun z => nomatch z))]; exact e2⟩
  exact ⟨_, upd_same, All2.app (ha.mono fun _ _ z => keep z) (All2.cons (keep he) All2.nil)⟩
/-- the numbers that lie are numbers of puts -/
def De.Num (S : De) : Prop := ∀ (p t : Nat) (k : Int), k ∈ S.lie p t → 0 ≤ k ∧ ∃ u, S.puts[k.toNat]? = some u ∧ u.p = p ∧ u.t = t
theorem De.Num.now {S : De} (h : S.Num) {p t : Nat} {k : Int} (e : S.now p t = some k) : 0 ≤ k ∧ ∃ u, S.puts[k.toNat]? = some u ∧ u.p = p ∧ u.t = t := h p t k (List.mem_of_getLast? e)
theorem De.pt_at {S : De} {k : Int} {u : Pt} (e : S.puts[k.toNat]? = some u) : S.pt k = u := by
  unfold De.pt
  rw [List.getD_eq_getElem?_getD, e]
  rfl
theorem Here.put_at {H : Hp} {o l d : Addr} {S : De} (h : Here H o l d S) {k : Int} (k0 : 0 ≤ k) {u : Pt} (e : S.puts[k.toNat]? = some u) : ∃ vs q, H l = some (.lst vs) ∧ atI vs k = some (.ref q) ∧ H q = some (.tup [.int u.p, .int u.t, .str u.x, oV u.s]) := by
  obtain ⟨vs, h1, h2⟩ := h.puts
  obtain ⟨v, e1, q, rfl, e2⟩ := h2.each _ _ e
  exact ⟨vs, q, h1, at_of (j := k.toNat) (by omega) e1, e2⟩
/-! ### a state that can be -/
structure De.Ok (fr : List Int) (S : De) : Prop where
  num : S.Num
  six : S.n ≤ 6
  src : ∀ p, p < S.n → S.lie p 0 ≠ []
  each : ∀ (k : Nat) (u : Pt), S.puts[k]? = some u → u.p < S.n ∧ u.t ≤ fr.length ∧ TxOk u.x ∧ (u.t = 0 → u.s = Option.none) ∧ (0 < u.t → ∃ j : Nat, u.s = some (j : Int) ∧ ∃ v, S.puts[j]? = some v ∧ v.p = u.p ∧ v.t = up fr u.t)
theorem De.row_at {S : De} {m p t : Nat} (h : t < m) : (S.row m p)[t]? = some (S.cell p t) := by
  unfold De.row
  rw [List.getElem?_map, List.getElem?_range h]
  rfl
theorem De.row_len {S : De} {m p : Nat} : (S.row m p).length = m := by
  unfold De.row
  rw [List.length_map, List.length_range]
theorem De.Ok.row {fr : List Int} {S : De} (h : S.Ok fr) {p : Nat} (hp : p < S.n) : RowOk fr (S.row (fr.length + 1) p) := by
  refine ⟨De.row_len, ?_, fun j c e => ?_⟩
  · obtain ⟨k, ek⟩ : ∃ k, S.now p 0 = some k := by
      cases e : S.now p 0 with
      | none => exact absurd (List.getLast?_eq_none_iff.mp e) (h.src p hp)
      | some k => exact ⟨k, rfl⟩
    obtain ⟨k0, u, eu, up_, ut⟩ := h.num.now ek
    obtain ⟨_, _, _, hs, _⟩ := h.each _ u eu
    refine ⟨k, ?_, k0⟩
    rw [De.row_at (by omega)]
    unfold De.cell
    rw [ek, Option.map_some, De.pt_at eu, hs ut]
  · have hj : j + 1 < fr.length + 1 := by
      have := (List.getElem?_eq_some_iff.mp e).1
      rw [De.row_len] at this
      exact this
    rw [De.row_at hj] at e
    cases (Option.some.inj e)
    unfold De.cell
    cases en : S.now p (j + 1) with
    | none => exact .inl rfl
    | some k =>
      obtain ⟨k0, u, eu, up_, ut⟩ := h.num.now en
      obtain ⟨_, _, _, _, hs⟩ := h.each _ u eu
      obtain ⟨b, eb, _⟩ := hs (by omega)
      refine .inr ⟨k, b, ?_, k0, Int.natCast_nonneg b⟩
      rw [Option.map_some, De.pt_at eu, eb]
def De.tx (S : De) (p t : Nat) : Str := match S.now p t with
  | some k => (S.pt k).x
  | .none => Str.empty
def De.like (fr : List Int) (S : De) (p t q : Nat) : Bool := decide (q ≠ p) && ((S.now p (up fr t)).isSome && ((S.now q (up fr t)).isSome && (decide (S.tx p (up fr t) = S.tx q (up fr t)) && (chain fr (S.row (fr.length + 1) q) t).isNone)))
def De.found (fr : List Int) (S : De) (p t i : Nat) : List Str := ((List.range i).filter (S.like fr p t)).map fun q => S.tx q t
theorem De.found_yes {fr : List Int} {S : De} {p t i : Nat} (h : S.like fr p t i = true) : S.found fr p t (i + 1) = S.found fr p t i ++ [S.tx i t] := by
  unfold De.found
  rw [List.range_succ, List.filter_append, List.map_append, List.filter_cons_of_pos h, List.filter_nil]
  rfl
theorem De.found_no {fr : List Int} {S : De} {p t i : Nat} (h : S.like fr p t i = false) : S.found fr p t (i + 1) = S.found fr p t i := by
  unfold De.found
  rw [List.range_succ, List.filter_append, List.map_append, List.filter_cons_of_neg (by rw [h]; decide), List.filter_nil]
  exact List.append_nil _
theorem De.found_len {fr : List Int} {S : De} {p t i : Nat} : (S.found fr p t i).length ≤ i := by
  unfold De.found
  rw [List.length_map]
  have := List.length_filter_le (S.like fr p t) (List.range i)
  rw [List.length_range] at this
  exact this
/-- what is fresh stands -/
theorem De.fresh_now {fr : List Int} {S : De} {q t : Nat} (fo : FrOk fr) (t0 : 0 < t) (t1 : t ≤ fr.length) (h : chain fr (S.row (fr.length + 1) q) t = Option.none) : ∃ k, S.now q t = some k := by
  rw [chain_step fo t0 t1] at h
  cases e : S.now q t with
  | some k => exact ⟨k, rfl⟩
  | none =>
    exfalso
    have b : brk fr (S.row (fr.length + 1) q) t = true := by
      have z : (S.row (fr.length + 1) q).getD t Option.none = Option.none := by
        rw [List.getD_eq_getElem?_getD, De.row_at (by omega)]
        unfold De.cell
        rw [e]
        rfl
      unfold brk
      rw [z]
    rw [b] at h
    cases h
/-! ### deeds -/
inductive Deed where
  | phrase (x : Str)
  | fill (t : Nat)
  | back (p t : Nat)
  | put (p t : Nat) (x : Str) (s o : Option Int)
def Deed.vals : Deed → List V
  | .phrase x => [.str "phrase", .str x]
  | .fill t => [.str "fill", .int t]
  | .back p t => [.str "back", .int p, .int t]
  | .put p t x s o => [.str "put", .int p, .int t, .str x, oV s, oV o]
def De.Seen (fr : List Int) (S : De) (p t : Nat) (s : Option Int) : Prop := (t = 0 → s = Option.none) ∧ (0 < t → ∃ k : Nat, s = some (k : Int) ∧ ∃ v, S.puts[k]? = some v ∧ v.p = p ∧ v.t = up fr t)
def De.May (fr : List Int) (S : De) : Deed → Prop
  | .phrase x => S.n < 6 ∧ TxOk x
  | .fill t => 0 < t ∧ t ≤ fr.length
  | .back p t => p < S.n ∧ t ≤ fr.length ∧ (if t = 0 then 1 else 0) < (S.lie p t).length
  | .put p t x s o => p < S.n ∧ t ≤ fr.length ∧ TxOk x ∧ o = S.now p t ∧ S.Seen fr p t s
theorem De.Ok.seen_now {fr : List Int} {S : De} (h : S.Ok fr) {p q : Nat} {k : Int} (e : S.now p q = some k) : ∃ j : Nat, k = (j : Int) ∧ ∃ v, S.puts[j]? = some v ∧ v.p = p ∧ v.t = q := by
  obtain ⟨k0, u, eu, h1, h2⟩ := h.num.now e
  exact ⟨k.toNat, by omega, u, eu, h1, h2⟩
theorem De.seen_ever {S : De} {p q : Nat} {e : Int × Str} (h : e ∈ S.ever p q) : ∃ j : Nat, e.1 = (j : Int) ∧ ∃ v, S.puts[j]? = some v ∧ v.p = p ∧ v.t = q := by
  obtain ⟨j, u, h1, h2, h3, h4⟩ := evG_mem.mp h
  refine ⟨j, ?_, u, h1, h2, h3⟩
  rw [h4]
  show ((0 + j : Nat) : Int) = _
  rw [Nat.zero_add]
/-! ### what comes -/
inductive Line where
  | phrase (p : Nat) (x : Str) (k : Int)
  | put (p t : Nat) (x : Str) (s o : Option Int) (k : Int)
  | back (p t : Nat) (k : Int)
def Line.vals : Line → List V
  | .phrase p x k => [.str "phrase", .int p, .str x, .int k]
  | .put p t x s o k => [.str "put", .int p, .int t, .str x, oV s, oV o, .int k]
  | .back p t k => [.str "back", .int p, .int t, .int k]
inductive Res where
  | num (k : Int)
  | many (l : List Int)
def onlyOf : List Str → Option Str
  | [] => Option.none
  | x :: r => if r.all (fun y => decide (y = x)) then some x else Option.none
def De.fillOne (fr : List Int) (t : Nat) (A : De × List Int × List Line) (p : Nat) : De × List Int × List Line :=
  if (chain fr (A.1.row (fr.length + 1) p) (up fr t)).isNone && (chain fr (A.1.row (fr.length + 1) p) t).isSome then
    match onlyOf (A.1.found fr p t A.1.n) with
    | some x => (A.1.lay p t x (A.1.now p (up fr t)), A.2.1 ++ [(p : Int)], A.2.2 ++ [.put p t x (A.1.now p (up fr t)) (A.1.now p t) (A.1.puts.length : Int)])
    | Option.none => A
  else A
def De.fillTo (fr : List Int) (t : Nat) (S : De) (i : Nat) : De × List Int × List Line := (List.range i).foldl (De.fillOne fr t) (S, [], [])
theorem De.fillTo_succ {fr : List Int} {t : Nat} {S : De} {i : Nat} : S.fillTo fr t (i + 1) = De.fillOne fr t (S.fillTo fr t i) i := by
  unfold De.fillTo
  rw [List.range_succ, List.foldl_append]
  rfl
def De.come (fr : List Int) (S : De) : Deed → De × Res × List Line
  | .phrase x => (S.more.lay S.n 0 x Option.none, .num (S.n : Int), [.phrase S.n x (S.puts.length : Int)])
  | .put p t x s o => (S.lay p t x s, .num (S.puts.length : Int), [.put p t x s o (S.puts.length : Int)])
  | .back p t => (S.off p t, .num ((S.now p t).getD 0), [.back p t ((S.now p t).getD 0)])
  | .fill t => ((S.fillTo fr t S.n).1, .many (S.fillTo fr t S.n).2.1, (S.fillTo fr t S.n).2.2)
theorem snoc_at {α : Type} {l : List α} {x y : α} {k : Nat} (h : (l ++ [x])[k]? = some y) : l[k]? = some y ∨ (k = l.length ∧ y = x) := by
  by_cases hk : k < l.length
  · rw [List.getElem?_append_left hk] at h
    exact .inl h
  · rw [List.getElem?_append_right (by omega)] at h
    obtain ⟨a, b⟩ := one_ix (by omega) h
    exact .inr ⟨a, b⟩
theorem at_snoc {α : Type} {l : List α} {x y : α} {k : Nat} (h : l[k]? = some y) : (l ++ [x])[k]? = some y := by
  rw [List.getElem?_append_left (List.getElem?_eq_some_iff.mp h).1]
  exact h
/-- one more put keeps what can be -/
theorem De.Ok.lay' {fr : List Int} {S : De} (n' : Nat) (hn : n' ≤ 6) (h : S.Num) (hs : ∀ p, p < n' → S.lie p 0 ≠ [] ∨ p = q ∧ t = 0)
    (he : ∀ (k : Nat) (u : Pt), S.puts[k]? = some u → u.p < n' ∧ u.t ≤ fr.length ∧ TxOk u.x ∧ (u.t = 0 → u.s = Option.none) ∧ (0 < u.t → ∃ j : Nat, u.s = some (j : Int) ∧ ∃ v, S.puts[j]? = some v ∧ v.p = u.p ∧ v.t = up fr u.t))
    {x : Str} {s : Option Int} (hq : q < n') (ht : t ≤ fr.length) (tx : TxOk x) (sn : S.Seen fr q t s) (e : S.n = n') : (S.lay q t x s).Ok fr := by
  refine ⟨?_, ?_, ?_, ?_⟩
  · intro p' t' k hk
    have hk' : k ∈ setL S.lie q t (S.lie q t ++ [(S.puts.length : Int)]) p' t' := hk
    unfold setL at hk'
    show 0 ≤ k ∧ ∃ u, (S.puts ++ [_])[k.toNat]? = some u ∧ _
    split at hk'
    · next c =>
      rcases List.mem_append.mp hk' with z | z
      · obtain ⟨k0, u, h1, h2, h3⟩ := h q t k z
        exact ⟨k0, u, at_snoc h1, by rw [h2, c.1], by rw [h3, c.2]⟩
      · have ek : k = (S.puts.length : Int) := List.mem_singleton.mp z
        refine ⟨by omega, ⟨q, t, x, s⟩, ?_, c.1.symm, c.2.symm⟩
        rw [List.getElem?_append_right (by omega), show k.toNat - S.puts.length = 0 by omega]
        rfl
    · obtain ⟨k0, u, h1, h2, h3⟩ := h p' t' k hk'
      exact ⟨k0, u, at_snoc h1, h2, h3⟩
  · show S.n ≤ 6
    omega
  · intro p hp
    show setL S.lie q t (S.lie q t ++ [(S.puts.length : Int)]) p 0 ≠ []
    unfold setL
    split
    · simp
    · next c =>
      rcases hs p (by rw [← e]; exact hp) with z | z
      · exact z
      · exact absurd ⟨z.1, z.2.symm⟩ c
  · intro k u hk
    have lift : ∀ {p' t' : Nat} {s' : Option Int}, (0 < t' → ∃ j : Nat, s' = some (j : Int) ∧ ∃ v, S.puts[j]? = some v ∧ v.p = p' ∧ v.t = up fr t') → 0 < t' → ∃ j : Nat, s' = some (j : Int) ∧ ∃ v, (S.puts ++ [⟨q, t, x, s⟩])[j]? = some v ∧ v.p = p' ∧ v.t = up fr t' := by
      intro p' t' s' z z0
      obtain ⟨j, e1, v, e2, e3⟩ := z z0
      exact ⟨j, e1, v, at_snoc e2, e3⟩
    show u.p < S.n ∧ _
    rw [e]
    rcases snoc_at hk with z | ⟨_, rfl⟩
    · obtain ⟨h1, h2, h3, h4, h5⟩ := he k u z
      exact ⟨h1, h2, h3, h4, lift h5⟩
    · exact ⟨hq, ht, tx, sn.1, lift sn.2⟩
theorem De.Ok.lay {fr : List Int} {S : De} (h : S.Ok fr) {p t : Nat} {x : Str} {s : Option Int} (hp : p < S.n) (ht : t ≤ fr.length) (tx : TxOk x) (sn : S.Seen fr p t s) : (S.lay p t x s).Ok fr :=
  De.Ok.lay' S.n h.six h.num (fun p' hp' => .inl (h.src p' hp')) h.each hp ht tx sn rfl
theorem De.Ok.phrase {fr : List Int} {S : De} (h : S.Ok fr) {x : Str} (n6 : S.n < 6) (tx : TxOk x) : (S.more.lay S.n 0 x Option.none).Ok fr := by
  refine De.Ok.lay' (S := S.more) (S.n + 1) (by omega) h.num (fun p hp => ?_) (fun k u e => ?_) (by omega) (by omega) tx ⟨fun _ => rfl, fun z => by omega⟩ rfl
  · by_cases c : p = S.n
    · exact .inr ⟨c, rfl⟩
    · exact .inl (h.src p (by omega))
  · obtain ⟨h1, h2⟩ := h.each k u e
    exact ⟨by omega, h2⟩
theorem De.Ok.off {fr : List Int} {S : De} (h : S.Ok fr) {p t : Nat} (hl : (if t = 0 then 1 else 0) < (S.lie p t).length) : (S.off p t).Ok fr := by
  refine ⟨?_, h.six, ?_, h.each⟩
  · intro p' t' k hk
    have hk' : k ∈ setL S.lie p t (S.lie p t).dropLast p' t' := hk
    unfold setL at hk'
    split at hk'
    · next c =>
      rw [c.1, c.2]
      exact h.num p t k (List.dropLast_subset _ hk')
    · exact h.num p' t' k hk'
  · intro q hq
    show setL S.lie p t (S.lie p t).dropLast q 0 ≠ []
    unfold setL
    split
    · next c =>
      rw [if_pos c.2.symm] at hl
      intro z
      have := congrArg List.length z
      rw [List.length_dropLast] at this
      simp at this
      omega
    · exact h.src q hq
theorem onlyOf_cons {a : Str} {r : List Str} : onlyOf (a :: r) = if (r.all fun y => decide (y = a)) = true then some a else Option.none := rfl
theorem onlyOf_some {l : List Str} {x : Str} (h : onlyOf l = some x) : ∀ y, y ∈ l ↔ y = x := by
  cases l with
  | nil => cases h
  | cons a r =>
    rw [onlyOf_cons] at h
    by_cases c : (r.all fun y => decide (y = a)) = true
    · rw [if_pos c] at h
      cases (Option.some.inj h)
      intro y
      rw [List.mem_cons]
      refine ⟨fun z => z.elim id fun z => ?_, .inl⟩
      exact of_decide_eq_true (List.all_eq_true.mp c y z)
    · rw [if_neg c] at h
      cases h
theorem onlyOf_of {l : List Str} {x : Str} (h : ∀ y, y ∈ l ↔ y = x) : onlyOf l = some x := by
  cases l with
  | nil => exact absurd ((h x).mpr rfl) (fun z => by cases z)
  | cons a r =>
    have ea : a = x := (h a).mp List.mem_cons_self
    subst ea
    rw [onlyOf_cons, if_pos (List.all_eq_true.mpr fun y hy => decide_eq_true ((h y).mp (List.mem_cons_of_mem _ hy)))]
/-- sorted and each once: one alone, or not -/
theorem only_list {ts l : List Str} (nd : ts.Nodup) (m : ∀ y, y ∈ ts ↔ y ∈ l) : (∃ x, ts = [x] ∧ onlyOf l = some x) ∨ (ts.length ≠ 1 ∧ onlyOf l = Option.none) := by
  cases e : onlyOf l with
  | some x =>
    refine .inl ⟨x, ?_, rfl⟩
    have z := onlyOf_some e
    match ts, nd, m with
    | [], _, m => exact absurd ((m x).mpr ((z x).mpr rfl)) (fun y => by cases y)
    | [a], _, m => rw [(z a).mp ((m a).mp List.mem_cons_self)]
    | a :: b :: r, nd, m =>
      have h1 := (z a).mp ((m a).mp List.mem_cons_self)
      have h2 := (z b).mp ((m b).mp (List.mem_cons_of_mem _ List.mem_cons_self))
      exact absurd (by rw [h1, h2]; exact List.mem_cons_self) (List.nodup_cons.mp nd).1
  | none =>
    refine .inr ⟨fun h1 => ?_, rfl⟩
    match ts, h1, m with
    | [a], _, m =>
      have : onlyOf l = some a := onlyOf_of fun y => by rw [← m y, List.mem_singleton]
      rw [this] at e
      cases e
theorem Off.tup {o l d : Addr} {H H' : Hp} {S : De} (h : Off o l d H H') (hh : Here H o l d S) {q : Addr} {xs : List V} (e : H q = some (.tup xs)) : H' q = some (.tup xs) := by
  obtain ⟨vs, h1, _⟩ := hh.puts
  obtain ⟨kvs, h2, _⟩ := hh.lie
  exact h q _ (ne_of e hh.top (fun z => nomatch z)) (ne_of e h1 (fun z => nomatch z)) (ne_of e h2 (fun z => nomatch z)) e
theorem Off.chg {o l d : Addr} {H H' : Hp} {p : Addr} {x : HO} (h : Off o l d H H') (n : H p = Option.none) : Off o l d H (upd H' p x) := by
  intro a y h1 h2 h3 e
  rw [upd_ne (ne_of_none e n)]
  exact h a y h1 h2 h3 e
theorem Off.ls {o l d : Addr} {H H' : Hp} {S : De} (h : Off o l d H H') (hh : Here H o l d S) {q : Addr} {xs : List V} (nl : q ≠ l) (e : H q = some (.lst xs)) : H' q = some (.lst xs) := by
  obtain ⟨kvs, h2, _⟩ := hh.lie
  exact h q _ (ne_of e hh.top (fun z => nomatch z)) nl (ne_of e h2 (fun z => nomatch z)) e
def LnV (H : Hp) (v : V) (n : Line) : Prop := ∃ q, v = .ref q ∧ H q = some (.tup n.vals)
theorem LnV.same {H H' : Hp} (s : Same H H') {v : V} {n : Line} (h : LnV H v n) : LnV H' v n := let ⟨q, a, b⟩ := h; ⟨q, a, s _ _ b⟩
def LnAt (H : Hp) (a : Addr) (l : List Line) : Prop := ∃ vs, H a = some (.lst vs) ∧ All2 (LnV H) vs l
theorem LnAt.same {H H' : Hp} (s : Same H H') {a : Addr} {l : List Line} (h : LnAt H a l) : LnAt H' a l := let ⟨vs, x, y⟩ := h; ⟨vs, s _ _ x, y.mono fun _ _ z => z.same s⟩
theorem LnAt.off {o l d : Addr} {H H' : Hp} {S : De} (h : Off o l d H H') (hh : Here H o l d S) {a : Addr} {ls : List Line} (nl : a ≠ l) (e : LnAt H a ls) : LnAt H' a ls :=
  let ⟨vs, x, y⟩ := e
  ⟨vs, h.ls hh nl x, y.mono fun _ _ ⟨q, z, u⟩ => ⟨q, z, h.tup hh u⟩⟩
theorem LnAt.snoc {H : Hp} {D : Addr} {vs : List V} {l : List Line} {v : V} {e : Line} (h : LnAt H D l) (hv : H D = some (.lst vs)) (he : LnV H v e) : LnAt (upd H D (.lst (vs ++ [v]))) D (l ++ [e]) := by
  obtain ⟨ws, hw, ha⟩ := h
  rw [hv] at hw
  cases (HO.lst.inj (Option.some.inj hw))
  have keep : ∀ {u : V} {e : Line}, LnV H u e → LnV (upd H D (.lst (vs ++ [v]))) u e := by
    rintro u e ⟨q, e1, e2⟩
    exact ⟨q, e1, by rw [upd_ne (ne_of e2 hv (fun z => nomatch z))]; exact e2⟩
  exact ⟨_, upd_same, All2.app (ha.mono fun _ _ z => keep z) (All2.cons (keep he) All2.nil)⟩
theorem LnAt.upd {H : Hp} {D a : Addr} {vs : List V} {x : HO} {l : List Line} (h : LnAt H D l) (ne : D ≠ a) (hv : H a = some (.lst vs)) : LnAt (L2.upd H a x) D l := by
  obtain ⟨ws, hw, ha⟩ := h
  refine ⟨ws, by rw [upd_ne ne]; exact hw, ha.mono ?_⟩
  rintro u e ⟨q, e1, e2⟩
  exact ⟨q, e1, by rw [upd_ne (ne_of e2 hv (fun z => nomatch z))]; exact e2⟩
/-- none of the lists that lie is one of these -/
def Avoid (H : Hp) (d : Addr) (R : Addr → Prop) : Prop := ∀ kvs, H d = some (.dT kvs) → ∀ (p t : Nat) (a : Addr), valV kvs (ty p t) = some (.ref a) → ¬ R a
/-- those that are there are still avoided -/
def Still (H H' : Hp) (d : Addr) : Prop := ∀ R : Addr → Prop, (∀ a, R a → ∃ x, H a = some x) → Avoid H d R → Avoid H' d R
theorem Avoid.eq {H H' : Hp} {d : Addr} {R : Addr → Prop} (h : Avoid H d R) (e : H' d = H d) : Avoid H' d R := fun kvs z => h kvs (by rw [← e]; exact z)
theorem Still.same {H H' : Hp} {o l d : Addr} {S : De} (hh : Here H o l d S) (e : Same H H') : Still H H' d := fun R _ h => by
  obtain ⟨kvs, h1, _⟩ := hh.lie
  exact h.eq (by rw [e _ _ h1, h1])
theorem Still.trans {H H' H2 : Hp} {d : Addr} (h : Still H H' d) (k : Still H' H2 d) (g : ∀ a x, H a = some x → ∃ y, H' a = some y) : Still H H2 d := fun R r v => k R (fun a z => let ⟨x, e⟩ := r a z; g a x e) (h R r v)
theorem Here.new {H : Hp} {o l d : Addr} {S : De} (h : Here H o l d S) {F : Addr} (n : H F = Option.none) : Avoid H d (· = F) := by
  obtain ⟨kvs, h1, _, h2⟩ := h.lie
  intro kvs' e p t a ev z
  rw [h1] at e
  cases (HO.dT.inj (Option.some.inj e))
  have y := h2 p t
  rw [ev] at y
  obtain ⟨b, e1, _, e2⟩ := y
  cases e1
  rw [z, LsAt, n] at e2
  cases e2
/-- what is done at others leaves it -/
theorem Here.frame {H H' : Hp} {o l d : Addr} {S : De} {R : Addr → Prop} (h : Here H o l d S) (f : ∀ a x, ¬ R a → H a = some x → H' a = some x) (n1 : ¬ R o) (n2 : ¬ R l) (n3 : ¬ R d) (nt : ∀ a xs, R a → H a ≠ some (.tup xs)) (av : Avoid H d R) : Here H' o l d S := by
  obtain ⟨vs, h1, h2⟩ := h.puts
  obtain ⟨kvs, h3, h4, h5⟩ := h.lie
  refine ⟨f _ _ n1 h.top, ⟨vs, f _ _ n2 h1, h2.mono ?_⟩, ⟨kvs, f _ _ n3 h3, h4, fun p t => ?_⟩, h.few, h.lens⟩
  · rintro v w ⟨q, e1, e2⟩
    exact ⟨q, e1, f _ _ (fun z => nt _ _ z e2) e2⟩
  · have z := h5 p t
    have k := av kvs h3 p t
    cases ev : valV kvs (ty p t) with
    | none =>
      rw [ev] at z
      exact z
    | some v =>
      rw [ev] at z k
      obtain ⟨b, e1, e2, e3⟩ := z
      exact ⟨b, e1, e2, f _ _ (k b (by rw [e1])) e3⟩
/-- a list of one's own is changed -/
theorem Here.chg {H : Hp} {o l d F : Addr} {S : De} {vs : List V} {x : HO} (h : Here H o l d S) (n : F ≠ l) (e : H F = some (.lst vs)) (av : Avoid H d (· = F)) : Here (upd H F x) o l d S ∧ (∀ R, Avoid H d R → Avoid (upd H F x) d R) := by
  obtain ⟨kvs, h3, _⟩ := h.lie
  have nd : d ≠ F := ne_of h3 e (fun z => nomatch z)
  refine ⟨h.frame (R := (· = F)) ?_ (ne_of h.top e (fun z => nomatch z)) (Ne.symm n) nd ?_ av, fun R z => z.eq (upd_ne nd)⟩
  · intro a y na ea
    rw [upd_ne na]
    exact ea
  · intro a xs ea z
    rw [show a = F from ea, e] at z
    cases z
theorem still_put {H H3 : Hp} {o l d a : Addr} {S : De} {kvs : List (List Key × V)} {p t : Nat} (h : Here H o l d S) (e : H d = some (.dT kvs)) (new : ∀ b x, H b = some x → b ≠ a) : Still H (upd H3 d (.dT (putK kvs (ty p t) (.ref a)))) d := by
  intro R r av kvs' e' p' t' b eb rb
  rw [upd_same] at e'
  cases (HO.dT.inj (Option.some.inj e'))
  rw [valV_put] at eb
  split at eb
  · have eb' : a = b := V.ref.inj (Option.some.inj eb)
    obtain ⟨x, ex⟩ := r b rb
    exact new b x ex eb'.symm
  · exact av kvs e p' t' b eb rb
theorem Off.there {o l d : Addr} {H H2 : Hp} {S : De} (h : Off o l d H H2) (hh : Here H2 o l d S) : ∀ c x, H c = some x → ∃ y, H2 c = some y := by
  intro c x e
  by_cases c1 : c = o
  · rw [c1]
    exact ⟨_, hh.top⟩
  by_cases c2 : c = l
  · obtain ⟨vs, hv, _⟩ := hh.puts
    rw [c2]
    exact ⟨_, hv⟩
  by_cases c3 : c = d
  · obtain ⟨kvs, hv, _⟩ := hh.lie
    rw [c3]
    exact ⟨_, hv⟩
  exact ⟨x, h c x c1 c2 c3 e⟩
theorem Off.gone {o l d : Addr} {H H2 : Hp} {S : De} (h : Off o l d H H2) (hh : Here H2 o l d S) {c : Addr} (e : H2 c = Option.none) : H c = Option.none := by
  cases q : H c with
  | none => rfl
  | some x =>
    obtain ⟨y, ey⟩ := h.there hh c x q
    rw [ey] at e
    cases e
theorem De.Ok.above {fr : List Int} {S : De} (h : S.Ok fr) (fo : FrOk fr) {p u : Nat} (hp : p < S.n) (hu : u ≤ fr.length) (hc : chain fr (S.row (fr.length + 1) p) u = Option.none) : ∃ k, S.now p u = some k := by
  by_cases u0 : u = 0
  · subst u0
    cases e : S.now p 0 with
    | none => exact absurd (List.getLast?_eq_none_iff.mp e) (h.src p hp)
    | some k => exact ⟨k, rfl⟩
  · exact De.fresh_now fo (by omega) hu hc
theorem De.Ok.tx {fr : List Int} {S : De} (h : S.Ok fr) {p t : Nat} {k : Int} (e : S.now p t = some k) : TxOk (S.tx p t) := by
  obtain ⟨k0, u, eu, _, _⟩ := h.num.now e
  unfold De.tx
  rw [e]
  show TxOk (S.pt k).x
  rw [De.pt_at eu]
  exact (h.each _ u eu).2.2.1
theorem De.Ok.found {fr : List Int} {S : De} (h : S.Ok fr) (fo : FrOk fr) {p t i : Nat} (t0 : 0 < t) (t1 : t ≤ fr.length) {x : Str} (hx : x ∈ S.found fr p t i) : TxOk x := by
  unfold De.found at hx
  obtain ⟨q, hq, rfl⟩ := List.mem_map.mp hx
  have hl := (List.mem_filter.mp hq).2
  unfold De.like at hl
  simp only [Bool.and_eq_true] at hl
  have hc : chain fr (S.row (fr.length + 1) q) t = Option.none := Option.isNone_iff_eq_none.mp hl.2.2.2.2
  obtain ⟨k, ek⟩ := De.fresh_now fo t0 t1 hc
  exact h.tx ek
/-- filled, or not -/
theorem De.fill_yes {fr : List Int} {t p : Nat} {A : De × List Int × List Line} {x : Str} (h1 : chain fr (A.1.row (fr.length + 1) p) (up fr t) = Option.none) (h2 : chain fr (A.1.row (fr.length + 1) p) t ≠ Option.none) (h3 : onlyOf (A.1.found fr p t A.1.n) = some x) :
    De.fillOne fr t A p = (A.1.lay p t x (A.1.now p (up fr t)), A.2.1 ++ [(p : Int)], A.2.2 ++ [.put p t x (A.1.now p (up fr t)) (A.1.now p t) (A.1.puts.length : Int)]) := by
  unfold De.fillOne
  rw [if_pos (by rw [h1, Option.isSome_iff_ne_none.mpr h2]; rfl), h3]
theorem De.fill_no {fr : List Int} {t p : Nat} {A : De × List Int × List Line} (h : chain fr (A.1.row (fr.length + 1) p) (up fr t) ≠ Option.none ∨ chain fr (A.1.row (fr.length + 1) p) t = Option.none ∨ onlyOf (A.1.found fr p t A.1.n) = Option.none) : De.fillOne fr t A p = A := by
  unfold De.fillOne
  by_cases c : ((chain fr (A.1.row (fr.length + 1) p) (up fr t)).isNone && (chain fr (A.1.row (fr.length + 1) p) t).isSome) = true
  · rw [if_pos c]
    rw [Bool.and_eq_true] at c
    rcases h with z | z | z
    · exact absurd (Option.isNone_iff_eq_none.mp c.1) z
    · exact absurd z (Option.isSome_iff_ne_none.mp c.2)
    · rw [z]
  · rw [if_neg c]
structure FillOk (fr : List Int) (S : De) (i : Nat) (A : De × List Int × List Line) : Prop where
  ok : A.1.Ok fr
  n : A.1.n = S.n
  len : A.1.puts.length ≤ S.puts.length + i
  f : A.2.1.length ≤ i
  l : A.2.2.length ≤ i
theorem fillTo_ok {fr : List Int} {S : De} (h : S.Ok fr) (fo : FrOk fr) {t : Nat} (t0 : 0 < t) (t1 : t ≤ fr.length) : ∀ i, i ≤ S.n → FillOk fr S i (S.fillTo fr t i)
  | 0, _ => ⟨h, rfl, Nat.le_refl _, Nat.le_refl _, Nat.le_refl _⟩
  | i + 1, hi => by
    have ih := fillTo_ok h fo t0 t1 i (by omega)
    rw [De.fillTo_succ]
    generalize S.fillTo fr t i = A at ih ⊢
    have up1 := up_lt fo t0 t1
    have no : De.fillOne fr t A i = A → FillOk fr S (i + 1) (De.fillOne fr t A i) := by
      intro e
      rw [e]
      have h1 := ih.len
      have h2 := ih.f
      have h3 := ih.l
      exact ⟨ih.ok, ih.n, by omega, by omega, by omega⟩
    by_cases c1 : chain fr (A.1.row (fr.length + 1) i) (up fr t) = Option.none
    · by_cases c2 : chain fr (A.1.row (fr.length + 1) i) t = Option.none
      · exact no (De.fill_no (.inr (.inl c2)))
      · cases c3 : onlyOf (A.1.found fr i t A.1.n) with
        | none => exact no (De.fill_no (.inr (.inr c3)))
        | some x =>
          have hn := ih.n
          obtain ⟨k, ek⟩ := ih.ok.above fo (p := i) (by omega) (by omega) c1
          rw [De.fill_yes c1 c2 c3]
          refine ⟨ih.ok.lay (by omega) t1 (ih.ok.found fo t0 t1 ((onlyOf_some c3 x).mpr rfl)) ⟨fun z => by omega, fun _ => ?_⟩, ih.n, ?_, ?_, ?_⟩
          · obtain ⟨j, ej, v, e1, e2, e3⟩ := ih.ok.seen_now ek
            exact ⟨j, by rw [ek, ej], v, e1, e2, e3⟩
          · have h1 := ih.len
            show (A.1.puts ++ [_]).length ≤ _
            rw [List.length_append, List.length_singleton]
            omega
          · have h1 := ih.f
            show (A.2.1 ++ [_]).length ≤ _
            rw [List.length_append, List.length_singleton]
            omega
          · have h1 := ih.l
            show (A.2.2 ++ [_]).length ≤ _
            rw [List.length_append, List.length_singleton]
            omega
    · exact no (De.fill_no (.inl c1))
/-- what comes can be -/
theorem De.Ok.come {fr : List Int} {S : De} (h : S.Ok fr) (fo : FrOk fr) {dd : Deed} (m : S.May fr dd) : (S.come fr dd).1.Ok fr ∧ (S.come fr dd).1.puts.length ≤ S.puts.length + 6 := by
  cases dd with
  | phrase x =>
    refine ⟨h.phrase m.1 m.2, ?_⟩
    show (S.puts ++ [_]).length ≤ _
    rw [List.length_append, List.length_singleton]
    omega
  | put p t x s o =>
    obtain ⟨h1, h2, h3, _, h5⟩ := m
    refine ⟨h.lay h1 h2 h3 h5, ?_⟩
    show (S.puts ++ [_]).length ≤ _
    rw [List.length_append, List.length_singleton]
    omega
  | back p t => exact ⟨h.off m.2.2, Nat.le_add_right _ _⟩
  | fill t =>
    have z := fillTo_ok h fo m.1 m.2 S.n (Nat.le_refl _)
    have z1 := z.len
    have z2 := h.six
    exact ⟨z.ok, show (S.fillTo fr t S.n).1.puts.length ≤ _ by omega⟩
end PD

/-! Phrasedesk: tales -/
namespace PD
open PySem PySem.Spec PyProof.Rows L2
inductive Tl where
  | phrase (p : Int) (x : Str) (k : Int)
  | put (p t : Int) (x : Str) (s o : Option Int) (k : Int)
  | back (p t k : Int)
def Tl.vals : Tl → List V
  | .phrase p x k => [.str "phrase", .int p, .str x, .int k]
  | .put p t x s o k => [.str "put", .int p, .int t, .str x, oV s, oV o, .int k]
  | .back p t k => [.str "back", .int p, .int t, .int k]
def lowS (x : Str) : Prop := ∀ c ∈ x.cps.toList, 97 ≤ c ∧ c ≤ 122
def Tl.Low : Tl → Prop
  | .phrase _ x _ => lowS x ∧ x.length ≤ 5000
  | .put _ _ x _ _ _ => lowS x ∧ x.length ≤ 5000
  | .back _ _ _ => True
def lenOk (x : Str) : Bool := decide (1 ≤ x.length) && decide (x.length ≤ 6)
theorem tx_len {x : Str} (l : lowS x) (h : lenOk x = true) : TxOk x := by
  unfold lenOk at h
  rw [Bool.and_eq_true] at h
  exact ⟨of_decide_eq_true h.1, of_decide_eq_true h.2, l⟩
def inPT (fr : List Int) (S : De) (p t : Int) : Bool := (decide (0 ≤ p) && decide (p < (S.n : Int))) && (decide (0 ≤ t) && decide (t ≤ (fr.length : Int)))
def De.seens (fr : List Int) (S : De) (p t : Nat) : List (Option Int) := if t = 0 then [Option.none] else (S.ever p (up fr t)).map fun e => some e.1
def De.fits (fr : List Int) (S : De) : Tl → Bool
  | .phrase p x k => (decide (p = (S.n : Int)) && decide ((S.n : Int) < 6)) && (lenOk x && decide (k = (S.puts.length : Int)))
  | .back p t k => inPT fr S p t && (decide ((if t.toNat = 0 then 1 else 0) < (S.lie p.toNat t.toNat).length) && decide (some k = S.now p.toNat t.toNat))
  | .put p t x s o k => inPT fr S p t && (lenOk x && (decide (s ∈ S.seens fr p.toNat t.toNat) && (decide (o = S.now p.toNat t.toNat) && decide (k = (S.puts.length : Int)))))
def Tl.deed : Tl → Deed
  | .phrase _ x _ => .phrase x
  | .put p t x s o _ => .put p.toNat t.toNat x s o
  | .back p t _ => .back p.toNat t.toNat
def wrongFrom (fr : List Int) : De → Nat → List Tl → Option Nat
  | _, _, [] => Option.none
  | S, i, n :: r => if S.fits fr n then wrongFrom fr (S.come fr n.deed).1 (i + 1) r else some i
theorem inPT_iff {fr : List Int} {S : De} {p t : Int} (h : inPT fr S p t = true) : 0 ≤ p ∧ p < (S.n : Int) ∧ 0 ≤ t ∧ t ≤ (fr.length : Int) := by
  unfold inPT at h
  simp only [Bool.and_eq_true, decide_eq_true_eq] at h
  exact ⟨h.1.1, h.1.2, h.2.1, h.2.2⟩
theorem De.fits_may {fr : List Int} {S : De} {n : Tl} (low : n.Low) (h : S.fits fr n = true) : S.May fr n.deed := by
  cases n with
  | phrase p x k =>
    unfold De.fits at h
    simp only [Bool.and_eq_true, decide_eq_true_eq] at h
    exact ⟨by have := h.1.2; omega, tx_len low.1 h.2.1⟩
  | back p t k =>
    have h' : (inPT fr S p t && (decide ((if t.toNat = 0 then 1 else 0) < (S.lie p.toNat t.toNat).length) && decide (some k = S.now p.toNat t.toNat))) = true := h
    rw [Bool.and_eq_true, Bool.and_eq_true] at h'
    obtain ⟨h1, h2, h3⟩ := h'
    obtain ⟨a, b, c, d⟩ := inPT_iff h1
    exact ⟨by omega, by omega, of_decide_eq_true h2⟩
  | put p t x s o k =>
    have h' : (inPT fr S p t && (lenOk x && (decide (s ∈ S.seens fr p.toNat t.toNat) && (decide (o = S.now p.toNat t.toNat) && decide (k = (S.puts.length : Int)))))) = true := h
    simp only [Bool.and_eq_true, decide_eq_true_eq] at h'
    obtain ⟨h1, h2, h3, h4, h5⟩ := h'
    obtain ⟨a, b, c, d⟩ := inPT_iff h1
    refine ⟨by omega, by omega, tx_len low.1 h2, h4, ?_, ?_⟩
    · intro z
      unfold De.seens at h3
      rw [if_pos z] at h3
      exact List.mem_singleton.mp h3
    · intro z
      unfold De.seens at h3
      rw [if_neg (by omega)] at h3
      obtain ⟨e, he, rfl⟩ := List.mem_map.mp h3
      obtain ⟨j, ej, v, h6⟩ := De.seen_ever he
      exact ⟨j, congrArg some ej, v, h6⟩
end PD

/-! Phrasedesk: a desk's state, as it lies in the program's own objects -/
namespace PD
open PySem PySem.Spec PyProof.Rows L2
theorem pe_fldK {X : Cx} {K : PySem.W.Frag} {e : Expr} {f : Str} {pos : Pos} {ta : TE} (hK : X.K = K) (he : PE X e ta) (hb : attributeBase e f X.env (eval e X.env) = eval e X.env) : PE X (.Attribute e f pos) (tFld K ta f) := by
  subst hK
  exact pe_fld he hb
/-- where a Past's things lie -/
structure PA where
  dx : Addr
  f : Addr
  tx : Addr
  og : Addr
  ev : Addr
  pi : Addr
  ekv : List (List Key × V)
  pkv : List (List Key × V)
  eA : Nat → Nat → Addr
  pA : Nat → Nat → Addr
abbrev pastF (n : Nat) (A : PA) : List (Str × V) := [("froms", .ref A.f), ("phrases", .int (n : Int)), ("texts", .ref A.tx), ("origins", .ref A.og), ("ever", .ref A.ev), ("piles", .ref A.pi)]
def setAt {α : Type} (g : Nat → Nat → α) (p t : Nat) (v : α) : Nat → Nat → α := fun p' t' => if p' = p ∧ t' = t then v else g p' t'
theorem setAt_same {α : Type} {g : Nat → Nat → α} {p t : Nat} {v : α} : setAt g p t v p t = v := by
  unfold setAt
  rw [if_pos ⟨rfl, rfl⟩]
theorem setAt_ne {α : Type} {g : Nat → Nat → α} {p t p' t' : Nat} {v : α} (h : ¬ (p' = p ∧ t' = t)) : setAt g p t v p' t' = g p' t' := by
  unfold setAt
  rw [if_neg h]
structure Raw (H : Hp) (C a : Addr) (fr : List Int) (n : Nat) (xs os : List V) (E : Nat → Nat → List (Key × V)) (L : Nat → Nat → List Int) (DE DP : Nat → Nat → Prop) (A : PA) : Prop where
  obj : H a = some (.ins C A.dx (pastF n A))
  frm : LsAt H A.f fr
  tx : H A.tx = some (.lst xs)
  og : H A.og = some (.lst os)
  ev : H A.ev = some (.dT A.ekv)
  pi : H A.pi = some (.dT A.pkv)
  evs : ∀ p t, DE p t → valV A.ekv (ty p t) = some (.ref (A.eA p t)) ∧ H (A.eA p t) = some (.dK (E p t))
  pis : ∀ p t, DP p t → valV A.pkv (ty p t) = some (.ref (A.pA p t)) ∧ LsAt H (A.pA p t) (L p t)
  n1 : A.tx ≠ A.og
  n2 : A.f ≠ A.tx
  n3 : A.f ≠ A.og
  n4 : A.ev ≠ A.pi
  n5 : ∀ p t, DP p t → A.pA p t ≠ A.f ∧ A.pA p t ≠ A.tx ∧ A.pA p t ≠ A.og
  i1 : ∀ p t p' t', DP p t → DP p' t' → A.pA p t = A.pA p' t' → p = p' ∧ t = t'
  i2 : ∀ p t p' t', DE p t → DE p' t' → A.eA p t = A.eA p' t' → p = p' ∧ t = t'
/-- its own addresses -/
def Foot (a : Addr) (DE DP : Nat → Nat → Prop) (A : PA) (x : Addr) : Prop := x = a ∨ x = A.f ∨ x = A.tx ∨ x = A.og ∨ x = A.ev ∨ x = A.pi ∨ (∃ p t, DE p t ∧ x = A.eA p t) ∨ ∃ p t, DP p t ∧ x = A.pA p t
section
variable {H H' : Hp} {C a : Addr} {fr : List Int} {n : Nat} {xs os : List V} {E : Nat → Nat → List (Key × V)} {L : Nat → Nat → List Int} {DE DP : Nat → Nat → Prop} {A : PA}
theorem Raw.keep (h : Raw H C a fr n xs os E L DE DP A) (k : ∀ x o, Foot a DE DP A x → H x = some o → H' x = some o) : Raw H' C a fr n xs os E L DE DP A :=
  ⟨k _ _ (.inl rfl) h.obj, k _ _ (.inr (.inl rfl)) h.frm, k _ _ (.inr (.inr (.inl rfl))) h.tx, k _ _ (.inr (.inr (.inr (.inl rfl)))) h.og, k _ _ (.inr (.inr (.inr (.inr (.inl rfl))))) h.ev, k _ _ (.inr (.inr (.inr (.inr (.inr (.inl rfl)))))) h.pi,
   fun p t d => ⟨(h.evs p t d).1, k _ _ (.inr (.inr (.inr (.inr (.inr (.inr (.inl ⟨p, t, d, rfl⟩))))))) (h.evs p t d).2⟩, fun p t d => ⟨(h.pis p t d).1, k _ _ (.inr (.inr (.inr (.inr (.inr (.inr (.inr ⟨p, t, d, rfl⟩))))))) (h.pis p t d).2⟩, h.n1, h.n2, h.n3, h.n4, h.n5, h.i1, h.i2⟩
theorem Raw.same (s : Same H H') (h : Raw H C a fr n xs os E L DE DP A) : Raw H' C a fr n xs os E L DE DP A := h.keep fun _ _ _ e => s _ _ e
/-- none of its own is a tuple, all are there -/
theorem Raw.foot (h : Raw H C a fr n xs os E L DE DP A) {x : Addr} (hx : Foot a DE DP A x) : ∃ o, H x = some o ∧ ∀ ys, o ≠ .tup ys := by
  rcases hx with rfl | rfl | rfl | rfl | rfl | rfl | ⟨p, t, d, rfl⟩ | ⟨p, t, d, rfl⟩
  · exact ⟨_, h.obj, fun _ z => nomatch z⟩
  · exact ⟨_, h.frm, fun _ z => nomatch z⟩
  · exact ⟨_, h.tx, fun _ z => nomatch z⟩
  · exact ⟨_, h.og, fun _ z => nomatch z⟩
  · exact ⟨_, h.ev, fun _ z => nomatch z⟩
  · exact ⟨_, h.pi, fun _ z => nomatch z⟩
  · exact ⟨_, (h.evs p t d).2, fun _ z => nomatch z⟩
  · exact ⟨_, (h.pis p t d).2, fun _ z => nomatch z⟩
theorem Raw.setTx (h : Raw H C a fr n xs os E L DE DP A) (ys : List V) : Raw (upd H A.tx (.lst ys)) C a fr n ys os E L DE DP A := by
  refine ⟨?_, ?_, upd_same, ?_, ?_, ?_, fun p t d => ⟨(h.evs p t d).1, ?_⟩, fun p t d => ⟨(h.pis p t d).1, ?_⟩, h.n1, h.n2, h.n3, h.n4, h.n5, h.i1, h.i2⟩
  · rw [upd_ne (ne_of h.obj h.tx (fun z => nomatch z))]; exact h.obj
  · unfold LsAt; rw [upd_ne h.n2]; exact h.frm
  · rw [upd_ne (Ne.symm h.n1)]; exact h.og
  · rw [upd_ne (ne_of h.ev h.tx (fun z => nomatch z))]; exact h.ev
  · rw [upd_ne (ne_of h.pi h.tx (fun z => nomatch z))]; exact h.pi
  · rw [upd_ne (ne_of (h.evs p t d).2 h.tx (fun z => nomatch z))]; exact (h.evs p t d).2
  · unfold LsAt; rw [upd_ne (h.n5 p t d).2.1]; exact (h.pis p t d).2
theorem Raw.setOg (h : Raw H C a fr n xs os E L DE DP A) (ys : List V) : Raw (upd H A.og (.lst ys)) C a fr n xs ys E L DE DP A := by
  refine ⟨?_, ?_, ?_, upd_same, ?_, ?_, fun p t d => ⟨(h.evs p t d).1, ?_⟩, fun p t d => ⟨(h.pis p t d).1, ?_⟩, h.n1, h.n2, h.n3, h.n4, h.n5, h.i1, h.i2⟩
  · rw [upd_ne (ne_of h.obj h.og (fun z => nomatch z))]; exact h.obj
  · unfold LsAt; rw [upd_ne h.n3]; exact h.frm
  · rw [upd_ne h.n1]; exact h.tx
  · rw [upd_ne (ne_of h.ev h.og (fun z => nomatch z))]; exact h.ev
  · rw [upd_ne (ne_of h.pi h.og (fun z => nomatch z))]; exact h.pi
  · rw [upd_ne (ne_of (h.evs p t d).2 h.og (fun z => nomatch z))]; exact (h.evs p t d).2
  · unfold LsAt; rw [upd_ne (h.n5 p t d).2.2]; exact (h.pis p t d).2
theorem Raw.setEv (h : Raw H C a fr n xs os E L DE DP A) {p t : Nat} (d : DE p t) (kv : List (Key × V)) : Raw (upd H (A.eA p t) (.dK kv)) C a fr n xs os (setAt E p t kv) L DE DP A := by
  have he := (h.evs p t d).2
  refine ⟨?_, ?_, ?_, ?_, ?_, ?_, fun p' t' d' => ⟨(h.evs p' t' d').1, ?_⟩, fun p' t' d' => ⟨(h.pis p' t' d').1, ?_⟩, h.n1, h.n2, h.n3, h.n4, h.n5, h.i1, h.i2⟩
  · rw [upd_ne (ne_of h.obj he (fun z => nomatch z))]; exact h.obj
  · unfold LsAt; rw [upd_ne (ne_of h.frm he (fun z => nomatch z))]; exact h.frm
  · rw [upd_ne (ne_of h.tx he (fun z => nomatch z))]; exact h.tx
  · rw [upd_ne (ne_of h.og he (fun z => nomatch z))]; exact h.og
  · rw [upd_ne (ne_of h.ev he (fun z => nomatch z))]; exact h.ev
  · rw [upd_ne (ne_of h.pi he (fun z => nomatch z))]; exact h.pi
  · by_cases c : p' = p ∧ t' = t
    · rw [c.1, c.2, upd_same, setAt_same]
    · rw [upd_ne (fun z => c (h.i2 _ _ _ _ d' d z)), setAt_ne c]
      exact (h.evs p' t' d').2
  · unfold LsAt; rw [upd_ne (ne_of (h.pis p' t' d').2 he (fun z => nomatch z))]; exact (h.pis p' t' d').2
theorem Raw.setPi (h : Raw H C a fr n xs os E L DE DP A) {p t : Nat} (d : DP p t) (ns : List Int) : Raw (upd H (A.pA p t) (.lst (ns.map V.int))) C a fr n xs os E (setAt L p t ns) DE DP A := by
  have he := (h.pis p t d).2
  obtain ⟨m1, m2, m3⟩ := h.n5 p t d
  refine ⟨?_, ?_, ?_, ?_, ?_, ?_, fun p' t' d' => ⟨(h.evs p' t' d').1, ?_⟩, fun p' t' d' => ⟨(h.pis p' t' d').1, ?_⟩, h.n1, h.n2, h.n3, h.n4, h.n5, h.i1, h.i2⟩
  · rw [upd_ne (ne_of h.obj he (fun z => nomatch z))]; exact h.obj
  · unfold LsAt; rw [upd_ne (Ne.symm m1)]; exact h.frm
  · rw [upd_ne (Ne.symm m2)]; exact h.tx
  · rw [upd_ne (Ne.symm m3)]; exact h.og
  · rw [upd_ne (ne_of h.ev he (fun z => nomatch z))]; exact h.ev
  · rw [upd_ne (ne_of h.pi he (fun z => nomatch z))]; exact h.pi
  · rw [upd_ne (ne_of (h.evs p' t' d').2 he (fun z => nomatch z))]; exact (h.evs p' t' d').2
  · by_cases c : p' = p ∧ t' = t
    · rw [c.1, c.2, setAt_same]; exact upd_same
    · unfold LsAt
      rw [upd_ne (fun z => c (h.i1 _ _ _ _ d' d z)), setAt_ne c]
      exact (h.pis p' t' d').2
theorem Raw.setN (h : Raw H C a fr n xs os E L DE DP A) (m : Nat) : Raw (upd H a (.ins C A.dx (pastF m A))) C a fr m xs os E L DE DP A := by
  refine ⟨upd_same, ?_, ?_, ?_, ?_, ?_, fun p t d => ⟨(h.evs p t d).1, ?_⟩, fun p t d => ⟨(h.pis p t d).1, ?_⟩, h.n1, h.n2, h.n3, h.n4, h.n5, h.i1, h.i2⟩
  · unfold LsAt; rw [upd_ne (ne_of h.frm h.obj (fun z => nomatch z))]; exact h.frm
  · rw [upd_ne (ne_of h.tx h.obj (fun z => nomatch z))]; exact h.tx
  · rw [upd_ne (ne_of h.og h.obj (fun z => nomatch z))]; exact h.og
  · rw [upd_ne (ne_of h.ev h.obj (fun z => nomatch z))]; exact h.ev
  · rw [upd_ne (ne_of h.pi h.obj (fun z => nomatch z))]; exact h.pi
  · rw [upd_ne (ne_of (h.evs p t d).2 h.obj (fun z => nomatch z))]; exact (h.evs p t d).2
  · unfold LsAt; rw [upd_ne (ne_of (h.pis p t d).2 h.obj (fun z => nomatch z))]; exact (h.pis p t d).2
def addD (D : Nat → Nat → Prop) (p t : Nat) : Nat → Nat → Prop := fun p' t' => D p' t' ∨ (p' = p ∧ t' = t)
theorem ty_ne {p t p' t' : Nat} (h : ¬ (p' = p ∧ t' = t)) : ty p' t' ≠ ty p t := fun z => h (ty_inj z)
theorem Raw.addE {e : Addr} (h : Raw H C a fr n xs os E L DE DP A) {p t : Nat} (d : ¬ DE p t) (s : Same H H') (ne : H e = none) (he : H' e = some (.dK [])) :
    Raw (upd H' A.ev (.dT (putK A.ekv (ty p t) (.ref e)))) C a fr n xs os (setAt E p t []) L (addD DE p t) DP { A with ekv := putK A.ekv (ty p t) (.ref e), eA := setAt A.eA p t e } := by
  have g := h.same s
  have nev : e ≠ A.ev := fun z => by rw [z, h.ev] at ne; cases ne
  have old : ∀ p' t', addD DE p t p' t' → ¬ (p' = p ∧ t' = t) → DE p' t' := fun p' t' z c => z.resolve_right c
  refine ⟨?_, ?_, ?_, ?_, upd_same, ?_, fun p' t' d' => ?_, fun p' t' d' => ⟨(g.pis p' t' d').1, ?_⟩, h.n1, h.n2, h.n3, h.n4, h.n5, h.i1, ?_⟩
  · rw [upd_ne (ne_of g.obj g.ev (fun z => nomatch z))]; exact g.obj
  · unfold LsAt; rw [upd_ne (ne_of g.frm g.ev (fun z => nomatch z))]; exact g.frm
  · rw [upd_ne (ne_of g.tx g.ev (fun z => nomatch z))]; exact g.tx
  · rw [upd_ne (ne_of g.og g.ev (fun z => nomatch z))]; exact g.og
  · rw [upd_ne (Ne.symm g.n4)]; exact g.pi
  · show valV (putK A.ekv (ty p t) (.ref e)) (ty p' t') = some (.ref (setAt A.eA p t e p' t')) ∧ (upd H' A.ev (.dT (putK A.ekv (ty p t) (.ref e)))) (setAt A.eA p t e p' t') = some (.dK (setAt E p t [] p' t'))
    rw [valV_put]
    by_cases c : p' = p ∧ t' = t
    · rw [c.1, c.2, if_pos rfl, setAt_same, setAt_same, upd_ne nev]
      exact ⟨rfl, he⟩
    · have dd := old p' t' d' c
      rw [if_neg (ty_ne c), setAt_ne c, setAt_ne c, upd_ne (ne_of (g.evs p' t' dd).2 g.ev (fun z => nomatch z))]
      exact g.evs p' t' dd
  · unfold LsAt; rw [upd_ne (ne_of (g.pis p' t' d').2 g.ev (fun z => nomatch z))]; exact (g.pis p' t' d').2
  · intro p1 t1 p2 t2 d1 d2 z
    have z' : setAt A.eA p t e p1 t1 = setAt A.eA p t e p2 t2 := z
    by_cases c1 : p1 = p ∧ t1 = t
    · by_cases c2 : p2 = p ∧ t2 = t
      · exact ⟨c1.1.trans c2.1.symm, c1.2.trans c2.2.symm⟩
      · rw [c1.1, c1.2, setAt_same, setAt_ne c2] at z'
        have := (h.evs p2 t2 (old _ _ d2 c2)).2
        rw [← z', ne] at this
        cases this
    · by_cases c2 : p2 = p ∧ t2 = t
      · rw [c2.1, c2.2, setAt_same, setAt_ne c1] at z'
        have := (h.evs p1 t1 (old _ _ d1 c1)).2
        rw [z', ne] at this
        cases this
      · rw [setAt_ne c1, setAt_ne c2] at z'
        exact h.i2 _ _ _ _ (old _ _ d1 c1) (old _ _ d2 c2) z'
theorem Raw.addP {e : Addr} (h : Raw H C a fr n xs os E L DE DP A) {p t : Nat} (d : ¬ DP p t) (s : Same H H') (ne : H e = none) (he : H' e = some (.lst [])) :
    Raw (upd H' A.pi (.dT (putK A.pkv (ty p t) (.ref e)))) C a fr n xs os E (setAt L p t []) DE (addD DP p t) { A with pkv := putK A.pkv (ty p t) (.ref e), pA := setAt A.pA p t e } := by
  have g := h.same s
  have nev : e ≠ A.pi := fun z => by rw [z, h.pi] at ne; cases ne
  have old : ∀ p' t', addD DP p t p' t' → ¬ (p' = p ∧ t' = t) → DP p' t' := fun p' t' z c => z.resolve_right c
  refine ⟨?_, ?_, ?_, ?_, ?_, upd_same, fun p' t' d' => ⟨(g.evs p' t' d').1, ?_⟩, fun p' t' d' => ?_, h.n1, h.n2, h.n3, h.n4, ?_, ?_, h.i2⟩
  · rw [upd_ne (ne_of g.obj g.pi (fun z => nomatch z))]; exact g.obj
  · unfold LsAt; rw [upd_ne (ne_of g.frm g.pi (fun z => nomatch z))]; exact g.frm
  · rw [upd_ne (ne_of g.tx g.pi (fun z => nomatch z))]; exact g.tx
  · rw [upd_ne (ne_of g.og g.pi (fun z => nomatch z))]; exact g.og
  · rw [upd_ne g.n4]; exact g.ev
  · rw [upd_ne (ne_of (g.evs p' t' d').2 g.pi (fun z => nomatch z))]; exact (g.evs p' t' d').2
  · show valV (putK A.pkv (ty p t) (.ref e)) (ty p' t') = some (.ref (setAt A.pA p t e p' t')) ∧ LsAt (upd H' A.pi (.dT (putK A.pkv (ty p t) (.ref e)))) (setAt A.pA p t e p' t') (setAt L p t [] p' t')
    rw [valV_put]
    by_cases c : p' = p ∧ t' = t
    · rw [c.1, c.2, if_pos rfl, setAt_same, setAt_same]
      unfold LsAt
      rw [upd_ne nev]
      exact ⟨rfl, he⟩
    · have dd := old p' t' d' c
      rw [if_neg (ty_ne c), setAt_ne c, setAt_ne c]
      unfold LsAt
      rw [upd_ne (ne_of (g.pis p' t' dd).2 g.pi (fun z => nomatch z))]
      exact g.pis p' t' dd
  · intro p' t' d'
    show setAt A.pA p t e p' t' ≠ A.f ∧ setAt A.pA p t e p' t' ≠ A.tx ∧ setAt A.pA p t e p' t' ≠ A.og
    by_cases c : p' = p ∧ t' = t
    · rw [c.1, c.2, setAt_same]
      exact ⟨Ne.symm (ne_of_none h.frm ne), Ne.symm (ne_of_none h.tx ne), Ne.symm (ne_of_none h.og ne)⟩
    · rw [setAt_ne c]
      exact h.n5 _ _ (old _ _ d' c)
  · intro p1 t1 p2 t2 d1 d2 z
    have z' : setAt A.pA p t e p1 t1 = setAt A.pA p t e p2 t2 := z
    by_cases c1 : p1 = p ∧ t1 = t
    · by_cases c2 : p2 = p ∧ t2 = t
      · exact ⟨c1.1.trans c2.1.symm, c1.2.trans c2.2.symm⟩
      · rw [c1.1, c1.2, setAt_same, setAt_ne c2] at z'
        have := (h.pis p2 t2 (old _ _ d2 c2)).2
        rw [← z', LsAt, ne] at this
        cases this
    · by_cases c2 : p2 = p ∧ t2 = t
      · rw [c2.1, c2.2, setAt_same, setAt_ne c1] at z'
        have := (h.pis p1 t1 (old _ _ d1 c1)).2
        rw [z', LsAt, ne] at this
        cases this
      · rw [setAt_ne c1, setAt_ne c2] at z'
        exact h.i1 _ _ _ _ (old _ _ d1 c1) (old _ _ d2 c2) z'
theorem Raw.congr {n' : Nat} {xs' os' : List V} {E' : Nat → Nat → List (Key × V)} {L' : Nat → Nat → List Int} {DE' DP' : Nat → Nat → Prop} (h : Raw H C a fr n xs os E L DE DP A) (e1 : n' = n) (e2 : xs' = xs) (e3 : os' = os)
    (e4 : ∀ p t, DE' p t → DE p t ∧ E' p t = E p t) (e5 : ∀ p t, DP' p t → DP p t ∧ L' p t = L p t) : Raw H C a fr n' xs' os' E' L' DE' DP' A := by
  subst e1 e2 e3
  exact ⟨h.obj, h.frm, h.tx, h.og, h.ev, h.pi, fun p t d => by rw [(e4 p t d).2]; exact h.evs p t (e4 p t d).1, fun p t d => by rw [(e5 p t d).2]; exact h.pis p t (e5 p t d).1, h.n1, h.n2, h.n3, h.n4, fun p t d => h.n5 p t (e5 p t d).1,
    fun p t p' t' d d' => h.i1 p t p' t' (e5 p t d).1 (e5 p' t' d').1, fun p t p' t' d d' => h.i2 p t p' t' (e4 p t d).1 (e4 p' t' d').1⟩
end
/-! ### the state in a Past -/
def eK (S : De) (p t : Nat) : List (Key × V) := (S.ever p t).map fun e => ((Sum.inl e.1 : Key), V.bl true)
def Dom (fr : List Int) (n : Nat) : Nat → Nat → Prop := fun p t => p < n ∧ t ≤ fr.length
structure PastAt (H : Hp) (C a : Addr) (fr : List Int) (S : De) (A : PA) : Prop where
  raw : Raw H C a fr S.n (S.puts.map fun u => V.str u.x) (S.puts.map fun u => oV u.s) (eK S) S.lie (Dom fr S.n) (Dom fr S.n) A
  few : S.puts.length ≤ 5000
  lens : ∀ p t, (S.lie p t).length ≤ S.puts.length
  el : A.ekv.length ≤ 100 * S.n
  pl : A.pkv.length ≤ 100 * S.n
abbrev footP (a : Addr) (fr : List Int) (n : Nat) (A : PA) : Addr → Prop := Foot a (Dom fr n) (Dom fr n) A
section
variable {H H' : Hp} {C a : Addr} {fr : List Int} {S : De} {A : PA}
theorem PastAt.same (s : Same H H') (h : PastAt H C a fr S A) : PastAt H' C a fr S A := ⟨h.raw.same s, h.few, h.lens, h.el, h.pl⟩
theorem PastAt.keep (h : PastAt H C a fr S A) (k : ∀ x o, footP a fr S.n A x → H x = some o → H' x = some o) : PastAt H' C a fr S A := ⟨h.raw.keep k, h.few, h.lens, h.el, h.pl⟩
/-- nothing but its own is changed; what is there stays there -/
structure Only (F : Addr → Prop) (H H' : Hp) : Prop where
  out : ∀ x o, ¬ F x → H x = some o → H' x = some o
  grow : ∀ x o, H x = some o → ∃ u, H' x = some u
theorem only_same {F : Addr → Prop} (s : Same H H') : Only F H H' := ⟨fun x o _ e => s x o e, fun x o e => ⟨o, s x o e⟩⟩
theorem Only.trans {F : Addr → Prop} {H2 : Hp} (h : Only F H H') (k : Only F H' H2) : Only F H H2 := ⟨fun x o n e => k.out x o n (h.out x o n e), fun x o e => let ⟨u, z⟩ := h.grow x o e; k.grow x u z⟩
theorem grow_upd {H H' : Hp} {y : Addr} {o : HO} (h : ∀ x o, H x = some o → ∃ u, H' x = some u) : ∀ x v, H x = some v → ∃ u, (upd H' y o) x = some u := by
  intro x v e
  by_cases c : x = y
  · rw [c]
    exact ⟨_, upd_same⟩
  · rw [upd_ne c]
    exact h x v e
theorem Only.set {F : Addr → Prop} {y : Addr} {o : HO} (h : Only F H H') (fy : F y) : Only F H (upd H' y o) := ⟨fun x u n e => by
  have ne : x ≠ y := fun z => n (by rw [z]; exact fy)
  rw [upd_ne ne]
  exact h.out x u n e, grow_upd h.grow⟩
theorem Only.same {F : Addr → Prop} {H2 : Hp} (h : Only F H H') (k : Same H' H2) : Only F H H2 := h.trans (only_same k)
theorem Only.mono {F G : Addr → Prop} (h : Only F H H') (k : ∀ x, F x → G x) : Only G H H' := ⟨fun x o n e => h.out x o (fun z => n (k x z)) e, h.grow⟩
theorem Only.chg {F : Addr → Prop} {y : Addr} {o : HO} (h : Only F H H') (ny : H y = none) : Only F H (upd H' y o) := ⟨fun x u n e => by
  rw [upd_ne (ne_of_none e ny)]
  exact h.out x u n e, grow_upd h.grow⟩
theorem Only.free {F : Addr → Prop} {y : Addr} (h : Only F H H') (ny : H' y = none) : H y = none := by
  cases e : H y with
  | none => rfl
  | some o =>
    obtain ⟨u, eu⟩ := h.grow y o e
    rw [ny] at eu
    cases eu
theorem lookup_at {α : Type} {l : List α} {f : α → V} {k : Nat} {u : α} (h : l[k]? = some u) : (l.map f)[k]? = some (f u) := by
  rw [List.getElem?_map, h]
  rfl
theorem pf_froms (n : Nat) (A : PA) : (pastF n A).lookup ("froms" : Str) = some (.ref A.f) := rfl
theorem pf_phrases (n : Nat) (A : PA) : (pastF n A).lookup ("phrases" : Str) = some (.int (n : Int)) := rfl
theorem pf_texts (n : Nat) (A : PA) : (pastF n A).lookup ("texts" : Str) = some (.ref A.tx) := rfl
theorem pf_origins (n : Nat) (A : PA) : (pastF n A).lookup ("origins" : Str) = some (.ref A.og) := rfl
theorem pf_ever (n : Nat) (A : PA) : (pastF n A).lookup ("ever" : Str) = some (.ref A.ev) := rfl
theorem pf_piles (n : Nat) (A : PA) : (pastF n A).lookup ("piles" : Str) = some (.ref A.pi) := rfl
theorem pf_more (n : Nat) (A : PA) : putF ("phrases" : Str) (.int ((n : Int) + 1)) (pastF n A) = pastF (n + 1) A := rfl
theorem eK_none {k : Int} : ∀ {l : List (Int × Str)}, (∀ e ∈ l, e.1 ≠ k) → valV (l.map fun e => ((Sum.inl e.1 : Key), V.bl true)) (Sum.inl k) = none
  | [], _ => rfl
  | e :: r, h => by
    rw [List.map_cons, valV_neg (fun z => h e List.mem_cons_self (Sum.inl.inj z))]
    exact eK_none fun x hx => h x (List.mem_cons_of_mem _ hx)
theorem eK_has {k : Int} : ∀ {l : List (Int × Str)}, (valV (l.map fun e => ((Sum.inl e.1 : Key), V.bl true)) (Sum.inl k)).isSome = decide (k ∈ l.map (·.1))
  | [] => by simp [valV_nil]
  | e :: r => by
    rw [List.map_cons]
    by_cases c : e.1 = k
    · rw [valV_pos (by rw [c])]
      simp [c]
    · rw [valV_neg (fun z => c (Sum.inl.inj z)), eK_has]
      simp [Ne.symm c]
theorem ever_lt {p t : Nat} {e : Int × Str} (h : e ∈ S.ever p t) : e.1 < (S.puts.length : Int) := by
  obtain ⟨j, ej, v, e1, _⟩ := De.seen_ever h
  have := (List.getElem?_eq_some_iff.mp e1).1
  omega
theorem eK_lay {p t : Nat} {x : Str} {s : Option Int} (p' t' : Nat) : eK (S.lay p t x s) p' t' = setAt (eK S) p t (putK (eK S p t) (Sum.inl (S.puts.length : Int)) (V.bl true)) p' t' := by
  have ev : (S.lay p t x s).ever p' t' = S.ever p' t' ++ (if p = p' ∧ t = t' then [((S.puts.length : Int), x)] else []) := by
    show evG p' t' 0 (S.puts ++ [⟨p, t, x, s⟩]) = _
    rw [evG_snoc, Nat.zero_add]
    rfl
  have new : valV (eK S p t) (Sum.inl (S.puts.length : Int)) = none := eK_none fun e he => by
    have := ever_lt he
    omega
  unfold setAt
  by_cases c : p' = p ∧ t' = t
  · rw [if_pos c, c.1, c.2, putK_new _ new]
    unfold eK
    rw [c.1, c.2, if_pos ⟨rfl, rfl⟩] at ev
    rw [ev, List.map_append]
    rfl
  · rw [if_neg c]
    unfold eK
    rw [ev, if_neg (fun z => c ⟨z.1.symm, z.2.symm⟩), List.append_nil]
/-- one is put -/
theorem PastAt.lay {H1 H2 H3 H4 H5 : Hp} {p t : Nat} {x : Str} {s : Option Int} (h : PastAt H C a fr S A) (fw : S.puts.length < 5000) (hp : p < S.n) (ht : t ≤ fr.length)
    (s3 : Same (upd (upd H A.tx (.lst ((S.puts.map fun u => V.str u.x) ++ [V.str x]))) A.og (.lst ((S.puts.map fun u => oV u.s) ++ [oV s]))) H3)
    (s5 : Same (upd H3 (A.eA p t) (.dK (putK (eK S p t) (Sum.inl (S.puts.length : Int)) (V.bl true)))) H5) :
    PastAt (upd H5 (A.pA p t) (.lst ((S.lie p t).map V.int ++ [V.int (S.puts.length : Int)]))) C a fr (S.lay p t x s) A := by
  have d : Dom fr S.n p t := ⟨hp, ht⟩
  have r1 := ((((h.raw.setTx ((S.puts.map fun u => V.str u.x) ++ [V.str x])).setOg ((S.puts.map fun u => oV u.s) ++ [oV s])).same s3).setEv d (putK (eK S p t) (Sum.inl (S.puts.length : Int)) (V.bl true))).same s5
  have r2 := r1.setPi d (S.lie p t ++ [(S.puts.length : Int)])
  rw [List.map_append] at r2
  refine ⟨r2.congr rfl ?_ ?_ (fun p' t' d' => ⟨d', eK_lay p' t'⟩) (fun p' t' d' => ⟨d', rfl⟩), ?_, ?_, h.el, h.pl⟩
  · show (S.puts ++ [_]).map _ = _
    rw [List.map_append]
    rfl
  · show (S.puts ++ [_]).map _ = _
    rw [List.map_append]
    rfl
  · show (S.puts ++ [_]).length ≤ 5000
    rw [List.length_append, List.length_singleton]
    omega
  · intro p' t'
    show (setL S.lie p t _ p' t').length ≤ (S.puts ++ [_]).length
    have z := h.lens p' t'
    rw [List.length_append, List.length_singleton]
    unfold setL
    split
    · next e =>
      rw [e.1, e.2] at z
      rw [List.length_append, List.length_singleton]
      omega
    · omega
/-- what stands is taken back -/
theorem PastAt.off {p t : Nat} (h : PastAt H C a fr S A) (hp : p < S.n) (ht : t ≤ fr.length) : PastAt (upd H (A.pA p t) (.lst ((S.lie p t).map V.int).dropLast)) C a fr (S.off p t) A := by
  have r := h.raw.setPi (p := p) (t := t) ⟨hp, ht⟩ (S.lie p t).dropLast
  rw [List.map_dropLast] at r
  refine ⟨r.congr rfl rfl rfl (fun p' t' d' => ⟨d', rfl⟩) (fun p' t' d' => ⟨d', rfl⟩), h.few, ?_, h.el, h.pl⟩
  intro p' t'
  show (setL S.lie p t _ p' t').length ≤ S.puts.length
  have z := h.lens p' t'
  unfold setL
  split
  · next e =>
    rw [e.1, e.2] at z
    rw [List.length_dropLast]
    omega
  · exact z
theorem De.Ok.bare (ok : S.Ok fr) (t : Nat) : S.lie S.n t = [] ∧ S.ever S.n t = [] := by
  constructor
  · cases e : S.lie S.n t with
    | nil => rfl
    | cons k r =>
      obtain ⟨_, u, eu, hu, _⟩ := ok.num S.n t k (by rw [e]; exact List.mem_cons_self)
      have := (ok.each _ u eu).1
      omega
  · cases e : S.ever S.n t with
    | nil => rfl
    | cons k r =>
      obtain ⟨j, _, v, e1, e2, _⟩ := De.seen_ever (S := S) (p := S.n) (q := t) (e := k) (by rw [e]; exact List.mem_cons_self)
      have := (ok.each _ v e1).1
      omega
end
/-! ### a Desk -/
abbrev deskF (p L : Addr) : List (Str × V) := [("past", .ref p), ("lines", .ref L)]
structure DA where
  dx : Addr
  p : Addr
  L : Addr
  A : PA
structure DeskAt (H : Hp) (CD CP d : Addr) (fr : List Int) (S : De) (ls : List Line) (B : DA) : Prop where
  obj : H d = some (.ins CD B.dx (deskF B.p B.L))
  past : PastAt H CP B.p fr S B.A
  lines : LnAt H B.L ls
  nd : ¬ footP B.p fr S.n B.A d
  nL : ¬ footP B.p fr S.n B.A B.L
def footD (d : Addr) (fr : List Int) (n : Nat) (B : DA) : Addr → Prop := fun x => x = d ∨ x = B.L ∨ footP B.p fr n B.A x
/-- a desk, its things among F -/
def Desk (H : Hp) (CD CP d : Addr) (fr : List Int) (S : De) (ls : List Line) (F : Addr → Prop) : Prop :=
  ∃ B, DeskAt H CD CP d fr S ls B ∧ (∀ x, footD d fr S.n B x → F x) ∧ ∀ x, F x → ∃ o, H x = some o ∧ ∀ xs, o ≠ .tup xs
section
variable {H H' : Hp} {CD CP d : Addr} {fr : List Int} {S : De} {ls : List Line} {B : DA} {F : Addr → Prop}
theorem DeskAt.keep (h : DeskAt H CD CP d fr S ls B) (k : ∀ x o, footD d fr S.n B x → H x = some o → H' x = some o) (kt : ∀ q xs, H q = some (.tup xs) → H' q = some (.tup xs)) : DeskAt H' CD CP d fr S ls B := by
  obtain ⟨vs, hv, ha⟩ := h.lines
  exact ⟨k _ _ (.inl rfl) h.obj, h.past.keep fun x o z e => k x o (.inr (.inr z)) e, ⟨vs, k _ _ (.inr (.inl rfl)) hv, ha.mono fun _ _ ⟨q, z, u⟩ => ⟨q, z, kt _ _ u⟩⟩, h.nd, h.nL⟩
theorem Desk.keep (h : Desk H CD CP d fr S ls F) (k : ∀ x o, F x → H x = some o → H' x = some o) (kt : ∀ q xs, H q = some (.tup xs) → H' q = some (.tup xs)) : Desk H' CD CP d fr S ls F := by
  obtain ⟨B, h1, h2, h3⟩ := h
  refine ⟨B, h1.keep (fun x o z e => k x o (h2 x z) e) kt, h2, fun x fx => ?_⟩
  obtain ⟨o, e, n⟩ := h3 x fx
  exact ⟨o, k x o fx e, n⟩
theorem Desk.same (s : Same H H') (h : Desk H CD CP d fr S ls F) : Desk H' CD CP d fr S ls F := h.keep (fun x o _ e => s x o e) fun q xs e => s _ _ e
theorem DeskAt.foot (h : DeskAt H CD CP d fr S ls B) {x : Addr} (hx : footD d fr S.n B x) : ∃ o, H x = some o ∧ ∀ xs, o ≠ .tup xs := by
  rcases hx with rfl | rfl | hx
  · exact ⟨_, h.obj, fun _ z => nomatch z⟩
  · obtain ⟨vs, hv, _⟩ := h.lines
    exact ⟨_, hv, fun _ z => nomatch z⟩
  · exact h.past.raw.foot hx
theorem desk_of (h : DeskAt H CD CP d fr S ls B) : Desk H CD CP d fr S ls (footD d fr S.n B) := ⟨B, h, fun _ z => z, fun _ z => h.foot z⟩
/-- what is true behind a deed at the desk -/
def Goes (CD CP d : Addr) (fr : List Int) (H : Hp) (F : Addr → Prop) (S : De) (ls : List Line) (k : Hp → Prop) : Prop := ∀ (H' : Hp) (F' : Addr → Prop), Desk H' CD CP d fr S ls F' → Only F H H' → (∀ x, F' x → F x ∨ H x = none) → k H'
structure Went (CD CP d : Addr) (fr : List Int) (H : Hp) (F : Addr → Prop) (S : De) (ls : List Line) (H' : Hp) (F' : Addr → Prop) : Prop where
  desk : Desk H' CD CP d fr S ls F'
  only : Only F H H'
  foot : ∀ x, F' x → F x ∨ H x = none
theorem Went.refl (h : Desk H CD CP d fr S ls F) : Went CD CP d fr H F S ls H F := ⟨h, only_same (Same.refl _), fun _ z => .inl z⟩
theorem Went.same {H2 : Hp} {F' : Addr → Prop} (w : Went CD CP d fr H F S ls H' F') (s : Same H' H2) : Went CD CP d fr H F S ls H2 F' := ⟨w.desk.same s, w.only.same s, w.foot⟩
theorem Went.trans {H2 : Hp} {F1 F2 : Addr → Prop} {S' : De} {ls' : List Line} (w : Went CD CP d fr H F S ls H' F1) (v : Went CD CP d fr H' F1 S' ls' H2 F2) : Went CD CP d fr H F S' ls' H2 F2 := by
  refine ⟨v.desk, ⟨fun x o n e => v.only.out x o (fun z => (w.foot x z).elim n fun y => by rw [e] at y; cases y) (w.only.out x o n e), fun x o e => let ⟨u, z⟩ := w.only.grow x o e; v.only.grow x u z⟩, fun x z => ?_⟩
  rcases v.foot x z with y | y
  · exact w.foot x y
  · exact .inr (w.only.free y)
/-- a thing of one's own, not the desk's -/
theorem Went.chg {F' : Addr → Prop} {y : Addr} {o u : HO} (w : Went CD CP d fr H F S ls H' F') (ny : H y = none) (nF : ¬ F' y) (hy : H' y = some u) (nt : ∀ xs, u ≠ .tup xs) : Went CD CP d fr H F S ls (upd H' y o) F' := by
  refine ⟨w.desk.keep (fun x v fx e => ?_) (fun q xs e => ?_), w.only.chg ny, w.foot⟩
  · rw [upd_ne (fun z => nF (by rw [← z]; exact fx))]
    exact e
  · rw [upd_ne (ne_of e hy (fun z => nt _ z.symm))]
    exact e
theorem Desk.tup (h : Desk H CD CP d fr S ls F) (o : Only F H H') {q : Addr} {xs : List V} (e : H q = some (.tup xs)) : H' q = some (.tup xs) := by
  obtain ⟨B, h1, h2, h3⟩ := h
  refine o.out q _ (fun z => ?_) e
  obtain ⟨u, eu, nu⟩ := h3 q z
  rw [e] at eu
  exact nu _ (Option.some.inj eu).symm
theorem Desk.there (h : Desk H CD CP d fr S ls F) {x : Addr} (fx : F x) : ∃ o, H x = some o := by
  obtain ⟨B, h1, h2, h3⟩ := h
  obtain ⟨o, e, _⟩ := h3 x fx
  exact ⟨o, e⟩
theorem Went.new {F' : Addr → Prop} (w : Went CD CP d fr H F S ls H' F') (h : Desk H CD CP d fr S' ls' F) {y : Addr} (ny : H' y = none) : ¬ F' y := fun z => by
  obtain ⟨o, e⟩ := w.desk.there z
  rw [ny] at e
  cases e
end
end PD

/-! Phrasedesk: list(range(a, b, c)); texts of lines -/
namespace PD
open PySem PySem.Spec PyProof.Rows L2
def stepsV (i c : Int) (n : Nat) : List V := (List.range n).map fun k => V.int (i + (k : Nat) * c)
def tStp (ta : TA) : TE := fun σ G Q => ta σ G fun xs G1 => ∃ (i j c : Int) (n : Nat), xs = [.int i, .int j, .int c] ∧ RgC i j c n ∧ n ≤ 1000 ∧ ∀ q, G1 q = none → Q (.ref q) (upd G1 q (.lst (stepsV i c n)))
theorem steps_len {i c : Int} {n : Nat} : (stepsV i c n).length = n := by
  unfold stepsV
  rw [List.length_map, List.length_range]
theorem steps_vals {i c : Int} {n : Nat} {acc : Array Value} (h : ItemsOf (fun k v => ∃ t, v = .int (i + k * c) t) acc n) : Vals (stepsV i c n) acc.toList := by
  have el : acc.toList.length = n := (Array.length_toList).trans h.1
  unfold stepsV
  rw [← el]
  apply vals_of_get
  intro j u hj
  rw [Array.getElem?_toList] at hj
  exact h.2 j u hj
section
variable {X : Cx}
theorem pe_lstSteps {a b c : Expr} {ta : TA} {p1 p2 q1 q2 : Pos} (calm : X.calm = true) (g1 : Gl X "list") (m1 : X.mg "list" = none) (g2 : Gl X "range") (m2 : X.mg "range" = none) (ha : L2.PA X [a, b, c] ta)
    (st : starEach [a, b, c] X.env = (false, eval a X.env) :: starEach [b, c] X.env := by rfl) (pl : (backTo q2 (starEach [b, c] X.env)).any (·.1) = false := by rfl)
    (so : starEach [Expr.Call (.Name "range" p2) [a, b, c] [] q2] X.env = (false, eval (.Call (.Name "range" p2) [a, b, c] [] q2) X.env) :: starEach [] X.env := by rfl) :
    PE X (.Call (.Name "list" p1) [.Call (.Name "range" p2) [a, b, c] [] q2] [] q1) (tStp ta) := by
  constructor
  intro pins z σ G Q I h
  have made : wpAny (model X.prog X.w) X.A (eval (.Call (.Name "range" p2) [a, b, c] [] q2) X.env) (fun x z' => ∃ (r : Addr) (i j k : Int) (n : Nat) (t u v : Tok) (G' : Hp), x = .ref r ∧ IsRange z'.heap r i j k t u v ∧ Inv X pins σ G' z' ∧ RgC i j k n ∧ n ≤ 1000 ∧
      ∀ q, G' q = none → Q (.ref q) (upd G' q (.lst (stepsV i k n)))) X.xe z := by
    refine Call_ (ld_blt I g2 m2 boot_range (PyProof.Rows.callWith_type1 (thn (ha.run q2 pins z σ G _ I h) fun us z1 w1 => ?_) st pl))
    obtain ⟨xs, G1, I1, r1, i, j, k, n, rfl, rg, n1, q⟩ := w1
    obtain ⟨u1, us1, rfl, ⟨t, rfl⟩, r2⟩ : ∃ u us', us = u :: us' ∧ RelV (.int i) u ∧ Vals [V.int j, V.int k] us' := by
      cases r1 with
      | cons a b => exact ⟨_, _, rfl, a, b⟩
    obtain ⟨u2, us2, rfl, ⟨t', rfl⟩, r3⟩ : ∃ u us', us1 = u :: us' ∧ RelV (.int j) u ∧ Vals [V.int k] us' := by
      cases r2 with
      | cons a b => exact ⟨_, _, rfl, a, b⟩
    obtain ⟨u3, us3, rfl, ⟨t'', rfl⟩, r4⟩ : ∃ u us', us2 = u :: us' ∧ RelV (.int k) u ∧ Vals [] us' := by
      cases r3 with
      | cons a b => exact ⟨_, _, rfl, a, b⟩
    cases r4
    · refine call_range_3 rg.1 ?_ (.inl (PyProof.noPylong_small rg.2.1))
      exact ⟨_, i, j, k, n, _, _, _, G1, rfl, IsRange.new .., I1.kept (t' := z1.toks) fun b o e => Heap.get?_push_of_some _ e, rg, n1, q⟩
  refine Call_ (ld_blt I g1 m1 boot_list (PyProof.Rows.callWith_type1 (args_cons (thn made fun x z1 w1 => args_nil ?_) so) so))
  obtain ⟨r, i, j, k, n, t, u, v, G1, rfl, hr, I1, rg, n1, q⟩ := w1
  refine call_list_range (n := n) (I1.ok.hd calm) hr rg.2.2.1 rg.2.2.2 (Nat.le_trans n1 (by decide)) fun h' tk acc c' hk e' hi => ?_
  refine ⟨.ref z1.heap.objs.size, _, I1.laid hk (Nat.le_refl _) (o := .lst (stepsV i k n)) ?_, rfl, q _ (I1.hok.fresh (Nat.le_refl _))⟩
  refine ⟨?_, acc.toList, c', steps_vals hi, ?_⟩
  · rw [steps_len]
    exact Nat.le_trans n1 (by decide)
  · rw [Array.toArray_toList]
    exact e'
end
/-! ### lines as a tale's, their texts -/
def Line.Tx : Line → Prop
  | .phrase _ x _ => TxOk x
  | .put _ _ x _ _ _ => TxOk x
  | .back _ _ _ => True
theorem fill_tx {fr : List Int} {S : De} (h : S.Ok fr) (fo : FrOk fr) {t : Nat} (t0 : 0 < t) (t1 : t ≤ fr.length) : ∀ i, i ≤ S.n → ∀ n ∈ (S.fillTo fr t i).2.2, n.Tx
  | 0, _ => fun n hn => (nomatch hn)
  | i + 1, hi => by
    have ih := fill_tx h fo t0 t1 i (by omega)
    have fk := fillTo_ok h fo t0 t1 i (by omega)
    rw [De.fillTo_succ]
    generalize S.fillTo fr t i = A at ih fk ⊢
    by_cases c1 : chain fr (A.1.row (fr.length + 1) i) (up fr t) = Option.none
    · by_cases c2 : chain fr (A.1.row (fr.length + 1) i) t = Option.none
      · rw [De.fill_no (.inr (.inl c2))]
        exact ih
      · cases c3 : onlyOf (A.1.found fr i t A.1.n) with
        | none =>
          rw [De.fill_no (.inr (.inr c3))]
          exact ih
        | some x =>
          rw [De.fill_yes c1 c2 c3]
          intro n hn
          rcases List.mem_append.mp hn with z | z
          · exact ih n z
          · rw [List.mem_singleton.mp z]
            exact fk.ok.found fo t0 t1 ((onlyOf_some c3 x).mpr rfl)
    · rw [De.fill_no (.inl c1)]
      exact ih
theorem come_tx {fr : List Int} {S : De} {dd : Deed} (h : S.Ok fr) (fo : FrOk fr) (m : S.May fr dd) : ∀ n ∈ (S.come fr dd).2.2, n.Tx := by
  cases dd with
  | phrase x =>
    intro n hn
    rw [List.mem_singleton.mp hn]
    exact m.2
  | put p t x s o =>
    intro n hn
    rw [List.mem_singleton.mp hn]
    exact m.2.2.1
  | back p t =>
    intro n hn
    rw [List.mem_singleton.mp hn]
    trivial
  | fill t => exact fill_tx h fo m.1 m.2 S.n (Nat.le_refl _)
def Line.tl : Line → Tl
  | .phrase p x k => .phrase p x k
  | .put p t x s o k => .put p t x s o k
  | .back p t k => .back p t k
theorem Line.tl_vals : ∀ n : Line, n.tl.vals = n.vals
  | .phrase _ _ _ => rfl
  | .put _ _ _ _ _ _ => rfl
  | .back _ _ _ => rfl
theorem Line.Tx.low : ∀ {n : Line}, n.Tx → n.tl.Low
  | .phrase _ x _, h => ⟨h.each, by have := TxOk.hi h; omega⟩
  | .put _ _ x _ _ _, h => ⟨h.each, by have := TxOk.hi h; omega⟩
  | .back _ _ _, _ => trivial
def Tl.short : Tl → Prop
  | .phrase _ x _ => x.length ≤ 5000
  | .put _ _ x _ _ _ => x.length ≤ 5000
  | .back _ _ _ => True
theorem Tl.Low.short : ∀ {n : Tl}, n.Low → n.short
  | .phrase _ _ _, h => h.2
  | .put _ _ _ _ _ _, h => h.2
  | .back _ _ _, _ => trivial
end PD

/-! Phrasedesk: a comprehension over two lists, one within the other -/
namespace PD
open PySem PySem.Spec PyProof.Rows L2
section
variable {K : PySem.W.Frag} {a b : Addr} {xs ys : List V} {wi wi1 : TI} {tt1 : TT} {te : TE} {vs : List Nat} {i0 j0 : Nat} {σ : L2.St} {G0 : Hp} {Q : VK}
/-- the slots behind both names -/
abbrev sl1 (σ : L2.St) (vs : List Nat) (i0 : Nat) (x : V) : L2.St := (wipe σ vs).set i0 (some x)
abbrev sl2 (σ : L2.St) (vs : List Nat) (i0 j0 : Nat) (x y : V) : L2.St := (wipe (sl1 σ vs i0 x) [j0]).set j0 (some y)
theorem lc2_two (Pv : Addr → Nat → Nat → Hp → Prop) (hwi : ∀ R : It → Hp → Prop, R (Itl K a) G0 → wi σ G0 R) (hwi1 : ∀ x G (R : It → Hp → Prop), SqL K G b ys → R (Itl K b) G → wi1 (sl1 σ vs i0 x) G R)
    (hw1 : ∀ x, wipe (sl1 σ vs i0 x) vs = wipe σ vs) (hw2 : ∀ x y, wipe (sl2 σ vs i0 j0 x y) [j0] = wipe (sl1 σ vs i0 x) [j0])
    (h0 : ∀ D, G0 D = none → Pv D 0 0 (upd G0 D (.lst []))) (hl : ∀ D i j G, Pv D i j G → SqL K G a xs ∧ SqL K G b ys) (hn : ∀ D i G, Pv D i ys.length G → Pv D (i + 1) 0 G)
    (hs : ∀ D, G0 D = none → ∀ i j x y G, xs[i]? = some x → ys[j]? = some y → Pv D i j G → tt1 (sl2 σ vs i0 j0 x y) G fun c G1 =>
      if c = true then te (sl2 σ vs i0 j0 x y) G1 fun v G2 => ∃ acc, G2 D = some (.lst acc) ∧ acc.length < sizeLine ∧ Pv D i (j + 1) (upd G2 D (.lst (acc ++ [v]))) else Pv D i (j + 1) G1)
    (hd : ∀ D, G0 D = none → ∀ G, Pv D xs.length 0 G → Q (.ref D) G) : tLc2 wi (gName i0) tYes wi1 (gName j0) tt1 te vs [j0] σ G0 Q := by
  have w1 := walk_list (K := K) (a := a) (xs := xs)
  have w2 := walk_list (K := K) (a := b) (xs := ys)
  refine hwi _ fun D nD => ⟨fun i m G => m = xs.length - i ∧ i ≤ xs.length ∧ Pv D i 0 G, ⟨xs.length, by simp, Nat.zero_le _, h0 D nD⟩, ?_⟩
  rintro i m G ⟨rfl, hi, pv⟩
  by_cases c : i < xs.length
  · refine .inr ⟨w1.goes i G c (hl D i 0 G pv).1, Pv D (i + 1) 0, fun G' p' => ⟨xs.length - (i + 1), by omega, rfl, c, p'⟩, ?_⟩
    intro x G' yl
    obtain ⟨eH, ex⟩ := w1.yields i G x G' c (hl D i 0 G pv).1 yl
    subst eH
    refine ⟨hw1 x, ?_⟩
    show wi1 _ _ _
    refine hwi1 x _ _ (hl D i 0 _ pv).2 ⟨fun j k G => k = ys.length - j ∧ j ≤ ys.length ∧ Pv D i j G, ⟨ys.length, by simp, Nat.zero_le _, pv⟩, ?_⟩
    rintro j k G ⟨rfl, hj, pv⟩
    by_cases cj : j < ys.length
    · refine .inr ⟨w2.goes j G cj (hl D i j G pv).2, Pv D i (j + 1), fun G' p' => ⟨ys.length - (j + 1), by omega, rfl, cj, p'⟩, ?_⟩
      intro y G' yl
      obtain ⟨eH, ey⟩ := w2.yields j G y G' cj (hl D i j G pv).2 yl
      subst eH
      exact ⟨hw2 x y, hs D nD i j x y _ ex ey pv⟩
    · have e : j = ys.length := by omega
      subst e
      exact .inl ⟨w2.stops G (hl D i _ G pv).2, hn D i G pv⟩
  · have e : i = xs.length := by omega
    subst e
    exact .inl ⟨w1.stops G (hl D _ 0 G pv).1, hd D nD G pv⟩
end
/-- all that is old at a desk -/
def De.oldOf (fr : List Int) (S : De) (p : Nat) : List Pr := ((List.range fr.length).filter fun j => (chain fr (S.row (fr.length + 1) p) (j + 1)).isSome).map fun (j : Nat) => ((p : Int), ((j + 1 : Nat) : Int))
def De.oldTo (fr : List Int) (S : De) (i : Nat) : List Pr := (List.range i).flatMap (S.oldOf fr)
def De.oldUp (fr : List Int) (S : De) (i j : Nat) : List Pr := S.oldTo fr i ++ (((List.range j).filter fun j => (chain fr (S.row (fr.length + 1) i) (j + 1)).isSome).map fun (j : Nat) => ((i : Int), ((j + 1 : Nat) : Int)))
theorem De.oldTo_succ {fr : List Int} {S : De} {i : Nat} : S.oldTo fr (i + 1) = S.oldUp fr i fr.length := by
  unfold De.oldTo De.oldUp
  rw [List.range_succ, List.flatMap_append]
  unfold De.oldTo De.oldOf
  simp
theorem De.oldUp_succ {fr : List Int} {S : De} {i j : Nat} : S.oldUp fr i (j + 1) = S.oldUp fr i j ++ (if (chain fr (S.row (fr.length + 1) i) (j + 1)).isSome then [((i : Int), ((j + 1 : Nat) : Int))] else []) := by
  unfold De.oldUp
  rw [List.range_succ, List.filter_append, List.map_append, List.append_assoc]
  congr 2
  by_cases c : (chain fr (S.row (fr.length + 1) i) (j + 1)).isSome = true
  · rw [if_pos c, List.filter_cons_of_pos (p := fun j => (chain fr (S.row (fr.length + 1) i) (j + 1)).isSome) c]
    rfl
  · rw [if_neg c, List.filter_cons_of_neg (p := fun j => (chain fr (S.row (fr.length + 1) i) (j + 1)).isSome) c]
    rfl
theorem De.oldUp_len {fr : List Int} {S : De} : ∀ {i j : Nat}, (S.oldUp fr i j).length ≤ fr.length * i + j := by
  intro i
  induction i with
  | zero =>
    intro j
    unfold De.oldUp De.oldTo
    rw [List.range_zero, List.flatMap_nil, List.nil_append, List.length_map]
    have := List.length_filter_le (fun j => (chain fr (S.row (fr.length + 1) 0) (j + 1)).isSome) (List.range j)
    rw [List.length_range] at this
    omega
  | succ i ih =>
    intro j
    unfold De.oldUp
    rw [De.oldTo_succ, List.length_append, List.length_map]
    have h1 := ih (j := fr.length)
    have h2 := List.length_filter_le (fun j => (chain fr (S.row (fr.length + 1) (i + 1)) (j + 1)).isSome) (List.range j)
    rw [List.length_range] at h2
    rw [Nat.mul_succ]
    omega
abbrev De.olds (fr : List Int) (S : De) : List Pr := S.oldTo fr S.n
end PD

/-! Phrasedesk: what a change of a tongue makes old, as mathematics -/
namespace PD
open PySem PySem.Spec PyProof.Rows L2
/-- put from what stands above it -/
def De.edge (fr : List Int) (S : De) (t : Nat) : Prop := ∃ k k', S.now 0 t = some k ∧ S.now 0 (up fr t) = some k' ∧ (S.pt k).s = some k'
section
variable {fr : List Int} {S : De}
theorem row_getD {t : Nat} (h : t ≤ fr.length) : (S.row (fr.length + 1) 0).getD t Option.none = S.cell 0 t := by
  rw [List.getD_eq_getElem?_getD, De.row_at (by omega)]
  rfl
theorem brk_edge (fo : FrOk fr) {t : Nat} (t0 : 0 < t) (t1 : t ≤ fr.length) : brk fr (S.row (fr.length + 1) 0) t = false ↔ S.edge fr t := by
  have hu := up_lt fo t0 t1
  unfold brk
  rw [row_getD t1, row_getD (by omega)]
  unfold De.cell De.edge
  cases e1 : S.now 0 t with
  | none => exact ⟨fun z => (nomatch z), fun ⟨k, k', z, _⟩ => (nomatch z)⟩
  | some k =>
    cases e2 : S.now 0 (up fr t) with
    | none => exact ⟨fun z => (nomatch z), fun ⟨k, k', _, z, _⟩ => (nomatch z)⟩
    | some k' =>
      show (!decide ((S.pt k).s = some k')) = false ↔ _
      constructor
      · intro z
        refine ⟨k, k', rfl, rfl, ?_⟩
        by_cases c : (S.pt k).s = some k'
        · exact c
        · rw [decide_eq_false c] at z
          cases z
      · rintro ⟨a, b, ea, eb, ec⟩
        cases (Option.some.inj ea)
        cases (Option.some.inj eb)
        rw [decide_eq_true ec]
        rfl
theorem chain_fresh (fo : FrOk fr) (h : ∀ t, 0 < t → t ≤ fr.length → S.edge fr t) : ∀ t, t ≤ fr.length → chain fr (S.row (fr.length + 1) 0) t = Option.none := by
  intro t
  induction t using Nat.strongRecOn with
  | _ t ih =>
    intro ht
    by_cases t0 : t = 0
    · rw [t0]
      rfl
    · have hu := up_lt fo (by omega : 0 < t) ht
      rw [chain_step fo (by omega) ht, (brk_edge fo (by omega) ht).mpr (h t (by omega) ht), if_neg (by decide), ih _ hu (by omega)]
      rfl
theorem olds_one (n1 : S.n = 1) : S.olds fr = ((List.range fr.length).filter fun j => (chain fr (S.row (fr.length + 1) 0) (j + 1)).isSome).map fun (j : Nat) => ((0 : Int), ((j + 1 : Nat) : Int)) := by
  unfold De.olds De.oldTo
  rw [n1]
  show ([0].flatMap _) = _
  rw [List.flatMap_singleton]
  rfl
theorem olds_fresh (fo : FrOk fr) (n1 : S.n = 1) (h : ∀ t, 0 < t → t ≤ fr.length → S.edge fr t) : S.olds fr = [] := by
  rw [olds_one n1]
  have : ((List.range fr.length).filter fun j => (chain fr (S.row (fr.length + 1) 0) (j + 1)).isSome) = [] := by
    rw [List.filter_eq_nil_iff]
    intro j hj
    rw [chain_fresh fo h (j + 1) (by have := List.mem_range.mp hj; omega)]
    decide
  rw [this]
  rfl
/-! ### one is put -/
variable {t : Nat} {x : Str} {s : Option Int}
theorem lay_now_same : (S.lay 0 t x s).now 0 t = some (S.puts.length : Int) := by
  show (setL S.lie 0 t _ 0 t).getLast? = _
  unfold setL
  rw [if_pos ⟨rfl, rfl⟩, List.getLast?_append]
  rfl
theorem lay_now_ne {u : Nat} (h : u ≠ t) : (S.lay 0 t x s).now 0 u = S.now 0 u := by
  show (setL S.lie 0 t _ 0 u).getLast? = _
  unfold setL
  rw [if_neg (fun z => h z.2)]
  rfl
theorem lay_pt_old {k : Int} {v : Pt} (k0 : 0 ≤ k) (h : S.puts[k.toNat]? = some v) : (S.lay 0 t x s).pt k = S.pt k := by
  rw [De.pt_at h, De.pt_at (S := S.lay 0 t x s) (at_snoc h)]
theorem lay_pt_new : (S.lay 0 t x s).pt (S.puts.length : Int) = ⟨0, t, x, s⟩ := by
  apply De.pt_at
  show (S.puts ++ [_])[((S.puts.length : Nat) : Int).toNat]? = _
  rw [Int.toNat_natCast, List.getElem?_append_right (Nat.le_refl _), Nat.sub_self]
  rfl
theorem edge_new (fo : FrOk fr) (t0 : 0 < t) (t1 : t ≤ fr.length) (h : ∃ k', S.now 0 (up fr t) = some k') : (S.lay 0 t x (S.now 0 (up fr t))).edge fr t := by
  obtain ⟨k', ek⟩ := h
  have hu := up_lt fo t0 t1
  refine ⟨_, k', lay_now_same, ?_, ?_⟩
  · rw [lay_now_ne (by omega)]
    exact ek
  · rw [lay_pt_new]
    exact ek
theorem edge_keep (ok : S.Ok fr) {u : Nat} (n1 : u ≠ t) (n2 : up fr u ≠ t) : (S.lay 0 t x s).edge fr u ↔ S.edge fr u := by
  unfold De.edge
  rw [lay_now_ne n1, lay_now_ne n2]
  constructor
  · rintro ⟨k, k', e1, e2, e3⟩
    obtain ⟨k0, v, ev, _, _⟩ := ok.num.now e1
    rw [lay_pt_old k0 ev] at e3
    exact ⟨k, k', e1, e2, e3⟩
  · rintro ⟨k, k', e1, e2, e3⟩
    obtain ⟨k0, v, ev, _, _⟩ := ok.num.now e1
    refine ⟨k, k', e1, e2, ?_⟩
    rw [lay_pt_old k0 ev]
    exact e3
theorem edge_gone (fo : FrOk fr) (ok : S.Ok fr) {u : Nat} (u0 : 0 < u) (u1 : u ≤ fr.length) (h : up fr u = t) : ¬ (S.lay 0 t x s).edge fr u := by
  rintro ⟨k, k', e1, e2, e3⟩
  have hu := up_lt fo u0 u1
  rw [lay_now_ne (by omega)] at e1
  rw [h, lay_now_same] at e2
  obtain ⟨k0, v, ev, hp, hv⟩ := ok.num.now e1
  rw [lay_pt_old k0 ev, De.pt_at ev] at e3
  obtain ⟨_, _, _, _, hs⟩ := ok.each _ v ev
  obtain ⟨j, ej, w, ew, _⟩ := hs (by omega)
  rw [ej] at e3
  have h1 := Option.some.inj e3
  have h2 := Option.some.inj e2
  have h3 := (List.getElem?_eq_some_iff.mp ew).1
  omega
/-! ### behind a change of one tongue -/
/-- all is put from what stands but those right below t -/
structure Chgd (fr : List Int) (S : De) (t : Nat) : Prop where
  yes : ∀ u, 0 < u → u ≤ fr.length → up fr u ≠ t → S.edge fr u
  no : ∀ u, 0 < u → u ≤ fr.length → up fr u = t → ¬ S.edge fr u
theorem Chgd.step (fo : FrOk fr) (h : Chgd fr S t) {u : Nat} (u0 : 0 < u) (u1 : u ≤ fr.length) : chain fr (S.row (fr.length + 1) 0) u = if up fr u = t then some [(u : Int)] else (chain fr (S.row (fr.length + 1) 0) (up fr u)).map ((u : Int) :: ·) := by
  rw [chain_step fo u0 u1]
  by_cases c : up fr u = t
  · have b : brk fr (S.row (fr.length + 1) 0) u = true := by
      cases e : brk fr (S.row (fr.length + 1) 0) u with
      | true => rfl
      | false => exact absurd ((brk_edge fo u0 u1).mp e) (h.no u u0 u1 c)
    rw [b, if_pos rfl, if_pos c]
  · rw [(brk_edge fo u0 u1).mpr (h.yes u u0 u1 c), if_neg (by decide), if_neg c]
theorem Chgd.chain (fo : FrOk fr) (h : Chgd fr S t) : ∀ u, u ≤ fr.length → ∀ c, chain fr (S.row (fr.length + 1) 0) u = some c → c.head? = some (u : Int) ∧ ∃ l : Nat, c.getLast? = some (l : Int) ∧ 0 < l ∧ l ≤ fr.length ∧ up fr l = t := by
  intro u
  induction u using Nat.strongRecOn with
  | _ u ih =>
    intro hu c ec
    by_cases u0 : u = 0
    · rw [u0] at ec
      cases ec
    · have lt := up_lt fo (by omega : 0 < u) hu
      rw [h.step fo (by omega) hu] at ec
      by_cases cc : up fr u = t
      · rw [if_pos cc] at ec
        cases (Option.some.inj ec)
        exact ⟨rfl, u, rfl, by omega, hu, cc⟩
      · rw [if_neg cc] at ec
        obtain ⟨r, er, rfl⟩ := Option.map_eq_some_iff.mp ec
        obtain ⟨h1, l, h2, h3⟩ := ih _ lt (by omega) r er
        refine ⟨rfl, l, ?_, h3⟩
        cases r with
        | nil => cases h1
        | cons y ys =>
          rw [List.getLast?_cons_cons]
          exact h2
/-- the tongues that are put from one, and so on, up to i -/
def belowTo (fr : List Int) (t : Nat) : Nat → List Nat
  | 0 => [t]
  | i + 1 => belowTo fr t i ++ (if up fr (i + 1) ∈ belowTo fr t i then [i + 1] else [])
theorem belowTo_cons (i : Nat) : ∃ r, belowTo fr t i = t :: r := by
  induction i with
  | zero => exact ⟨[], rfl⟩
  | succ i ih =>
    obtain ⟨r, er⟩ := ih
    unfold belowTo
    rw [er]
    exact ⟨_, rfl⟩
theorem below_chain (fo : FrOk fr) (h : Chgd fr S t) : ∀ i, i ≤ fr.length → belowTo fr t i = t :: ((List.range i).filter fun j => (chain fr (S.row (fr.length + 1) 0) (j + 1)).isSome).map (· + 1) := by
  intro i
  induction i with
  | zero => intro _; rfl
  | succ i ih =>
    intro hi
    have lt := up_lt fo (by omega : 0 < i + 1) hi
    unfold belowTo
    rw [ih (by omega), List.range_succ, List.filter_append, List.map_append]
    show t :: (_ ++ _) = t :: (_ ++ _)
    congr 2
    have key : (up fr (i + 1) ∈ t :: ((List.range i).filter fun j => (PD.chain fr (S.row (fr.length + 1) 0) (j + 1)).isSome).map (· + 1)) ↔ (PD.chain fr (S.row (fr.length + 1) 0) (i + 1)).isSome = true := by
      rw [h.step fo (by omega) hi, List.mem_cons]
      by_cases c : up fr (i + 1) = t
      · rw [if_pos c]
        exact ⟨fun _ => rfl, fun _ => .inl c⟩
      · rw [if_neg c, Option.isSome_map]
        constructor
        · rintro (z | z)
          · exact absurd z c
          · obtain ⟨j, hj, ej⟩ := List.mem_map.mp z
            rw [← ej]
            exact (List.mem_filter.mp hj).2
        · intro z
          refine .inr ?_
          by_cases u0 : up fr (i + 1) = 0
          · rw [u0] at z
            cases z
          · refine List.mem_map.mpr ⟨up fr (i + 1) - 1, List.mem_filter.mpr ⟨List.mem_range.mpr (by omega), ?_⟩, by omega⟩
            show (PD.chain fr (S.row (fr.length + 1) 0) (up fr (i + 1) - 1 + 1)).isSome = true
            rw [show up fr (i + 1) - 1 + 1 = up fr (i + 1) by omega]
            exact z
    by_cases c : (PD.chain fr (S.row (fr.length + 1) 0) (i + 1)).isSome = true
    · rw [if_pos (key.mpr c), List.filter_cons_of_pos (p := fun j => (PD.chain fr (S.row (fr.length + 1) 0) (j + 1)).isSome) c]
      rfl
    · rw [if_neg (fun z => c (key.mp z)), List.filter_cons_of_neg (p := fun j => (PD.chain fr (S.row (fr.length + 1) 0) (j + 1)).isSome) c]
      rfl
/-- a change of one tongue where all was fresh -/
theorem chgd_of (fo : FrOk fr) (ok : S.Ok fr) (h : ∀ u, 0 < u → u ≤ fr.length → S.edge fr u) (t1 : t ≤ fr.length) (hs : 0 < t → (∃ k', S.now 0 (up fr t) = some k') ∧ s = S.now 0 (up fr t)) : Chgd fr (S.lay 0 t x s) t := by
  refine ⟨fun u u0 u1 n => ?_, fun u u0 u1 e => edge_gone fo ok u0 u1 e⟩
  by_cases c : u = t
  · subst c
    obtain ⟨h1, rfl⟩ := hs u0
    exact edge_new fo u0 u1 h1
  · exact (edge_keep ok c n).mpr (h u u0 u1)
end
end PD

namespace PD
open PySem PySem.Spec PyProof.Rows L2
def top (i : Nat) : Stmt := PySem.Challenge.pw_phrasedesk_k03_whole_fresh.main.body.getD i (.Pass ⟨0, 0, 0, 0⟩)
abbrev s_wall : Stmt := top 0
abbrev s_is_number : Stmt := top 7
abbrev s_is_count : Stmt := top 8
abbrev s_is_number_or_none : Stmt := top 9
abbrev s_is_pair : Stmt := top 10
abbrev s_is_text : Stmt := top 11
abbrev s_is_froms : Stmt := top 12
abbrev s_is_tongue : Stmt := top 13
abbrev s_is_row : Stmt := top 14
abbrev s_is_source_cell : Stmt := top 15
abbrev s_is_other_cell : Stmt := top 16
abbrev s_copied : Stmt := top 17
abbrev s_put_from : Stmt := top 18
abbrev s_is_broken : Stmt := top 19
abbrev s_chain_up : Stmt := top 20
abbrev s_Past_init : Stmt := inClass (top 21) 0
abbrev s_Past_begin_phrase : Stmt := inClass (top 21) 1
abbrev s_Past_lay_down : Stmt := inClass (top 21) 2
abbrev s_Past_take_off : Stmt := inClass (top 21) 3
abbrev s_Past_has_phrase : Stmt := inClass (top 21) 4
abbrev s_Past_standing : Stmt := inClass (top 21) 5
abbrev s_Past_text_standing : Stmt := inClass (top 21) 6
abbrev s_Past_cells : Stmt := inClass (top 21) 7
abbrev s_Past_was_seen : Stmt := inClass (top 21) 8
abbrev s_Past_is_over : Stmt := inClass (top 21) 9
abbrev s_Past_can_take_off : Stmt := inClass (top 21) 10
abbrev s_Past_takes : Stmt := inClass (top 21) 11
abbrev s_Past_takes_phrase : Stmt := inClass (top 21) 12
abbrev s_Past_takes_put : Stmt := inClass (top 21) 13
abbrev s_Past_takes_back : Stmt := inClass (top 21) 14
abbrev s_Fresh_shows : Stmt := inClass (top 24) 0
abbrev s_Old_init : Stmt := inClass (top 25) 0
abbrev s_Old_shows : Stmt := inClass (top 25) 1
abbrev s_told : Stmt := top 38
abbrev s_Desk_init : Stmt := inClass (top 40) 0
abbrev s_Desk_phrase : Stmt := inClass (top 40) 1
abbrev s_Desk_put : Stmt := inClass (top 40) 2
abbrev s_Desk_back : Stmt := inClass (top 40) 3
abbrev s_Desk_now : Stmt := inClass (top 40) 4
abbrev s_Desk_all_put : Stmt := inClass (top 40) 5
abbrev s_Desk_row : Stmt := inClass (top 40) 6
abbrev s_Desk_old : Stmt := inClass (top 40) 7
abbrev s_Desk_likes : Stmt := inClass (top 40) 8
abbrev s_Desk_fill : Stmt := inClass (top 40) 9
abbrev s_Desk_rounds : Stmt := inClass (top 40) 10
abbrev s_Desk_tale : Stmt := inClass (top 40) 11
abbrev s_Desk_check_phrase : Stmt := inClass (top 40) 12
abbrev s_Desk_check_place : Stmt := inClass (top 40) 13
abbrev s_Desk_check_other_tongue : Stmt := inClass (top 40) 14
abbrev s_Desk_check_text : Stmt := inClass (top 40) 15
abbrev s_Desk_is_fresh : Stmt := inClass (top 40) 16
abbrev s_Desk_texts_to_fill : Stmt := inClass (top 40) 17
abbrev s_Desk_put_like : Stmt := inClass (top 40) 18
abbrev s_law_cell_at : Stmt := top 42
abbrev s_law_draw : Stmt := top 43
abbrev s_law_number : Stmt := top 44
abbrev s_law_froms : Stmt := top 45
abbrev s_law_text : Stmt := top 46
abbrev s_law_below : Stmt := top 47
abbrev s_law_all_put : Stmt := top 48
abbrev s_law : Stmt := top 49
--HEAD
def d_wall : He.DefD := ⟨("_wall", none), "_wall", "_wall", defArgs s_wall, defBody s_wall, defScope s_wall, [], []⟩
def d_is_number : He.DefD := ⟨("is_number", none), "is_number", "is_number", defArgs s_is_number, defBody s_is_number, defScope s_is_number, [], []⟩
def d_is_count : He.DefD := ⟨("is_count", none), "is_count", "is_count", defArgs s_is_count, defBody s_is_count, defScope s_is_count, [], []⟩
def d_is_number_or_none : He.DefD := ⟨("is_number_or_none", none), "is_number_or_none", "is_number_or_none", defArgs s_is_number_or_none, defBody s_is_number_or_none, defScope s_is_number_or_none, [], []⟩
def d_is_pair : He.DefD := ⟨("is_pair", none), "is_pair", "is_pair", defArgs s_is_pair, defBody s_is_pair, defScope s_is_pair, [], []⟩
def d_is_text : He.DefD := ⟨("is_text", none), "is_text", "is_text", defArgs s_is_text, defBody s_is_text, defScope s_is_text, [], []⟩
def d_is_froms : He.DefD := ⟨("is_froms", none), "is_froms", "is_froms", defArgs s_is_froms, defBody s_is_froms, defScope s_is_froms, [], []⟩
def d_is_tongue : He.DefD := ⟨("is_tongue", none), "is_tongue", "is_tongue", defArgs s_is_tongue, defBody s_is_tongue, defScope s_is_tongue, [], []⟩
def d_is_row : He.DefD := ⟨("is_row", none), "is_row", "is_row", defArgs s_is_row, defBody s_is_row, defScope s_is_row, [], []⟩
def d_is_source_cell : He.DefD := ⟨("is_source_cell", none), "is_source_cell", "is_source_cell", defArgs s_is_source_cell, defBody s_is_source_cell, defScope s_is_source_cell, [], []⟩
def d_is_other_cell : He.DefD := ⟨("is_other_cell", none), "is_other_cell", "is_other_cell", defArgs s_is_other_cell, defBody s_is_other_cell, defScope s_is_other_cell, [], []⟩
def d_copied : He.DefD := ⟨("copied", none), "copied", "copied", defArgs s_copied, defBody s_copied, defScope s_copied, [], []⟩
def d_put_from : He.DefD := ⟨("put_from", none), "put_from", "put_from", defArgs s_put_from, defBody s_put_from, defScope s_put_from, [], []⟩
def d_is_broken : He.DefD := ⟨("is_broken", none), "is_broken", "is_broken", defArgs s_is_broken, defBody s_is_broken, defScope s_is_broken, [], []⟩
def d_chain_up : He.DefD := ⟨("chain_up", none), "chain_up", "chain_up", defArgs s_chain_up, defBody s_chain_up, defScope s_chain_up, [], []⟩
def d_Past_init : He.DefD := ⟨("Past", some "__init__"), "__init__", "Past.__init__", defArgs s_Past_init, defBody s_Past_init, defScope s_Past_init, [], []⟩
def d_Past_begin_phrase : He.DefD := ⟨("Past", some "begin_phrase"), "begin_phrase", "Past.begin_phrase", defArgs s_Past_begin_phrase, defBody s_Past_begin_phrase, defScope s_Past_begin_phrase, [], []⟩
def d_Past_lay_down : He.DefD := ⟨("Past", some "lay_down"), "lay_down", "Past.lay_down", defArgs s_Past_lay_down, defBody s_Past_lay_down, defScope s_Past_lay_down, [], []⟩
def d_Past_take_off : He.DefD := ⟨("Past", some "take_off"), "take_off", "Past.take_off", defArgs s_Past_take_off, defBody s_Past_take_off, defScope s_Past_take_off, [], []⟩
def d_Past_has_phrase : He.DefD := ⟨("Past", some "has_phrase"), "has_phrase", "Past.has_phrase", defArgs s_Past_has_phrase, defBody s_Past_has_phrase, defScope s_Past_has_phrase, [], []⟩
def d_Past_standing : He.DefD := ⟨("Past", some "standing"), "standing", "Past.standing", defArgs s_Past_standing, defBody s_Past_standing, defScope s_Past_standing, [], []⟩
def d_Past_text_standing : He.DefD := ⟨("Past", some "text_standing"), "text_standing", "Past.text_standing", defArgs s_Past_text_standing, defBody s_Past_text_standing, defScope s_Past_text_standing, [], []⟩
def d_Past_cells : He.DefD := ⟨("Past", some "cells"), "cells", "Past.cells", defArgs s_Past_cells, defBody s_Past_cells, defScope s_Past_cells, [], []⟩
def d_Past_was_seen : He.DefD := ⟨("Past", some "was_seen"), "was_seen", "Past.was_seen", defArgs s_Past_was_seen, defBody s_Past_was_seen, defScope s_Past_was_seen, [], []⟩
def d_Past_is_over : He.DefD := ⟨("Past", some "is_over"), "is_over", "Past.is_over", defArgs s_Past_is_over, defBody s_Past_is_over, defScope s_Past_is_over, [], []⟩
def d_Past_can_take_off : He.DefD := ⟨("Past", some "can_take_off"), "can_take_off", "Past.can_take_off", defArgs s_Past_can_take_off, defBody s_Past_can_take_off, defScope s_Past_can_take_off, [], []⟩
def d_Past_takes : He.DefD := ⟨("Past", some "takes"), "takes", "Past.takes", defArgs s_Past_takes, defBody s_Past_takes, defScope s_Past_takes, [], []⟩
def d_Past_takes_phrase : He.DefD := ⟨("Past", some "takes_phrase"), "takes_phrase", "Past.takes_phrase", defArgs s_Past_takes_phrase, defBody s_Past_takes_phrase, defScope s_Past_takes_phrase, [], []⟩
def d_Past_takes_put : He.DefD := ⟨("Past", some "takes_put"), "takes_put", "Past.takes_put", defArgs s_Past_takes_put, defBody s_Past_takes_put, defScope s_Past_takes_put, [], []⟩
def d_Past_takes_back : He.DefD := ⟨("Past", some "takes_back"), "takes_back", "Past.takes_back", defArgs s_Past_takes_back, defBody s_Past_takes_back, defScope s_Past_takes_back, [], []⟩
def d_Fresh_shows : He.DefD := ⟨("Fresh", some "shows"), "shows", "Fresh.shows", defArgs s_Fresh_shows, defBody s_Fresh_shows, defScope s_Fresh_shows, [], []⟩
def d_Old_init : He.DefD := ⟨("Old", some "__init__"), "__init__", "Old.__init__", defArgs s_Old_init, defBody s_Old_init, defScope s_Old_init, [], []⟩
def d_Old_shows : He.DefD := ⟨("Old", some "shows"), "shows", "Old.shows", defArgs s_Old_shows, defBody s_Old_shows, defScope s_Old_shows, [], []⟩
def d_told : He.DefD := ⟨("told", none), "told", "told", defArgs s_told, defBody s_told, defScope s_told, [], []⟩
def d_Desk_init : He.DefD := ⟨("Desk", some "__init__"), "__init__", "Desk.__init__", defArgs s_Desk_init, defBody s_Desk_init, defScope s_Desk_init, [], []⟩
def d_Desk_phrase : He.DefD := ⟨("Desk", some "phrase"), "phrase", "Desk.phrase", defArgs s_Desk_phrase, defBody s_Desk_phrase, defScope s_Desk_phrase, [], []⟩
def d_Desk_put : He.DefD := ⟨("Desk", some "put"), "put", "Desk.put", defArgs s_Desk_put, defBody s_Desk_put, defScope s_Desk_put, [], []⟩
def d_Desk_back : He.DefD := ⟨("Desk", some "back"), "back", "Desk.back", defArgs s_Desk_back, defBody s_Desk_back, defScope s_Desk_back, [], []⟩
def d_Desk_now : He.DefD := ⟨("Desk", some "now"), "now", "Desk.now", defArgs s_Desk_now, defBody s_Desk_now, defScope s_Desk_now, [], []⟩
def d_Desk_all_put : He.DefD := ⟨("Desk", some "all_put"), "all_put", "Desk.all_put", defArgs s_Desk_all_put, defBody s_Desk_all_put, defScope s_Desk_all_put, [], []⟩
def d_Desk_row : He.DefD := ⟨("Desk", some "row"), "row", "Desk.row", defArgs s_Desk_row, defBody s_Desk_row, defScope s_Desk_row, [], []⟩
def d_Desk_old : He.DefD := ⟨("Desk", some "old"), "old", "Desk.old", defArgs s_Desk_old, defBody s_Desk_old, defScope s_Desk_old, [], []⟩
def d_Desk_likes : He.DefD := ⟨("Desk", some "likes"), "likes", "Desk.likes", defArgs s_Desk_likes, defBody s_Desk_likes, defScope s_Desk_likes, [], []⟩
def d_Desk_fill : He.DefD := ⟨("Desk", some "fill"), "fill", "Desk.fill", defArgs s_Desk_fill, defBody s_Desk_fill, defScope s_Desk_fill, [], []⟩
def d_Desk_rounds : He.DefD := ⟨("Desk", some "rounds"), "rounds", "Desk.rounds", defArgs s_Desk_rounds, defBody s_Desk_rounds, defScope s_Desk_rounds, [], []⟩
def d_Desk_tale : He.DefD := ⟨("Desk", some "tale"), "tale", "Desk.tale", defArgs s_Desk_tale, defBody s_Desk_tale, defScope s_Desk_tale, [], []⟩
def d_Desk_check_phrase : He.DefD := ⟨("Desk", some "check_phrase"), "check_phrase", "Desk.check_phrase", defArgs s_Desk_check_phrase, defBody s_Desk_check_phrase, defScope s_Desk_check_phrase, [], []⟩
def d_Desk_check_place : He.DefD := ⟨("Desk", some "check_place"), "check_place", "Desk.check_place", defArgs s_Desk_check_place, defBody s_Desk_check_place, defScope s_Desk_check_place, [], []⟩
def d_Desk_check_other_tongue : He.DefD := ⟨("Desk", some "check_other_tongue"), "check_other_tongue", "Desk.check_other_tongue", defArgs s_Desk_check_other_tongue, defBody s_Desk_check_other_tongue, defScope s_Desk_check_other_tongue, [], []⟩
def d_Desk_check_text : He.DefD := ⟨("Desk", some "check_text"), "check_text", "Desk.check_text", defArgs s_Desk_check_text, defBody s_Desk_check_text, defScope s_Desk_check_text, [], []⟩
def d_Desk_is_fresh : He.DefD := ⟨("Desk", some "is_fresh"), "is_fresh", "Desk.is_fresh", defArgs s_Desk_is_fresh, defBody s_Desk_is_fresh, defScope s_Desk_is_fresh, [], []⟩
def d_Desk_texts_to_fill : He.DefD := ⟨("Desk", some "texts_to_fill"), "texts_to_fill", "Desk.texts_to_fill", defArgs s_Desk_texts_to_fill, defBody s_Desk_texts_to_fill, defScope s_Desk_texts_to_fill, [], []⟩
def d_Desk_put_like : He.DefD := ⟨("Desk", some "put_like"), "put_like", "Desk.put_like", defArgs s_Desk_put_like, defBody s_Desk_put_like, defScope s_Desk_put_like, [], []⟩
def d_law_cell_at : He.DefD := ⟨("_law_cell_at", none), "_law_cell_at", "_law_cell_at", defArgs s_law_cell_at, defBody s_law_cell_at, defScope s_law_cell_at, [], []⟩
def d_law_draw : He.DefD := ⟨("_law_draw", none), "_law_draw", "_law_draw", defArgs s_law_draw, defBody s_law_draw, defScope s_law_draw, [], []⟩
def d_law_number : He.DefD := ⟨("_law_number", none), "_law_number", "_law_number", defArgs s_law_number, defBody s_law_number, defScope s_law_number, [], []⟩
def d_law_froms : He.DefD := ⟨("_law_froms", none), "_law_froms", "_law_froms", defArgs s_law_froms, defBody s_law_froms, defScope s_law_froms, [], []⟩
def d_law_text : He.DefD := ⟨("_law_text", none), "_law_text", "_law_text", defArgs s_law_text, defBody s_law_text, defScope s_law_text, [], []⟩
def d_law_below : He.DefD := ⟨("_law_below", none), "_law_below", "_law_below", defArgs s_law_below, defBody s_law_below, defScope s_law_below, [], []⟩
def d_law_all_put : He.DefD := ⟨("_law_all_put", none), "_law_all_put", "_law_all_put", defArgs s_law_all_put, defBody s_law_all_put, defScope s_law_all_put, [], []⟩
def d_law : He.DefD := ⟨("law", none), "law", "law", defArgs s_law, defBody s_law, defScope s_law, [], []⟩
def fn : List He.DefD := [d_wall, d_is_number, d_is_count, d_is_number_or_none, d_is_pair, d_is_text, d_is_froms, d_is_tongue, d_is_row, d_is_source_cell, d_is_other_cell, d_copied, d_put_from, d_is_broken, d_chain_up, d_Past_init, d_Past_begin_phrase, d_Past_lay_down, d_Past_take_off, d_Past_has_phrase, d_Past_standing, d_Past_text_standing, d_Past_cells, d_Past_was_seen, d_Past_is_over, d_Past_can_take_off, d_Past_takes, d_Past_takes_phrase, d_Past_takes_put, d_Past_takes_back, d_Fresh_shows, d_Old_init, d_Old_shows, d_told, d_Desk_init, d_Desk_phrase, d_Desk_put, d_Desk_back, d_Desk_now, d_Desk_all_put, d_Desk_row, d_Desk_old, d_Desk_likes, d_Desk_fill, d_Desk_rounds, d_Desk_tale, d_Desk_check_phrase, d_Desk_check_place, d_Desk_check_other_tongue, d_Desk_check_text, d_Desk_is_fresh, d_Desk_texts_to_fill, d_Desk_put_like, d_law_cell_at, d_law_draw, d_law_number, d_law_froms, d_law_text, d_law_below, d_law_all_put, d_law]
def fa0 : List He.Fa := [.glo "_wall", .glo "is_number", .glo "is_count", .glo "is_number_or_none", .glo "is_pair", .glo "is_text", .glo "is_froms", .glo "is_tongue", .glo "is_row", .glo "is_source_cell", .glo "is_other_cell", .glo "copied", .glo "put_from", .glo "is_broken", .glo "chain_up", .glo "told", .glo "_law_cell_at", .glo "_law_draw", .glo "_law_number", .glo "_law_froms", .glo "_law_text", .glo "_law_below", .glo "_law_all_put", .glo "law", .int "FEWEST_TONGUES" 2, .int "MOST_TONGUES" 8, .int "MOST_PHRASES" 6, .int "MOST_LETTERS" 6, .str "LETTERS" "abcdefghijklmnopqrstuvwxyz", .free "all"]
def fa1 : List He.Fa := [.free "bool", .free "enumerate", .free "int", .free "isinstance", .free "len", .free "list", .free "range", .free "str", .free "tuple", .glo "Past", .cls "Past", .meth "Past" "begin_phrase", .meth "Past" "lay_down", .meth "Past" "take_off", .meth "Past" "has_phrase", .meth "Past" "standing", .meth "Past" "text_standing", .meth "Past" "cells", .meth "Past" "was_seen", .meth "Past" "is_over", .meth "Past" "can_take_off", .meth "Past" "takes", .meth "Past" "takes_phrase", .meth "Past" "takes_put", .meth "Past" "takes_back", .mkr "Past", .glo "Answer", .cls "Answer", .glo "Fresh", .cls "Fresh"]
def fa2 : List He.Fa := [.meth "Fresh" "shows", .glo "Old", .cls "Old", .meth "Old" "shows", .mkr "Old", .glo "Desk", .cls "Desk", .meth "Desk" "phrase", .meth "Desk" "put", .meth "Desk" "back", .meth "Desk" "now", .meth "Desk" "all_put", .meth "Desk" "row", .meth "Desk" "old", .meth "Desk" "likes", .meth "Desk" "fill", .meth "Desk" "rounds", .meth "Desk" "tale", .meth "Desk" "check_phrase", .meth "Desk" "check_place", .meth "Desk" "check_other_tongue", .meth "Desk" "check_text", .meth "Desk" "is_fresh", .meth "Desk" "texts_to_fill", .meth "Desk" "put_like", .mkr "Desk", .noat "Past" "ever", .noat "Past" "froms", .noat "Past" "origins", .noat "Past" "phrases"]
def fa3 : List He.Fa := [.noat "Past" "piles", .noat "Past" "texts", .noat "Old" "chain", .noat "Desk" "lines", .noat "Desk" "past", .glo "PhraseError", .exc "PhraseError", .glo "BadFroms", .exc "BadFroms", .glo "BadPhrase", .exc "BadPhrase", .glo "BadTongue", .exc "BadTongue", .glo "BadText", .exc "BadText", .glo "BadSeen", .exc "BadSeen", .glo "BadRow", .exc "BadRow", .glo "Overtaken", .exc "Overtaken", .glo "Nothing", .exc "Nothing", .glo "TooMany", .exc "TooMany"]
def fa : List He.Fa := fa0 ++ fa1 ++ fa2 ++ fa3
def insB (K : PySem.W.Frag) (x : Str) : Bool := He.eqO (PySem.W.findIn K (.ref (He.ga K x)) "__class__") (some (some (.builtin "object.__class__"))) && (decide (PySem.W.mroIn K (He.ga K x) (.type "object") = some true) && (He.eqO (PySem.W.specialIn K (.builtin "object.__class__") "__get__") (some (some (.builtin "getset_descriptor.__get__"))) && decide (PySem.W.takesIn K (.builtin "object.__class__") = some true)))
def isB (K : PySem.W.Frag) (x y : Str) (b : Bool) : Bool := decide (PySem.W.kitOne K (.ref (He.ga K x)) (.ref (He.ga K y)) = some b)
def bareB (K : PySem.W.Frag) (x : Str) : Bool := PySem.W.makesIn K (He.ga K x) && (He.eqO (PySem.W.findIn K (.ref (He.ga K x)) "__init__") (some (some (.builtin "object.__init__"))) && PySem.W.keepIn K (.ref (He.ga K x)))
def exs (K : PySem.W.Frag) : List Bool := [insB K "Past", isB K "Past" "Past" true, isB K "Past" "Answer" false, isB K "Past" "Fresh" false, isB K "Past" "Old" false, isB K "Past" "Desk" false, insB K "Answer", bareB K "Answer", isB K "Answer" "Past" false, isB K "Answer" "Answer" true, isB K "Answer" "Fresh" false, isB K "Answer" "Old" false, isB K "Answer" "Desk" false, insB K "Fresh", bareB K "Fresh", isB K "Fresh" "Past" false, isB K "Fresh" "Answer" true, isB K "Fresh" "Fresh" true, isB K "Fresh" "Old" false, isB K "Fresh" "Desk" false, insB K "Old", isB K "Old" "Past" false, isB K "Old" "Answer" true, isB K "Old" "Fresh" false, isB K "Old" "Old" true, isB K "Old" "Desk" false, insB K "Desk", isB K "Desk" "Past" false, isB K "Desk" "Answer" false, isB K "Desk" "Fresh" false, isB K "Desk" "Old" false, isB K "Desk" "Desk" true]
def ex (K : PySem.W.Frag) : Bool := (exs K).all id
abbrev R : PySem.W.OpenRow := PySem.W.OpenLaw.row PySem.Challenge.rw_phrasedesk_k03_whole_fresh
abbrev hk : PySem.W.Hook := He.hookX 5 fa fn [] [] ex
def ob (s : PySem.W.SharedT) : He.AlX := He.obsX 5 fa fn [] [] ex (HandSHeadRun.getT s)
theorem ob_eq (s : PySem.W.SharedT) : ob s = hk.obs s.abs := He.obsX_eq (HandSHeadRun.getT_eq s)
def loose0 : List Str := ["_wall", "FEWEST_TONGUES", "MOST_TONGUES", "MOST_PHRASES", "MOST_LETTERS", "LETTERS", "is_number", "is_count", "is_number_or_none", "is_pair", "is_text", "is_froms", "is_tongue", "is_row", "is_source_cell", "is_other_cell", "copied", "put_from", "is_broken", "chain_up", "Past", "Answer", "Fresh", "Old", "PhraseError", "BadFroms", "BadPhrase", "BadTongue", "BadText", "BadSeen"]
def loose1 : List Str := ["BadRow", "Overtaken", "Nothing", "TooMany", "told", "Desk", "_law_cell_at", "_law_draw", "_law_number", "_law_froms", "_law_text", "_law_below", "_law_all_put"]
def loose : List Str := loose0 ++ loose1
theorem run (w : World) : HandSHeadRun.RunEq R (PySem.W.view R.prog [49]) hk ob 6000 loose w := by
  intro os
  kernel_rfl
--TX
structure Tx (K : PySem.W.Frag) (mg : Str → Option Value) : Prop where
  F_wall : ∃ fd, FunD K "_wall" "_wall" (defArgs s_wall) (defBody s_wall) (defScope s_wall) [] [] (He.ga K "_wall") fd
  g_wall : mg "_wall" = some (.ref (He.ga K "_wall"))
  F_is_number : ∃ fd, FunD K "is_number" "is_number" (defArgs s_is_number) (defBody s_is_number) (defScope s_is_number) [] [] (He.ga K "is_number") fd
  g_is_number : mg "is_number" = some (.ref (He.ga K "is_number"))
  F_is_count : ∃ fd, FunD K "is_count" "is_count" (defArgs s_is_count) (defBody s_is_count) (defScope s_is_count) [] [] (He.ga K "is_count") fd
  g_is_count : mg "is_count" = some (.ref (He.ga K "is_count"))
  F_is_number_or_none : ∃ fd, FunD K "is_number_or_none" "is_number_or_none" (defArgs s_is_number_or_none) (defBody s_is_number_or_none) (defScope s_is_number_or_none) [] [] (He.ga K "is_number_or_none") fd
  g_is_number_or_none : mg "is_number_or_none" = some (.ref (He.ga K "is_number_or_none"))
  F_is_pair : ∃ fd, FunD K "is_pair" "is_pair" (defArgs s_is_pair) (defBody s_is_pair) (defScope s_is_pair) [] [] (He.ga K "is_pair") fd
  g_is_pair : mg "is_pair" = some (.ref (He.ga K "is_pair"))
  F_is_text : ∃ fd, FunD K "is_text" "is_text" (defArgs s_is_text) (defBody s_is_text) (defScope s_is_text) [] [] (He.ga K "is_text") fd
  g_is_text : mg "is_text" = some (.ref (He.ga K "is_text"))
  F_is_froms : ∃ fd, FunD K "is_froms" "is_froms" (defArgs s_is_froms) (defBody s_is_froms) (defScope s_is_froms) [] [] (He.ga K "is_froms") fd
  g_is_froms : mg "is_froms" = some (.ref (He.ga K "is_froms"))
  F_is_tongue : ∃ fd, FunD K "is_tongue" "is_tongue" (defArgs s_is_tongue) (defBody s_is_tongue) (defScope s_is_tongue) [] [] (He.ga K "is_tongue") fd
  g_is_tongue : mg "is_tongue" = some (.ref (He.ga K "is_tongue"))
  F_is_row : ∃ fd, FunD K "is_row" "is_row" (defArgs s_is_row) (defBody s_is_row) (defScope s_is_row) [] [] (He.ga K "is_row") fd
  g_is_row : mg "is_row" = some (.ref (He.ga K "is_row"))
  F_is_source_cell : ∃ fd, FunD K "is_source_cell" "is_source_cell" (defArgs s_is_source_cell) (defBody s_is_source_cell) (defScope s_is_source_cell) [] [] (He.ga K "is_source_cell") fd
  g_is_source_cell : mg "is_source_cell" = some (.ref (He.ga K "is_source_cell"))
  F_is_other_cell : ∃ fd, FunD K "is_other_cell" "is_other_cell" (defArgs s_is_other_cell) (defBody s_is_other_cell) (defScope s_is_other_cell) [] [] (He.ga K "is_other_cell") fd
  g_is_other_cell : mg "is_other_cell" = some (.ref (He.ga K "is_other_cell"))
  F_copied : ∃ fd, FunD K "copied" "copied" (defArgs s_copied) (defBody s_copied) (defScope s_copied) [] [] (He.ga K "copied") fd
  g_copied : mg "copied" = some (.ref (He.ga K "copied"))
  F_put_from : ∃ fd, FunD K "put_from" "put_from" (defArgs s_put_from) (defBody s_put_from) (defScope s_put_from) [] [] (He.ga K "put_from") fd
  g_put_from : mg "put_from" = some (.ref (He.ga K "put_from"))
  F_is_broken : ∃ fd, FunD K "is_broken" "is_broken" (defArgs s_is_broken) (defBody s_is_broken) (defScope s_is_broken) [] [] (He.ga K "is_broken") fd
  g_is_broken : mg "is_broken" = some (.ref (He.ga K "is_broken"))
  F_chain_up : ∃ fd, FunD K "chain_up" "chain_up" (defArgs s_chain_up) (defBody s_chain_up) (defScope s_chain_up) [] [] (He.ga K "chain_up") fd
  g_chain_up : mg "chain_up" = some (.ref (He.ga K "chain_up"))
  F_Past_init : ∃ fd, FunD K "__init__" "Past.__init__" (defArgs s_Past_init) (defBody s_Past_init) (defScope s_Past_init) [] [] (He.ma K (He.ga K "Past") "__init__") fd
  F_Past_begin_phrase : ∃ fd, FunD K "begin_phrase" "Past.begin_phrase" (defArgs s_Past_begin_phrase) (defBody s_Past_begin_phrase) (defScope s_Past_begin_phrase) [] [] (He.ma K (He.ga K "Past") "begin_phrase") fd
  F_Past_lay_down : ∃ fd, FunD K "lay_down" "Past.lay_down" (defArgs s_Past_lay_down) (defBody s_Past_lay_down) (defScope s_Past_lay_down) [] [] (He.ma K (He.ga K "Past") "lay_down") fd
  F_Past_take_off : ∃ fd, FunD K "take_off" "Past.take_off" (defArgs s_Past_take_off) (defBody s_Past_take_off) (defScope s_Past_take_off) [] [] (He.ma K (He.ga K "Past") "take_off") fd
  F_Past_has_phrase : ∃ fd, FunD K "has_phrase" "Past.has_phrase" (defArgs s_Past_has_phrase) (defBody s_Past_has_phrase) (defScope s_Past_has_phrase) [] [] (He.ma K (He.ga K "Past") "has_phrase") fd
  F_Past_standing : ∃ fd, FunD K "standing" "Past.standing" (defArgs s_Past_standing) (defBody s_Past_standing) (defScope s_Past_standing) [] [] (He.ma K (He.ga K "Past") "standing") fd
  F_Past_text_standing : ∃ fd, FunD K "text_standing" "Past.text_standing" (defArgs s_Past_text_standing) (defBody s_Past_text_standing) (defScope s_Past_text_standing) [] [] (He.ma K (He.ga K "Past") "text_standing") fd
  F_Past_cells : ∃ fd, FunD K "cells" "Past.cells" (defArgs s_Past_cells) (defBody s_Past_cells) (defScope s_Past_cells) [] [] (He.ma K (He.ga K "Past") "cells") fd
  F_Past_was_seen : ∃ fd, FunD K "was_seen" "Past.was_seen" (defArgs s_Past_was_seen) (defBody s_Past_was_seen) (defScope s_Past_was_seen) [] [] (He.ma K (He.ga K "Past") "was_seen") fd
  F_Past_is_over : ∃ fd, FunD K "is_over" "Past.is_over" (defArgs s_Past_is_over) (defBody s_Past_is_over) (defScope s_Past_is_over) [] [] (He.ma K (He.ga K "Past") "is_over") fd
  F_Past_can_take_off : ∃ fd, FunD K "can_take_off" "Past.can_take_off" (defArgs s_Past_can_take_off) (defBody s_Past_can_take_off) (defScope s_Past_can_take_off) [] [] (He.ma K (He.ga K "Past") "can_take_off") fd
  F_Past_takes : ∃ fd, FunD K "takes" "Past.takes" (defArgs s_Past_takes) (defBody s_Past_takes) (defScope s_Past_takes) [] [] (He.ma K (He.ga K "Past") "takes") fd
  F_Past_takes_phrase : ∃ fd, FunD K "takes_phrase" "Past.takes_phrase" (defArgs s_Past_takes_phrase) (defBody s_Past_takes_phrase) (defScope s_Past_takes_phrase) [] [] (He.ma K (He.ga K "Past") "takes_phrase") fd
  F_Past_takes_put : ∃ fd, FunD K "takes_put" "Past.takes_put" (defArgs s_Past_takes_put) (defBody s_Past_takes_put) (defScope s_Past_takes_put) [] [] (He.ma K (He.ga K "Past") "takes_put") fd
  F_Past_takes_back : ∃ fd, FunD K "takes_back" "Past.takes_back" (defArgs s_Past_takes_back) (defBody s_Past_takes_back) (defScope s_Past_takes_back) [] [] (He.ma K (He.ga K "Past") "takes_back") fd
  F_Fresh_shows : ∃ fd, FunD K "shows" "Fresh.shows" (defArgs s_Fresh_shows) (defBody s_Fresh_shows) (defScope s_Fresh_shows) [] [] (He.ma K (He.ga K "Fresh") "shows") fd
  F_Old_init : ∃ fd, FunD K "__init__" "Old.__init__" (defArgs s_Old_init) (defBody s_Old_init) (defScope s_Old_init) [] [] (He.ma K (He.ga K "Old") "__init__") fd
  F_Old_shows : ∃ fd, FunD K "shows" "Old.shows" (defArgs s_Old_shows) (defBody s_Old_shows) (defScope s_Old_shows) [] [] (He.ma K (He.ga K "Old") "shows") fd
  F_told : ∃ fd, FunD K "told" "told" (defArgs s_told) (defBody s_told) (defScope s_told) [] [] (He.ga K "told") fd
  g_told : mg "told" = some (.ref (He.ga K "told"))
  F_Desk_init : ∃ fd, FunD K "__init__" "Desk.__init__" (defArgs s_Desk_init) (defBody s_Desk_init) (defScope s_Desk_init) [] [] (He.ma K (He.ga K "Desk") "__init__") fd
  F_Desk_phrase : ∃ fd, FunD K "phrase" "Desk.phrase" (defArgs s_Desk_phrase) (defBody s_Desk_phrase) (defScope s_Desk_phrase) [] [] (He.ma K (He.ga K "Desk") "phrase") fd
  F_Desk_put : ∃ fd, FunD K "put" "Desk.put" (defArgs s_Desk_put) (defBody s_Desk_put) (defScope s_Desk_put) [] [] (He.ma K (He.ga K "Desk") "put") fd
  F_Desk_back : ∃ fd, FunD K "back" "Desk.back" (defArgs s_Desk_back) (defBody s_Desk_back) (defScope s_Desk_back) [] [] (He.ma K (He.ga K "Desk") "back") fd
  F_Desk_now : ∃ fd, FunD K "now" "Desk.now" (defArgs s_Desk_now) (defBody s_Desk_now) (defScope s_Desk_now) [] [] (He.ma K (He.ga K "Desk") "now") fd
  F_Desk_all_put : ∃ fd, FunD K "all_put" "Desk.all_put" (defArgs s_Desk_all_put) (defBody s_Desk_all_put) (defScope s_Desk_all_put) [] [] (He.ma K (He.ga K "Desk") "all_put") fd
  F_Desk_row : ∃ fd, FunD K "row" "Desk.row" (defArgs s_Desk_row) (defBody s_Desk_row) (defScope s_Desk_row) [] [] (He.ma K (He.ga K "Desk") "row") fd
  F_Desk_old : ∃ fd, FunD K "old" "Desk.old" (defArgs s_Desk_old) (defBody s_Desk_old) (defScope s_Desk_old) [] [] (He.ma K (He.ga K "Desk") "old") fd
  F_Desk_likes : ∃ fd, FunD K "likes" "Desk.likes" (defArgs s_Desk_likes) (defBody s_Desk_likes) (defScope s_Desk_likes) [] [] (He.ma K (He.ga K "Desk") "likes") fd
  F_Desk_fill : ∃ fd, FunD K "fill" "Desk.fill" (defArgs s_Desk_fill) (defBody s_Desk_fill) (defScope s_Desk_fill) [] [] (He.ma K (He.ga K "Desk") "fill") fd
  F_Desk_rounds : ∃ fd, FunD K "rounds" "Desk.rounds" (defArgs s_Desk_rounds) (defBody s_Desk_rounds) (defScope s_Desk_rounds) [] [] (He.ma K (He.ga K "Desk") "rounds") fd
  F_Desk_tale : ∃ fd, FunD K "tale" "Desk.tale" (defArgs s_Desk_tale) (defBody s_Desk_tale) (defScope s_Desk_tale) [] [] (He.ma K (He.ga K "Desk") "tale") fd
  F_Desk_check_phrase : ∃ fd, FunD K "check_phrase" "Desk.check_phrase" (defArgs s_Desk_check_phrase) (defBody s_Desk_check_phrase) (defScope s_Desk_check_phrase) [] [] (He.ma K (He.ga K "Desk") "check_phrase") fd
  F_Desk_check_place : ∃ fd, FunD K "check_place" "Desk.check_place" (defArgs s_Desk_check_place) (defBody s_Desk_check_place) (defScope s_Desk_check_place) [] [] (He.ma K (He.ga K "Desk") "check_place") fd
  F_Desk_check_other_tongue : ∃ fd, FunD K "check_other_tongue" "Desk.check_other_tongue" (defArgs s_Desk_check_other_tongue) (defBody s_Desk_check_other_tongue) (defScope s_Desk_check_other_tongue) [] [] (He.ma K (He.ga K "Desk") "check_other_tongue") fd
  F_Desk_check_text : ∃ fd, FunD K "check_text" "Desk.check_text" (defArgs s_Desk_check_text) (defBody s_Desk_check_text) (defScope s_Desk_check_text) [] [] (He.ma K (He.ga K "Desk") "check_text") fd
  F_Desk_is_fresh : ∃ fd, FunD K "is_fresh" "Desk.is_fresh" (defArgs s_Desk_is_fresh) (defBody s_Desk_is_fresh) (defScope s_Desk_is_fresh) [] [] (He.ma K (He.ga K "Desk") "is_fresh") fd
  F_Desk_texts_to_fill : ∃ fd, FunD K "texts_to_fill" "Desk.texts_to_fill" (defArgs s_Desk_texts_to_fill) (defBody s_Desk_texts_to_fill) (defScope s_Desk_texts_to_fill) [] [] (He.ma K (He.ga K "Desk") "texts_to_fill") fd
  F_Desk_put_like : ∃ fd, FunD K "put_like" "Desk.put_like" (defArgs s_Desk_put_like) (defBody s_Desk_put_like) (defScope s_Desk_put_like) [] [] (He.ma K (He.ga K "Desk") "put_like") fd
  F_law_cell_at : ∃ fd, FunD K "_law_cell_at" "_law_cell_at" (defArgs s_law_cell_at) (defBody s_law_cell_at) (defScope s_law_cell_at) [] [] (He.ga K "_law_cell_at") fd
  g_law_cell_at : mg "_law_cell_at" = some (.ref (He.ga K "_law_cell_at"))
  F_law_draw : ∃ fd, FunD K "_law_draw" "_law_draw" (defArgs s_law_draw) (defBody s_law_draw) (defScope s_law_draw) [] [] (He.ga K "_law_draw") fd
  g_law_draw : mg "_law_draw" = some (.ref (He.ga K "_law_draw"))
  F_law_number : ∃ fd, FunD K "_law_number" "_law_number" (defArgs s_law_number) (defBody s_law_number) (defScope s_law_number) [] [] (He.ga K "_law_number") fd
  g_law_number : mg "_law_number" = some (.ref (He.ga K "_law_number"))
  F_law_froms : ∃ fd, FunD K "_law_froms" "_law_froms" (defArgs s_law_froms) (defBody s_law_froms) (defScope s_law_froms) [] [] (He.ga K "_law_froms") fd
  g_law_froms : mg "_law_froms" = some (.ref (He.ga K "_law_froms"))
  F_law_text : ∃ fd, FunD K "_law_text" "_law_text" (defArgs s_law_text) (defBody s_law_text) (defScope s_law_text) [] [] (He.ga K "_law_text") fd
  g_law_text : mg "_law_text" = some (.ref (He.ga K "_law_text"))
  F_law_below : ∃ fd, FunD K "_law_below" "_law_below" (defArgs s_law_below) (defBody s_law_below) (defScope s_law_below) [] [] (He.ga K "_law_below") fd
  g_law_below : mg "_law_below" = some (.ref (He.ga K "_law_below"))
  F_law_all_put : ∃ fd, FunD K "_law_all_put" "_law_all_put" (defArgs s_law_all_put) (defBody s_law_all_put) (defScope s_law_all_put) [] [] (He.ga K "_law_all_put") fd
  g_law_all_put : mg "_law_all_put" = some (.ref (He.ga K "_law_all_put"))
  F_law : ∃ fd, FunD K "law" "law" (defArgs s_law) (defBody s_law) (defScope s_law) [] [] (He.ga K "law") fd
  g_law : mg "law" = some (.ref (He.ga K "law"))
  g_FEWEST_TONGUES : ∃ t, mg "FEWEST_TONGUES" = some (.int 2 t)
  g_MOST_TONGUES : ∃ t, mg "MOST_TONGUES" = some (.int 8 t)
  g_MOST_PHRASES : ∃ t, mg "MOST_PHRASES" = some (.int 6 t)
  g_MOST_LETTERS : ∃ t, mg "MOST_LETTERS" = some (.int 6 t)
  g_LETTERS : ∃ t, mg "LETTERS" = some (.str "abcdefghijklmnopqrstuvwxyz" t)
  f_all : mg "all" = none
  f_bool : mg "bool" = none
  f_enumerate : mg "enumerate" = none
  f_int : mg "int" = none
  f_isinstance : mg "isinstance" = none
  f_len : mg "len" = none
  f_list : mg "list" = none
  f_range : mg "range" = none
  f_str : mg "str" = none
  f_tuple : mg "tuple" = none
  g_Past : mg "Past" = some (.ref (He.ga K "Past"))
  k_Past : Cls K (He.ga K "Past")
  m_Past_begin_phrase : Meth K (He.ga K "Past") "begin_phrase" (He.ma K (He.ga K "Past") "begin_phrase")
  m_Past_lay_down : Meth K (He.ga K "Past") "lay_down" (He.ma K (He.ga K "Past") "lay_down")
  m_Past_take_off : Meth K (He.ga K "Past") "take_off" (He.ma K (He.ga K "Past") "take_off")
  m_Past_has_phrase : Meth K (He.ga K "Past") "has_phrase" (He.ma K (He.ga K "Past") "has_phrase")
  m_Past_standing : Meth K (He.ga K "Past") "standing" (He.ma K (He.ga K "Past") "standing")
  m_Past_text_standing : Meth K (He.ga K "Past") "text_standing" (He.ma K (He.ga K "Past") "text_standing")
  m_Past_cells : Meth K (He.ga K "Past") "cells" (He.ma K (He.ga K "Past") "cells")
  m_Past_was_seen : Meth K (He.ga K "Past") "was_seen" (He.ma K (He.ga K "Past") "was_seen")
  m_Past_is_over : Meth K (He.ga K "Past") "is_over" (He.ma K (He.ga K "Past") "is_over")
  m_Past_can_take_off : Meth K (He.ga K "Past") "can_take_off" (He.ma K (He.ga K "Past") "can_take_off")
  m_Past_takes : Meth K (He.ga K "Past") "takes" (He.ma K (He.ga K "Past") "takes")
  m_Past_takes_phrase : Meth K (He.ga K "Past") "takes_phrase" (He.ma K (He.ga K "Past") "takes_phrase")
  m_Past_takes_put : Meth K (He.ga K "Past") "takes_put" (He.ma K (He.ga K "Past") "takes_put")
  m_Past_takes_back : Meth K (He.ga K "Past") "takes_back" (He.ma K (He.ga K "Past") "takes_back")
  i_Past : Mk K (He.ga K "Past") (He.ma K (He.ga K "Past") "__init__")
  t_Past : Ins1 K (He.ga K "Past")
  is_Past_Past : PySem.W.kitOne K (.ref (He.ga K "Past")) (.ref (He.ga K "Past")) = some true
  is_Past_Answer : PySem.W.kitOne K (.ref (He.ga K "Past")) (.ref (He.ga K "Answer")) = some false
  is_Past_Fresh : PySem.W.kitOne K (.ref (He.ga K "Past")) (.ref (He.ga K "Fresh")) = some false
  is_Past_Old : PySem.W.kitOne K (.ref (He.ga K "Past")) (.ref (He.ga K "Old")) = some false
  is_Past_Desk : PySem.W.kitOne K (.ref (He.ga K "Past")) (.ref (He.ga K "Desk")) = some false
  g_Answer : mg "Answer" = some (.ref (He.ga K "Answer"))
  k_Answer : Cls K (He.ga K "Answer")
  b_Answer : Bare K (He.ga K "Answer")
  t_Answer : Ins1 K (He.ga K "Answer")
  is_Answer_Past : PySem.W.kitOne K (.ref (He.ga K "Answer")) (.ref (He.ga K "Past")) = some false
  is_Answer_Answer : PySem.W.kitOne K (.ref (He.ga K "Answer")) (.ref (He.ga K "Answer")) = some true
  is_Answer_Fresh : PySem.W.kitOne K (.ref (He.ga K "Answer")) (.ref (He.ga K "Fresh")) = some false
  is_Answer_Old : PySem.W.kitOne K (.ref (He.ga K "Answer")) (.ref (He.ga K "Old")) = some false
  is_Answer_Desk : PySem.W.kitOne K (.ref (He.ga K "Answer")) (.ref (He.ga K "Desk")) = some false
  g_Fresh : mg "Fresh" = some (.ref (He.ga K "Fresh"))
  k_Fresh : Cls K (He.ga K "Fresh")
  m_Fresh_shows : Meth K (He.ga K "Fresh") "shows" (He.ma K (He.ga K "Fresh") "shows")
  b_Fresh : Bare K (He.ga K "Fresh")
  t_Fresh : Ins1 K (He.ga K "Fresh")
  is_Fresh_Past : PySem.W.kitOne K (.ref (He.ga K "Fresh")) (.ref (He.ga K "Past")) = some false
  is_Fresh_Answer : PySem.W.kitOne K (.ref (He.ga K "Fresh")) (.ref (He.ga K "Answer")) = some true
  is_Fresh_Fresh : PySem.W.kitOne K (.ref (He.ga K "Fresh")) (.ref (He.ga K "Fresh")) = some true
  is_Fresh_Old : PySem.W.kitOne K (.ref (He.ga K "Fresh")) (.ref (He.ga K "Old")) = some false
  is_Fresh_Desk : PySem.W.kitOne K (.ref (He.ga K "Fresh")) (.ref (He.ga K "Desk")) = some false
  g_Old : mg "Old" = some (.ref (He.ga K "Old"))
  k_Old : Cls K (He.ga K "Old")
  m_Old_shows : Meth K (He.ga K "Old") "shows" (He.ma K (He.ga K "Old") "shows")
  i_Old : Mk K (He.ga K "Old") (He.ma K (He.ga K "Old") "__init__")
  t_Old : Ins1 K (He.ga K "Old")
  is_Old_Past : PySem.W.kitOne K (.ref (He.ga K "Old")) (.ref (He.ga K "Past")) = some false
  is_Old_Answer : PySem.W.kitOne K (.ref (He.ga K "Old")) (.ref (He.ga K "Answer")) = some true
  is_Old_Fresh : PySem.W.kitOne K (.ref (He.ga K "Old")) (.ref (He.ga K "Fresh")) = some false
  is_Old_Old : PySem.W.kitOne K (.ref (He.ga K "Old")) (.ref (He.ga K "Old")) = some true
  is_Old_Desk : PySem.W.kitOne K (.ref (He.ga K "Old")) (.ref (He.ga K "Desk")) = some false
  g_Desk : mg "Desk" = some (.ref (He.ga K "Desk"))
  k_Desk : Cls K (He.ga K "Desk")
  m_Desk_phrase : Meth K (He.ga K "Desk") "phrase" (He.ma K (He.ga K "Desk") "phrase")
  m_Desk_put : Meth K (He.ga K "Desk") "put" (He.ma K (He.ga K "Desk") "put")
  m_Desk_back : Meth K (He.ga K "Desk") "back" (He.ma K (He.ga K "Desk") "back")
  m_Desk_now : Meth K (He.ga K "Desk") "now" (He.ma K (He.ga K "Desk") "now")
  m_Desk_all_put : Meth K (He.ga K "Desk") "all_put" (He.ma K (He.ga K "Desk") "all_put")
  m_Desk_row : Meth K (He.ga K "Desk") "row" (He.ma K (He.ga K "Desk") "row")
  m_Desk_old : Meth K (He.ga K "Desk") "old" (He.ma K (He.ga K "Desk") "old")
  m_Desk_likes : Meth K (He.ga K "Desk") "likes" (He.ma K (He.ga K "Desk") "likes")
  m_Desk_fill : Meth K (He.ga K "Desk") "fill" (He.ma K (He.ga K "Desk") "fill")
  m_Desk_rounds : Meth K (He.ga K "Desk") "rounds" (He.ma K (He.ga K "Desk") "rounds")
  m_Desk_tale : Meth K (He.ga K "Desk") "tale" (He.ma K (He.ga K "Desk") "tale")
  m_Desk_check_phrase : Meth K (He.ga K "Desk") "check_phrase" (He.ma K (He.ga K "Desk") "check_phrase")
  m_Desk_check_place : Meth K (He.ga K "Desk") "check_place" (He.ma K (He.ga K "Desk") "check_place")
  m_Desk_check_other_tongue : Meth K (He.ga K "Desk") "check_other_tongue" (He.ma K (He.ga K "Desk") "check_other_tongue")
  m_Desk_check_text : Meth K (He.ga K "Desk") "check_text" (He.ma K (He.ga K "Desk") "check_text")
  m_Desk_is_fresh : Meth K (He.ga K "Desk") "is_fresh" (He.ma K (He.ga K "Desk") "is_fresh")
  m_Desk_texts_to_fill : Meth K (He.ga K "Desk") "texts_to_fill" (He.ma K (He.ga K "Desk") "texts_to_fill")
  m_Desk_put_like : Meth K (He.ga K "Desk") "put_like" (He.ma K (He.ga K "Desk") "put_like")
  i_Desk : Mk K (He.ga K "Desk") (He.ma K (He.ga K "Desk") "__init__")
  t_Desk : Ins1 K (He.ga K "Desk")
  is_Desk_Past : PySem.W.kitOne K (.ref (He.ga K "Desk")) (.ref (He.ga K "Past")) = some false
  is_Desk_Answer : PySem.W.kitOne K (.ref (He.ga K "Desk")) (.ref (He.ga K "Answer")) = some false
  is_Desk_Fresh : PySem.W.kitOne K (.ref (He.ga K "Desk")) (.ref (He.ga K "Fresh")) = some false
  is_Desk_Old : PySem.W.kitOne K (.ref (He.ga K "Desk")) (.ref (He.ga K "Old")) = some false
  is_Desk_Desk : PySem.W.kitOne K (.ref (He.ga K "Desk")) (.ref (He.ga K "Desk")) = some true
  n_Past_ever : NoAttr K (He.ga K "Past") "ever"
  n_Past_froms : NoAttr K (He.ga K "Past") "froms"
  n_Past_origins : NoAttr K (He.ga K "Past") "origins"
  n_Past_phrases : NoAttr K (He.ga K "Past") "phrases"
  n_Past_piles : NoAttr K (He.ga K "Past") "piles"
  n_Past_texts : NoAttr K (He.ga K "Past") "texts"
  n_Old_chain : NoAttr K (He.ga K "Old") "chain"
  n_Desk_lines : NoAttr K (He.ga K "Desk") "lines"
  n_Desk_past : NoAttr K (He.ga K "Desk") "past"
  g_PhraseError : mg "PhraseError" = some (.ref (He.ga K "PhraseError"))
  g_BadFroms : mg "BadFroms" = some (.ref (He.ga K "BadFroms"))
  g_BadPhrase : mg "BadPhrase" = some (.ref (He.ga K "BadPhrase"))
  g_BadTongue : mg "BadTongue" = some (.ref (He.ga K "BadTongue"))
  g_BadText : mg "BadText" = some (.ref (He.ga K "BadText"))
  g_BadSeen : mg "BadSeen" = some (.ref (He.ga K "BadSeen"))
  g_BadRow : mg "BadRow" = some (.ref (He.ga K "BadRow"))
  g_Overtaken : mg "Overtaken" = some (.ref (He.ga K "Overtaken"))
  g_Nothing : mg "Nothing" = some (.ref (He.ga K "Nothing"))
  g_TooMany : mg "TooMany" = some (.ref (He.ga K "TooMany"))
--MK
theorem exs_at {K : PySem.W.Frag} (h : ex K = true) (i : Nat) {b : Bool} (e : (exs K)[i]? = some b) : b = true := List.all_eq_true.mp h b (List.mem_of_getElem? e)
theorem ins_ok {K : PySem.W.Frag} {x : Str} (h : insB K x = true) : Ins1 K (He.ga K x) := by
  obtain ⟨h1, h⟩ := He.ba h
  obtain ⟨h2, h⟩ := He.ba h
  obtain ⟨h3, h4⟩ := He.ba h
  exact ⟨He.eqO_ok h1, He.eqO_ok h3, of_decide_eq_true h4, of_decide_eq_true h2⟩
theorem bare_ok {K : PySem.W.Frag} {x : Str} (h : bareB K x = true) : Bare K (He.ga K x) := by
  obtain ⟨h1, h⟩ := He.ba h
  obtain ⟨h2, h3⟩ := He.ba h
  exact ⟨h1, He.eqO_ok h2, h3⟩
theorem tx_mk {K : PySem.W.Frag} {h : Heap} {w : World} {mg : Str → Option Value} (X : K.In h) (G : h.Ns mainGlobals mg) (c : He.SaysX fa fn [] [] ex w h K) : Tx K mg where
  F_wall := c.t.d.def_ 0 (d := d_wall) rfl
  g_wall := He.glo_ok X G (c.t.d.fact 0 (f := .glo "_wall") rfl)
  F_is_number := c.t.d.def_ 1 (d := d_is_number) rfl
  g_is_number := He.glo_ok X G (c.t.d.fact 1 (f := .glo "is_number") rfl)
  F_is_count := c.t.d.def_ 2 (d := d_is_count) rfl
  g_is_count := He.glo_ok X G (c.t.d.fact 2 (f := .glo "is_count") rfl)
  F_is_number_or_none := c.t.d.def_ 3 (d := d_is_number_or_none) rfl
  g_is_number_or_none := He.glo_ok X G (c.t.d.fact 3 (f := .glo "is_number_or_none") rfl)
  F_is_pair := c.t.d.def_ 4 (d := d_is_pair) rfl
  g_is_pair := He.glo_ok X G (c.t.d.fact 4 (f := .glo "is_pair") rfl)
  F_is_text := c.t.d.def_ 5 (d := d_is_text) rfl
  g_is_text := He.glo_ok X G (c.t.d.fact 5 (f := .glo "is_text") rfl)
  F_is_froms := c.t.d.def_ 6 (d := d_is_froms) rfl
  g_is_froms := He.glo_ok X G (c.t.d.fact 6 (f := .glo "is_froms") rfl)
  F_is_tongue := c.t.d.def_ 7 (d := d_is_tongue) rfl
  g_is_tongue := He.glo_ok X G (c.t.d.fact 7 (f := .glo "is_tongue") rfl)
  F_is_row := c.t.d.def_ 8 (d := d_is_row) rfl
  g_is_row := He.glo_ok X G (c.t.d.fact 8 (f := .glo "is_row") rfl)
  F_is_source_cell := c.t.d.def_ 9 (d := d_is_source_cell) rfl
  g_is_source_cell := He.glo_ok X G (c.t.d.fact 9 (f := .glo "is_source_cell") rfl)
  F_is_other_cell := c.t.d.def_ 10 (d := d_is_other_cell) rfl
  g_is_other_cell := He.glo_ok X G (c.t.d.fact 10 (f := .glo "is_other_cell") rfl)
  F_copied := c.t.d.def_ 11 (d := d_copied) rfl
  g_copied := He.glo_ok X G (c.t.d.fact 11 (f := .glo "copied") rfl)
  F_put_from := c.t.d.def_ 12 (d := d_put_from) rfl
  g_put_from := He.glo_ok X G (c.t.d.fact 12 (f := .glo "put_from") rfl)
  F_is_broken := c.t.d.def_ 13 (d := d_is_broken) rfl
  g_is_broken := He.glo_ok X G (c.t.d.fact 13 (f := .glo "is_broken") rfl)
  F_chain_up := c.t.d.def_ 14 (d := d_chain_up) rfl
  g_chain_up := He.glo_ok X G (c.t.d.fact 14 (f := .glo "chain_up") rfl)
  F_Past_init := c.t.d.def_ 15 (d := d_Past_init) rfl
  F_Past_begin_phrase := c.t.d.def_ 16 (d := d_Past_begin_phrase) rfl
  F_Past_lay_down := c.t.d.def_ 17 (d := d_Past_lay_down) rfl
  F_Past_take_off := c.t.d.def_ 18 (d := d_Past_take_off) rfl
  F_Past_has_phrase := c.t.d.def_ 19 (d := d_Past_has_phrase) rfl
  F_Past_standing := c.t.d.def_ 20 (d := d_Past_standing) rfl
  F_Past_text_standing := c.t.d.def_ 21 (d := d_Past_text_standing) rfl
  F_Past_cells := c.t.d.def_ 22 (d := d_Past_cells) rfl
  F_Past_was_seen := c.t.d.def_ 23 (d := d_Past_was_seen) rfl
  F_Past_is_over := c.t.d.def_ 24 (d := d_Past_is_over) rfl
  F_Past_can_take_off := c.t.d.def_ 25 (d := d_Past_can_take_off) rfl
  F_Past_takes := c.t.d.def_ 26 (d := d_Past_takes) rfl
  F_Past_takes_phrase := c.t.d.def_ 27 (d := d_Past_takes_phrase) rfl
  F_Past_takes_put := c.t.d.def_ 28 (d := d_Past_takes_put) rfl
  F_Past_takes_back := c.t.d.def_ 29 (d := d_Past_takes_back) rfl
  F_Fresh_shows := c.t.d.def_ 30 (d := d_Fresh_shows) rfl
  F_Old_init := c.t.d.def_ 31 (d := d_Old_init) rfl
  F_Old_shows := c.t.d.def_ 32 (d := d_Old_shows) rfl
  F_told := c.t.d.def_ 33 (d := d_told) rfl
  g_told := He.glo_ok X G (c.t.d.fact 15 (f := .glo "told") rfl)
  F_Desk_init := c.t.d.def_ 34 (d := d_Desk_init) rfl
  F_Desk_phrase := c.t.d.def_ 35 (d := d_Desk_phrase) rfl
  F_Desk_put := c.t.d.def_ 36 (d := d_Desk_put) rfl
  F_Desk_back := c.t.d.def_ 37 (d := d_Desk_back) rfl
  F_Desk_now := c.t.d.def_ 38 (d := d_Desk_now) rfl
  F_Desk_all_put := c.t.d.def_ 39 (d := d_Desk_all_put) rfl
  F_Desk_row := c.t.d.def_ 40 (d := d_Desk_row) rfl
  F_Desk_old := c.t.d.def_ 41 (d := d_Desk_old) rfl
  F_Desk_likes := c.t.d.def_ 42 (d := d_Desk_likes) rfl
  F_Desk_fill := c.t.d.def_ 43 (d := d_Desk_fill) rfl
  F_Desk_rounds := c.t.d.def_ 44 (d := d_Desk_rounds) rfl
  F_Desk_tale := c.t.d.def_ 45 (d := d_Desk_tale) rfl
  F_Desk_check_phrase := c.t.d.def_ 46 (d := d_Desk_check_phrase) rfl
  F_Desk_check_place := c.t.d.def_ 47 (d := d_Desk_check_place) rfl
  F_Desk_check_other_tongue := c.t.d.def_ 48 (d := d_Desk_check_other_tongue) rfl
  F_Desk_check_text := c.t.d.def_ 49 (d := d_Desk_check_text) rfl
  F_Desk_is_fresh := c.t.d.def_ 50 (d := d_Desk_is_fresh) rfl
  F_Desk_texts_to_fill := c.t.d.def_ 51 (d := d_Desk_texts_to_fill) rfl
  F_Desk_put_like := c.t.d.def_ 52 (d := d_Desk_put_like) rfl
  F_law_cell_at := c.t.d.def_ 53 (d := d_law_cell_at) rfl
  g_law_cell_at := He.glo_ok X G (c.t.d.fact 16 (f := .glo "_law_cell_at") rfl)
  F_law_draw := c.t.d.def_ 54 (d := d_law_draw) rfl
  g_law_draw := He.glo_ok X G (c.t.d.fact 17 (f := .glo "_law_draw") rfl)
  F_law_number := c.t.d.def_ 55 (d := d_law_number) rfl
  g_law_number := He.glo_ok X G (c.t.d.fact 18 (f := .glo "_law_number") rfl)
  F_law_froms := c.t.d.def_ 56 (d := d_law_froms) rfl
  g_law_froms := He.glo_ok X G (c.t.d.fact 19 (f := .glo "_law_froms") rfl)
  F_law_text := c.t.d.def_ 57 (d := d_law_text) rfl
  g_law_text := He.glo_ok X G (c.t.d.fact 20 (f := .glo "_law_text") rfl)
  F_law_below := c.t.d.def_ 58 (d := d_law_below) rfl
  g_law_below := He.glo_ok X G (c.t.d.fact 21 (f := .glo "_law_below") rfl)
  F_law_all_put := c.t.d.def_ 59 (d := d_law_all_put) rfl
  g_law_all_put := He.glo_ok X G (c.t.d.fact 22 (f := .glo "_law_all_put") rfl)
  F_law := c.t.d.def_ 60 (d := d_law) rfl
  g_law := He.glo_ok X G (c.t.d.fact 23 (f := .glo "law") rfl)
  g_FEWEST_TONGUES := He.int_ok X G (c.t.d.fact 24 (f := .int "FEWEST_TONGUES" 2) rfl)
  g_MOST_TONGUES := He.int_ok X G (c.t.d.fact 25 (f := .int "MOST_TONGUES" 8) rfl)
  g_MOST_PHRASES := He.int_ok X G (c.t.d.fact 26 (f := .int "MOST_PHRASES" 6) rfl)
  g_MOST_LETTERS := He.int_ok X G (c.t.d.fact 27 (f := .int "MOST_LETTERS" 6) rfl)
  g_LETTERS := He.str_ok X G (c.t.d.fact 28 (f := .str "LETTERS" "abcdefghijklmnopqrstuvwxyz") rfl)
  f_all := He.free_ok X G (c.t.d.fact 29 (f := .free "all") rfl)
  f_bool := He.free_ok X G (c.t.d.fact 30 (f := .free "bool") rfl)
  f_enumerate := He.free_ok X G (c.t.d.fact 31 (f := .free "enumerate") rfl)
  f_int := He.free_ok X G (c.t.d.fact 32 (f := .free "int") rfl)
  f_isinstance := He.free_ok X G (c.t.d.fact 33 (f := .free "isinstance") rfl)
  f_len := He.free_ok X G (c.t.d.fact 34 (f := .free "len") rfl)
  f_list := He.free_ok X G (c.t.d.fact 35 (f := .free "list") rfl)
  f_range := He.free_ok X G (c.t.d.fact 36 (f := .free "range") rfl)
  f_str := He.free_ok X G (c.t.d.fact 37 (f := .free "str") rfl)
  f_tuple := He.free_ok X G (c.t.d.fact 38 (f := .free "tuple") rfl)
  g_Past := He.glo_ok X G (c.t.d.fact 39 (f := .glo "Past") rfl)
  k_Past := He.cls_ok (c.t.d.fact 40 (f := .cls "Past") rfl)
  m_Past_begin_phrase := He.meth_ok (c.t.d.fact 41 (f := .meth "Past" "begin_phrase") rfl)
  m_Past_lay_down := He.meth_ok (c.t.d.fact 42 (f := .meth "Past" "lay_down") rfl)
  m_Past_take_off := He.meth_ok (c.t.d.fact 43 (f := .meth "Past" "take_off") rfl)
  m_Past_has_phrase := He.meth_ok (c.t.d.fact 44 (f := .meth "Past" "has_phrase") rfl)
  m_Past_standing := He.meth_ok (c.t.d.fact 45 (f := .meth "Past" "standing") rfl)
  m_Past_text_standing := He.meth_ok (c.t.d.fact 46 (f := .meth "Past" "text_standing") rfl)
  m_Past_cells := He.meth_ok (c.t.d.fact 47 (f := .meth "Past" "cells") rfl)
  m_Past_was_seen := He.meth_ok (c.t.d.fact 48 (f := .meth "Past" "was_seen") rfl)
  m_Past_is_over := He.meth_ok (c.t.d.fact 49 (f := .meth "Past" "is_over") rfl)
  m_Past_can_take_off := He.meth_ok (c.t.d.fact 50 (f := .meth "Past" "can_take_off") rfl)
  m_Past_takes := He.meth_ok (c.t.d.fact 51 (f := .meth "Past" "takes") rfl)
  m_Past_takes_phrase := He.meth_ok (c.t.d.fact 52 (f := .meth "Past" "takes_phrase") rfl)
  m_Past_takes_put := He.meth_ok (c.t.d.fact 53 (f := .meth "Past" "takes_put") rfl)
  m_Past_takes_back := He.meth_ok (c.t.d.fact 54 (f := .meth "Past" "takes_back") rfl)
  i_Past := He.mkr_ok (c.t.d.fact 55 (f := .mkr "Past") rfl)
  t_Past := ins_ok (x := "Past") (exs_at c.more 0 rfl)
  is_Past_Past := of_decide_eq_true (exs_at c.more 1 rfl)
  is_Past_Answer := of_decide_eq_true (exs_at c.more 2 rfl)
  is_Past_Fresh := of_decide_eq_true (exs_at c.more 3 rfl)
  is_Past_Old := of_decide_eq_true (exs_at c.more 4 rfl)
  is_Past_Desk := of_decide_eq_true (exs_at c.more 5 rfl)
  g_Answer := He.glo_ok X G (c.t.d.fact 56 (f := .glo "Answer") rfl)
  k_Answer := He.cls_ok (c.t.d.fact 57 (f := .cls "Answer") rfl)
  b_Answer := bare_ok (x := "Answer") (exs_at c.more 7 rfl)
  t_Answer := ins_ok (x := "Answer") (exs_at c.more 6 rfl)
  is_Answer_Past := of_decide_eq_true (exs_at c.more 8 rfl)
  is_Answer_Answer := of_decide_eq_true (exs_at c.more 9 rfl)
  is_Answer_Fresh := of_decide_eq_true (exs_at c.more 10 rfl)
  is_Answer_Old := of_decide_eq_true (exs_at c.more 11 rfl)
  is_Answer_Desk := of_decide_eq_true (exs_at c.more 12 rfl)
  g_Fresh := He.glo_ok X G (c.t.d.fact 58 (f := .glo "Fresh") rfl)
  k_Fresh := He.cls_ok (c.t.d.fact 59 (f := .cls "Fresh") rfl)
  m_Fresh_shows := He.meth_ok (c.t.d.fact 60 (f := .meth "Fresh" "shows") rfl)
  b_Fresh := bare_ok (x := "Fresh") (exs_at c.more 14 rfl)
  t_Fresh := ins_ok (x := "Fresh") (exs_at c.more 13 rfl)
  is_Fresh_Past := of_decide_eq_true (exs_at c.more 15 rfl)
  is_Fresh_Answer := of_decide_eq_true (exs_at c.more 16 rfl)
  is_Fresh_Fresh := of_decide_eq_true (exs_at c.more 17 rfl)
  is_Fresh_Old := of_decide_eq_true (exs_at c.more 18 rfl)
  is_Fresh_Desk := of_decide_eq_true (exs_at c.more 19 rfl)
  g_Old := He.glo_ok X G (c.t.d.fact 61 (f := .glo "Old") rfl)
  k_Old := He.cls_ok (c.t.d.fact 62 (f := .cls "Old") rfl)
  m_Old_shows := He.meth_ok (c.t.d.fact 63 (f := .meth "Old" "shows") rfl)
  i_Old := He.mkr_ok (c.t.d.fact 64 (f := .mkr "Old") rfl)
  t_Old := ins_ok (x := "Old") (exs_at c.more 20 rfl)
  is_Old_Past := of_decide_eq_true (exs_at c.more 21 rfl)
  is_Old_Answer := of_decide_eq_true (exs_at c.more 22 rfl)
  is_Old_Fresh := of_decide_eq_true (exs_at c.more 23 rfl)
  is_Old_Old := of_decide_eq_true (exs_at c.more 24 rfl)
  is_Old_Desk := of_decide_eq_true (exs_at c.more 25 rfl)
  g_Desk := He.glo_ok X G (c.t.d.fact 65 (f := .glo "Desk") rfl)
  k_Desk := He.cls_ok (c.t.d.fact 66 (f := .cls "Desk") rfl)
  m_Desk_phrase := He.meth_ok (c.t.d.fact 67 (f := .meth "Desk" "phrase") rfl)
  m_Desk_put := He.meth_ok (c.t.d.fact 68 (f := .meth "Desk" "put") rfl)
  m_Desk_back := He.meth_ok (c.t.d.fact 69 (f := .meth "Desk" "back") rfl)
  m_Desk_now := He.meth_ok (c.t.d.fact 70 (f := .meth "Desk" "now") rfl)
  m_Desk_all_put := He.meth_ok (c.t.d.fact 71 (f := .meth "Desk" "all_put") rfl)
  m_Desk_row := He.meth_ok (c.t.d.fact 72 (f := .meth "Desk" "row") rfl)
  m_Desk_old := He.meth_ok (c.t.d.fact 73 (f := .meth "Desk" "old") rfl)
  m_Desk_likes := He.meth_ok (c.t.d.fact 74 (f := .meth "Desk" "likes") rfl)
  m_Desk_fill := He.meth_ok (c.t.d.fact 75 (f := .meth "Desk" "fill") rfl)
  m_Desk_rounds := He.meth_ok (c.t.d.fact 76 (f := .meth "Desk" "rounds") rfl)
  m_Desk_tale := He.meth_ok (c.t.d.fact 77 (f := .meth "Desk" "tale") rfl)
  m_Desk_check_phrase := He.meth_ok (c.t.d.fact 78 (f := .meth "Desk" "check_phrase") rfl)
  m_Desk_check_place := He.meth_ok (c.t.d.fact 79 (f := .meth "Desk" "check_place") rfl)
  m_Desk_check_other_tongue := He.meth_ok (c.t.d.fact 80 (f := .meth "Desk" "check_other_tongue") rfl)
  m_Desk_check_text := He.meth_ok (c.t.d.fact 81 (f := .meth "Desk" "check_text") rfl)
  m_Desk_is_fresh := He.meth_ok (c.t.d.fact 82 (f := .meth "Desk" "is_fresh") rfl)
  m_Desk_texts_to_fill := He.meth_ok (c.t.d.fact 83 (f := .meth "Desk" "texts_to_fill") rfl)
  m_Desk_put_like := He.meth_ok (c.t.d.fact 84 (f := .meth "Desk" "put_like") rfl)
  i_Desk := He.mkr_ok (c.t.d.fact 85 (f := .mkr "Desk") rfl)
  t_Desk := ins_ok (x := "Desk") (exs_at c.more 26 rfl)
  is_Desk_Past := of_decide_eq_true (exs_at c.more 27 rfl)
  is_Desk_Answer := of_decide_eq_true (exs_at c.more 28 rfl)
  is_Desk_Fresh := of_decide_eq_true (exs_at c.more 29 rfl)
  is_Desk_Old := of_decide_eq_true (exs_at c.more 30 rfl)
  is_Desk_Desk := of_decide_eq_true (exs_at c.more 31 rfl)
  n_Past_ever := He.noat_ok (c.t.d.fact 86 (f := .noat "Past" "ever") rfl)
  n_Past_froms := He.noat_ok (c.t.d.fact 87 (f := .noat "Past" "froms") rfl)
  n_Past_origins := He.noat_ok (c.t.d.fact 88 (f := .noat "Past" "origins") rfl)
  n_Past_phrases := He.noat_ok (c.t.d.fact 89 (f := .noat "Past" "phrases") rfl)
  n_Past_piles := He.noat_ok (c.t.d.fact 90 (f := .noat "Past" "piles") rfl)
  n_Past_texts := He.noat_ok (c.t.d.fact 91 (f := .noat "Past" "texts") rfl)
  n_Old_chain := He.noat_ok (c.t.d.fact 92 (f := .noat "Old" "chain") rfl)
  n_Desk_lines := He.noat_ok (c.t.d.fact 93 (f := .noat "Desk" "lines") rfl)
  n_Desk_past := He.noat_ok (c.t.d.fact 94 (f := .noat "Desk" "past") rfl)
  g_PhraseError := He.glo_ok X G (c.t.d.fact 95 (f := .glo "PhraseError") rfl)
  g_BadFroms := He.glo_ok X G (c.t.d.fact 97 (f := .glo "BadFroms") rfl)
  g_BadPhrase := He.glo_ok X G (c.t.d.fact 99 (f := .glo "BadPhrase") rfl)
  g_BadTongue := He.glo_ok X G (c.t.d.fact 101 (f := .glo "BadTongue") rfl)
  g_BadText := He.glo_ok X G (c.t.d.fact 103 (f := .glo "BadText") rfl)
  g_BadSeen := He.glo_ok X G (c.t.d.fact 105 (f := .glo "BadSeen") rfl)
  g_BadRow := He.glo_ok X G (c.t.d.fact 107 (f := .glo "BadRow") rfl)
  g_Overtaken := He.glo_ok X G (c.t.d.fact 109 (f := .glo "Overtaken") rfl)
  g_Nothing := He.glo_ok X G (c.t.d.fact 111 (f := .glo "Nothing") rfl)
  g_TooMany := He.glo_ok X G (c.t.d.fact 113 (f := .glo "TooMany") rfl)

end PD

namespace PD
open PySem PySem.Spec PyProof.Rows L2

/-! Phrasedesk, law_k03: what the other laws have, too -/
theorem qt {Q : V → Hp → Prop} {H : Hp} {b c : Bool} (h : b = c) (q : Q (.bl c) H) : Q (.bl b) H := by
  rw [h]
  exact q
theorem ivs {ns : List Int} {i : Nat} {x : Int} (h : ns[i]? = some x) : (ns.map V.int)[i]? = some (V.int x) := by
  rw [List.getElem?_map, h]
  rfl
def spNum (K : PySem.W.Frag) : Sp := fun vs H Q _ => ∃ (v : V) (t : Value) (b1 b2 : Bool), vs = [v] ∧ TyX K H v t ∧ PySem.W.kitOne K t (.type "int") = some b1 ∧ PySem.W.kitOne K t (.type "bool") = some b2 ∧ Q (.bl (b1 && !b2)) H
theorem sc_is_number : FnScope ["value"] ["value"] (defScope s_is_number) := ⟨rfl, rfl, rfl, by decide +kernel, rfl, by decide +kernel, by decide +kernel⟩
theorem c_is_number {P : Program} {w : World} {K : PySem.W.Frag} {mg : Str → Option Value} {base : Heap} (T : Tx K mg) : C8.Cal P w K mg base 1 "is_number" (spNum K) [] := by
  refine calD T.F_is_number T.g_is_number (fun _ _ _ _ _ _ us hl => match us, hl with | [_], _ => rfl) sc_is_number (fun vs H Q E h => ?_) (fun cdv A outer s H vs Q E hr h => ?_)
  · obtain ⟨v, t, b1, b2, rfl, _⟩ := h
    rfl
  · obtain ⟨v, t, b1, b2, rfl, ty, k1, k2, q⟩ := h
    refine ⟨_, (pss_one (ps_ret (pe_and (pe_callB call_isi (by rfl) T.f_isinstance (by decide +kernel) (pa_cons (pv 0) (pa_cons (pe_bltn (v := .ty "int") (by rfl) T.f_int (by decide +kernel) rfl) pa_nil))) (pe_one (pe_not (pe_callB call_isi (by rfl) T.f_isinstance (by decide +kernel) (pa_cons (pv 0) (pa_cons (pe_bltn (v := .ty "bool") (by rfl) T.f_bool (by decide +kernel) rfl) pa_nil)))))))), ?_⟩
    refine ⟨_, rfl, _, _, t, _, b1, rfl, .ty _, ty, k1, b1, rfl, ?_⟩
    cases b1 with
    | false => exact iteF q
    | true => exact iteT ⟨_, rfl, _, _, t, _, b2, rfl, .ty _, ty, k2, b2, rfl, q⟩
def spCount : Sp := fun vs H Q _ => ∃ i : Int, vs = [.int i] ∧ Q (.bl (decide (0 ≤ i))) H
theorem sc_is_count : FnScope ["value"] ["value"] (defScope s_is_count) := ⟨rfl, rfl, rfl, by decide +kernel, rfl, by decide +kernel, by decide +kernel⟩
theorem c_is_count {P : Program} {w : World} {K : PySem.W.Frag} {mg : Str → Option Value} {base : Heap} (T : Tx K mg) : C8.Cal P w K mg base 2 "is_count" (spCount) [] := by
  refine calD T.F_is_count T.g_is_count (fun _ _ _ _ _ _ us hl => match us, hl with | [_], _ => rfl) sc_is_count (fun vs H Q E h => ?_) (fun cdv A outer s H vs Q E hr h => ?_)
  · obtain ⟨i, rfl, _⟩ := h
    rfl
  · obtain ⟨i, rfl, q⟩ := h
    refine ⟨_, (pss_one (ps_ret (pe_and (C8.pe_c (c_is_number T) hr (by decide) rfl (pa_cons (pv 0) pa_nil)) (pe_one (pe_cmpR op_ge (pv 0) pe_int (nomark _)))))), ?_⟩
    refine ⟨_, rfl, _, _, true, false, rfl, .base (.int i), is_ty (by decide +kernel), is_ty (by decide +kernel), true, rfl, iteT ⟨_, rfl, i, 0, rfl, rfl, q⟩⟩
def spPair : Sp := fun vs H Q _ => ∃ (p : Addr) (x y : V), vs = [.ref p] ∧ H p = some (.tup [x, y]) ∧ Q (.bl true) H
theorem sc_is_pair : FnScope ["value"] ["value"] (defScope s_is_pair) := ⟨rfl, rfl, rfl, by decide +kernel, rfl, by decide +kernel, by decide +kernel⟩
theorem c_is_pair {P : Program} {w : World} {K : PySem.W.Frag} {mg : Str → Option Value} {base : Heap} (T : Tx K mg) : C8.Cal P w K mg base 1 "is_pair" (spPair) [] := by
  refine calD T.F_is_pair T.g_is_pair (fun _ _ _ _ _ _ us hl => match us, hl with | [_], _ => rfl) sc_is_pair (fun vs H Q E h => ?_) (fun cdv A outer s H vs Q E hr h => ?_)
  · obtain ⟨p, x, y, rfl, _⟩ := h
    rfl
  · obtain ⟨p, x, y, rfl, hp, q⟩ := h
    refine ⟨_, (pss_one (ps_ret (pe_and (pe_callB call_isi (by rfl) T.f_isinstance (by decide +kernel) (pa_cons (pv 0) (pa_cons (pe_bltn (v := .ty "tuple") (by rfl) T.f_tuple (by decide +kernel) rfl) pa_nil))) (pe_one (pe_cmpR op_eq (pe_callB call_len_seq (by rfl) T.f_len (by decide +kernel) (pa_cons (pv 0) pa_nil)) pe_int (nomark _)))))), ?_⟩
    refine ⟨_, rfl, _, _, _, _, true, rfl, .ty _, .base (.tup hp), is_ty (by decide +kernel), true, rfl, iteT ⟨_, rfl, p, _, rfl, .inr (SqT.of hp), rfl, ?_⟩⟩
    exact qt (decide_eq_true rfl) q
def spTongue : Sp := fun vs H Q _ => ∃ (a : Addr) (fr : List Int) (t : Int), vs = [.ref a, .int t] ∧ LsAt H a fr ∧ Q (.bl (decide (0 ≤ t) && decide (t ≤ (fr.length : Int)))) H
theorem sc_is_tongue : FnScope ["froms", "value"] ["froms", "value"] (defScope s_is_tongue) := ⟨rfl, rfl, rfl, by decide +kernel, rfl, by decide +kernel, by decide +kernel⟩
theorem c_is_tongue {P : Program} {w : World} {K : PySem.W.Frag} {mg : Str → Option Value} {base : Heap} (T : Tx K mg) : C8.Cal P w K mg base 3 "is_tongue" (spTongue) [] := by
  refine calD T.F_is_tongue T.g_is_tongue (fun _ _ _ _ _ _ us hl => match us, hl with | [_, _], _ => rfl) sc_is_tongue (fun vs H Q E h => ?_) (fun cdv A outer s H vs Q E hr h => ?_)
  · obtain ⟨a, fr, t, rfl, _⟩ := h
    rfl
  · obtain ⟨a, fr, t, rfl, ha, q⟩ := h
    refine ⟨_, (pss_one (ps_ret (pe_and (C8.pe_c (c_is_count T) hr (by decide) rfl (pa_cons (pv 1) pa_nil)) (pe_one (pe_cmpR op_le (pv 1) (pe_callB call_len_seq (by rfl) T.f_len (by decide +kernel) (pa_cons (pv 0) pa_nil)) (nomark _)))))), ?_⟩
    refine ⟨_, rfl, t, rfl, decide (0 ≤ t), rfl, ?_⟩
    by_cases h0 : 0 ≤ t
    · rw [decide_eq_true h0] at q ⊢
      refine iteT ⟨_, rfl, _, rfl, a, _, rfl, .inl (SqL.of ha), t, _, rfl, rfl, ?_⟩
      rw [List.length_map]
      exact q
    · rw [decide_eq_false h0] at q ⊢
      exact iteF q
def spSrc : Sp := fun vs H Q _ => ∃ (p : Addr) (a : Int), vs = [.ref p] ∧ H p = some (.tup [.int a, .non]) ∧ 0 ≤ a ∧ Q (.bl true) H
theorem sc_is_source_cell : FnScope ["value"] ["value"] (defScope s_is_source_cell) := ⟨rfl, rfl, rfl, by decide +kernel, rfl, by decide +kernel, by decide +kernel⟩
theorem c_is_source_cell {P : Program} {w : World} {K : PySem.W.Frag} {mg : Str → Option Value} {base : Heap} (T : Tx K mg) : C8.Cal P w K mg base 3 "is_source_cell" (spSrc) [] := by
  refine calD T.F_is_source_cell T.g_is_source_cell (fun _ _ _ _ _ _ us hl => match us, hl with | [_], _ => rfl) sc_is_source_cell (fun vs H Q E h => ?_) (fun cdv A outer s H vs Q E hr h => ?_)
  · obtain ⟨p, a, rfl, _⟩ := h
    rfl
  · obtain ⟨p, a, rfl, hp, h0, q⟩ := h
    refine ⟨_, (pss_one (ps_ret (pe_and (C8.pe_c (c_is_pair T) hr (by decide) rfl (pa_cons (pv 0) pa_nil)) (pe_and (C8.pe_c (c_is_count T) hr (by decide) rfl (pa_cons (pe_ix ix_tup (pv 0) pe_int (fun _ _ => rfl)) pa_nil)) (pe_one (pe_cmpR op_isN (pe_ix ix_tup (pv 0) pe_int (fun _ _ => rfl)) pe_non (nomark _))))))), ?_⟩
    refine ⟨_, rfl, p, _, _, rfl, hp, true, rfl, iteT ⟨_, rfl, p, _, _, _, rfl, rfl, SqT.of hp, atI_nat (j := 0) rfl, a, rfl, true, ?_, iteT ⟨_, rfl, p, _, _, _, rfl, rfl, SqT.of hp, atI_nat (j := 1) rfl, rfl, qt (decide_eq_true rfl) q⟩⟩⟩
    rw [decide_eq_true h0]
def spOther : Sp := fun vs H Q _ => ∃ (v : V) (c : Cell), vs = [v] ∧ CellV H v c ∧ (c = none ∨ ∃ a b, c = some (a, some b) ∧ 0 ≤ a ∧ 0 ≤ b) ∧ Q (.bl true) H
theorem sc_is_other_cell : FnScope ["value"] ["value"] (defScope s_is_other_cell) := ⟨rfl, rfl, rfl, by decide +kernel, rfl, by decide +kernel, by decide +kernel⟩
theorem c_is_other_cell {P : Program} {w : World} {K : PySem.W.Frag} {mg : Str → Option Value} {base : Heap} (T : Tx K mg) : C8.Cal P w K mg base 3 "is_other_cell" (spOther) [] := by
  refine calD T.F_is_other_cell T.g_is_other_cell (fun _ _ _ _ _ _ us hl => match us, hl with | [_], _ => rfl) sc_is_other_cell (fun vs H Q E h => ?_) (fun cdv A outer s H vs Q E hr h => ?_)
  · obtain ⟨v, c, rfl, _⟩ := h
    rfl
  · obtain ⟨v, c, rfl, hc, ho, q⟩ := h
    rcases ho with rfl | ⟨a, b, rfl, h0, h1⟩
    · cases (show v = .non from hc)
      refine ⟨_, (pss_one (ps_ret (pe_or (pe_cmpR op_isN (pv 0) pe_non (nomark _)) (pe_one (pe_and (C8.pe_c (c_is_pair T) hr (by decide) rfl (pa_cons (pv 0) pa_nil)) (pe_and (C8.pe_c (c_is_count T) hr (by decide) rfl (pa_cons (pe_ix ix_tup (pv 0) pe_int (fun _ _ => rfl)) pa_nil)) (pe_one (C8.pe_c (c_is_count T) hr (by decide) rfl (pa_cons (pe_ix ix_tup (pv 0) pe_int (fun _ _ => rfl)) pa_nil))))))))), ?_⟩
      exact ⟨_, rfl, rfl, true, by rw [decide_eq_true rfl], iteT q⟩
    · obtain ⟨p, rfl, hp⟩ := hc
      refine ⟨_, (pss_one (ps_ret (pe_or (pe_cmpR op_isN (pv 0) pe_non (nomark _)) (pe_one (pe_and (C8.pe_c (c_is_pair T) hr (by decide) rfl (pa_cons (pv 0) pa_nil)) (pe_and (C8.pe_c (c_is_count T) hr (by decide) rfl (pa_cons (pe_ix ix_tup (pv 0) pe_int (fun _ _ => rfl)) pa_nil)) (pe_one (C8.pe_c (c_is_count T) hr (by decide) rfl (pa_cons (pe_ix ix_tup (pv 0) pe_int (fun _ _ => rfl)) pa_nil))))))))), ?_⟩
      refine ⟨_, rfl, rfl, false, by rw [decide_eq_false (by intro z; cases z)], iteF ?_⟩
      refine ⟨_, rfl, p, _, _, rfl, hp, true, rfl, iteT ⟨_, rfl, p, _, _, _, rfl, rfl, SqT.of hp, atI_nat (j := 0) rfl, a, rfl, true, ?_, iteT ⟨_, rfl, p, _, _, _, rfl, rfl, SqT.of hp, atI_nat (j := 1) rfl, b, rfl, ?_⟩⟩⟩
      · rw [decide_eq_true h0]
      · exact qt (decide_eq_true h1) q
def spFrom : Sp := fun vs H Q _ => ∃ (a : Addr) (fr : List Int) (t : Nat) (x : Int), vs = [.ref a, .int (t : Int)] ∧ LsAt H a fr ∧ 0 < t ∧ fr[t - 1]? = some x ∧ Q (.int x) H
theorem sc_put_from : FnScope ["froms", "tongue"] ["froms", "tongue"] (defScope s_put_from) := ⟨rfl, rfl, rfl, by decide +kernel, rfl, by decide +kernel, by decide +kernel⟩
theorem c_put_from {P : Program} {w : World} {K : PySem.W.Frag} {mg : Str → Option Value} {base : Heap} (T : Tx K mg) : C8.Cal P w K mg base 1 "put_from" (spFrom) [] := by
  refine calD T.F_put_from T.g_put_from (fun _ _ _ _ _ _ us hl => match us, hl with | [_, _], _ => rfl) sc_put_from (fun vs H Q E h => ?_) (fun cdv A outer s H vs Q E hr h => ?_)
  · obtain ⟨a, fr, t, x, rfl, _⟩ := h
    rfl
  · obtain ⟨a, fr, t, x, rfl, ha, h0, hx, q⟩ := h
    refine ⟨_, (pss_one (ps_ret (pe_ix ix_list (pv 0) (pe_op op_sub (pv 1) pe_int) (fun _ _ => rfl)))), ?_⟩
    exact ⟨_, rfl, _, rfl, _, _, rfl, rfl, a, _, _, _, rfl, rfl, SqL.of ha, at_of (j := t - 1) (by omega) (ivs hx), q⟩
def spBrk : Sp := fun vs H Q _ => ∃ (a : Addr) (fr : List Int) (p : Addr) (row : List Cell) (t : Nat), vs = [.ref a, .ref p, .int (t : Int)] ∧ LsAt H a fr ∧ FrOk fr ∧ RowAt H p row ∧ RowOk fr row ∧ 0 < t ∧ t ≤ fr.length ∧ Q (.bl (brk fr row t)) H
theorem getD_of {α : Type} {l : List α} {i : Nat} {d x : α} (h : l[i]? = some x) : l.getD i d = x := by
  rw [List.getD_eq_getElem?_getD, h]
  rfl
theorem sc_is_broken : FnScope ["froms", "row", "tongue", "cell", "above"] ["froms", "row", "tongue"] (defScope s_is_broken) := ⟨rfl, rfl, rfl, by decide +kernel, rfl, by decide +kernel, by decide +kernel⟩
theorem c_is_broken {P : Program} {w : World} {K : PySem.W.Frag} {mg : Str → Option Value} {base : Heap} (T : Tx K mg) : C8.Cal P w K mg base 2 "is_broken" (spBrk) [] := by
  refine calD T.F_is_broken T.g_is_broken (fun _ _ _ _ _ _ us hl => match us, hl with | [_, _, _], _ => rfl) sc_is_broken (fun vs H Q E h => ?_) (fun cdv A outer s H vs Q E hr h => ?_)
  · obtain ⟨a, fr, p, row, t, rfl, _⟩ := h
    rfl
  · obtain ⟨a, fr, p, row, t, rfl, ha, fo, hp, ro, h0, h1, q⟩ := h
    obtain ⟨vs, hv, hc⟩ := hp
    obtain ⟨x, ex, x0, xl, xu⟩ := fo.at h0 h1
    have hl1 : t < row.length := by rw [ro.len]; omega
    have hl2 : up fr t < row.length := by rw [ro.len]; omega
    obtain ⟨v1, e1, c1⟩ := hc.each t row[t] (List.getElem?_eq_getElem hl1)
    obtain ⟨v2, e2, c2⟩ := hc.each (up fr t) row[up fr t] (List.getElem?_eq_getElem hl2)
    have g1 : row.getD t none = row[t] := getD_of (List.getElem?_eq_getElem hl1)
    have g2 : row.getD (up fr t) none = row[up fr t] := getD_of (List.getElem?_eq_getElem hl2)
    unfold brk at q
    rw [g1, g2] at q
    refine ⟨_, (pss_cons (ps_set (i := 3) sc_is_broken.nd rfl (Or.inl rfl) (pe_ix ix_list (pv 1) (pv 2) (fun _ _ => rfl)))
    (pss_cons (ps_set (i := 4) sc_is_broken.nd rfl (Or.inl rfl) (pe_ix ix_list (pv 1) (C8.pe_c (c_put_from T) hr (by decide) rfl (pa_cons (pv 0) (pa_cons (pv 2) pa_nil))) (fun _ _ => rfl)))
    (pss_one (ps_ret (pe_or (pe_cmpR op_isN (pv 3) pe_non (nomark _)) (pe_or (pe_cmpR op_isN (pv 4) pe_non (nomark _)) (pe_one (pe_cmpR op_ne (pe_ix ix_tup (pv 3) pe_int (fun _ _ => rfl)) (pe_ix ix_tup (pv 4) pe_int (fun _ _ => rfl)) (nomark _))))))))), ?_⟩
    refine ⟨_, rfl, _, rfl, p, _, _, v1, rfl, rfl, SqL.of hv, atI_nat e1, _, rfl, _, rfl, _, rfl, a, fr, t, x, rfl, ha, h0, ex, p, _, _, v2, rfl, rfl, SqL.of hv, at_of (j := up fr t) xu e2, ?_⟩
    cases q1 : row[t] with
    | none =>
      rw [q1] at c1 q
      cases (show v1 = .non from c1)
      exact ⟨_, rfl, rfl, true, by rw [decide_eq_true rfl], iteT q⟩
    | some c =>
      obtain ⟨n1, b1⟩ := c
      rw [q1] at c1 q
      obtain ⟨p1, rfl, k1⟩ := c1
      refine ⟨_, rfl, rfl, false, by rw [decide_eq_false (by intro z; cases z)], iteF ?_⟩
      cases q2 : row[up fr t] with
      | none =>
        rw [q2] at c2 q
        cases (show v2 = .non from c2)
        exact ⟨_, rfl, rfl, true, by rw [decide_eq_true rfl], iteT q⟩
      | some d =>
        obtain ⟨n2, b2⟩ := d
        rw [q2] at c2 q
        obtain ⟨p2, rfl, k2⟩ := c2
        obtain ⟨m1, m2, em, _, _⟩ : ∃ a b, (some (n1, b1) : Cell) = some (a, some b) ∧ 0 ≤ a ∧ 0 ≤ b := by
          have et : row[t - 1 + 1]? = some (some (n1, b1)) := by
            rw [show t - 1 + 1 = t by omega, List.getElem?_eq_getElem hl1, q1]
          rcases ro.each (t - 1) _ et with z | z
          · cases z
          · exact z
        cases em
        refine ⟨_, rfl, rfl, false, by rw [decide_eq_false (by intro z; cases z)], iteF ?_⟩
        refine ⟨_, rfl, p1, _, _, _, rfl, rfl, SqT.of k1, atI_nat (j := 1) rfl, _, rfl, p2, _, _, _, rfl, rfl, SqT.of k2, atI_nat (j := 0) rfl, rfl, ?_⟩
        refine qt ?_ q
        show (!decide (V.int m2 = V.int n2)) = !decide (some m2 = some n2)
        by_cases z : m2 = n2
        · subst z
          simp
        · have z1 : ¬ V.int m2 = V.int n2 := fun y => z (V.int.inj y)
          have z2 : ¬ some m2 = some n2 := fun y => z (Option.some.inj y)
          rw [decide_eq_false z1, decide_eq_false z2]

def spChain : Sp := fun vs H Q _ => ∃ (a : Addr) (fr : List Int) (p : Addr) (row : List Cell) (t : Nat), vs = [.ref a, .ref p, .int (t : Int)] ∧ LsAt H a fr ∧ FrOk fr ∧ RowAt H p row ∧ RowOk fr row ∧ t ≤ fr.length ∧
  (chain fr row t = none → ∀ H' : Hp, Same H H' → Q .non H') ∧ (∀ c, chain fr row t = some c → ∀ (H' : Hp) (l : Addr), Same H H' → H l = none → LsAt H' l c → Q (.ref l) H')
theorem map_some_app {o : Option (List Int)} {acc : List Int} {x : Int} : (o.map (x :: ·)).map (acc ++ ·) = o.map ((acc ++ [x]) ++ ·) := by
  cases o with
  | none => rfl
  | some r => simp
theorem sc_chain_up : FnScope ["froms", "row", "tongue", "chain", "at"] ["froms", "row", "tongue"] (defScope s_chain_up) := ⟨rfl, rfl, rfl, by decide +kernel, rfl, by decide +kernel, by decide +kernel⟩
theorem c_chain_up {P : Program} {w : World} {K : PySem.W.Frag} {mg : Str → Option Value} {base : Heap} (T : Tx K mg) : C8.Cal P w K mg base 3 "chain_up" (spChain) [] := by
  refine calD T.F_chain_up T.g_chain_up (fun _ _ _ _ _ _ us hl => match us, hl with | [_, _, _], _ => rfl) sc_chain_up (fun vs H Q E h => ?_) (fun cdv A outer s H vs Q E hr h => ?_)
  · obtain ⟨a, fr, p, row, t, rfl, _⟩ := h
    rfl
  · obtain ⟨a, fr, p, row, t, rfl, ha, fo, hp, ro, ht, q0, q1⟩ := h
    refine ⟨_, (pss_cons (ps_set (i := 3) sc_chain_up.nd rfl (Or.inl rfl) (pe_lst pa_nil))
    (pss_cons (ps_set (i := 4) sc_chain_up.nd rfl (Or.inl rfl) (pv 2))
    (pss_cons (ps_while PassesOwn.never (pt_cmpR op_gt (pv 4) pe_int (nomark _))
      (pss_cons (ps_expr (pe_bm PySem.F.plainAttrs_list PySem.F.slot_list_append PySem.F.type_list_append mt_append (pv 3) (pa_cons (pv 4) pa_nil)))
      (pss_cons (ps_if (pt_val (C8.pe_c (c_is_broken T) hr (by decide) rfl (pa_cons (pv 0) (pa_cons (pv 1) (pa_cons (pv 4) pa_nil)))))
        (pss_one (ps_ret (pv 3)))
        pss_nil)
      (pss_one (ps_set (i := 4) sc_chain_up.nd rfl (Or.inl rfl) (C8.pe_c (c_put_from T) hr (by decide) rfl (pa_cons (pv 0) (pa_cons (pv 4) pa_nil))))))))
    (pss_one (ps_ret pe_non))))), ?_⟩
    refine ⟨Nat.zero_le _, fun l nl => ?_⟩
    have s0 : Same H (upd H l (.lst [])) := same_upd nl
    refine ⟨_, rfl, fun u σ H1 => ∃ acc : List Int, σ = [some (.ref a), some (.ref p), some (.int (t : Int)), some (.ref l), some (.int (u : Int))] ∧ u ≤ fr.length ∧ Same H H1 ∧ LsAt H1 l acc ∧ acc.length + u ≤ t ∧ chain fr row t = (chain fr row u).map (acc ++ ·), ⟨t, [], rfl, ht, s0, upd_same, by simp, by simp⟩, ?_⟩
    rintro u σ H1 ⟨acc, rfl, hu, s1, hl, hn, he⟩
    refine ⟨_, rfl, _, _, rfl, rfl, decide ((0 : Int) < (u : Int)), rfl, ?_⟩
    by_cases h0 : (0 : Int) < (u : Int)
    · rw [decide_eq_true h0]
      refine iteT ⟨fun σ' H' => ∃ m', m' < u ∧ ∃ acc : List Int, σ' = [some (.ref a), some (.ref p), some (.int (t : Int)), some (.ref l), some (.int (m' : Int))] ∧ m' ≤ fr.length ∧ Same H H' ∧ LsAt H' l acc ∧ acc.length + m' ≤ t ∧ chain fr row t = (chain fr row m').map (acc ++ ·), fun σ' H' h => h, ?_⟩
      have u0 : 0 < u := by omega
      have hz : acc.length < sizeLine := small1000 (by have := fo.hi; omega)
      refine ⟨_, rfl, .inl ⟨rfl, _, SqL.of hl⟩, _, rfl, l, _, _, rfl, rfl, hl, by rw [List.length_map]; exact hz, ?_⟩
      have s2 : Same H (upd H1 l (.lst (acc.map V.int ++ [V.int (u : Int)]))) := Same.chg s1 nl
      have hl2 : LsAt (upd H1 l (.lst (acc.map V.int ++ [V.int (u : Int)]))) l (acc ++ [(u : Int)]) := by
        unfold LsAt
        rw [upd_same, List.map_append]
        rfl
      refine ⟨_, rfl, _, rfl, _, rfl, a, fr, p, row, u, rfl, ha.same s2, fo, hp.same s2, ro, u0, hu, brk fr row u, rfl, ?_⟩
      have hs := chain_step (row := row) fo u0 hu
      cases hb : brk fr row u with
      | true =>
        rw [hb] at hs
        have ec : chain fr row t = some (acc ++ [(u : Int)]) := by
          rw [he, hs]
          rfl
        exact iteT ⟨_, rfl, q1 _ ec _ l s2 nl hl2⟩
      | false =>
        rw [hb] at hs
        obtain ⟨x, ex, x0, xl, xu⟩ := fo.at u0 hu
        refine iteF ⟨_, rfl, _, rfl, a, fr, u, x, rfl, ha.same s2, u0, ex, ?_⟩
        refine ⟨up fr u, up_lt fo u0 hu, acc ++ [(u : Int)], by rw [xu]; rfl, by have := up_lt fo u0 hu; omega, s2, hl2, ?_, ?_⟩
        · have := up_lt fo u0 hu
          simp
          omega
        · rw [he, hs]
          exact map_some_app
    · rw [decide_eq_false h0]
      have u0 : u = 0 := by omega
      subst u0
      refine iteF (q0 ?_ _ s1)
      rw [he, chain_zero]
      rfl
def spCopyI : Sp := fun vs H Q _ => ∃ i : Int, vs = [.int i] ∧ Q (.int i) H
theorem sc_copied : FnScope ["value", "part"] ["value"] (defScope s_copied) := ⟨rfl, rfl, rfl, by decide +kernel, rfl, by decide +kernel, by decide +kernel⟩
theorem c_copied_int {P : Program} {w : World} {K : PySem.W.Frag} {mg : Str → Option Value} {base : Heap} (T : Tx K mg) : C8.Cal P w K mg base 1 "copied" (spCopyI) [] := by
  refine calD T.F_copied T.g_copied (fun _ _ _ _ _ _ us hl => match us, hl with | [_], _ => rfl) sc_copied (fun vs H Q E h => ?_) (fun cdv A outer s H vs Q E hr h => ?_)
  · obtain ⟨i, rfl, _⟩ := h
    rfl
  · obtain ⟨i, rfl, q⟩ := h
    refine ⟨_, (pss_cons (ps_if (pt_val (pe_callB call_isi (by rfl) T.f_isinstance (by decide +kernel) (pa_cons (pv 0) (pa_cons (pe_bltn (v := .ty "list") (by rfl) T.f_list (by decide +kernel) rfl) pa_nil))))
      (pss_one ps_never)
      pss_nil)
    (pss_one (ps_ret (pv 0)))), ?_⟩
    refine ⟨_, rfl, _, _, _, _, false, rfl, .ty _, .base (.int i), is_ty (by decide +kernel), false, rfl, iteF ⟨_, rfl, q⟩⟩
def spCopyL : Sp := fun vs H Q _ => ∃ (a : Addr) (ns : List Int), vs = [.ref a] ∧ LsAt H a ns ∧ ns.length ≤ 5000 ∧ ∀ (H' : Hp) (l : Addr), Same H H' → H l = none → LsAt H' l ns → Q (.ref l) H'
theorem small5000 {n : Nat} (h : n ≤ 5000) : n < sizeLine := Nat.lt_of_le_of_lt h (by decide)
theorem ivs_of {ns : List Int} {i : Nat} {x : V} (h : (ns.map V.int)[i]? = some x) : ∃ z, x = .int z ∧ ns[i]? = some z := by
  rw [List.getElem?_map] at h
  cases e : ns[i]? with
  | none =>
    rw [e] at h
    cases h
  | some z =>
    rw [e] at h
    exact ⟨z, (Option.some.inj h).symm, rfl⟩
theorem c_copied {P : Program} {w : World} {K : PySem.W.Frag} {mg : Str → Option Value} {base : Heap} (T : Tx K mg) : C8.Cal P w K mg base 2 "copied" (spCopyL) [] := by
  refine calD T.F_copied T.g_copied (fun _ _ _ _ _ _ us hl => match us, hl with | [_], _ => rfl) sc_copied (fun vs H Q E h => ?_) (fun cdv A outer s H vs Q E hr h => ?_)
  · obtain ⟨a, ns, rfl, _⟩ := h
    rfl
  · obtain ⟨a, ns, rfl, ha, hn, q⟩ := h
    refine ⟨_, (pss_cons (ps_if (pt_val (pe_callB call_isi (by rfl) T.f_isinstance (by decide +kernel) (pa_cons (pv 0) (pa_cons (pe_bltn (v := .ty "list") (by rfl) T.f_list (by decide +kernel) rfl) pa_nil))))
      (pss_one (ps_ret (pe_lc (own := [("part", 1)]) (g := gName 1) (tt := tYes) (by rfl) sc_copied.nd (pi_list (pv 0)) (blkOk_by (own := [("part", 1)]) (N := ["value", "part"]) (sc := defScope s_copied) (by decide +kernel)) (fun _ _ _ _ _ => (pg_name (i := 1) sc_copied.nd rfl (Or.inl rfl))) (fun _ _ _ _ _ => pts_nil) (fun _ _ _ _ _ => (C8.pe_c (c_copied_int T) hr (by decide) rfl (pa_cons (pv 1) pa_nil))))))
      pss_nil)
    (pss_one (ps_ret (pv 0)))), ?_⟩
    refine ⟨_, rfl, _, _, _, _, true, rfl, .ty _, .base (.lst ha), is_ty (by decide +kernel), true, rfl, iteT ⟨_, rfl, a, rfl, ⟨_, SqL.of ha⟩, fun D nD => ?_⟩⟩
    refine lc_list (K := K) (a := a) (xs := ns.map V.int) (fun i H1 => Same H H1 ∧ LsAt H1 D (ns.take i)) ⟨same_upd nD, upd_same⟩ (fun i H1 _ p => SqL.of (ha.same p.1)) ?_ ?_
    · rintro i x H1 hx ⟨s1, hD⟩
      obtain ⟨z, rfl, ez⟩ := ivs_of hx
      refine ⟨rfl, _, rfl, z, rfl, _, hD, ?_, Same.chg s1 nD, ?_⟩
      · rw [List.length_map, List.length_take]
        exact Nat.lt_of_le_of_lt (Nat.min_le_right _ _) (small5000 hn)
      · unfold LsAt
        rw [upd_same, List.take_add_one, ez, List.map_append]
        rfl
    · rintro H1 ⟨s1, hD⟩
      rw [List.length_map, List.take_length] at hD
      exact q _ D s1 nD hD
def spFroms : Sp := fun vs H Q _ => ∃ (a : Addr) (fr : List Int), vs = [.ref a] ∧ LsAt H a fr ∧ FrOk fr ∧ ∀ H' : Hp, Same H H' → Q (.bl true) H'
theorem bl_of {b : Bool} (h : b = true) : V.bl b = V.bl true := by rw [h]
theorem all_true : ∀ n : Nat, (List.replicate n true).all id = true
  | 0 => rfl
  | n + 1 => by
    rw [List.replicate_succ]
    simp
theorem sc_is_froms : FnScope ["value", "place", "source"] ["value"] (defScope s_is_froms) := ⟨rfl, rfl, rfl, by decide +kernel, rfl, by decide +kernel, by decide +kernel⟩
theorem c_is_froms {P : Program} {w : World} {K : PySem.W.Frag} {mg : Str → Option Value} {base : Heap} (T : Tx K mg) : C8.Cal P w K mg base 3 "is_froms" (spFroms) [] := by
  refine calD T.F_is_froms T.g_is_froms (fun _ _ _ _ _ _ us hl => match us, hl with | [_], _ => rfl) sc_is_froms (fun vs H Q E h => ?_) (fun cdv A outer s H vs Q E hr h => ?_)
  · obtain ⟨a, fr, rfl, _⟩ := h
    rfl
  · obtain ⟨a, fr, rfl, ha, fo, q⟩ := h
    refine ⟨_, (pss_cons (ps_if (PW.pt (pw_or (pt_not (pt_val (pe_callB call_isi (by rfl) T.f_isinstance (by decide +kernel) (pa_cons (pv 0) (pa_cons (pe_bltn (v := .ty "list") (by rfl) T.f_list (by decide +kernel) rfl) pa_nil))))) (pw_or1 (pt_not (pt_chain op_le op_le (pe_glob (v := .int 2) rfl (T.g_FEWEST_TONGUES).choose_spec ⟨_, rfl⟩) (pe_op op_add (pe_callB call_len_seq (by rfl) T.f_len (by decide +kernel) (pa_cons (pv 0) pa_nil)) pe_int) (pe_glob (v := .int 8) rfl (T.g_MOST_TONGUES).choose_spec ⟨_, rfl⟩))))))
      (pss_one (ps_ret pe_bl))
      pss_nil)
    (pss_one (ps_ret (pe_callB (cr_all rfl) (by rfl) T.f_all (by decide +kernel) (pa_cons (pe_lc (own := [("place", 1), ("source", 2)]) (g := gTup K 2 (gCons (gName 1) (gCons (gName 2) (gNil)))) (tt := tYes) (by rfl) sc_is_froms.nd (pi_enum (by rfl) T.f_enumerate (pa_cons (pv 0) pa_nil)) (blkOk_by (own := [("place", 1), ("source", 2)]) (N := ["value", "place", "source"]) (sc := defScope s_is_froms) (by decide +kernel)) (fun _ _ _ _ _ => (pg_tup rfl (pgs_cons (pg_name (i := 1) sc_is_froms.nd rfl (Or.inl rfl) (Or.inr rfl)) (pgs_cons (pg_name (i := 2) sc_is_froms.nd rfl (Or.inl rfl) (Or.inr rfl)) pgs_nil)))) (fun _ _ _ _ _ => pts_nil) (fun _ _ _ _ _ => (pe_and (C8.pe_c (c_is_count T) hr (by decide) rfl (pa_cons (pv 2) pa_nil)) (pe_one (pe_cmpR op_le (pv 2) (pv 1) (nomark _)))))) pa_nil))))), ?_⟩
    have lo := fo.lo
    have hi := fo.hi
    refine ⟨_, rfl, _, _, _, _, true, rfl, .ty _, .base (.lst ha), is_ty (by decide +kernel), true, rfl, iteF ?_⟩
    refine ⟨_, rfl, a, _, rfl, .inl (SqL.of ha), _, _, rfl, rfl, _, _, rfl, rfl, true, bl_of (decide_eq_true ?_), iteT ⟨_, _, rfl, rfl, true, bl_of (decide_eq_true ?_), iteF ?_⟩⟩
    · rw [List.length_map]
      omega
    · rw [List.length_map]
      omega
    · refine ⟨_, rfl, a, _, rfl, SqL.of ha, fun D nD => ?_⟩
      refine lc_it (walk_enum (K := K) (a := a) (xs := fr.map V.int)) (fun i H1 => Same H H1 ∧ H1 D = some (.lst ((List.replicate i true).map V.bl))) ⟨same_upd nD, upd_same⟩ (fun i H1 _ p => SqL.of (ha.same p.1)) ?_ ?_
      · rintro i v H1 H2 hi2 ⟨s1, hD⟩ ⟨U, x, y, rfl, nU, rfl, e1, e2⟩
        cases (Option.some.inj e1)
        obtain ⟨z, rfl, ez⟩ := ivs_of e2
        obtain ⟨z0, z1⟩ := fo.each i z ez
        have sU : Same H1 (upd H1 U (.tup [V.int (i : Nat), V.int z])) := same_upd nU
        have nDU : D ≠ U := ne_of_none hD nU
        refine ⟨U, _, rfl, .inl (.inl upd_same), rfl, _, _, rfl, _, _, rfl, rfl, rfl, ?_⟩
        refine ⟨_, rfl, z, rfl, true, bl_of (decide_eq_true z0), iteT ⟨_, rfl, _, rfl, z, _, rfl, rfl, _, sU _ _ hD, ?_, Same.chg (s1.trans sU) nD, ?_⟩⟩
        · rw [List.length_map, List.length_replicate]
          rw [List.length_map] at hi2
          exact small1000 (by omega)
        · rw [upd_same, List.replicate_succ', List.map_append]
          show some (HO.lst (_ ++ [V.bl (decide (z ≤ (i : Int)))])) = _
          rw [decide_eq_true z1]
          rfl
      · rintro H1 ⟨s1, hD⟩
        exact ⟨D, _, rfl, SqL.of hD, qt (all_true _) (q _ s1)⟩
def spRow : Sp := fun vs H Q _ => ∃ (a : Addr) (fr : List Int) (p : Addr) (row : List Cell), vs = [.ref a, .ref p] ∧ LsAt H a fr ∧ FrOk fr ∧ RowAt H p row ∧ RowOk fr row ∧ ∀ H' : Hp, Same H H' → Q (.bl true) H'
theorem cut1 (xs : List V) : cutV xs (some 1) none = xs.drop 1 := by
  unfold cutV
  rw [show HT.sIx xs.length 0 (some 1) = min 1 xs.length from HT.sIx_nat xs.length 0 1, HT.sIx_none]
  cases xs with
  | nil => rfl
  | cons x r =>
    rw [show min 1 (x :: r).length = 1 by
      rw [List.length_cons]
      omega]
    show (List.take ((x :: r).length - 1) r) = r
    rw [List.length_cons, Nat.add_sub_cancel]
    exact List.take_length
theorem sc_is_row : FnScope ["froms", "value", "cell"] ["froms", "value"] (defScope s_is_row) := ⟨rfl, rfl, rfl, by decide +kernel, rfl, by decide +kernel, by decide +kernel⟩
theorem c_is_row {P : Program} {w : World} {K : PySem.W.Frag} {mg : Str → Option Value} {base : Heap} (T : Tx K mg) : C8.Cal P w K mg base 4 "is_row" (spRow) [] := by
  refine calD T.F_is_row T.g_is_row (fun _ _ _ _ _ _ us hl => match us, hl with | [_, _], _ => rfl) sc_is_row (fun vs H Q E h => ?_) (fun cdv A outer s H vs Q E hr h => ?_)
  · obtain ⟨a, fr, p, row, rfl, _⟩ := h
    rfl
  · obtain ⟨a, fr, p, row, rfl, ha, fo, hp, ro, q⟩ := h
    refine ⟨_, (pss_cons (ps_if (PW.pt (pw_or (pt_not (pt_val (pe_callB call_isi (by rfl) T.f_isinstance (by decide +kernel) (pa_cons (pv 1) (pa_cons (pe_bltn (v := .ty "list") (by rfl) T.f_list (by decide +kernel) rfl) pa_nil))))) (pw_or1 (pt_cmpR op_ne (pe_callB call_len_seq (by rfl) T.f_len (by decide +kernel) (pa_cons (pv 1) pa_nil)) (pe_op op_add (pe_callB call_len_seq (by rfl) T.f_len (by decide +kernel) (pa_cons (pv 0) pa_nil)) pe_int) (nomark _)))))
      (pss_one (ps_ret pe_bl))
      pss_nil)
    (pss_one (ps_ret (pe_and (C8.pe_c (c_is_source_cell T) hr (by decide) rfl (pa_cons (pe_ix ix_list (pv 1) pe_int (fun _ _ => rfl)) pa_nil)) (pe_one (pe_callB (cr_all rfl) (by rfl) T.f_all (by decide +kernel) (pa_cons (pe_lc (own := [("cell", 2)]) (g := gName 2) (tt := tYes) (by rfl) sc_is_row.nd (pi_list (pe_slice sl_list (pv 1) (po_some pe_int) po_none)) (blkOk_by (own := [("cell", 2)]) (N := ["froms", "value", "cell"]) (sc := defScope s_is_row) (by decide +kernel)) (fun _ _ _ _ _ => (pg_name (i := 2) sc_is_row.nd rfl (Or.inl rfl))) (fun _ _ _ _ _ => pts_nil) (fun _ _ _ _ _ => (C8.pe_c (c_is_other_cell T) hr (by decide) rfl (pa_cons (pv 2) pa_nil)))) pa_nil))))))), ?_⟩
    have hi := fo.hi
    have hp' := hp
    obtain ⟨vs, hv, hc⟩ := hp
    refine ⟨_, rfl, _, _, _, _, true, rfl, .ty _, .base (.lst hv), is_ty (by decide +kernel), true, rfl, iteF ?_⟩
    refine ⟨_, rfl, p, _, rfl, .inl (SqL.of hv), _, rfl, a, _, rfl, .inl (SqL.of ha), _, _, rfl, rfl, rfl, false, ?_, iteF ?_⟩
    · have e : (vs.length : Int) = ((fr.map V.int).length : Int) + 1 := by
        rw [hc.len, ro.len, List.length_map]
        omega
      rw [e]
      exact congrArg V.bl (by simp)
    obtain ⟨n0, e0, h0⟩ := ro.src
    obtain ⟨v0, ev, pc, rfl, cv⟩ := hc.each 0 _ e0
    refine ⟨_, rfl, p, _, _, _, rfl, rfl, SqL.of hv, atI_nat (j := 0) ev, pc, n0, rfl, cv, h0, true, rfl, iteT ?_⟩
    refine ⟨_, rfl, 1, rfl, p, _, rfl, SqL.of hv, fun c nc => ?_⟩
    have sc : Same H (upd H c (.lst (cutV vs (some 1) none))) := same_upd nc
    refine ⟨c, rfl, ⟨_, SqL.of upd_same⟩, fun D nD => ?_⟩
    rw [cut1] at sc nD ⊢
    have hcc : (upd H c (.lst (vs.drop 1))) c = some (.lst (vs.drop 1)) := upd_same
    have nDH : H D = none := sc.free nD
    have ncD : c ≠ D := ne_of_none hcc nD
    refine lc_list (K := K) (a := c) (xs := vs.drop 1) (fun i H1 => Same H H1 ∧ H1 c = some (.lst (vs.drop 1)) ∧ H1 D = some (.lst ((List.replicate i true).map V.bl))) ⟨sc.trans (same_upd nD), by rw [upd_ne ncD]; exact hcc, upd_same⟩ (fun i H1 _ z => SqL.of z.2.1) ?_ ?_
    · rintro i x H1 hx ⟨s1, h1, hD⟩
      rw [List.getElem?_drop, Nat.add_comm] at hx
      have hlt : i + 1 < row.length := by
        rw [← hc.len]
        exact (List.getElem?_eq_some_iff.mp hx).1
      obtain ⟨x', ex', cx⟩ := hc.each (i + 1) _ (List.getElem?_eq_getElem hlt)
      cases (Option.some.inj (hx.symm.trans ex'))
      refine ⟨rfl, _, rfl, x, _, rfl, cx.same s1, ro.each i _ (List.getElem?_eq_getElem hlt), _, hD, ?_, Same.chg s1 nDH, ?_, ?_⟩
      · rw [List.length_map, List.length_replicate]
        rw [ro.len] at hlt
        exact small1000 (by omega)
      · rw [upd_ne ncD]
        exact h1
      · rw [upd_same, List.replicate_succ', List.map_append]
        rfl
    · rintro H1 ⟨s1, h1, hD⟩
      exact ⟨D, _, rfl, SqL.of hD, qt (all_true _) (q _ s1)⟩
/-- what a question of an answer about a row is asked with -/
structure Asked (H : Hp) (a : Addr) (fr : List Int) (p : Addr) (row : List Cell) (t : Nat) : Prop where
  ha : LsAt H a fr
  fo : FrOk fr
  hp : RowAt H p row
  ro : RowOk fr row
  ht : t ≤ fr.length
theorem Asked.same {H H' : Hp} (s : Same H H') {a : Addr} {fr : List Int} {p : Addr} {row : List Cell} {t : Nat} (h : Asked H a fr p row t) : Asked H' a fr p row t := ⟨h.ha.same s, h.fo, h.hp.same s, h.ro, h.ht⟩
def spFreshShows : Sp := fun vs H Q _ => ∃ (y a : Addr) (fr : List Int) (p : Addr) (row : List Cell) (t : Nat), vs = [.ref y, .ref a, .ref p, .int (t : Int)] ∧ Asked H a fr p row t ∧ ∀ H' : Hp, Same H H' → Q (.bl (decide (chain fr row t = none))) H'
def cfs (l : Addr) : List (Str × V) := [("chain", .ref l)]
def spOldInit (C : Addr) : Sp := fun vs H Q _ => ∃ (y dy a : Addr) (ns : List Int), vs = [.ref y, .ref a] ∧ H y = some (.ins C dy []) ∧ LsAt H a ns ∧ ns.length ≤ 5000 ∧
  ∀ (H' : Hp) (l : Addr), H l = none → LsAt H' l ns → H' y = some (.ins C dy (cfs l)) → (∀ b o, H b = some o → b ≠ y → H' b = some o) → Q .non H'
theorem sc_Old_init : FnScope ["self", "chain"] ["self", "chain"] (defScope s_Old_init) := ⟨rfl, rfl, rfl, by decide +kernel, rfl, by decide +kernel, by decide +kernel⟩
theorem c_Old_init {P : Program} {w : World} {K : PySem.W.Frag} {mg : Str → Option Value} {base : Heap} (T : Tx K mg) : C8.Mak P w K mg base 3 "Old" (He.ga K "Old") (spOldInit (He.ga K "Old")) [] := by
  refine makD T.F_Old_init T.i_Old T.g_Old (fun _ _ _ _ _ _ us hl => match us, hl with | [_, _], _ => rfl) sc_Old_init (fun vs H Q E h => ?_) (fun cdv A outer s H vs Q E hr h => ?_)
  · obtain ⟨y, dy, a, ns, rfl, _⟩ := h
    rfl
  · obtain ⟨y, dy, a, ns, rfl, hy, ha, hn, q⟩ := h
    refine ⟨_, (pss_one (ps_fld (pv 0) (C8.pe_c (c_copied T) hr (by decide) rfl (pa_cons (pv 1) pa_nil)) rfl)), ?_⟩
    refine ⟨_, rfl, a, ns, rfl, ha, hn, fun H1 l s1 nl hl => ?_⟩
    have ny : y ≠ l := ne_of_none hy nl
    refine ⟨_, rfl, y, _, dy, [], rfl, s1 _ _ hy, T.k_Old, T.n_Old_chain, by decide, ?_⟩
    refine q _ l nl ?_ upd_same fun b o e hb => ?_
    · unfold LsAt
      rw [upd_ne ny.symm]
      exact hl
    · rw [upd_ne hb]
      exact s1 _ _ e
/-- an Old at y, its chain the list at l -/
structure OldAt (C : Addr) (H : Hp) (y l : Addr) (ns : List Int) : Prop where
  ob : ∃ dy, H y = some (.ins C dy (cfs l))
  ls : LsAt H l ns
theorem OldAt.same {C : Addr} {H H' : Hp} (s : Same H H') {y l : Addr} {ns : List Int} (h : OldAt C H y l ns) : OldAt C H' y l ns := ⟨let ⟨d, e⟩ := h.ob; ⟨d, s _ _ e⟩, h.ls.same s⟩
def spOldShows (C : Addr) : Sp := fun vs H Q _ => ∃ (y a : Addr) (fr : List Int) (p : Addr) (row : List Cell) (t : Nat) (l : Addr) (ns : List Int), vs = [.ref y, .ref a, .ref p, .int (t : Int)] ∧ Asked H a fr p row t ∧ OldAt C H y l ns ∧ ns.length ≤ 5000 ∧
  ∀ H' : Hp, Same H H' → Q (.bl (decide (chain fr row t = some ns))) H'
theorem cfs_at (l : Addr) : (cfs l).lookup ("chain" : Str) = some (.ref l) := by
  unfold cfs
  simp [List.lookup]
def spTold (CF CO : Addr) : Sp := fun vs H Q _ => ∃ (a : Addr) (fr : List Int) (p : Addr) (row : List Cell) (t : Nat), vs = [.ref a, .ref p, .int (t : Int)] ∧ Asked H a fr p row t ∧
  (chain fr row t = none → ∀ (H' : Hp) (y dy : Addr), Same H H' → H y = none → H' y = some (.ins CF dy []) → Q (.ref y) H') ∧
  (∀ c, chain fr row t = some c → ∀ (H' : Hp) (y l : Addr), Same H H' → H y = none → H l = none → y ≠ l → OldAt CO H' y l c → Q (.ref y) H')
theorem sc_told : FnScope ["froms", "row", "tongue", "chain"] ["froms", "row", "tongue"] (defScope s_told) := ⟨rfl, rfl, rfl, by decide +kernel, rfl, by decide +kernel, by decide +kernel⟩
theorem c_told {P : Program} {w : World} {K : PySem.W.Frag} {mg : Str → Option Value} {base : Heap} (T : Tx K mg) : C8.Cal P w K mg base 5 "told" (spTold (He.ga K "Fresh") (He.ga K "Old")) [] := by
  refine calD T.F_told T.g_told (fun _ _ _ _ _ _ us hl => match us, hl with | [_, _, _], _ => rfl) sc_told (fun vs H Q E h => ?_) (fun cdv A outer s H vs Q E hr h => ?_)
  · obtain ⟨a, fr, p, row, t, rfl, _⟩ := h
    rfl
  · obtain ⟨a, fr, p, row, t, rfl, hA, q0, q1⟩ := h
    refine ⟨_, (pss_cons (ps_if (pt_not (pt_val (C8.pe_c (c_is_froms T) hr (by decide) rfl (pa_cons (pv 0) pa_nil))))
      (pss_one ps_never)
      pss_nil)
    (pss_cons (ps_if (pt_not (pt_val (C8.pe_c (c_is_row T) hr (by decide) rfl (pa_cons (pv 0) (pa_cons (pv 1) pa_nil)))))
      (pss_one ps_never)
      pss_nil)
    (pss_cons (ps_if (pt_not (pt_val (C8.pe_c (c_is_tongue T) hr (by decide) rfl (pa_cons (pv 0) (pa_cons (pv 2) pa_nil)))))
      (pss_one ps_never)
      pss_nil)
    (pss_cons (ps_set (i := 3) sc_told.nd rfl (Or.inl rfl) (C8.pe_c (c_chain_up T) hr (by decide) rfl (pa_cons (pv 0) (pa_cons (pv 1) (pa_cons (pv 2) pa_nil)))))
    (pss_cons (ps_if (pt_cmpR op_isN (pv 3) pe_non (nomark _))
      (pss_one (ps_ret (pe_bare T.b_Fresh rfl T.g_Fresh)))
      pss_nil)
    (pss_one (ps_ret (C8.pe_mk (c_Old_init T) hr (by decide) rfl (pa_cons (pv 3) pa_nil))))))))), ?_⟩
    refine ⟨_, rfl, a, fr, rfl, hA.ha, hA.fo, fun H1 s1 => ⟨true, rfl, iteF ?_⟩⟩
    refine ⟨_, rfl, _, rfl, a, fr, p, row, rfl, hA.ha.same s1, hA.fo, hA.hp.same s1, hA.ro, fun H2 s2 => ⟨true, rfl, iteF ?_⟩⟩
    refine ⟨_, rfl, _, rfl, a, fr, (t : Int), rfl, (hA.ha.same s1).same s2, true, ?_, iteF ?_⟩
    · rw [decide_eq_true (by omega : (0 : Int) ≤ (t : Int)), decide_eq_true (by have := hA.ht; omega : (t : Int) ≤ (fr.length : Int))]
      rfl
    have s12 := s1.trans s2
    refine ⟨_, rfl, _, rfl, _, rfl, a, fr, p, row, t, rfl, hA.ha.same s12, hA.fo, hA.hp.same s12, hA.ro, hA.ht, fun e H3 s3 => ?_, fun c e H3 k s3 nk hk => ?_⟩
    · refine ⟨_, rfl, rfl, true, bl_of (decide_eq_true rfl), iteT fun y dy ny ndy hne => ?_⟩
      have s := s12.trans s3
      refine q0 e _ y dy (fun b o z => ?_) (s.free ny) upd_same
      rw [upd_ne (ne_of_none (s _ _ z) ny), upd_ne (ne_of_none (s _ _ z) ndy)]
      exact s _ _ z
    · refine ⟨_, rfl, rfl, false, by rw [decide_eq_false (by intro z; cases z)], iteF ?_⟩
      have s := s12.trans s3
      refine ⟨_, rfl, fun y dy ny ndy hne => ?_⟩
      have sN : Same H3 (upd (upd H3 dy (.own y)) y (.ins (He.ga K "Old") dy [])) := fun b o z => by
        rw [upd_ne (ne_of_none z ny), upd_ne (ne_of_none z ndy)]
        exact z
      have lc : c.length ≤ 5000 := by
        have := (chain_mem hA.fo t c hA.ht e).2.1
        have := hA.fo.hi
        have := hA.ht
        omega
      refine ⟨y, dy, k, c, rfl, upd_same, hk.same sN, lc, fun H4 l nl hl hy kp => ⟨rfl, ?_⟩⟩
      have nyl : y ≠ l := ne_of_none (H := upd (upd H3 dy (.own y)) y (.ins (He.ga K "Old") dy [])) upd_same nl
      refine q1 c e H4 y l (fun b o z => kp b o (sN _ _ (s _ _ z)) (ne_of_none (s _ _ z) ny)) (s.free ny) ((s.trans sN).free nl) nyl ⟨⟨dy, hy⟩, hl⟩

def spCellAt (K : PySem.W.Frag) : Sp := fun vs H Q _ => ∃ (a : Addr) (ns : List Int) (k : Int), vs = [.ref a, .int k] ∧ SqL K H a (ns.map V.int) ∧ 0 ≤ k ∧ ∀ z : Int, Q (.int z) H
theorem sc_law_cell_at : FnScope ["_law_script", "_law_k"] ["_law_script", "_law_k"] (defScope s_law_cell_at) := ⟨rfl, rfl, rfl, by decide +kernel, rfl, by decide +kernel, by decide +kernel⟩
theorem c_law_cell_at {P : Program} {w : World} {K : PySem.W.Frag} {mg : Str → Option Value} {base : Heap} (T : Tx K mg) : C8.Cal P w K mg base 1 "_law_cell_at" (spCellAt K) [] := by
  refine calD T.F_law_cell_at T.g_law_cell_at (fun _ _ _ _ _ _ us hl => match us, hl with | [_, _], _ => rfl) sc_law_cell_at (fun vs H Q E h => ?_) (fun cdv A outer s H vs Q E hr h => ?_)
  · obtain ⟨a, ns, k, rfl, _⟩ := h
    rfl
  · obtain ⟨a, ns, k, rfl, ha, h0, q⟩ := h
    refine ⟨_, (pss_cons (ps_if (pt_cmpR op_lt (pv 1) (pe_callB call_len_seq (by rfl) T.f_len (by decide +kernel) (pa_cons (pv 0) pa_nil)) (nomark _))
      (pss_one (ps_ret (pe_ix ix_list (pv 0) (pv 1) (fun _ _ => rfl))))
      pss_nil)
    (pss_one (ps_ret pe_int))), ?_⟩
    refine ⟨_, rfl, _, rfl, a, _, rfl, .inl ha, _, _, rfl, rfl, decide (k < ((ns.map V.int).length : Int)), rfl, ?_⟩
    by_cases h : k < ((ns.map V.int).length : Int)
    · rw [decide_eq_true h]
      have hl : k.toNat < ns.length := by
        rw [List.length_map] at h
        omega
      exact iteT ⟨_, rfl, _, rfl, a, _, _, _, rfl, rfl, ha, at_of (j := k.toNat) (by omega) (ivs (List.getElem?_eq_getElem hl)), q _⟩
    · rw [decide_eq_false h]
      exact iteF (q 0)
def prims : List Int := [1000003, 1000033, 1000037, 1000039, 1000081, 1000099, 1000117, 1000121, 1000133, 1000151, 1000159, 1000171, 1000183, 1000187, 1000193, 1000199]
theorem prims_at : ∀ j : Nat, j < 16 → ∃ p : Int, prims[j]? = some p ∧ p ≠ 0 := by
  intro j hj
  have h : ∀ j : _root_.Fin 16, ∃ p : Int, prims[j.val]? = some p ∧ p ≠ 0 := by
    intro j
    have e : j.val < prims.length := j.isLt
    refine ⟨prims[j.val], List.getElem?_eq_getElem e, ?_⟩
    revert j
    decide
  exact h ⟨j, hj⟩
theorem fmod_lo {x m : Int} (h : 0 < m) : 0 ≤ x.fmod m := by
  rw [Int.fmod_eq_emod_of_nonneg _ (by omega)]
  exact Int.emod_nonneg _ (by omega)
theorem fmod_hi {x m : Int} (h : 0 < m) : x.fmod m < m := by
  rw [Int.fmod_eq_emod_of_nonneg _ (by omega)]
  exact Int.emod_lt_of_pos _ h
def spDraw : Sp := fun vs H Q _ => ∃ (c k m : Int), vs = [.int c, .int k, .int m] ∧ 0 < m ∧ ∀ (H' : Hp) (z : Int), Same H H' → 0 ≤ z → z < m → Q (.int z) H'
theorem sc_law_draw : FnScope ["_law_cell", "_law_k", "_law_most", "_law_primes"] ["_law_cell", "_law_k", "_law_most"] (defScope s_law_draw) := ⟨rfl, rfl, rfl, by decide +kernel, rfl, by decide +kernel, by decide +kernel⟩
theorem c_law_draw {P : Program} {w : World} {K : PySem.W.Frag} {mg : Str → Option Value} {base : Heap} (T : Tx K mg) : C8.Cal P w K mg base 1 "_law_draw" (spDraw) [] := by
  refine calD T.F_law_draw T.g_law_draw (fun _ _ _ _ _ _ us hl => match us, hl with | [_, _, _], _ => rfl) sc_law_draw (fun vs H Q E h => ?_) (fun cdv A outer s H vs Q E hr h => ?_)
  · obtain ⟨c, k, m, rfl, _⟩ := h
    rfl
  · obtain ⟨c, k, m, rfl, h0, q⟩ := h
    refine ⟨_, (pss_cons (ps_set (i := 3) sc_law_draw.nd rfl (Or.inl rfl) (pe_tup (pa_cons pe_int (pa_cons pe_int (pa_cons pe_int (pa_cons pe_int (pa_cons pe_int (pa_cons pe_int (pa_cons pe_int (pa_cons pe_int (pa_cons pe_int (pa_cons pe_int (pa_cons pe_int (pa_cons pe_int (pa_cons pe_int (pa_cons pe_int (pa_cons pe_int (pa_cons pe_int pa_nil))))))))))))))))))
    (pss_one (ps_ret (pe_op op_modN (pe_op op_modN (pe_op op_add (pe_op op_mul (pv 0) pe_int) (pe_op op_mul (pv 1) pe_int)) (pe_ix ix_tup (pv 3) (pe_op op_modN (pv 1) pe_int) (fun _ _ => rfl))) (pv 2))))), ?_⟩
    refine ⟨(by show 16 ≤ sizeLine; decide), fun p np => ?_⟩
    have hk0 : 0 ≤ k.fmod 16 := fmod_lo (by decide)
    have hk1 : k.fmod 16 < 16 := fmod_hi (by decide)
    obtain ⟨y, ey, ny⟩ := prims_at (k.fmod 16).toNat (by omega)
    refine ⟨_, rfl, _, _, rfl, rfl, .inr ⟨by decide, by decide⟩, _, rfl, _, _, rfl, rfl, .inr ⟨by decide, by decide⟩, _, _, rfl, rfl, _, rfl, _, rfl, _, _, rfl, rfl, (show (16 : Int) ≠ 0 by decide), p, prims.map V.int, _, V.int y, rfl, rfl, SqT.of upd_same, at_of (j := (k.fmod 16).toNat) (by show k.fmod 16 = _; omega) (ivs ey), _, _, rfl, rfl, ny, _, rfl, _, _, rfl, rfl, by omega, ?_⟩
    exact q _ _ (same_upd np) (fmod_lo h0) (fmod_hi h0)
def spNumber : Sp := fun vs H Q _ => ∃ (c k m : Int), vs = [.int c, .int k, .int m] ∧ 0 ≤ k ∧ k ≤ 1000 ∧ 0 < m ∧ m ≤ 100000000000000000000 ∧ ∀ (H' : Hp) (z : Int), Same H H' → 0 ≤ z → z < m → Q (.int z) H'
def sevens : List Int := [1, 7, 49, 343, 2401]
theorem sevens_at : ∀ j : Nat, j < 5 → ∃ p : Int, sevens[j]? = some p ∧ 1 ≤ p ∧ p ≤ 2401 := by
  intro j hj
  have h : ∀ j : _root_.Fin 5, ∃ p : Int, sevens[j.val]? = some p ∧ 1 ≤ p ∧ p ≤ 2401 := by
    intro j
    have e : j.val < sevens.length := j.isLt
    refine ⟨sevens[j.val], List.getElem?_eq_getElem e, ?_⟩
    revert j
    decide
  exact h ⟨j, hj⟩
theorem e18 : (10 : Int) ^ ((18 : Int).toNat) = 1000000000000000000 := by decide
theorem mul_big {c k : Int} (h1 : -1000000000000000000 ≤ c) (h2 : c < 1000811284336359577647248616306026718125307353262274591) (k0 : 0 ≤ k) (k1 : k ≤ 1000) : CMulW (c + 977 * k) (c + 31 * k + 5) := by
  have p : (2 : Nat) ^ 200 = 1606938044258990275541962092341162602522202993782792835301376 := by decide
  refine wide_mul (a := 200) (b := 200) ?_ ?_ (by decide) (by decide) (by decide)
  · rw [p]
    omega
  · rw [p]
    omega
theorem fdiv_in {x d m : Int} (hd : 1 ≤ d) (hm : 0 < m) (h0 : 0 ≤ x) (h1 : x < d * m) : 0 ≤ x.fdiv d ∧ x.fdiv d < m := by
  rw [Int.fdiv_eq_ediv_of_nonneg _ (by omega)]
  exact ⟨Int.ediv_nonneg h0 (by omega), Int.ediv_lt_of_lt_mul (by omega) (by rw [Int.mul_comm]; exact h1)⟩
theorem sc_law_number : FnScope ["_law_cell", "_law_k", "_law_limit", "_law_d"] ["_law_cell", "_law_k", "_law_limit"] (defScope s_law_number) := ⟨rfl, rfl, rfl, by decide +kernel, rfl, by decide +kernel, by decide +kernel⟩
theorem c_law_number {P : Program} {w : World} {K : PySem.W.Frag} {mg : Str → Option Value} {base : Heap} (T : Tx K mg) : C8.Cal P w K mg base 2 "_law_number" (spNumber) [] := by
  refine calD T.F_law_number T.g_law_number (fun _ _ _ _ _ _ us hl => match us, hl with | [_, _, _], _ => rfl) sc_law_number (fun vs H Q E h => ?_) (fun cdv A outer s H vs Q E hr h => ?_)
  · obtain ⟨c, k, m, rfl, _⟩ := h
    rfl
  · obtain ⟨c, k, m, rfl, k0, k1, m0, m1, q⟩ := h
    refine ⟨_, (pss_cons (ps_if (pt_cmpR op_ge (pv 0) (pe_op op_pow pe_int pe_int) (nomark _))
      (pss_cons (ps_set (i := 3) sc_law_number.nd rfl (Or.inl rfl) (pe_ix ix_tup (pe_tup (pa_cons pe_int (pa_cons pe_int (pa_cons pe_int (pa_cons pe_int (pa_cons pe_int pa_nil)))))) (pe_op op_modN (pv 1) pe_int) (fun _ _ => rfl)))
      (pss_one (ps_ret (pe_op op_fdivN (pe_op op_modN (pe_op op_sub (pv 0) (pe_op op_pow pe_int pe_int)) (pe_op op_mul (pv 3) (pv 2))) (pv 3)))))
      pss_nil)
    (pss_cons (ps_if (pt_cmpR op_lt (pv 0) (pe_un un_neg (pe_op op_pow pe_int pe_int)) (nomark _))
      (pss_one (ps_set (i := 0) sc_law_number.nd rfl (Or.inl rfl) (pe_op op_modN (pv 0) pe_int)))
      pss_nil)
    (pss_one (ps_ret (pe_op op_modN (C8.pe_c (c_law_draw T) hr (by decide) rfl (pa_cons (pe_op op_mulW (pe_op op_add (pv 0) (pe_op op_mul pe_int (pv 1))) (pe_op op_add (pe_op op_add (pv 0) (pe_op op_mul pe_int (pv 1))) pe_int)) (pa_cons (pe_op op_add (pe_op op_modN (pv 1) pe_int) pe_int) (pa_cons pe_int pa_nil)))) (pv 2)))))), ?_⟩
    refine ⟨_, rfl, _, _, rfl, rfl, ⟨by decide, by decide, by decide⟩, _, _, rfl, rfl, decide ((10 : Int) ^ ((18 : Int).toNat) ≤ c), rfl, ?_⟩
    rw [e18]
    by_cases h : 1000000000000000000 ≤ c
    · rw [decide_eq_true h]
      refine iteT ⟨(by show 5 ≤ sizeLine; decide), fun p np => ?_⟩
      have hk0 : 0 ≤ k.fmod 5 := fmod_lo (by decide)
      have hk1 : k.fmod 5 < 5 := fmod_hi (by decide)
      obtain ⟨d, ed, d0, d1⟩ := sevens_at (k.fmod 5).toNat (by omega)
      refine ⟨_, rfl, _, _, rfl, rfl, (show (5 : Int) ≠ 0 by decide), p, sevens.map V.int, _, V.int d, rfl, rfl, SqT.of upd_same, at_of (j := (k.fmod 5).toNat) (by show k.fmod 5 = _; omega) (ivs ed), ?_⟩
      have dm : 0 < d * m := Int.mul_pos (by omega) m0
      refine ⟨_, rfl, _, _, rfl, rfl, ⟨by decide, by decide, by decide⟩, _, _, rfl, rfl, _, rfl, _, rfl, _, _, rfl, rfl, .inl ⟨by omega, by omega⟩, _, _, rfl, rfl, by omega, _, rfl, _, _, rfl, rfl, ⟨by omega, by omega⟩, ?_⟩
      obtain ⟨z0, z1⟩ := fdiv_in (x := (c - (10 : Int) ^ ((18 : Int).toNat)).fmod (d * m)) d0 m0 (fmod_lo dm) (fmod_hi dm)
      exact q _ _ (same_upd np) z0 z1
    · rw [decide_eq_false h]
      refine iteF ⟨_, rfl, _, _, rfl, rfl, ⟨by decide, by decide, by decide⟩, _, rfl, _, _, rfl, rfl, decide (c < -((10 : Int) ^ ((18 : Int).toNat))), rfl, ?_⟩
      rw [e18]
      have go : ∀ c' : Int, -1000000000000000000 ≤ c' → c' < 1000811284336359577647248616306026718125307353262274591 → CMulW (c' + 977 * k) (c' + 31 * k + 5) := fun c' h1 h2 => mul_big h1 h2 k0 k1
      have fin : ∀ (z : Int) (H' : Hp), Same H H' → Q (.int (z.fmod m)) H' := fun z H' s => q H' _ s (fmod_lo m0) (fmod_hi m0)
      by_cases h2 : c < -1000000000000000000
      · rw [decide_eq_true h2]
        refine iteT ⟨_, rfl, _, _, rfl, rfl, (show (1000811284336359577647248616306026718125307353262274591 : Int) ≠ 0 by decide), ?_⟩
        have b0 : 0 ≤ c.fmod 1000811284336359577647248616306026718125307353262274591 := fmod_lo (by decide)
        have b1 : c.fmod 1000811284336359577647248616306026718125307353262274591 < 1000811284336359577647248616306026718125307353262274591 := fmod_hi (by decide)
        refine ⟨_, rfl, _, rfl, _, _, rfl, rfl, .inl ⟨by decide, by decide⟩, _, _, rfl, rfl, _, rfl, _, rfl, _, _, rfl, rfl, .inl ⟨by decide, by decide⟩, _, _, rfl, rfl, _, _, rfl, rfl, _, _, rfl, rfl, go _ (by omega) b1, _, rfl, _, _, rfl, rfl, (show (9 : Int) ≠ 0 by decide), _, _, rfl, rfl, _, _, _, rfl, by decide, fun H1 z s1 z0 z1 => ?_⟩
        exact ⟨_, rfl, _, _, rfl, rfl, by omega, fin z H1 s1⟩
      · rw [decide_eq_false h2]
        refine iteF ?_
        refine ⟨_, rfl, _, rfl, _, _, rfl, rfl, .inl ⟨by decide, by decide⟩, _, _, rfl, rfl, _, rfl, _, rfl, _, _, rfl, rfl, .inl ⟨by decide, by decide⟩, _, _, rfl, rfl, _, _, rfl, rfl, _, _, rfl, rfl, go _ (by omega) (by omega), _, rfl, _, _, rfl, rfl, (show (9 : Int) ≠ 0 by decide), _, _, rfl, rfl, _, _, _, rfl, by decide, fun H1 z s1 z0 z1 => ?_⟩
        exact ⟨_, rfl, _, _, rfl, rfl, by omega, fin z H1 s1⟩

def spLawFroms (K : PySem.W.Frag) : Sp := fun vs H Q _ => ∃ (a : Addr) (ns : List Int) (b : Int), vs = [.ref a, .int b] ∧ SqL K H a (ns.map V.int) ∧ 0 ≤ b ∧ b ≤ 100 ∧ ∀ (H' : Hp) (l : Addr) (fr : List Int), Same H H' → H l = none → LsAt H' l fr → FrOk fr → Q (.ref l) H'
theorem sc_law_froms : FnScope ["_law_script", "_law_by", "_law_cell", "_law_kind", "_law_found", "_law_at"] ["_law_script", "_law_by"] (defScope s_law_froms) := ⟨rfl, rfl, rfl, by decide +kernel, rfl, by decide +kernel, by decide +kernel⟩
theorem c_law_froms {P : Program} {w : World} {K : PySem.W.Frag} {mg : Str → Option Value} {base : Heap} (T : Tx K mg) : C8.Cal P w K mg base 3 "_law_froms" (spLawFroms K) [] := by
  refine calD T.F_law_froms T.g_law_froms (fun _ _ _ _ _ _ us hl => match us, hl with | [_, _], _ => rfl) sc_law_froms (fun vs H Q E h => ?_) (fun cdv A outer s H vs Q E hr h => ?_)
  · obtain ⟨a, ns, b, rfl, _⟩ := h
    rfl
  · obtain ⟨a, ns, b, rfl, hS, b0, b1, q⟩ := h
    refine ⟨_, (pss_cons (ps_set (i := 2) sc_law_froms.nd rfl (Or.inl rfl) (C8.pe_c (c_law_cell_at T) hr (by decide) rfl (pa_cons (pv 0) (pa_cons (pv 1) pa_nil))))
    (pss_cons (ps_par (i := 3) (j := 4) (by rfl) sc_law_froms.nd rfl rfl (by decide) rfl rfl (pa_cons (C8.pe_c (c_law_number T) hr (by decide) rfl (pa_cons (pv 2) (pa_cons (pe_op op_add (pv 1) pe_int) (pa_cons pe_int pa_nil)))) (pa_cons (pe_lst pa_nil) pa_nil)) (by rfl))
    (pss_cons (ps_for PassesOwn.never rfl (pi_range1 (by rfl) T.f_range (pa_cons (pe_op op_add pe_int (C8.pe_c (c_law_number T) hr (by decide) rfl (pa_cons (pv 2) (pa_cons (pe_op op_add (pv 1) pe_int) (pa_cons pe_int pa_nil))))) pa_nil)) (pg_name (i := 5) sc_law_froms.nd rfl (Or.inl rfl))
      (pss_one (ps_expr (pe_bm PySem.F.plainAttrs_list PySem.F.slot_list_append PySem.F.type_list_append mt_append (pv 4) (pa_cons (pe_ix ix_tup (pe_tup (pa_cons (pv 5) (pa_cons pe_int (pa_cons (C8.pe_c (c_law_number T) hr (by decide) rfl (pa_cons (pe_op op_add (pv 2) (pe_op op_mul pe_int (pv 5))) (pa_cons (pe_op op_add (pv 5) pe_int) (pa_cons (pe_op op_add (pv 5) pe_int) pa_nil)))) pa_nil)))) (pv 3) (fun _ _ => rfl)) pa_nil)))))
    (pss_one (ps_ret (pv 4)))))), ?_⟩
    refine ⟨_, rfl, _, rfl, a, ns, b, rfl, hS, b0, fun cz => ?_⟩
    refine ⟨_, rfl, _, rfl, _, _, rfl, rfl, _, _, _, rfl, by omega, by omega, by decide, by decide, fun H1 kd s1 k0 k1 => ⟨Nat.zero_le _, fun l nl => ⟨_, _, rfl, ?_⟩⟩⟩
    have nl0 : H l = none := s1.free nl
    have s2 : Same H (upd H1 l (.lst [])) := s1.trans (same_upd nl)
    have hl2 : LsAt (upd H1 l (.lst [])) l [] := upd_same
    refine ⟨_, rfl, _, rfl, _, _, rfl, rfl, _, _, _, rfl, by omega, by omega, by decide, by decide, fun H3 z s3 z0 z1 => ⟨_, _, rfl, rfl, _, rfl, by omega, by omega, ?_⟩⟩
    refine for_range (lo := 0) (n := (1 + z).toNat) (fun i σ H4 => ∃ (fr : List Int) (va : Option V), σ = [some (.ref a), some (.int b), some (.int cz), some (.int kd), some (.ref l), va] ∧ Same H H4 ∧ LsAt H4 l fr ∧ fr.length = i ∧ ∀ (j : Nat) (x : Int), fr[j]? = some x → 0 ≤ x ∧ x ≤ (j : Int))
      ⟨[], none, rfl, s2.trans s3, hl2.same s3, rfl, fun j x e => by simp at e⟩ ?_ ?_
    · rintro i σ H4 hi ⟨fr, va, rfl, s4, hl, hn, he⟩
      refine ⟨_, rfl, .inl ⟨rfl, _, SqL.of hl⟩, _, rfl, _, rfl, _, rfl, _, _, rfl, rfl, .inl ⟨by decide, by decide⟩, _, _, rfl, rfl, _, rfl, _, _, rfl, rfl, _, rfl, _, _, rfl, rfl, _, _, _, rfl, by omega, by omega, by omega, by omega, fun H5 x s5 x0 x1 => ⟨(by show 3 ≤ sizeLine; decide), fun p np => ?_⟩⟩
      have hl5 : LsAt (upd H5 p (.tup [V.int (0 + (i : Int)), V.int 0, V.int x])) l fr := (hl.same s5).same (same_upd np)
      have fin : ∀ y : Int, 0 ≤ y → y ≤ (i : Int) → ∃ (fr' : List Int) (va : Option V), [some (V.ref a), some (V.int b), some (V.int cz), some (V.int kd), some (V.ref l), some (V.int (0 + (i : Int)))] = [some (V.ref a), some (V.int b), some (V.int cz), some (V.int kd), some (V.ref l), va] ∧
          Same H (upd (upd H5 p (.tup [V.int (0 + (i : Int)), V.int 0, V.int x])) l (.lst (fr.map V.int ++ [V.int y]))) ∧ LsAt (upd (upd H5 p (.tup [V.int (0 + (i : Int)), V.int 0, V.int x])) l (.lst (fr.map V.int ++ [V.int y]))) l fr' ∧ fr'.length = i + 1 ∧ ∀ (j : Nat) (x : Int), fr'[j]? = some x → 0 ≤ x ∧ x ≤ (j : Int) := by
        intro y y0 y1
        refine ⟨fr ++ [y], _, rfl, Same.chg ((s4.trans s5).trans (same_upd np)) nl0, ?_, by rw [List.length_append, hn]; rfl, ?_⟩
        · unfold LsAt
          rw [upd_same, List.map_append]
          rfl
        · intro j v e
          by_cases hj : j < fr.length
          · rw [List.getElem?_append_left hj] at e
            exact he j v e
          · rw [List.getElem?_append_right (by omega)] at e
            have ej : j - fr.length = 0 := by
              by_cases z : j - fr.length = 0
              · exact z
              · have : j - fr.length = (j - fr.length - 1) + 1 := by omega
                rw [this] at e
                simp at e
            rw [ej] at e
            cases (Option.some.inj e)
            exact ⟨y0, by omega⟩
      obtain ⟨y, ey, y0, y1⟩ : ∃ y : Int, [V.int (0 + (i : Int)), V.int 0, V.int x][kd.toNat]? = some (V.int y) ∧ 0 ≤ y ∧ y ≤ (i : Int) := by
        have hk : kd = 0 ∨ kd = 1 ∨ kd = 2 := by omega
        rcases hk with rfl | rfl | rfl
        · exact ⟨_, rfl, by omega, by omega⟩
        · exact ⟨_, rfl, by omega, by omega⟩
        · exact ⟨_, rfl, by omega, by omega⟩
      have hz : (fr.map V.int).length < sizeLine := by
        rw [List.length_map]
        exact small1000 (by omega)
      refine ⟨_, rfl, p, _, _, V.int y, rfl, rfl, SqT.of upd_same, at_of (j := kd.toNat) (by omega) ey, l, _, _, rfl, rfl, hl5, hz, ?_⟩
      exact fin y y0 y1
    · rintro σ H4 ⟨fr, va, rfl, s4, hl, hn, he⟩
      exact ⟨_, rfl, q H4 l fr s4 nl0 hl ⟨by omega, by omega, he⟩⟩
--# last_at
theorem last_at {ns : List Int} {k : Int} (h : ns.getLast? = some k) : atI (ns.map V.int) (-1) = some (V.int k) := by
  obtain ⟨ys, rfl⟩ := List.getLast?_eq_some_iff.mp h
  rw [List.map_append]
  exact atI_last _ _
theorem dec_nat {x y : Nat} : decide (V.int (x : Int) = V.int (y : Int)) = decide (x = y) := by
  by_cases z : x = y
  · subst z
    simp
  · have z1 : ¬ V.int (x : Int) = V.int (y : Int) := fun e => z (by have := V.int.inj e; omega)
    rw [decide_eq_false z1, decide_eq_false z]
def spText : Sp := fun vs H Q _ => ∃ n : Int, vs = [.int n] ∧ 0 ≤ n ∧ ∀ x : Str, TxOk x → Q (.str x) H
theorem sc_law_text : FnScope ["_law_number_here", "_law_letters", "_law_found", "_law_more", "_law_at"] ["_law_number_here"] (defScope s_law_text) := ⟨rfl, rfl, rfl, by decide +kernel, rfl, by decide +kernel, by decide +kernel⟩
theorem c_law_text {P : Program} {w : World} {K : PySem.W.Frag} {mg : Str → Option Value} {base : Heap} (T : Tx K mg) : C8.Cal P w K mg base 1 "_law_text" (spText) [] := by
  refine calD T.F_law_text T.g_law_text (fun _ _ _ _ _ _ us hl => match us, hl with | [_], _ => rfl) sc_law_text (fun vs H Q E h => ?_) (fun cdv A outer s H vs Q E hr h => ?_)
  · obtain ⟨n, rfl, _⟩ := h
    rfl
  · obtain ⟨n, rfl, n0, q⟩ := h
    refine ⟨_, (pss_cons (ps_par3 (i := 1) (j := 2) (l := 3) (by rfl) sc_law_text.nd rfl rfl rfl (by decide) (by decide) (by decide) rfl rfl rfl (pa_cons pe_str (pa_cons pe_str (pa_cons (pe_op op_fdivN (pv 0) pe_int) pa_nil))) (by rfl))
    (pss_cons (ps_for PassesOwn.never rfl (pi_range1 (by rfl) T.f_range (pa_cons (pe_op op_add pe_int (pe_op op_modN (pe_op op_fdivN (pv 0) pe_int) pe_int)) pa_nil)) (pg_name (i := 4) sc_law_text.nd rfl (Or.inl rfl))
      (pss_one (ps_set (i := 2) sc_law_text.nd rfl (Or.inl rfl) (pe_op op_add_str (pv 2) (pe_ix ix_str (pv 1) (pe_op op_modN (pe_op op_add (pe_op op_add (pe_op op_mul (pv 0) (pe_op op_add (pe_op op_mul pe_int (pv 4)) pe_int)) (pv 3)) (pv 4)) pe_int) (fun _ _ => rfl))))))
    (pss_one (ps_ret (pv 2))))), ?_⟩
    refine ⟨_, rfl, _, _, rfl, rfl, ⟨by decide, by decide⟩, _, _, _, rfl, ?_⟩
    have m0 : 0 ≤ (n.fdiv 26).fmod 6 := fmod_lo (by decide)
    have m1 : (n.fdiv 26).fmod 6 < 6 := fmod_hi (by decide)
    refine ⟨_, rfl, _, _, rfl, rfl, ⟨by decide, by decide⟩, _, _, rfl, rfl, (show (6 : Int) ≠ 0 by decide), _, _, rfl, rfl, _, rfl, by omega, by omega, ?_⟩
    generalize (n.fdiv 26).fmod 6 = m at m0 m1 ⊢
    refine for_range (lo := 0) (n := (1 + m).toNat) (fun i σ H4 => ∃ (x : Str) (va : Option V), σ = [some (.int n), some (.str "abcdefghijklmnopqrstuvwxyz"), some (.str x), some (.int (n.fdiv 156)), va] ∧ H4 = H ∧ x.length = i ∧ ∀ c ∈ x.cps.toList, 97 ≤ c ∧ c ≤ 122)
      ⟨Str.empty, none, rfl, rfl, rfl, fun c h => by cases h⟩ ?_ ?_
    · rintro i σ H4 hi ⟨x, va, rfl, rfl, hx, he⟩
      refine ⟨_, rfl, _, rfl, _, rfl, _, rfl, _, _, rfl, rfl, .inl ⟨by decide, by decide⟩, _, _, rfl, rfl, _, _, rfl, rfl, .inr ⟨by omega, by omega⟩, _, rfl, _, _, rfl, rfl, _, rfl, _, _, rfl, rfl, _, _, rfl, rfl, (show (26 : Int) ≠ 0 by decide), ?_⟩
      have k0 := fmod_lo (x := n * (2 * (0 + (i : Int)) + 1) + n.fdiv 156 + (0 + (i : Int))) (show (0 : Int) < 26 by decide)
      have k1 := fmod_hi (x := n * (2 * (0 + (i : Int)) + 1) + n.fdiv 156 + (0 + (i : Int))) (show (0 : Int) < 26 by decide)
      obtain ⟨k, hk⟩ : ∃ k, k = (n * (2 * (0 + (i : Int)) + 1) + n.fdiv 156 + (0 + (i : Int))).fmod 26 := ⟨_, rfl⟩
      rw [← hk] at k0 k1
      refine ⟨_, _, 97 + k.toNat, rfl, rfl, by decide, ?_, _, _, rfl, rfl, ?_, x ++ ⟨#[97 + k.toNat]⟩, _, rfl, rfl, ?_, ?_⟩
      · have z := atI_nat (az_at k.toNat (by omega))
        rw [show ((k.toNat : Nat) : Int) = k by omega, hk] at z
        rw [← hk] at z ⊢
        exact z
      · rw [hx]
        exact Nat.le_of_lt (small1000 (show i + 1 ≤ 1000 by omega))
      · rw [app_len, hx]
        rfl
      · intro c hc
        rw [app_cps] at hc
        rcases List.mem_append.mp hc with z | z
        · exact he c z
        · have : c = 97 + k.toNat := List.mem_singleton.mp z
          omega
    · rintro σ H4 ⟨x, va, rfl, rfl, hx, he⟩
      exact ⟨_, rfl, q x ⟨by omega, by omega, he⟩⟩
def spNumN (K : PySem.W.Frag) : Sp := fun vs H Q _ => ∃ s : Option Int, vs = [oV s] ∧ Q (.bl true) H
theorem sc_is_number_or_none : FnScope ["value"] ["value"] (defScope s_is_number_or_none) := ⟨rfl, rfl, rfl, by decide +kernel, rfl, by decide +kernel, by decide +kernel⟩
theorem c_is_number_or_none {P : Program} {w : World} {K : PySem.W.Frag} {mg : Str → Option Value} {base : Heap} (T : Tx K mg) : C8.Cal P w K mg base 2 "is_number_or_none" (spNumN K) [] := by
  refine calD T.F_is_number_or_none T.g_is_number_or_none (fun _ _ _ _ _ _ us hl => match us, hl with | [_], _ => rfl) sc_is_number_or_none (fun vs H Q E h => ?_) (fun cdv A outer s H vs Q E hr h => ?_)
  · obtain ⟨s, rfl, _⟩ := h
    rfl
  · obtain ⟨s, rfl, q⟩ := h
    cases s with
    | none =>
      refine ⟨_, (pss_one (ps_ret (pe_or (pe_cmpR op_isN (pv 0) pe_non (nomark _)) (pe_one (C8.pe_c (c_is_number T) hr (by decide) rfl (pa_cons (pv 0) pa_nil)))))), ?_⟩
      exact ⟨_, rfl, rfl, true, rfl, iteT q⟩
    | some i =>
      refine ⟨_, (pss_one (ps_ret (pe_or (pe_cmpR op_isN (pv 0) pe_non (nomark _)) (pe_one (C8.pe_c (c_is_number T) hr (by decide) rfl (pa_cons (pv 0) pa_nil)))))), ?_⟩
      exact ⟨_, rfl, rfl, false, rfl, iteF ⟨_, rfl, _, _, true, false, rfl, .base (.int i), is_ty (by decide +kernel), is_ty (by decide +kernel), q⟩⟩
def spBegin (C : Addr) : Sp := fun vs H Q _ => ∃ (a : Addr) (fr : List Int) (S : De) (A : PA), vs = [.ref a] ∧ PastAt H C a fr S A ∧ S.Ok fr ∧ FrOk fr ∧ S.n < 6 ∧
  ∀ (H' : Hp) (A' : PA), PastAt H' C a fr S.more A' → Only (footP a fr S.n A) H H' → (∀ x, footP a fr (S.n + 1) A' x → footP a fr S.n A x ∨ H x = none) → Q (.int (S.n : Int)) H'
abbrev DD (fr : List Int) (n i : Nat) : Nat → Nat → Prop := fun p t => Dom fr n p t ∨ (p = n ∧ t < i)
theorem sc_Past_begin_phrase : FnScope ["self", "phrase", "tongue"] ["self"] (defScope s_Past_begin_phrase) := ⟨rfl, rfl, rfl, by decide +kernel, rfl, by decide +kernel, by decide +kernel⟩
theorem c_Past_begin_phrase {P : Program} {w : World} {K : PySem.W.Frag} {mg : Str → Option Value} {base : Heap} (T : Tx K mg) : C8.Met P w K mg base 1 (He.ga K "Past") "begin_phrase" (spBegin (He.ga K "Past")) [] := by
  refine metD T.F_Past_begin_phrase T.k_Past T.m_Past_begin_phrase (fun _ _ _ _ _ _ us hl => match us, hl with | [_], _ => rfl) sc_Past_begin_phrase (fun vs H Q E h => ?_) (fun cdv A outer s H vs Q E hr h => ?_)
  · obtain ⟨a, fr, S, A, rfl, _⟩ := h
    rfl
  · obtain ⟨a, fr, S, A, rfl, hP, ok, fo, n6, q⟩ := h
    refine ⟨_, (pss_cons (ps_set (i := 1) sc_Past_begin_phrase.nd rfl (Or.inl rfl) (pe_fld (pv 0) (by rfl)))
    (pss_cons (ps_for PassesOwn.never rfl (pi_range1 (by rfl) T.f_range (pa_cons (pe_op op_add (pe_callB call_len_seq (by rfl) T.f_len (by decide +kernel) (pa_cons (pe_fld (pv 0) (by rfl)) pa_nil)) pe_int) pa_nil)) (pg_name (i := 2) sc_Past_begin_phrase.nd rfl (Or.inl rfl))
      (pss_cons (ps_dput (hu_of hr) (pe_fld (pv 0) (by rfl)) (pe_tup (pa_cons (pv 1) (pa_cons (pv 2) pa_nil))) pe_dnewK rfl)
      (pss_one (ps_dput (hu_of hr) (pe_fld (pv 0) (by rfl)) (pe_tup (pa_cons (pv 1) (pa_cons (pv 2) pa_nil))) (pe_lst pa_nil) rfl))))
    (pss_cons (ps_fldaug (pv 0) pe_int in_add)
    (pss_one (ps_ret (pv 1)))))), ?_⟩
    have hi7 := fo.hi
    refine ⟨_, rfl, a, _, _, _, _, rfl, hP.raw.obj, T.k_Past, T.n_Past_phrases, pf_phrases _ _, ?_⟩
    refine ⟨_, rfl, a, _, _, _, _, rfl, hP.raw.obj, T.k_Past, T.n_Past_froms, pf_froms _ _, A.f, _, rfl, .inl (SqL.of hP.raw.frm), _, _, rfl, rfl, _, rfl, by rw [List.length_map]; omega, by rw [List.length_map]; omega, ?_⟩
    refine for_range (lo := 0) (n := ((fr.map V.int).length + 1 : Int).toNat) (fun i σ H4 => ∃ (va : Option V) (A4 : PA), σ = [some (.ref a), some (.int S.n), va] ∧ Raw H4 (He.ga K "Past") a fr S.n (S.puts.map fun u => V.str u.x) (S.puts.map fun u => oV u.s) (eK S) S.lie (DD fr S.n i) (DD fr S.n i) A4 ∧ Only (footP a fr S.n A) H H4 ∧ (∀ x, Foot a (DD fr S.n i) (DD fr S.n i) A4 x → footP a fr S.n A x ∨ H x = none) ∧ A4.ekv.length ≤ 100 * S.n + i ∧ A4.pkv.length ≤ 100 * S.n + i)
      ⟨none, A, rfl, hP.raw.congr rfl rfl rfl (fun p t d => ⟨d.resolve_right (fun z => Nat.not_lt_zero _ z.2), rfl⟩) (fun p t d => ⟨d.resolve_right (fun z => Nat.not_lt_zero _ z.2), rfl⟩), only_same (Same.refl _), ?_, hP.el, hP.pl⟩ ?_ ?_
    · rintro x (z | z | z | z | z | z | ⟨p, t, d, z⟩ | ⟨p, t, d, z⟩)
      · exact .inl (.inl z)
      · exact .inl (.inr (.inl z))
      · exact .inl (.inr (.inr (.inl z)))
      · exact .inl (.inr (.inr (.inr (.inl z))))
      · exact .inl (.inr (.inr (.inr (.inr (.inl z)))))
      · exact .inl (.inr (.inr (.inr (.inr (.inr (.inl z))))))
      · exact .inl (.inr (.inr (.inr (.inr (.inr (.inr (.inl ⟨p, t, d.resolve_right (fun z => Nat.not_lt_zero _ z.2), z⟩)))))))
      · exact .inl (.inr (.inr (.inr (.inr (.inr (.inr (.inr ⟨p, t, d.resolve_right (fun z => Nat.not_lt_zero _ z.2), z⟩)))))))
    · rintro i σ H4 hi ⟨va, A4, rfl, r4, o4, f4, le4, lp4⟩
      rw [List.length_map] at hi
      rw [show (0 + (i : Int)) = (i : Int) from Int.zero_add _]
      have hin : i ≤ fr.length := by omega
      have nd : ¬ DD fr S.n i S.n i := fun z => z.elim (fun y => Nat.lt_irrefl _ y.1) (fun y => Nat.lt_irrefl _ y.2)
      intro e ne
      have r5 := r4.same (same_upd ne (o := .dK []))
      refine ⟨_, rfl, a, _, _, _, _, rfl, r5.obj, T.k_Past, T.n_Past_ever, pf_ever _ _, _, rfl, _, rfl, (by show 2 ≤ sizeLine; decide), fun b nb => ?_⟩
      have s6 : Same H4 (upd (upd H4 e (.dK [])) b (.tup [V.int (S.n : Int), V.int (i : Int)])) := (same_upd ne).trans (same_upd nb)
      have he6 : (upd (upd H4 e (.dK [])) b (.tup [V.int (S.n : Int), V.int (i : Int)])) e = some (.dK []) := same_upd nb _ _ upd_same
      have hb6 : (upd (upd H4 e (.dK [])) b (.tup [V.int (S.n : Int), V.int (i : Int)])) b = some (.tup ((ty S.n i).map kV)) := upd_same
      generalize upd (upd H4 e (.dK [])) b (.tup [V.int (S.n : Int), V.int (i : Int)]) = H6 at s6 he6 hb6 ⊢
      have r7 := r4.addE nd s6 ne he6
      have len4 := length_putK A4.ekv (ty S.n i) (.ref e)
      have len5 := length_putK A4.pkv (ty S.n i)
      refine ⟨A4.ev, _, rfl, DPut.t (r4.same s6).ev hb6 (small1000 (by omega)), Nat.zero_le _, fun e2 ne2 => ?_⟩
      have o7 : Only (footP a fr S.n A) H (upd H6 A4.ev (.dT (putK A4.ekv (ty S.n i) (.ref e)))) := by
        rcases f4 A4.ev (.inr (.inr (.inr (.inr (.inl rfl))))) with z | z
        · exact (o4.same s6).set z
        · exact (o4.same s6).chg z
      generalize upd H6 A4.ev (.dT (putK A4.ekv (ty S.n i) (.ref e))) = H7 at r7 o7 ne2 ⊢
      have r8 := r7.same (same_upd ne2 (o := .lst []))
      refine ⟨_, rfl, a, _, _, _, _, rfl, r8.obj, T.k_Past, T.n_Past_piles, pf_piles _ _, _, rfl, _, rfl, (by show 2 ≤ sizeLine; decide), fun b2 nb2 => ?_⟩
      have s9 : Same H7 (upd (upd H7 e2 (.lst [])) b2 (.tup [V.int (S.n : Int), V.int (i : Int)])) := (same_upd ne2).trans (same_upd nb2)
      have he9 : (upd (upd H7 e2 (.lst [])) b2 (.tup [V.int (S.n : Int), V.int (i : Int)])) e2 = some (.lst []) := same_upd nb2 _ _ upd_same
      have hb9 : (upd (upd H7 e2 (.lst [])) b2 (.tup [V.int (S.n : Int), V.int (i : Int)])) b2 = some (.tup ((ty S.n i).map kV)) := upd_same
      generalize upd (upd H7 e2 (.lst [])) b2 (.tup [V.int (S.n : Int), V.int (i : Int)]) = H9 at s9 he9 hb9 ⊢
      have r10 := r7.addP nd s9 ne2 he9
      refine ⟨A4.pi, _, rfl, DPut.t (r7.same s9).pi hb9 (small1000 (by show A4.pkv.length ≤ 1000; omega)), some (.int i), _, rfl, r10.congr rfl rfl rfl (fun p t d => ?_) (fun p t d => ?_), ?_, ?_, ?_, ?_⟩
      · have bare := ok.bare i
        by_cases c : p = S.n ∧ t = i
        · refine ⟨.inr c, ?_⟩
          rw [c.1, c.2, setAt_same]
          unfold eK
          rw [bare.2]
          rfl
        · refine ⟨.inl (d.imp id fun y => ⟨y.1, ?_⟩), by rw [setAt_ne c]⟩
          have : t ≠ i := fun z => c ⟨y.1, z⟩
          omega
      · have bare := ok.bare i
        by_cases c : p = S.n ∧ t = i
        · refine ⟨.inr c, ?_⟩
          rw [c.1, c.2, setAt_same, bare.1]
        · refine ⟨.inl (d.imp id fun y => ⟨y.1, ?_⟩), by rw [setAt_ne c]⟩
          have : t ≠ i := fun z => c ⟨y.1, z⟩
          omega
      · rcases f4 A4.pi (.inr (.inr (.inr (.inr (.inr (.inl rfl)))))) with z | z
        · exact (o7.same s9).set z
        · exact (o7.same s9).chg z
      · have fe : H e = none := o4.free ne
        have fe2 : H e2 = none := o7.free ne2
        have dn : ∀ p t, DD fr S.n (i + 1) p t → ¬ (p = S.n ∧ t = i) → DD fr S.n i p t := fun p t d c => d.imp id fun y => ⟨y.1, by
          have : t ≠ i := fun z => c ⟨y.1, z⟩
          omega⟩
        rintro x (z | z | z | z | z | z | ⟨p, t, d, z⟩ | ⟨p, t, d, z⟩)
        · exact f4 x (.inl z)
        · exact f4 x (.inr (.inl z))
        · exact f4 x (.inr (.inr (.inl z)))
        · exact f4 x (.inr (.inr (.inr (.inl z))))
        · exact f4 x (.inr (.inr (.inr (.inr (.inl z)))))
        · exact f4 x (.inr (.inr (.inr (.inr (.inr (.inl z))))))
        · have z' : x = setAt A4.eA S.n i e p t := z
          by_cases c : p = S.n ∧ t = i
          · rw [c.1, c.2, setAt_same] at z'
            exact .inr (by rw [z']; exact fe)
          · rw [setAt_ne c] at z'
            exact f4 x (.inr (.inr (.inr (.inr (.inr (.inr (.inl ⟨p, t, dn p t d c, z'⟩)))))))
        · have z' : x = setAt A4.pA S.n i e2 p t := z
          by_cases c : p = S.n ∧ t = i
          · rw [c.1, c.2, setAt_same] at z'
            exact .inr (by rw [z']; exact fe2)
          · rw [setAt_ne c] at z'
            exact f4 x (.inr (.inr (.inr (.inr (.inr (.inr (.inr ⟨p, t, dn p t d c, z'⟩)))))))
      · show (putK A4.ekv (ty S.n i) (.ref e)).length ≤ _
        omega
      · show (putK A4.pkv (ty S.n i) (.ref e2)).length ≤ _
        have := len5 (.ref e2)
        omega
    · rintro σ H4 ⟨va, A4, rfl, r4, o4, f4, le4, lp4⟩
      rw [show ((fr.map V.int).length + 1 : Int).toNat = fr.length + 1 by rw [List.length_map]; omega] at r4 f4 le4 lp4
      refine ⟨_, rfl, a, _, _, _, _, rfl, r4.obj, T.k_Past, T.n_Past_phrases, pf_phrases _ _, _, _, rfl, rfl, _, _, r4.obj, (by show 6 < 1000; decide), ?_⟩
      rw [pf_more]
      have r5 := r4.setN (S.n + 1)
      have dd : ∀ p t, Dom fr (S.n + 1) p t → DD fr S.n (fr.length + 1) p t := by
        rintro p t ⟨h1, h2⟩
        by_cases c : p = S.n
        · exact .inr ⟨c, by omega⟩
        · exact .inl ⟨by omega, h2⟩
      refine ⟨_, rfl, q _ A4 ⟨r5.congr rfl rfl rfl (fun p t d => ⟨dd p t d, rfl⟩) (fun p t d => ⟨dd p t d, rfl⟩), hP.few, hP.lens, ?_, ?_⟩ ?_ ?_⟩
      · show A4.ekv.length ≤ 100 * (S.n + 1)
        omega
      · show A4.pkv.length ≤ 100 * (S.n + 1)
        omega
      · exact o4.set (.inl rfl)
      · rintro x (z | z | z | z | z | z | ⟨p, t, d, z⟩ | ⟨p, t, d, z⟩)
        · exact f4 x (.inl z)
        · exact f4 x (.inr (.inl z))
        · exact f4 x (.inr (.inr (.inl z)))
        · exact f4 x (.inr (.inr (.inr (.inl z))))
        · exact f4 x (.inr (.inr (.inr (.inr (.inl z)))))
        · exact f4 x (.inr (.inr (.inr (.inr (.inr (.inl z))))))
        · exact f4 x (.inr (.inr (.inr (.inr (.inr (.inr (.inl ⟨p, t, dd p t d, z⟩)))))))
        · exact f4 x (.inr (.inr (.inr (.inr (.inr (.inr (.inr ⟨p, t, dd p t d, z⟩)))))))
def spLay (C : Addr) : Sp := fun vs H Q _ => ∃ (a : Addr) (fr : List Int) (S : De) (A : PA) (p t : Nat) (x : Str) (s : Option Int), vs = [.ref a, .int p, .int t, .str x, oV s] ∧ PastAt H C a fr S A ∧ p < S.n ∧ t ≤ fr.length ∧ S.puts.length < 5000 ∧
  ∀ (H' : Hp), PastAt H' C a fr (S.lay p t x s) A → Only (footP a fr S.n A) H H' → Q (.int (S.puts.length : Int)) H'
theorem sc_Past_lay_down : FnScope ["self", "phrase", "tongue", "text", "seen", "number"] ["self", "phrase", "tongue", "text", "seen"] (defScope s_Past_lay_down) := ⟨rfl, rfl, rfl, by decide +kernel, rfl, by decide +kernel, by decide +kernel⟩
theorem c_Past_lay_down {P : Program} {w : World} {K : PySem.W.Frag} {mg : Str → Option Value} {base : Heap} (T : Tx K mg) : C8.Met P w K mg base 1 (He.ga K "Past") "lay_down" (spLay (He.ga K "Past")) [] := by
  refine metD T.F_Past_lay_down T.k_Past T.m_Past_lay_down (fun _ _ _ _ _ _ us hl => match us, hl with | [_, _, _, _, _], _ => rfl) sc_Past_lay_down (fun vs H Q E h => ?_) (fun cdv A outer s H vs Q E hr h => ?_)
  · obtain ⟨a, fr, S, A, p, t, x, s, rfl, _⟩ := h
    rfl
  · obtain ⟨a, fr, S, A, p, t, x, s, rfl, hP, hp, ht, fw, q⟩ := h
    refine ⟨_, (pss_cons (ps_set (i := 5) sc_Past_lay_down.nd rfl (Or.inl rfl) (pe_callB call_len_seq (by rfl) T.f_len (by decide +kernel) (pa_cons (pe_fld (pv 0) (by rfl)) pa_nil)))
    (pss_cons (ps_expr (pe_bm PySem.F.plainAttrs_list PySem.F.slot_list_append PySem.F.type_list_append mt_append (pe_fld (pv 0) (by rfl)) (pa_cons (pv 3) pa_nil)))
    (pss_cons (ps_expr (pe_bm PySem.F.plainAttrs_list PySem.F.slot_list_append PySem.F.type_list_append mt_append (pe_fld (pv 0) (by rfl)) (pa_cons (pv 4) pa_nil)))
    (pss_cons (ps_dput (hu_of hr) (pe_dget (hu_of hr) (pe_fld (pv 0) (by rfl)) (pe_tup (pa_cons (pv 1) (pa_cons (pv 2) pa_nil))) (fun _ _ => rfl)) (pv 5) pe_bl rfl)
    (pss_cons (ps_expr (pe_bm PySem.F.plainAttrs_list PySem.F.slot_list_append PySem.F.type_list_append mt_append (pe_dget (hu_of hr) (pe_fld (pv 0) (by rfl)) (pe_tup (pa_cons (pv 1) (pa_cons (pv 2) pa_nil))) (fun _ _ => rfl)) (pa_cons (pv 5) pa_nil)))
    (pss_one (ps_ret (pv 5)))))))), ?_⟩
    have d : Dom fr S.n p t := ⟨hp, ht⟩
    have r := hP.raw
    refine ⟨_, rfl, a, _, _, _, _, rfl, r.obj, T.k_Past, T.n_Past_texts, pf_texts _ _, A.tx, _, rfl, .inl (SqL.of r.tx), ?_⟩
    rw [List.length_map]
    refine ⟨_, rfl, a, _, _, _, _, rfl, r.obj, T.k_Past, T.n_Past_texts, pf_texts _ _, .inl ⟨rfl, _, SqL.of r.tx⟩, _, rfl, A.tx, _, _, rfl, rfl, r.tx, by rw [List.length_map]; exact small5000 (by omega), ?_⟩
    have r1 := r.setTx ((S.puts.map fun u => V.str u.x) ++ [V.str x])
    have o1 : Only (footP a fr S.n A) H (upd H A.tx (.lst ((S.puts.map fun u => V.str u.x) ++ [V.str x]))) := (only_same (Same.refl _)).set (.inr (.inr (.inl rfl)))
    refine ⟨_, rfl, a, _, _, _, _, rfl, r1.obj, T.k_Past, T.n_Past_origins, pf_origins _ _, .inl ⟨rfl, _, SqL.of r1.og⟩, _, rfl, A.og, _, _, rfl, rfl, r1.og, by rw [List.length_map]; exact small5000 (by omega), ?_⟩
    have r2 := r1.setOg ((S.puts.map fun u => oV u.s) ++ [oV s])
    have o2 := o1.set (y := A.og) (o := .lst ((S.puts.map fun u => oV u.s) ++ [oV s])) (.inr (.inr (.inr (.inl rfl))))
    have lay := fun H3 H5 s3 s5 => @PastAt.lay H _ a fr S A H H H3 H H5 p t x s hP fw hp ht s3 s5
    generalize upd (upd H A.tx (.lst ((S.puts.map fun u => V.str u.x) ++ [V.str x]))) A.og (.lst ((S.puts.map fun u => oV u.s) ++ [oV s])) = H2 at r2 o2 lay ⊢
    refine ⟨_, rfl, a, _, _, _, _, rfl, r2.obj, T.k_Past, T.n_Past_ever, pf_ever _ _, _, rfl, _, rfl, (by show 2 ≤ sizeLine; decide), fun b nb => ?_⟩
    have s3 : Same H2 (upd H2 b (.tup [V.int (p : Int), V.int (t : Int)])) := same_upd nb
    have hb : (upd H2 b (.tup [V.int (p : Int), V.int (t : Int)])) b = some (.tup ((ty p t).map kV)) := upd_same
    generalize upd H2 b (.tup [V.int (p : Int), V.int (t : Int)]) = H3 at s3 hb ⊢
    have r3 := r2.same s3
    obtain ⟨e1, e2⟩ := r3.evs p t d
    have elen : (eK S p t).length < sizeLine := by
      unfold eK
      rw [List.length_map]
      have := evG_len (p := p) (t := t) (l := S.puts) (k := 0)
      exact small5000 (by unfold De.ever; omega)
    refine ⟨A.ev, _, rfl, e1 ▸ DGet.t r3.ev hb, _, rfl, A.eA p t, _, rfl, DPut.k (k := Sum.inl (S.puts.length : Int)) e2 elen, ?_⟩
    have r4 := r3.setEv d (putK (eK S p t) (Sum.inl (S.puts.length : Int)) (V.bl true))
    have o4 := (o2.same s3).set (y := A.eA p t) (o := .dK (putK (eK S p t) (Sum.inl (S.puts.length : Int)) (V.bl true))) (.inr (.inr (.inr (.inr (.inr (.inr (.inl ⟨p, t, d, rfl⟩)))))))
    have lay := fun H5 s5 => lay H3 H5 s3 s5
    generalize upd H3 (A.eA p t) (.dK (putK (eK S p t) (Sum.inl (S.puts.length : Int)) (V.bl true))) = H4 at r4 o4 lay ⊢
    refine ⟨_, rfl, a, _, _, _, _, rfl, r4.obj, T.k_Past, T.n_Past_piles, pf_piles _ _, _, rfl, _, rfl, (by show 2 ≤ sizeLine; decide), fun c nc => ?_⟩
    have s5 : Same H4 (upd H4 c (.tup [V.int (p : Int), V.int (t : Int)])) := same_upd nc
    have hc : (upd H4 c (.tup [V.int (p : Int), V.int (t : Int)])) c = some (.tup ((ty p t).map kV)) := upd_same
    generalize upd H4 c (.tup [V.int (p : Int), V.int (t : Int)]) = H5 at s5 hc ⊢
    have r5 := r4.same s5
    obtain ⟨g1, g2⟩ := r5.pis p t d
    have ln := hP.lens p t
    refine ⟨A.pi, V.ref (A.pA p t), rfl, g1 ▸ DGet.t r5.pi hc, .inl ⟨rfl, _, SqL.of g2⟩, _, rfl, A.pA p t, _, _, rfl, rfl, g2, by rw [List.length_map]; exact small5000 (by omega), ?_⟩
    exact ⟨_, rfl, q _ (lay H5 s5) ((o4.same s5).set (.inr (.inr (.inr (.inr (.inr (.inr (.inr ⟨p, t, d, rfl⟩))))))))⟩
def spTake (C : Addr) : Sp := fun vs H Q _ => ∃ (a : Addr) (fr : List Int) (S : De) (A : PA) (p t : Nat) (k : Int), vs = [.ref a, .int p, .int t] ∧ PastAt H C a fr S A ∧ p < S.n ∧ t ≤ fr.length ∧ S.now p t = some k ∧
  ∀ (H' : Hp), PastAt H' C a fr (S.off p t) A → Only (footP a fr S.n A) H H' → Q (.int k) H'
theorem sc_Past_take_off : FnScope ["self", "phrase", "tongue"] ["self", "phrase", "tongue"] (defScope s_Past_take_off) := ⟨rfl, rfl, rfl, by decide +kernel, rfl, by decide +kernel, by decide +kernel⟩
theorem c_Past_take_off {P : Program} {w : World} {K : PySem.W.Frag} {mg : Str → Option Value} {base : Heap} (T : Tx K mg) : C8.Met P w K mg base 1 (He.ga K "Past") "take_off" (spTake (He.ga K "Past")) [] := by
  refine metD T.F_Past_take_off T.k_Past T.m_Past_take_off (fun _ _ _ _ _ _ us hl => match us, hl with | [_, _, _], _ => rfl) sc_Past_take_off (fun vs H Q E h => ?_) (fun cdv A outer s H vs Q E hr h => ?_)
  · obtain ⟨a, fr, S, A, p, t, k, rfl, _⟩ := h
    rfl
  · obtain ⟨a, fr, S, A, p, t, k, rfl, hP, hp, ht, ek, q⟩ := h
    refine ⟨_, (pss_one (ps_ret (pe_bm0 PySem.F.plainAttrs_list PySem.F.slot_list_pop PySem.F.type_list_pop mt_pop (pe_dget (hu_of hr) (pe_fld (pv 0) (by rfl)) (pe_tup (pa_cons (pv 1) (pa_cons (pv 2) pa_nil))) (fun _ _ => rfl))))), ?_⟩
    have d : Dom fr S.n p t := ⟨hp, ht⟩
    refine ⟨_, rfl, a, _, _, _, _, rfl, hP.raw.obj, T.k_Past, T.n_Past_piles, pf_piles _ _, _, rfl, _, rfl, (by show 2 ≤ sizeLine; decide), fun c nc => ?_⟩
    have s1 : Same H (upd H c (.tup [V.int (p : Int), V.int (t : Int)])) := same_upd nc
    have hc : (upd H c (.tup [V.int (p : Int), V.int (t : Int)])) c = some (.tup ((ty p t).map kV)) := upd_same
    generalize upd H c (.tup [V.int (p : Int), V.int (t : Int)]) = H1 at s1 hc ⊢
    have h1 := hP.same s1
    obtain ⟨g1, g2⟩ := h1.raw.pis p t d
    refine ⟨A.pi, V.ref (A.pA p t), rfl, g1 ▸ DGet.t h1.raw.pi hc, .inl ⟨rfl, _, SqL.of g2⟩, A.pA p t, _, V.int k, rfl, rfl, g2, ?_, q _ (h1.off hp ht) ((only_same s1).set (.inr (.inr (.inr (.inr (.inr (.inr (.inr ⟨p, t, d, rfl⟩))))))))⟩
    obtain ⟨ys, ey⟩ := List.getLast?_eq_some_iff.mp (show (S.lie p t).getLast? = some k from ek)
    rw [ey, List.map_append, List.length_append]
    simp
def spHas (C : Addr) : Sp := fun vs H Q _ => ∃ (a : Addr) (fr : List Int) (S : De) (A : PA) (v : Int), vs = [.ref a, .int v] ∧ PastAt H C a fr S A ∧ Q (.bl (decide (0 ≤ v) && decide (v < (S.n : Int)))) H
theorem sc_Past_has_phrase : FnScope ["self", "value"] ["self", "value"] (defScope s_Past_has_phrase) := ⟨rfl, rfl, rfl, by decide +kernel, rfl, by decide +kernel, by decide +kernel⟩
theorem c_Past_has_phrase {P : Program} {w : World} {K : PySem.W.Frag} {mg : Str → Option Value} {base : Heap} (T : Tx K mg) : C8.Met P w K mg base 3 (He.ga K "Past") "has_phrase" (spHas (He.ga K "Past")) [] := by
  refine metD T.F_Past_has_phrase T.k_Past T.m_Past_has_phrase (fun _ _ _ _ _ _ us hl => match us, hl with | [_, _], _ => rfl) sc_Past_has_phrase (fun vs H Q E h => ?_) (fun cdv A outer s H vs Q E hr h => ?_)
  · obtain ⟨a, fr, S, A, v, rfl, _⟩ := h
    rfl
  · obtain ⟨a, fr, S, A, v, rfl, hP, q⟩ := h
    refine ⟨_, (pss_one (ps_ret (pe_and (C8.pe_c (c_is_count T) hr (by decide) rfl (pa_cons (pv 1) pa_nil)) (pe_one (pe_cmpR op_lt (pv 1) (pe_fld (pv 0) (by rfl)) (nomark _)))))), ?_⟩
    refine ⟨_, rfl, v, rfl, decide (0 ≤ v), rfl, ?_⟩
    by_cases c : 0 ≤ v
    · rw [decide_eq_true c] at q ⊢
      exact iteT ⟨_, rfl, _, rfl, a, _, _, _, _, rfl, hP.raw.obj, T.k_Past, T.n_Past_phrases, pf_phrases _ _, v, _, rfl, rfl, q⟩
    · rw [decide_eq_false c] at q ⊢
      exact iteF q
def spStand (C : Addr) : Sp := fun vs H Q _ => ∃ (a : Addr) (fr : List Int) (S : De) (A : PA) (p t : Nat), vs = [.ref a, .int p, .int t] ∧ PastAt H C a fr S A ∧ p < S.n ∧ t ≤ fr.length ∧ ∀ (H' : Hp), Same H H' → Q (oV (S.now p t)) H'
theorem sc_Past_standing : FnScope ["self", "phrase", "tongue", "pile"] ["self", "phrase", "tongue"] (defScope s_Past_standing) := ⟨rfl, rfl, rfl, by decide +kernel, rfl, by decide +kernel, by decide +kernel⟩
theorem c_Past_standing {P : Program} {w : World} {K : PySem.W.Frag} {mg : Str → Option Value} {base : Heap} (T : Tx K mg) : C8.Met P w K mg base 1 (He.ga K "Past") "standing" (spStand (He.ga K "Past")) [] := by
  refine metD T.F_Past_standing T.k_Past T.m_Past_standing (fun _ _ _ _ _ _ us hl => match us, hl with | [_, _, _], _ => rfl) sc_Past_standing (fun vs H Q E h => ?_) (fun cdv A outer s H vs Q E hr h => ?_)
  · obtain ⟨a, fr, S, A, p, t, rfl, _⟩ := h
    rfl
  · obtain ⟨a, fr, S, A, p, t, rfl, hP, hp, ht, q⟩ := h
    refine ⟨_, (pss_cons (ps_set (i := 3) sc_Past_standing.nd rfl (Or.inl rfl) (pe_dget (hu_of hr) (pe_fld (pv 0) (by rfl)) (pe_tup (pa_cons (pv 1) (pa_cons (pv 2) pa_nil))) (fun _ _ => rfl)))
    (pss_one (ps_ret (pe_ifExp (pt_truth (pv 3) (by intro _; rfl)) (pe_ix ix_list (pv 3) (pe_un un_neg pe_int) (fun _ _ => rfl)) pe_non)))), ?_⟩
    have d : Dom fr S.n p t := ⟨hp, ht⟩
    refine ⟨_, rfl, a, _, _, _, _, rfl, hP.raw.obj, T.k_Past, T.n_Past_piles, pf_piles _ _, _, rfl, _, rfl, (by show 2 ≤ sizeLine; decide), fun c nc => ?_⟩
    have s1 : Same H (upd H c (.tup [V.int (p : Int), V.int (t : Int)])) := same_upd nc
    have hc : (upd H c (.tup [V.int (p : Int), V.int (t : Int)])) c = some (.tup ((ty p t).map kV)) := upd_same
    generalize upd H c (.tup [V.int (p : Int), V.int (t : Int)]) = H1 at s1 hc ⊢
    have h1 := hP.same s1
    obtain ⟨g1, g2⟩ := h1.raw.pis p t d
    refine ⟨A.pi, V.ref (A.pA p t), rfl, g1 ▸ DGet.t h1.raw.pi hc, ?_⟩
    cases el : (S.lie p t).getLast? with
    | none =>
      have e0 : S.lie p t = [] := List.getLast?_eq_none_iff.mp el
      rw [e0] at g2
      have q1 := q H1 s1
      rw [show S.now p t = none from el] at q1
      exact ⟨_, rfl, false, .inl ⟨_, SqL.of g2, rfl⟩, iteF q1⟩
    | some k =>
      have q1 := q H1 s1
      rw [show S.now p t = some k from el] at q1
      refine ⟨_, rfl, true, ?_, iteT ⟨_, rfl, _, rfl, A.pA p t, _, _, _, rfl, rfl, SqL.of g2, last_at el, q1⟩⟩
      refine .inl ⟨_, SqL.of g2, ?_⟩
      cases e0 : S.lie p t with
      | nil =>
        rw [e0] at el
        cases el
      | cons y ys => rfl
def De.tV (S : De) (p t : Nat) : V := match S.now p t with
  | some k => .str (S.pt k).x
  | none => .non
def spTxS (C : Addr) : Sp := fun vs H Q _ => ∃ (a : Addr) (fr : List Int) (S : De) (A : PA) (p t : Nat), vs = [.ref a, .int p, .int t] ∧ PastAt H C a fr S A ∧ S.Num ∧ p < S.n ∧ t ≤ fr.length ∧ ∀ (H' : Hp), Same H H' → Q (S.tV p t) H'
def spCells (C : Addr) : Sp := fun vs H Q _ => ∃ (a : Addr) (fr : List Int) (S : De) (A : PA) (p : Nat), vs = [.ref a, .int p] ∧ PastAt H C a fr S A ∧ S.Num ∧ FrOk fr ∧ p < S.n ∧ ∀ (H' : Hp) (r : Addr), Same H H' → H r = none → RowAt H' r (S.row (fr.length + 1) p) → Q (.ref r) H'
theorem sc_Past_cells : FnScope ["self", "phrase", "numbers", "tongue", "number"] ["self", "phrase"] (defScope s_Past_cells) := ⟨rfl, rfl, rfl, by decide +kernel, rfl, by decide +kernel, by decide +kernel⟩
theorem c_Past_cells {P : Program} {w : World} {K : PySem.W.Frag} {mg : Str → Option Value} {base : Heap} (T : Tx K mg) : C8.Met P w K mg base 2 (He.ga K "Past") "cells" (spCells (He.ga K "Past")) [] := by
  refine metD T.F_Past_cells T.k_Past T.m_Past_cells (fun _ _ _ _ _ _ us hl => match us, hl with | [_, _], _ => rfl) sc_Past_cells (fun vs H Q E h => ?_) (fun cdv A outer s H vs Q E hr h => ?_)
  · obtain ⟨a, fr, S, A, p, rfl, _⟩ := h
    rfl
  · obtain ⟨a, fr, S, A, p, rfl, hP, hN, fo, hp, q⟩ := h
    refine ⟨_, (pss_cons (ps_setLc (i := 2) (own := [("tongue", 3)]) (g := gName 3) (tt := tYes) (by rfl) sc_Past_cells.nd rfl rfl (sw_true rfl rfl rfl (by decide +kernel)) (pi_range1 (by rfl) T.f_range (pa_cons (pe_op op_add (pe_callB call_len_seq (by rfl) T.f_len (by decide +kernel) (pa_cons (pe_fld (pv 0) (by rfl)) pa_nil)) pe_int) pa_nil)) (blkOk_by (own := [("tongue", 3)]) (N := ["self", "phrase", "numbers", "tongue", "number"]) (sc := defScope s_Past_cells) (by decide +kernel)) (fun _ _ _ _ _ => (pg_name (i := 3) sc_Past_cells.nd rfl (Or.inl rfl))) (fun _ _ _ _ _ => pts_nil) (fun _ _ _ _ _ => (C8.pe_mt (c_Past_standing T) hr (by decide) (pv 0) (pa_cons (pv 1) (pa_cons (pv 3) pa_nil)))))
    (pss_one (ps_ret (pe_lc (own := [("number", 4)]) (g := gName 4) (tt := tYes) (by rfl) sc_Past_cells.nd (pi_list (pv 2)) (blkOk_by (own := [("number", 4)]) (N := ["self", "phrase", "numbers", "tongue", "number"]) (sc := defScope s_Past_cells) (by decide +kernel)) (fun _ _ _ _ _ => (pg_name (i := 4) sc_Past_cells.nd rfl (Or.inl rfl))) (fun _ _ _ _ _ => pts_nil) (fun _ _ _ _ _ => (pe_ifExp (pt_cmpR op_isN (pv 4) pe_non (nomark _)) pe_non (pe_tup (pa_cons (pv 4) (pa_cons (pe_ix (show IxR _ (rIxL K) from ix_list) (pe_fldK (K := K) (by rfl) (pv 0) (by rfl)) (pv 4) (fun _ _ => rfl)) pa_nil))))))))), ?_⟩
    have hi7 := fo.hi
    refine ⟨_, rfl, a, _, _, _, _, rfl, hP.raw.obj, T.k_Past, T.n_Past_froms, pf_froms _ _, A.f, _, rfl, .inl (SqL.of hP.raw.frm), _, _, rfl, rfl, _, rfl, by rw [List.length_map]; omega, by rw [List.length_map]; omega, fun D nD => ?_⟩
    refine lc_range (lo := 0) (n := ((fr.map V.int).length + 1 : Int).toNat) (fun i H1 => Same H H1 ∧ H1 D = some (.lst ((List.range i).map fun t => oV (S.now p t)))) ⟨same_upd nD, upd_same⟩ ?_ ?_
    · rintro i H1 hi ⟨s1, hD⟩
      rw [List.length_map] at hi
      rw [show (0 + (i : Int)) = (i : Int) from Int.zero_add _]
      have h1 := hP.same s1
      refine ⟨rfl, _, rfl, a, _, _, rfl, h1.raw.obj, rfl, _, rfl, _, rfl, a, fr, S, A, p, i, rfl, h1, hp, by omega, fun H2 s2 => ⟨_, s2 _ _ hD, ?_, Same.chg (s1.trans s2) nD, ?_⟩⟩
      · rw [List.length_map, List.length_range]
        exact small1000 (by omega)
      · rw [upd_same, List.range_succ, List.map_append]
        rfl
    rintro H1 ⟨s1, hD⟩
    rw [show ((fr.map V.int).length + 1 : Int).toNat = fr.length + 1 by rw [List.length_map]; omega] at hD
    refine ⟨_, rfl, D, rfl, ⟨_, SqL.of hD⟩, fun R nR => ?_⟩
    refine lc_list (K := K) (a := D) (xs := (List.range (fr.length + 1)).map fun t => oV (S.now p t)) (fun i H2 => Same H1 H2 ∧ RowAt H2 R (S.row i p)) ⟨same_upd nR, ⟨[], upd_same, ⟨rfl, fun i c e => by simp [De.row] at e⟩⟩⟩ (fun i H2 _ z => SqL.of (z.1 _ _ hD)) ?_ ?_
    · rintro i v H2 hv ⟨s2, hR⟩
      have hi : i < fr.length + 1 := by
        have := (List.getElem?_eq_some_iff.mp hv).1
        rw [List.length_map, List.length_range] at this
        exact this
      rw [List.getElem?_map, List.getElem?_range hi] at hv
      have hv' : v = oV (S.now p i) := (Option.some.inj hv).symm
      subst hv'
      have s12 := s1.trans s2
      have h2 := hP.same s12
      obtain ⟨ws, hw, hcs⟩ := id hR
      have hlen : ws.length < sizeLine := by
        rw [hcs.len, De.row_len]
        exact small1000 (by omega)
      have step : ∀ (H6 : Hp) (v : V), Same H2 H6 → CellV H6 v (S.cell p i) → Same H1 (upd H6 R (.lst (ws ++ [v]))) ∧ RowAt (upd H6 R (.lst (ws ++ [v]))) R (S.row (i + 1) p) := by
        intro H6 v s6 hc
        refine ⟨Same.chg (s2.trans s6) nR, ?_⟩
        have z := RowAt.snoc (hR.same s6) (s6 _ _ hw) hc
        unfold De.row at z ⊢
        rw [List.range_succ, List.map_append]
        exact z
      refine ⟨rfl, _, rfl, rfl, decide (oV (S.now p i) = .non), rfl, ?_⟩
      cases en : S.now p i with
      | none =>
        obtain ⟨g1, g2⟩ := step H2 .non (Same.refl _) (by unfold De.cell; rw [en]; rfl)
        exact iteT ⟨_, hw, hlen, g1, g2⟩
      | some k =>
        obtain ⟨k0, u, eu, _, _⟩ := hN.now en
        refine iteF ⟨_, rfl, _, rfl, a, _, _, _, _, rfl, h2.raw.obj, T.k_Past, T.n_Past_origins, pf_origins _ _, _, rfl, A.og, _, _, _, rfl, rfl, SqL.of h2.raw.og, at_of (j := k.toNat) (by omega) (lookup_at eu), (by show 2 ≤ sizeLine; decide), fun c nc => ?_⟩
        obtain ⟨g1, g2⟩ := step _ (.ref c) (same_upd nc (o := .tup [.int k, oV u.s])) (by
          unfold De.cell
          rw [en]
          show CellV _ _ (some (k, (S.pt k).s))
          rw [De.pt_at eu]
          exact ⟨c, rfl, upd_same⟩)
        exact ⟨_, same_upd nc _ _ hw, hlen, g1, g2⟩
    rintro H2 ⟨s2, hR⟩
    rw [List.length_map, List.length_range] at hR
    exact q H2 R (s1.trans s2) (s1.free nR) hR
def spSeen (C : Addr) : Sp := fun vs H Q _ => ∃ (a : Addr) (fr : List Int) (S : De) (A : PA) (p t : Nat) (s : Option Int), vs = [.ref a, .int p, .int t, oV s] ∧ PastAt H C a fr S A ∧ FrOk fr ∧ p < S.n ∧ t ≤ fr.length ∧ ∀ (H' : Hp), Same H H' → Q (.bl (decide (s ∈ S.seens fr p t))) H'
theorem sc_Past_was_seen : FnScope ["self", "phrase", "tongue", "seen"] ["self", "phrase", "tongue", "seen"] (defScope s_Past_was_seen) := ⟨rfl, rfl, rfl, by decide +kernel, rfl, by decide +kernel, by decide +kernel⟩
theorem c_Past_was_seen {P : Program} {w : World} {K : PySem.W.Frag} {mg : Str → Option Value} {base : Heap} (T : Tx K mg) : C8.Met P w K mg base 2 (He.ga K "Past") "was_seen" (spSeen (He.ga K "Past")) [] := by
  refine metD T.F_Past_was_seen T.k_Past T.m_Past_was_seen (fun _ _ _ _ _ _ us hl => match us, hl with | [_, _, _, _], _ => rfl) sc_Past_was_seen (fun vs H Q E h => ?_) (fun cdv A outer s H vs Q E hr h => ?_)
  · obtain ⟨a, fr, S, A, p, t, s0, rfl, _⟩ := h
    rfl
  · obtain ⟨a, fr, S, A, p, t, s0, rfl, hP, fo, hp, ht, q⟩ := h
    refine ⟨_, (pss_cons (ps_if (pt_cmpR op_eq (pv 2) pe_int (nomark _))
      (pss_one (ps_ret (pe_cmpR op_isN (pv 3) pe_non (nomark _))))
      pss_nil)
    (pss_one (ps_ret (pe_and (C8.pe_c (c_is_number T) hr (by decide) rfl (pa_cons (pv 3) pa_nil)) (pe_one (pe_cmp (pc_din (hu_of hr) (pv 3) (pe_dget (hu_of hr) (pe_fld (pv 0) (by rfl)) (pe_tup (pa_cons (pv 1) (pa_cons (C8.pe_c (c_put_from T) hr (by decide) rfl (pa_cons (pe_fld (pv 0) (by rfl)) (pa_cons (pv 2) pa_nil))) pa_nil))) (fun _ _ => rfl))) rfl)))))), ?_⟩
    refine ⟨_, rfl, rfl, decide (t = 0), congrArg V.bl (dec_nat (y := 0)), ?_⟩
    by_cases c : t = 0
    · rw [decide_eq_true c]
      have q1 := q H (Same.refl _)
      unfold De.seens at q1
      rw [if_pos c] at q1
      refine iteT ⟨_, rfl, rfl, qt ?_ q1⟩
      cases s0 with
      | none => rfl
      | some k => rfl
    rw [decide_eq_false c]
    have q1 := fun H' s' => q H' s'
    unfold De.seens at q1
    rw [if_neg c] at q1
    cases s0 with
    | none =>
      refine iteF ⟨_, rfl, _, _, false, false, rfl, .base .non, is_ty (by decide +kernel), is_ty (by decide +kernel), false, rfl, iteF (qt ?_ (q1 H (Same.refl _)))⟩
      symm
      exact decide_eq_false (fun z => by simp at z)
    | some k =>
      obtain ⟨x, ex, x0, xl, xu⟩ := fo.at (t := t) (by omega) ht
      refine iteF ⟨_, rfl, _, _, true, false, rfl, .base (.int k), is_ty (by decide +kernel), is_ty (by decide +kernel), true, rfl, iteT ?_⟩
      refine ⟨_, rfl, _, rfl, a, _, _, _, _, rfl, hP.raw.obj, T.k_Past, T.n_Past_ever, pf_ever _ _, _, rfl, _, rfl, a, _, _, _, _, rfl, hP.raw.obj, T.k_Past, T.n_Past_froms, pf_froms _ _, _, rfl, A.f, fr, t, x, rfl, hP.raw.frm, by omega, ex, (by show 2 ≤ sizeLine; decide), fun b nb => ?_⟩
      subst xu
      have s1 : Same H (upd H b (.tup [V.int (p : Int), V.int (up fr t : Int)])) := same_upd nb
      have hb : (upd H b (.tup [V.int (p : Int), V.int (up fr t : Int)])) b = some (.tup ((ty p (up fr t)).map kV)) := upd_same
      generalize upd H b (.tup [V.int (p : Int), V.int (up fr t : Int)]) = H1 at s1 hb ⊢
      have h1 := hP.same s1
      have hu := up_lt fo (t := t) (by omega) ht
      obtain ⟨e1, e2⟩ := h1.raw.evs p (up fr t) ⟨hp, by omega⟩
      refine ⟨A.ev, V.ref (A.eA p (up fr t)), rfl, e1 ▸ DGet.t h1.raw.ev hb, A.eA p (up fr t), _, rfl, DGet.k (k := Sum.inl k) e2, qt ?_ (q1 H1 s1)⟩
      unfold eK
      rw [eK_has]
      refine decide_eq_decide.mpr ?_
      rw [List.mem_map, List.mem_map]
      exact ⟨fun ⟨e, z1, z2⟩ => ⟨e, z1, congrArg some z2⟩, fun ⟨e, z1, z2⟩ => ⟨e, z1, Option.some.inj z2⟩⟩
def spOver (C : Addr) : Sp := fun vs H Q _ => ∃ (a : Addr) (fr : List Int) (S : De) (A : PA) (p t : Nat) (o : Option Int), vs = [.ref a, .int p, .int t, oV o] ∧ PastAt H C a fr S A ∧ p < S.n ∧ t ≤ fr.length ∧ ∀ (H' : Hp), Same H H' → Q (.bl (decide (o = S.now p t))) H'
theorem oV_dec {a b : Option Int} : decide (oV a = oV b) = decide (a = b) := by
  refine decide_eq_decide.mpr ⟨fun z => ?_, fun z => by rw [z]⟩
  cases a with
  | none =>
    cases b with
    | none => rfl
    | some y => cases z
  | some x =>
    cases b with
    | none => cases z
    | some y => rw [V.int.inj z]
theorem sc_Past_is_over : FnScope ["self", "phrase", "tongue", "over"] ["self", "phrase", "tongue", "over"] (defScope s_Past_is_over) := ⟨rfl, rfl, rfl, by decide +kernel, rfl, by decide +kernel, by decide +kernel⟩
theorem c_Past_is_over {P : Program} {w : World} {K : PySem.W.Frag} {mg : Str → Option Value} {base : Heap} (T : Tx K mg) : C8.Met P w K mg base 3 (He.ga K "Past") "is_over" (spOver (He.ga K "Past")) [] := by
  refine metD T.F_Past_is_over T.k_Past T.m_Past_is_over (fun _ _ _ _ _ _ us hl => match us, hl with | [_, _, _, _], _ => rfl) sc_Past_is_over (fun vs H Q E h => ?_) (fun cdv A outer s H vs Q E hr h => ?_)
  · obtain ⟨a, fr, S, A, p, t, o, rfl, _⟩ := h
    rfl
  · obtain ⟨a, fr, S, A, p, t, o, rfl, hP, hp, ht, q⟩ := h
    refine ⟨_, (pss_one (ps_ret (pe_and (C8.pe_c (c_is_number_or_none T) hr (by decide) rfl (pa_cons (pv 3) pa_nil)) (pe_one (pe_cmpR op_eq (pv 3) (C8.pe_mt (c_Past_standing T) hr (by decide) (pv 0) (pa_cons (pv 1) (pa_cons (pv 2) pa_nil))) (nomark _)))))), ?_⟩
    refine ⟨_, rfl, o, rfl, true, rfl, iteT ⟨_, rfl, _, rfl, a, _, _, rfl, hP.raw.obj, rfl, _, rfl, _, rfl, a, fr, S, A, p, t, rfl, hP, hp, ht, fun H1 s1 => ?_⟩⟩
    refine ⟨?_, qt oV_dec (q H1 s1)⟩
    cases o <;> cases S.now p t <;> rfl
def spCan (C : Addr) : Sp := fun vs H Q _ => ∃ (a : Addr) (fr : List Int) (S : De) (A : PA) (p t : Nat), vs = [.ref a, .int p, .int t] ∧ PastAt H C a fr S A ∧ p < S.n ∧ t ≤ fr.length ∧ ∀ (H' : Hp), Same H H' → Q (.bl (decide ((if t = 0 then 1 else 0) < (S.lie p t).length))) H'
theorem sc_Past_can_take_off : FnScope ["self", "phrase", "tongue"] ["self", "phrase", "tongue"] (defScope s_Past_can_take_off) := ⟨rfl, rfl, rfl, by decide +kernel, rfl, by decide +kernel, by decide +kernel⟩
theorem c_Past_can_take_off {P : Program} {w : World} {K : PySem.W.Frag} {mg : Str → Option Value} {base : Heap} (T : Tx K mg) : C8.Met P w K mg base 1 (He.ga K "Past") "can_take_off" (spCan (He.ga K "Past")) [] := by
  refine metD T.F_Past_can_take_off T.k_Past T.m_Past_can_take_off (fun _ _ _ _ _ _ us hl => match us, hl with | [_, _, _], _ => rfl) sc_Past_can_take_off (fun vs H Q E h => ?_) (fun cdv A outer s H vs Q E hr h => ?_)
  · obtain ⟨a, fr, S, A, p, t, rfl, _⟩ := h
    rfl
  · obtain ⟨a, fr, S, A, p, t, rfl, hP, hp, ht, q⟩ := h
    refine ⟨_, (pss_one (ps_ret (pe_cmpR op_gt (pe_callB call_len_seq (by rfl) T.f_len (by decide +kernel) (pa_cons (pe_dget (hu_of hr) (pe_fld (pv 0) (by rfl)) (pe_tup (pa_cons (pv 1) (pa_cons (pv 2) pa_nil))) (fun _ _ => rfl)) pa_nil)) (pe_ifExp (pt_cmpR op_eq (pv 2) pe_int (nomark _)) pe_int pe_int) (nomark _)))), ?_⟩
    have d : Dom fr S.n p t := ⟨hp, ht⟩
    refine ⟨_, rfl, a, _, _, _, _, rfl, hP.raw.obj, T.k_Past, T.n_Past_piles, pf_piles _ _, _, rfl, _, rfl, (by show 2 ≤ sizeLine; decide), fun c nc => ?_⟩
    have s1 : Same H (upd H c (.tup [V.int (p : Int), V.int (t : Int)])) := same_upd nc
    have hc : (upd H c (.tup [V.int (p : Int), V.int (t : Int)])) c = some (.tup ((ty p t).map kV)) := upd_same
    generalize upd H c (.tup [V.int (p : Int), V.int (t : Int)]) = H1 at s1 hc ⊢
    have h1 := hP.same s1
    obtain ⟨g1, g2⟩ := h1.raw.pis p t d
    refine ⟨A.pi, V.ref (A.pA p t), rfl, g1 ▸ DGet.t h1.raw.pi hc, A.pA p t, _, rfl, .inl (SqL.of g2), _, rfl, rfl, decide (t = 0), congrArg V.bl (dec_nat (y := 0)), ?_⟩
    have q1 := q H1 s1
    rw [List.length_map]
    by_cases c0 : t = 0
    · rw [decide_eq_true c0]
      rw [if_pos c0] at q1
      refine iteT ⟨_, _, rfl, rfl, qt (decide_eq_decide.mpr (by omega)) q1⟩
    · rw [decide_eq_false c0]
      rw [if_neg c0] at q1
      refine iteF ⟨_, _, rfl, rfl, qt (decide_eq_decide.mpr (by omega)) q1⟩
def spPastInit (C : Addr) : Sp := fun vs H Q _ => ∃ (y dy f : Addr) (fr : List Int), vs = [.ref y, .ref f] ∧ H y = some (.ins C dy []) ∧ LsAt H f fr ∧
  ∀ (H' : Hp) (A : PA), PastAt H' C y fr De.none A → (∀ x o, x ≠ y → H x = some o → H' x = some o) → (∀ x, footP y fr 0 A x → x = y ∨ H x = none) → Q .non H'
theorem sc_Past_init : FnScope ["self", "froms"] ["self", "froms"] (defScope s_Past_init) := ⟨rfl, rfl, rfl, by decide +kernel, rfl, by decide +kernel, by decide +kernel⟩
theorem c_Past_init {P : Program} {w : World} {K : PySem.W.Frag} {mg : Str → Option Value} {base : Heap} (T : Tx K mg) : C8.Mak P w K mg base 1 "Past" (He.ga K "Past") (spPastInit (He.ga K "Past")) [] := by
  refine makD T.F_Past_init T.i_Past T.g_Past (fun _ _ _ _ _ _ us hl => match us, hl with | [_, _], _ => rfl) sc_Past_init (fun vs H Q E h => ?_) (fun cdv A outer s H vs Q E hr h => ?_)
  · obtain ⟨y, dy, f, fr, rfl, _⟩ := h
    rfl
  · obtain ⟨y, dy, f, fr, rfl, hy, hf, q⟩ := h
    refine ⟨_, (pss_cons (ps_fld (pv 0) (pe_callTy call_list_of (by rfl) T.f_list (by decide +kernel) (pa_cons (pv 1) pa_nil)) rfl)
    (pss_cons (ps_fld (pv 0) pe_int rfl)
    (pss_cons (ps_fld (pv 0) (pe_lst pa_nil) rfl)
    (pss_cons (ps_fld (pv 0) (pe_lst pa_nil) rfl)
    (pss_cons (ps_fld (pv 0) pe_dnewT rfl)
    (pss_one (ps_fld (pv 0) pe_dnewT rfl))))))), ?_⟩
    have kpn : ∀ {H H' : Hp} {p : Addr} {o u : HO}, (∀ x o, x ≠ y → H x = some o → H' x = some o) → H' p = none → ∀ x o', x ≠ y → H x = some o' → (upd (upd H' p o) y u) x = some o' := by
      intro H H' p o u k np x o' nx e
      have e' := k x o' nx e
      rw [upd_ne nx, upd_ne (ne_of_none e' np)]
      exact e'
    have k0 : ∀ x o, x ≠ y → H x = some o → H x = some o := fun _ _ _ e => e
    refine ⟨_, rfl, f, _, rfl, .inl (SqL.of hf), fun f1 nf1 => ⟨_, rfl, y, _, dy, _, rfl, same_upd nf1 _ _ hy, T.k_Past, T.n_Past_froms, (by show 0 < 1000; decide), ?_⟩⟩
    have k1 := kpn (o := .lst (fr.map V.int)) (u := .ins (He.ga K "Past") dy (putF "froms" (.ref f1) [])) k0 nf1
    have yf1 : f1 ≠ y := Ne.symm (ne_of_none hy nf1)
    have a1 : (upd (upd H f1 (.lst (fr.map V.int))) y (.ins (He.ga K "Past") dy (putF "froms" (.ref f1) []))) f1 = some (.lst (fr.map V.int)) := by rw [upd_ne yf1, upd_same]
    have y1 : (upd (upd H f1 (.lst (fr.map V.int))) y (.ins (He.ga K "Past") dy (putF "froms" (.ref f1) []))) y = some (.ins (He.ga K "Past") dy [("froms", .ref f1)]) := upd_same
    generalize upd (upd H f1 (.lst (fr.map V.int))) y (.ins (He.ga K "Past") dy (putF "froms" (.ref f1) [])) = H1 at k1 a1 y1 ⊢
    refine ⟨_, rfl, y, _, dy, _, rfl, y1, T.k_Past, T.n_Past_phrases, (by show 1 < 1000; decide), ?_⟩
    have k2 : ∀ x o, x ≠ y → H1 x = some o → (upd H1 y (.ins (He.ga K "Past") dy (putF "phrases" (.int 0) [("froms", .ref f1)]))) x = some o := fun x o nx e => by rw [upd_ne nx]; exact e
    have y2 : (upd H1 y (.ins (He.ga K "Past") dy (putF "phrases" (.int 0) [("froms", .ref f1)]))) y = some (.ins (He.ga K "Past") dy [("froms", .ref f1), ("phrases", .int 0)]) := upd_same
    generalize upd H1 y (.ins (He.ga K "Past") dy (putF "phrases" (.int 0) [("froms", .ref f1)])) = H2 at k2 y2 ⊢
    have a2 := k2 _ _ yf1 a1
    refine ⟨Nat.zero_le _, fun tx ntx => ⟨_, rfl, y, _, dy, _, rfl, same_upd ntx _ _ y2, T.k_Past, T.n_Past_texts, (by show 2 < 1000; decide), ?_⟩⟩
    have ytx : tx ≠ y := Ne.symm (ne_of_none y2 ntx)
    have f1tx : f1 ≠ tx := ne_of_none a2 ntx
    have k3 := kpn (H := H2) (o := .lst []) (u := .ins (He.ga K "Past") dy (putF "texts" (.ref tx) [("froms", .ref f1), ("phrases", .int 0)])) (fun _ _ _ e => e) ntx
    have t3 : (upd (upd H2 tx (.lst [])) y (.ins (He.ga K "Past") dy (putF "texts" (.ref tx) [("froms", .ref f1), ("phrases", .int 0)]))) tx = some (.lst []) := by rw [upd_ne ytx, upd_same]
    have y3 : (upd (upd H2 tx (.lst [])) y (.ins (He.ga K "Past") dy (putF "texts" (.ref tx) [("froms", .ref f1), ("phrases", .int 0)]))) y = some (.ins (He.ga K "Past") dy [("froms", .ref f1), ("phrases", .int 0), ("texts", .ref tx)]) := upd_same
    generalize upd (upd H2 tx (.lst [])) y (.ins (He.ga K "Past") dy (putF "texts" (.ref tx) [("froms", .ref f1), ("phrases", .int 0)])) = H3 at k3 t3 y3 ⊢
    have a3 := k3 _ _ yf1 a2
    refine ⟨Nat.zero_le _, fun og nog => ⟨_, rfl, y, _, dy, _, rfl, same_upd nog _ _ y3, T.k_Past, T.n_Past_origins, (by show 3 < 1000; decide), ?_⟩⟩
    have yog : og ≠ y := Ne.symm (ne_of_none y3 nog)
    have f1og : f1 ≠ og := ne_of_none a3 nog
    have txog : tx ≠ og := ne_of_none t3 nog
    have k4 := kpn (H := H3) (o := .lst []) (u := .ins (He.ga K "Past") dy (putF "origins" (.ref og) [("froms", .ref f1), ("phrases", .int 0), ("texts", .ref tx)])) (fun _ _ _ e => e) nog
    have o4 : (upd (upd H3 og (.lst [])) y (.ins (He.ga K "Past") dy (putF "origins" (.ref og) [("froms", .ref f1), ("phrases", .int 0), ("texts", .ref tx)]))) og = some (.lst []) := by rw [upd_ne yog, upd_same]
    have y4 : (upd (upd H3 og (.lst [])) y (.ins (He.ga K "Past") dy (putF "origins" (.ref og) [("froms", .ref f1), ("phrases", .int 0), ("texts", .ref tx)]))) y = some (.ins (He.ga K "Past") dy [("froms", .ref f1), ("phrases", .int 0), ("texts", .ref tx), ("origins", .ref og)]) := upd_same
    generalize upd (upd H3 og (.lst [])) y (.ins (He.ga K "Past") dy (putF "origins" (.ref og) [("froms", .ref f1), ("phrases", .int 0), ("texts", .ref tx)])) = H4 at k4 o4 y4 ⊢
    have a4 := k4 _ _ yf1 a3
    have t4 := k4 _ _ ytx t3
    refine fun ev nev => ⟨_, rfl, y, _, dy, _, rfl, same_upd nev _ _ y4, T.k_Past, T.n_Past_ever, (by show 4 < 1000; decide), ?_⟩
    have yev : ev ≠ y := Ne.symm (ne_of_none y4 nev)
    have k5 := kpn (H := H4) (o := .dT []) (u := .ins (He.ga K "Past") dy (putF "ever" (.ref ev) [("froms", .ref f1), ("phrases", .int 0), ("texts", .ref tx), ("origins", .ref og)])) (fun _ _ _ e => e) nev
    have e5 : (upd (upd H4 ev (.dT [])) y (.ins (He.ga K "Past") dy (putF "ever" (.ref ev) [("froms", .ref f1), ("phrases", .int 0), ("texts", .ref tx), ("origins", .ref og)]))) ev = some (.dT []) := by rw [upd_ne yev, upd_same]
    have y5 : (upd (upd H4 ev (.dT [])) y (.ins (He.ga K "Past") dy (putF "ever" (.ref ev) [("froms", .ref f1), ("phrases", .int 0), ("texts", .ref tx), ("origins", .ref og)]))) y = some (.ins (He.ga K "Past") dy [("froms", .ref f1), ("phrases", .int 0), ("texts", .ref tx), ("origins", .ref og), ("ever", .ref ev)]) := upd_same
    generalize upd (upd H4 ev (.dT [])) y (.ins (He.ga K "Past") dy (putF "ever" (.ref ev) [("froms", .ref f1), ("phrases", .int 0), ("texts", .ref tx), ("origins", .ref og)])) = H5 at k5 e5 y5 ⊢
    refine fun pi npi => ⟨_, rfl, y, _, dy, _, rfl, same_upd npi _ _ y5, T.k_Past, T.n_Past_piles, (by show 5 < 1000; decide), ?_⟩
    have ypi : pi ≠ y := Ne.symm (ne_of_none y5 npi)
    have evpi : ev ≠ pi := ne_of_none e5 npi
    have k6 := kpn (H := H5) (o := .dT []) (u := .ins (He.ga K "Past") dy (putF "piles" (.ref pi) [("froms", .ref f1), ("phrases", .int 0), ("texts", .ref tx), ("origins", .ref og), ("ever", .ref ev)])) (fun _ _ _ e => e) npi
    have p6 : (upd (upd H5 pi (.dT [])) y (.ins (He.ga K "Past") dy (putF "piles" (.ref pi) [("froms", .ref f1), ("phrases", .int 0), ("texts", .ref tx), ("origins", .ref og), ("ever", .ref ev)]))) pi = some (.dT []) := by rw [upd_ne ypi, upd_same]
    have y6 : (upd (upd H5 pi (.dT [])) y (.ins (He.ga K "Past") dy (putF "piles" (.ref pi) [("froms", .ref f1), ("phrases", .int 0), ("texts", .ref tx), ("origins", .ref og), ("ever", .ref ev)]))) y = some (.ins (He.ga K "Past") dy (pastF 0 ⟨dy, f1, tx, og, ev, pi, [], [], fun _ _ => y, fun _ _ => y⟩)) := upd_same
    generalize upd (upd H5 pi (.dT [])) y (.ins (He.ga K "Past") dy (putF "piles" (.ref pi) [("froms", .ref f1), ("phrases", .int 0), ("texts", .ref tx), ("origins", .ref og), ("ever", .ref ev)])) = H6 at k6 p6 y6 ⊢
    have k06 : ∀ x o, x ≠ y → H x = some o → H6 x = some o := fun x o nx e => k6 _ _ nx (k5 _ _ nx (k4 _ _ nx (k3 _ _ nx (k2 _ _ nx (k1 _ _ nx e)))))
    have fr0 : ∀ p t, ¬ Dom fr 0 p t := fun p t z => Nat.not_lt_zero _ z.1
    have new : ∀ {z : Addr} {H' : Hp}, (∀ x o, x ≠ y → H x = some o → H' x = some o) → H' z = none → H z = none ∨ z = y := by
      intro z H' k nz
      by_cases c : z = y
      · exact .inr c
      · refine .inl ?_
        cases e : H z with
        | none => rfl
        | some o =>
          rw [k z o c e] at nz
          cases nz
    have k02 := fun x o nx e => k2 x o nx (k1 x o nx e)
    have k03 := fun x o nx e => k3 x o nx (k02 x o nx e)
    have k04 := fun x o nx e => k4 x o nx (k03 x o nx e)
    have k05 := fun x o nx e => k5 x o nx (k04 x o nx e)
    refine q H6 ⟨dy, f1, tx, og, ev, pi, [], [], fun _ _ => y, fun _ _ => y⟩ ⟨⟨y6, k6 _ _ yf1 (k5 _ _ yf1 a4), k6 _ _ ytx (k5 _ _ ytx t4), k6 _ _ yog (k5 _ _ yog o4), k6 _ _ yev e5, p6, fun p t d => absurd d (fr0 p t), fun p t d => absurd d (fr0 p t), txog, f1tx, f1og, evpi, fun p t d => absurd d (fr0 p t), fun p t _ _ d => absurd d (fr0 p t), fun p t _ _ d => absurd d (fr0 p t)⟩, Nat.zero_le _, fun _ _ => Nat.le_refl _, Nat.zero_le _, Nat.zero_le _⟩ k06 ?_
    rintro x (z | z | z | z | z | z | ⟨p, t, d, z⟩ | ⟨p, t, d, z⟩)
    · exact .inl z
    · exact .inr (by rw [z]; exact nf1)
    · exact (new k02 ntx).symm.imp (fun e => z.trans e) (fun e => by rw [z]; exact e)
    · exact (new k03 nog).symm.imp (fun e => z.trans e) (fun e => by rw [z]; exact e)
    · exact (new k04 nev).symm.imp (fun e => z.trans e) (fun e => by rw [z]; exact e)
    · exact (new k05 npi).symm.imp (fun e => z.trans e) (fun e => by rw [z]; exact e)
    · exact absurd d (fr0 p t)
    · exact absurd d (fr0 p t)

def txB (x : Str) : Bool := decide (1 ≤ x.length) && (decide (x.length ≤ 6) && x.cps.toList.all fun c => decide (97 ≤ c ∧ c ≤ 122))
theorem txB_ok {x : Str} (h : TxOk x) : txB x = true := by
  unfold txB
  rw [decide_eq_true h.lo, decide_eq_true h.hi, List.all_eq_true.mpr fun c hc => decide_eq_true (h.each c hc)]
  rfl
theorem txB_of {x : Str} (h : txB x = true) : TxOk x := by
  unfold txB at h
  rw [Bool.and_eq_true, Bool.and_eq_true] at h
  exact ⟨of_decide_eq_true h.1, of_decide_eq_true h.2.1, fun c hc => of_decide_eq_true (List.all_eq_true.mp h.2.2 c hc)⟩
theorem az_mem (c : Nat) : decide (c ∈ (Str.ofString "abcdefghijklmnopqrstuvwxyz").cps.toList) = decide (97 ≤ c ∧ c ≤ 122) := by
  refine decide_eq_decide.mpr ⟨fun h => ?_, fun h => ?_⟩
  · have : ∀ c ∈ (Str.ofString "abcdefghijklmnopqrstuvwxyz").cps.toList, 97 ≤ c ∧ c ≤ 122 := by decide +kernel
    exact this c h
  · have e := az_at (c - 97) (by omega)
    rw [show 97 + (c - 97) = c by omega] at e
    exact List.mem_of_getElem? e
def spIsText : Sp := fun vs H Q _ => ∃ x : Str, vs = [.str x] ∧ x.length ≤ 5000 ∧ ∀ H' : Hp, Same H H' → Q (.bl (txB x)) H'
theorem sc_is_text : FnScope ["value", "sign"] ["value"] (defScope s_is_text) := ⟨rfl, rfl, rfl, by decide +kernel, rfl, by decide +kernel, by decide +kernel⟩
theorem c_is_text {P : Program} {w : World} {K : PySem.W.Frag} {mg : Str → Option Value} {base : Heap} (T : Tx K mg) : C8.Cal P w K mg base 1 "is_text" (spIsText) [] := by
  refine calD T.F_is_text T.g_is_text (fun _ _ _ _ _ _ us hl => match us, hl with | [_], _ => rfl) sc_is_text (fun vs H Q E h => ?_) (fun cdv A outer s H vs Q E hr h => ?_)
  · obtain ⟨x, rfl, _⟩ := h
    rfl
  · obtain ⟨x, rfl, xl, q⟩ := h
    refine ⟨_, (pss_one (ps_ret (pe_and (pe_callB call_isi (by rfl) T.f_isinstance (by decide +kernel) (pa_cons (pv 0) (pa_cons (pe_bltn (v := .ty "str") (by rfl) T.f_str (by decide +kernel) rfl) pa_nil))) (pe_and (pe_chain op_le op_le pe_int (pe_callB call_len_str (by rfl) T.f_len (by decide +kernel) (pa_cons (pv 0) pa_nil)) (pe_glob (v := .int 6) rfl (T.g_MOST_LETTERS).choose_spec ⟨_, rfl⟩)) (pe_one (pe_callB (cr_all rfl) (by rfl) T.f_all (by decide +kernel) (pa_cons (pe_lc (own := [("sign", 1)]) (g := gName 1) (tt := tYes) (by rfl) sc_is_text.nd (pi_str (pv 0)) (blkOk_by (own := [("sign", 1)]) (N := ["value", "sign"]) (sc := defScope s_is_text) (by decide +kernel)) (fun _ _ _ _ _ => (pg_name (i := 1) sc_is_text.nd rfl (Or.inl rfl))) (fun _ _ _ _ _ => pts_nil) (fun _ _ _ _ _ => (pe_cmpR op_in_str (pv 1) (pe_glob (v := .str "abcdefghijklmnopqrstuvwxyz") rfl (T.g_LETTERS).choose_spec ⟨_, rfl⟩) (by rfl)))) pa_nil))))))), ?_⟩
    refine ⟨_, rfl, _, _, _, _, true, rfl, .ty _, .base (.str x), is_ty (by decide +kernel), true, rfl, iteT ?_⟩
    refine ⟨_, rfl, x, rfl, Nat.le_of_lt (small5000 xl), _, _, rfl, rfl, decide ((1 : Int) ≤ (x.length : Int)), rfl, ?_⟩
    have q0 := q H (Same.refl _)
    unfold txB at q q0
    by_cases c1 : (1 : Int) ≤ (x.length : Int)
    case neg =>
      rw [decide_eq_false c1]
      rw [decide_eq_false (show ¬ 1 ≤ x.length by omega), Bool.false_and] at q0
      exact iteF ⟨false, rfl, iteF q0⟩
    rw [decide_eq_true c1]
    rw [decide_eq_true (show 1 ≤ x.length by omega), Bool.true_and] at q q0
    refine iteT ⟨_, _, rfl, rfl, decide ((x.length : Int) ≤ 6), rfl, ?_⟩
    by_cases c2 : (x.length : Int) ≤ 6
    case neg =>
      rw [decide_eq_false c2]
      rw [decide_eq_false (show ¬ x.length ≤ 6 by omega), Bool.false_and] at q0
      exact iteF q0
    rw [decide_eq_true c2]
    rw [decide_eq_true (show x.length ≤ 6 by omega), Bool.true_and] at q
    refine iteT ⟨_, rfl, x, rfl, fun D nD => ?_⟩
    refine lc_it (walk_str (z := x)) (fun i H1 => Same H H1 ∧ H1 D = some (.lst (((x.cps.toList.take i).map fun c => decide (97 ≤ c ∧ c ≤ 122)).map V.bl))) ⟨same_upd nD, upd_same⟩ (fun _ _ _ _ => trivial) ?_ ?_
    · rintro i v H1 H2 hi ⟨s1, hD⟩ ⟨rfl, c, ec, rfl⟩
      refine ⟨rfl, _, rfl, _, _, rfl, rfl, _, hD, ?_, Same.chg s1 nD, ?_⟩
      · rw [List.length_map, List.length_map, List.length_take]
        have hi' : i < x.length := hi
        exact small5000 (by omega)
      · have ec' : x.cps.toList[i]? = some c := by rw [Array.getElem?_toList]; exact ec
        rw [upd_same, List.take_add_one, ec', Option.toList_some, List.map_append, List.map_append, StrLaws.found_one, az_mem]
        rfl
    · rintro H1 ⟨s1, hD⟩
      rw [show x.cps.size = x.cps.toList.length from Array.length_toList.symm, List.take_length] at hD
      refine ⟨D, _, rfl, SqL.of hD, qt ?_ (q _ s1)⟩
      rw [List.all_map]
      rfl
abbrev DeK (K : PySem.W.Frag) (H : Hp) (d : Addr) (fr : List Int) (S : De) (ls : List Line) (F : Addr → Prop) : Prop := Desk H (He.ga K "Desk") (He.ga K "Past") d fr S ls F
theorem df_past (p L : Addr) : (deskF p L).lookup ("past" : Str) = some (.ref p) := rfl
theorem df_lines (p L : Addr) : (deskF p L).lookup ("lines" : Str) = some (.ref L) := rfl
def spCkP (K : PySem.W.Frag) : Sp := fun vs H Q _ => ∃ (d : Addr) (fr : List Int) (S : De) (ls : List Line) (F : Addr → Prop) (p : Nat), vs = [.ref d, .int p] ∧ DeK K H d fr S ls F ∧ p < S.n ∧ Q .non H
theorem sc_Desk_check_phrase : FnScope ["self", "phrase"] ["self", "phrase"] (defScope s_Desk_check_phrase) := ⟨rfl, rfl, rfl, by decide +kernel, rfl, by decide +kernel, by decide +kernel⟩
theorem c_Desk_check_phrase {P : Program} {w : World} {K : PySem.W.Frag} {mg : Str → Option Value} {base : Heap} (T : Tx K mg) : C8.Met P w K mg base 4 (He.ga K "Desk") "check_phrase" (spCkP K) [] := by
  refine metD T.F_Desk_check_phrase T.k_Desk T.m_Desk_check_phrase (fun _ _ _ _ _ _ us hl => match us, hl with | [_, _], _ => rfl) sc_Desk_check_phrase (fun vs H Q E h => ?_) (fun cdv A outer s H vs Q E hr h => ?_)
  · obtain ⟨d, fr, S, ls, F, p, rfl, _⟩ := h
    rfl
  · obtain ⟨d, fr, S, ls, F, p, rfl, hD, hp, q⟩ := h
    refine ⟨_, (pss_one (ps_if (pt_not (pt_val (C8.pe_mt (c_Past_has_phrase T) hr (by decide) (pe_fld (pv 0) (by rfl)) (pa_cons (pv 1) pa_nil))))
      (pss_one ps_never)
      pss_nil)), ?_⟩
    obtain ⟨B, hB, hF, _⟩ := hD
    refine ⟨_, rfl, d, _, _, _, _, rfl, hB.obj, T.k_Desk, T.n_Desk_past, df_past _ _, B.p, _, _, rfl, hB.past.raw.obj, rfl, _, rfl, B.p, fr, S, B.A, (p : Int), rfl, hB.past, true, ?_, iteF q⟩
    rw [decide_eq_true (by omega : (0 : Int) ≤ (p : Int)), decide_eq_true (by omega : (p : Int) < (S.n : Int))]
    rfl
def spCkPl (K : PySem.W.Frag) : Sp := fun vs H Q _ => ∃ (d : Addr) (fr : List Int) (S : De) (ls : List Line) (F : Addr → Prop) (p t : Nat), vs = [.ref d, .int p, .int t] ∧ DeK K H d fr S ls F ∧ p < S.n ∧ t ≤ fr.length ∧ Q .non H
theorem sc_Desk_check_place : FnScope ["self", "phrase", "tongue"] ["self", "phrase", "tongue"] (defScope s_Desk_check_place) := ⟨rfl, rfl, rfl, by decide +kernel, rfl, by decide +kernel, by decide +kernel⟩
theorem c_Desk_check_place {P : Program} {w : World} {K : PySem.W.Frag} {mg : Str → Option Value} {base : Heap} (T : Tx K mg) : C8.Met P w K mg base 5 (He.ga K "Desk") "check_place" (spCkPl K) [] := by
  refine metD T.F_Desk_check_place T.k_Desk T.m_Desk_check_place (fun _ _ _ _ _ _ us hl => match us, hl with | [_, _, _], _ => rfl) sc_Desk_check_place (fun vs H Q E h => ?_) (fun cdv A outer s H vs Q E hr h => ?_)
  · obtain ⟨d, fr, S, ls, F, p, t, rfl, _⟩ := h
    rfl
  · obtain ⟨d, fr, S, ls, F, p, t, rfl, hD, hp, ht, q⟩ := h
    refine ⟨_, (pss_cons (ps_expr (C8.pe_mt (c_Desk_check_phrase T) hr (by decide) (pv 0) (pa_cons (pv 1) pa_nil)))
    (pss_one (ps_if (pt_not (pt_val (C8.pe_c (c_is_tongue T) hr (by decide) rfl (pa_cons (pe_fld (pe_fld (pv 0) (by rfl)) (by rfl)) (pa_cons (pv 2) pa_nil)))))
      (pss_one ps_never)
      pss_nil))), ?_⟩
    obtain ⟨B, hB, hF, h3⟩ := id hD
    refine ⟨_, rfl, d, _, _, rfl, hB.obj, rfl, _, rfl, d, fr, S, ls, F, p, rfl, hD, hp, ?_⟩
    refine ⟨_, rfl, d, _, _, _, _, rfl, hB.obj, T.k_Desk, T.n_Desk_past, df_past _ _, B.p, _, _, _, _, rfl, hB.past.raw.obj, T.k_Past, T.n_Past_froms, pf_froms _ _, _, rfl, B.A.f, fr, (t : Int), rfl, hB.past.raw.frm, true, ?_, iteF q⟩
    rw [decide_eq_true (by omega : (0 : Int) ≤ (t : Int)), decide_eq_true (by omega : (t : Int) ≤ (fr.length : Int))]
    rfl
def spCkO (K : PySem.W.Frag) : Sp := fun vs H Q _ => ∃ (d : Addr) (fr : List Int) (S : De) (ls : List Line) (F : Addr → Prop) (t : Nat), vs = [.ref d, .int t] ∧ DeK K H d fr S ls F ∧ 0 < t ∧ t ≤ fr.length ∧ Q .non H
def spCkT : Sp := fun vs H Q _ => ∃ (d : Addr) (x : Str), vs = [.ref d, .str x] ∧ TxOk x ∧ ∀ H', Same H H' → Q .non H'
theorem sc_Desk_check_text : FnScope ["self", "text"] ["self", "text"] (defScope s_Desk_check_text) := ⟨rfl, rfl, rfl, by decide +kernel, rfl, by decide +kernel, by decide +kernel⟩
theorem c_Desk_check_text {P : Program} {w : World} {K : PySem.W.Frag} {mg : Str → Option Value} {base : Heap} (T : Tx K mg) : C8.Met P w K mg base 2 (He.ga K "Desk") "check_text" (spCkT) [] := by
  refine metD T.F_Desk_check_text T.k_Desk T.m_Desk_check_text (fun _ _ _ _ _ _ us hl => match us, hl with | [_, _], _ => rfl) sc_Desk_check_text (fun vs H Q E h => ?_) (fun cdv A outer s H vs Q E hr h => ?_)
  · obtain ⟨d, x, rfl, _⟩ := h
    rfl
  · obtain ⟨d, x, rfl, tx, q⟩ := h
    refine ⟨_, (pss_one (ps_if (pt_not (pt_val (C8.pe_c (c_is_text T) hr (by decide) rfl (pa_cons (pv 1) pa_nil))))
      (pss_one ps_never)
      pss_nil)), ?_⟩
    refine ⟨_, rfl, x, rfl, by have := tx.hi; omega, fun H1 s1 => ⟨true, by rw [txB_ok tx], iteF (q _ s1)⟩⟩
def spFre (K : PySem.W.Frag) : Sp := fun vs H Q _ => ∃ (d : Addr) (fr : List Int) (S : De) (ls : List Line) (F : Addr → Prop) (p t : Nat), vs = [.ref d, .int p, .int t] ∧ DeK K H d fr S ls F ∧ S.Ok fr ∧ FrOk fr ∧ p < S.n ∧ t ≤ fr.length ∧ ∀ H', Same H H' → Q (.bl (chain fr (S.row (fr.length + 1) p) t).isNone) H'
theorem sc_Desk_is_fresh : FnScope ["self", "phrase", "tongue"] ["self", "phrase", "tongue"] (defScope s_Desk_is_fresh) := ⟨rfl, rfl, rfl, by decide +kernel, rfl, by decide +kernel, by decide +kernel⟩
theorem c_Desk_is_fresh {P : Program} {w : World} {K : PySem.W.Frag} {mg : Str → Option Value} {base : Heap} (T : Tx K mg) : C8.Met P w K mg base 4 (He.ga K "Desk") "is_fresh" (spFre K) [] := by
  refine metD T.F_Desk_is_fresh T.k_Desk T.m_Desk_is_fresh (fun _ _ _ _ _ _ us hl => match us, hl with | [_, _, _], _ => rfl) sc_Desk_is_fresh (fun vs H Q E h => ?_) (fun cdv A outer s H vs Q E hr h => ?_)
  · obtain ⟨d, fr, S, ls, F, p, t, rfl, _⟩ := h
    rfl
  · obtain ⟨d, fr, S, ls, F, p, t, rfl, hD, ok, fo, hp, ht, q⟩ := h
    refine ⟨_, (pss_one (ps_ret (pe_cmpR op_isN (C8.pe_c (c_chain_up T) hr (by decide) rfl (pa_cons (pe_fld (pe_fld (pv 0) (by rfl)) (by rfl)) (pa_cons (C8.pe_mt (c_Past_cells T) hr (by decide) (pe_fld (pv 0) (by rfl)) (pa_cons (pv 1) pa_nil)) (pa_cons (pv 2) pa_nil)))) pe_non (nomark _)))), ?_⟩
    obtain ⟨B, hB, hF, h3⟩ := id hD
    refine ⟨_, rfl, d, _, _, _, _, rfl, hB.obj, T.k_Desk, T.n_Desk_past, df_past _ _, B.p, _, _, _, _, rfl, hB.past.raw.obj, T.k_Past, T.n_Past_froms, pf_froms _ _, _, rfl, d, _, _, _, _, rfl, hB.obj, T.k_Desk, T.n_Desk_past, df_past _ _, B.p, _, _, rfl, hB.past.raw.obj, rfl, _, rfl, B.p, fr, S, B.A, p, rfl, hB.past, ok.num, fo, hp, fun H1 r s1 nr hr1 => ?_⟩
    refine ⟨_, rfl, B.A.f, fr, r, _, t, rfl, hB.past.raw.frm.same s1, fo, hr1, ok.row hp, ht, fun e H2 s2 => ⟨rfl, qt ?_ (q _ (s1.trans s2))⟩, fun c e H2 l s2 nl hl => ⟨rfl, qt ?_ (q _ (s1.trans s2))⟩⟩
    · rw [e]
      rfl
    · rw [e]
      rfl

theorem De.none_ok {fr : List Int} : De.none.Ok fr := ⟨fun p t k h => (nomatch h), Nat.zero_le _, fun p h => absurd h (Nat.not_lt_zero _), fun k u h => (nomatch h)⟩
def spDeskInit (K : PySem.W.Frag) : Sp := fun vs H Q _ => ∃ (y dy f : Addr) (fr : List Int), vs = [.ref y, .ref f] ∧ H y = some (.ins (He.ga K "Desk") dy []) ∧ LsAt H f fr ∧ FrOk fr ∧
  ∀ (H' : Hp) (F : Addr → Prop), DeK K H' y fr De.none [] F → (∀ x o, x ≠ y → H x = some o → H' x = some o) → (∀ x, F x → x = y ∨ H x = none) → Q .non H'
theorem sc_Desk_init : FnScope ["self", "froms"] ["self", "froms"] (defScope s_Desk_init) := ⟨rfl, rfl, rfl, by decide +kernel, rfl, by decide +kernel, by decide +kernel⟩
theorem c_Desk_init {P : Program} {w : World} {K : PySem.W.Frag} {mg : Str → Option Value} {base : Heap} (T : Tx K mg) : C8.Mak P w K mg base 4 "Desk" (He.ga K "Desk") (spDeskInit K) [] := by
  refine makD T.F_Desk_init T.i_Desk T.g_Desk (fun _ _ _ _ _ _ us hl => match us, hl with | [_, _], _ => rfl) sc_Desk_init (fun vs H Q E h => ?_) (fun cdv A outer s H vs Q E hr h => ?_)
  · obtain ⟨y, dy, f, fr, rfl, _⟩ := h
    rfl
  · obtain ⟨y, dy, f, fr, rfl, hy, hf, fo, q⟩ := h
    refine ⟨_, (pss_cons (ps_if (pt_not (pt_val (C8.pe_c (c_is_froms T) hr (by decide) rfl (pa_cons (pv 1) pa_nil))))
      (pss_one ps_never)
      pss_nil)
    (pss_cons (ps_fld (pv 0) (C8.pe_mk (c_Past_init T) hr (by decide) rfl (pa_cons (pv 1) pa_nil)) rfl)
    (pss_one (ps_fld (pv 0) (pe_lst pa_nil) rfl)))), ?_⟩
    refine ⟨_, rfl, f, fr, rfl, hf, fo, fun H1 s1 => ⟨true, rfl, iteF ?_⟩⟩
    have hy1 := s1 _ _ hy
    refine ⟨_, rfl, fun p dp np ndp dne => ⟨p, dp, f, fr, rfl, upd_same, ?_, fun H2 A hP k2 f2 => ⟨rfl, ?_⟩⟩⟩
    · have ha := hf.same s1
      unfold LsAt
      rw [upd_ne (ne_of_none ha np), upd_ne (ne_of_none ha ndp)]
      exact ha
    have k12 : ∀ x o, H1 x = some o → H2 x = some o := fun x o e => k2 x o (ne_of_none e np) (by rw [upd_ne (ne_of_none e np), upd_ne (ne_of_none e ndp)]; exact e)
    have hy2 := k12 _ _ hy1
    have yp : y ≠ p := ne_of_none hy1 np
    have f12 : ∀ x, footP p fr 0 A x → H1 x = none := by
      intro x fx
      rcases f2 x fx with z | z
      · rw [z]
        exact np
      · cases e : H1 x with
        | none => rfl
        | some o =>
          rw [upd_ne (ne_of_none e np), upd_ne (ne_of_none e ndp), e] at z
          cases z
    have nyf : ¬ footP p fr 0 A y := fun z => by
      have := f12 y z
      rw [hy1] at this
      cases this
    refine ⟨_, rfl, y, _, dy, [], rfl, hy2, T.k_Desk, T.n_Desk_past, (by show 0 < 1000; decide), ?_⟩
    have hP3 : PastAt (upd H2 y (.ins (He.ga K "Desk") dy (putF "past" (.ref p) []))) (He.ga K "Past") p fr De.none A := hP.keep fun x o fx e => by
      rw [upd_ne (fun z => nyf (by rw [← z]; exact fx))]
      exact e
    have hy3 : (upd H2 y (.ins (He.ga K "Desk") dy (putF "past" (.ref p) []))) y = some (.ins (He.ga K "Desk") dy [("past", .ref p)]) := upd_same
    have k3 : ∀ x o, x ≠ y → H1 x = some o → (upd H2 y (.ins (He.ga K "Desk") dy (putF "past" (.ref p) []))) x = some o := fun x o nx e => by rw [upd_ne nx]; exact k12 x o e
    generalize upd H2 y (.ins (He.ga K "Desk") dy (putF "past" (.ref p) [])) = H3 at hP3 hy3 k3 ⊢
    refine ⟨Nat.zero_le _, fun L nL => ⟨_, rfl, y, _, dy, _, rfl, same_upd nL _ _ hy3, T.k_Desk, T.n_Desk_lines, (by show 1 < 1000; decide), ?_⟩⟩
    have yL : L ≠ y := Ne.symm (ne_of_none hy3 nL)
    have nLf : ¬ footP p fr 0 A L := fun z => by
      obtain ⟨o, e, _⟩ := hP3.raw.foot z
      rw [nL] at e
      cases e
    have k5 : ∀ x o, x ≠ y → H3 x = some o → (upd (upd H3 L (.lst [])) y (.ins (He.ga K "Desk") dy (putF "lines" (.ref L) [("past", .ref p)]))) x = some o := fun x o nx e => by
      rw [upd_ne nx, upd_ne (ne_of_none e nL)]
      exact e
    have hP5 : PastAt (upd (upd H3 L (.lst [])) y (.ins (He.ga K "Desk") dy (putF "lines" (.ref L) [("past", .ref p)]))) (He.ga K "Past") p fr De.none A := hP3.keep fun x o fx e => k5 x o (fun z => nyf (by rw [← z]; exact fx)) e
    have D5 : DeskAt (upd (upd H3 L (.lst [])) y (.ins (He.ga K "Desk") dy (putF "lines" (.ref L) [("past", .ref p)]))) (He.ga K "Desk") (He.ga K "Past") y fr De.none [] ⟨dy, p, L, A⟩ := ⟨upd_same, hP5, ⟨[], by rw [upd_ne yL, upd_same], All2.nil⟩, nyf, nLf⟩
    refine q _ _ (desk_of D5) (fun x o nx e => k5 x o nx (k3 x o nx (s1 _ _ e))) ?_
    rintro x (z | z | z)
    · exact .inl z
    · have z' : x = L := z
      refine .inr ?_
      rw [z']
      cases e : H L with
      | none => rfl
      | some o =>
        rw [k3 L o yL (s1 _ _ e)] at nL
        cases nL
    · exact .inr (s1.free (f12 x z))
def spPut (K : PySem.W.Frag) : Sp := fun vs H Q _ => ∃ (d : Addr) (fr : List Int) (S : De) (ls : List Line) (F : Addr → Prop) (p t : Nat) (x : Str) (s o : Option Int), vs = [.ref d, .int p, .int t, .str x, oV s, oV o] ∧ DeK K H d fr S ls F ∧ FrOk fr ∧ S.May fr (.put p t x s o) ∧ S.puts.length < 5000 ∧ ls.length < 5000 ∧
  Goes (He.ga K "Desk") (He.ga K "Past") d fr H F (S.lay p t x s) (ls ++ [.put p t x s o (S.puts.length : Int)]) (Q (.int (S.puts.length : Int)))
theorem De.seen_in {fr : List Int} {S : De} {p t : Nat} {s : Option Int} (h : S.Seen fr p t s) : s ∈ S.seens fr p t := by
  unfold De.seens
  by_cases c : t = 0
  · rw [if_pos c, h.1 c]
    exact List.mem_singleton.mpr rfl
  · rw [if_neg c]
    obtain ⟨k, rfl, v, e1, e2, e3⟩ := h.2 (by omega)
    refine List.mem_map.mpr ⟨((k : Int), v.x), evG_mem.mpr ⟨k, v, e1, e2, e3, ?_⟩, rfl⟩
    rw [Nat.zero_add]
/-- lines with one more -/
theorem DeskAt.line {H H1 : Hp} {CD CP d : Addr} {fr : List Int} {S S' : De} {ls : List Line} {B B' : DA} {vs : List V} {n : Line} {q : Addr} (h : DeskAt H CD CP d fr S ls B) (o : Only (footP B.p fr S.n B.A) H H1) (hP : PastAt H1 CP B.p fr S' B'.A) (e1 : B'.dx = B.dx) (e2 : B'.p = B.p) (e3 : B'.L = B.L)
    (nf : ∀ x, footP B.p fr S'.n B'.A x → footP B.p fr S.n B.A x ∨ H x = none) (hv : H B.L = some (.lst vs)) (hq : (upd H1 q (.tup n.vals)) q = some (.tup n.vals)) (nq : H1 q = none) :
    (upd H1 q (.tup n.vals)) B.L = some (.lst vs) ∧ DeskAt (upd (upd H1 q (.tup n.vals)) B.L (.lst (vs ++ [.ref q]))) CD CP d fr S' (ls ++ [n]) B' := by
  obtain ⟨dx, p, L, A⟩ := B
  obtain ⟨dx', p', L', A'⟩ := B'
  cases e1
  cases e2
  cases e3
  have s2 : Same H1 (upd H1 q (.tup n.vals)) := same_upd nq
  have hl1 := o.out _ _ h.nL hv
  have hl2 := s2 _ _ hl1
  have nL' : ¬ footP p fr S'.n A' L := fun z => (nf L z).elim h.nL fun y => by rw [hv] at y; cases y
  have nd' : ¬ footP p fr S'.n A' d := fun z => (nf d z).elim h.nd fun y => by rw [h.obj] at y; cases y
  refine ⟨hl2, ⟨?_, (hP.same s2).keep fun x o fx e => ?_, ?_, nd', nL'⟩⟩
  · have := s2 _ _ (o.out _ _ h.nd h.obj)
    rw [upd_ne (ne_of h.obj hv (fun z => nomatch z))]
    exact this
  · rw [upd_ne (fun z => nL' (by have z' : x = L := z; rw [← z']; exact fx))]
    exact e
  · have tupk : ∀ {a : Addr} {xs : List V}, H a = some (.tup xs) → H1 a = some (.tup xs) := fun {a xs} e => o.out _ _ (fun z => by
      obtain ⟨u, eu, nu⟩ := h.past.raw.foot z
      rw [e] at eu
      exact nu _ (Option.some.inj eu).symm) e
    obtain ⟨ws, hw, ha⟩ := h.lines
    rw [hv] at hw
    cases (HO.lst.inj (Option.some.inj hw))
    have l2 : LnAt (upd H1 q (.tup n.vals)) L ls := ⟨vs, hl2, ha.mono fun _ _ ⟨a, z, u⟩ => ⟨a, z, s2 _ _ (tupk u)⟩⟩
    exact l2.snoc hl2 ⟨q, rfl, hq⟩
theorem sc_Desk_put : FnScope ["self", "phrase", "tongue", "text", "seen", "over", "number"] ["self", "phrase", "tongue", "text", "seen", "over"] (defScope s_Desk_put) := ⟨rfl, rfl, rfl, by decide +kernel, rfl, by decide +kernel, by decide +kernel⟩
theorem c_Desk_put {P : Program} {w : World} {K : PySem.W.Frag} {mg : Str → Option Value} {base : Heap} (T : Tx K mg) : C8.Met P w K mg base 6 (He.ga K "Desk") "put" (spPut K) [] := by
  refine metD T.F_Desk_put T.k_Desk T.m_Desk_put (fun _ _ _ _ _ _ us hl => match us, hl with | [_, _, _, _, _, _], _ => rfl) sc_Desk_put (fun vs H Q E h => ?_) (fun cdv A outer s H vs Q E hr h => ?_)
  · obtain ⟨d, fr, S, ls, F, p, t, x, s0, ov, rfl, _⟩ := h
    rfl
  · obtain ⟨d, fr, S, ls, F, p, t, x, s0, ov, rfl, hD, fo, may, fw, lw, q⟩ := h
    refine ⟨_, (pss_cons (ps_expr (C8.pe_mt (c_Desk_check_place T) hr (by decide) (pv 0) (pa_cons (pv 1) (pa_cons (pv 2) pa_nil))))
    (pss_cons (ps_expr (C8.pe_mt (c_Desk_check_text T) hr (by decide) (pv 0) (pa_cons (pv 3) pa_nil)))
    (pss_cons (ps_if (pt_not (pt_val (C8.pe_mt (c_Past_was_seen T) hr (by decide) (pe_fld (pv 0) (by rfl)) (pa_cons (pv 1) (pa_cons (pv 2) (pa_cons (pv 4) pa_nil))))))
      (pss_one ps_never)
      pss_nil)
    (pss_cons (ps_if (pt_not (pt_val (C8.pe_mt (c_Past_is_over T) hr (by decide) (pe_fld (pv 0) (by rfl)) (pa_cons (pv 1) (pa_cons (pv 2) (pa_cons (pv 5) pa_nil))))))
      (pss_one ps_never)
      pss_nil)
    (pss_cons (ps_set (i := 6) sc_Desk_put.nd rfl (Or.inl rfl) (C8.pe_mt (c_Past_lay_down T) hr (by decide) (pe_fld (pv 0) (by rfl)) (pa_cons (pv 1) (pa_cons (pv 2) (pa_cons (pv 3) (pa_cons (pv 4) pa_nil))))))
    (pss_cons (ps_expr (pe_bm PySem.F.plainAttrs_list PySem.F.slot_list_append PySem.F.type_list_append mt_append (pe_fld (pv 0) (by rfl)) (pa_cons (pe_tup (pa_cons pe_str (pa_cons (pv 1) (pa_cons (pv 2) (pa_cons (pv 3) (pa_cons (pv 4) (pa_cons (pv 5) (pa_cons (pv 6) pa_nil)))))))) pa_nil)))
    (pss_one (ps_ret (pv 6))))))))), ?_⟩
    obtain ⟨hp, ht, tx, eo, sn⟩ := may
    obtain ⟨B, hB, hF, h3⟩ := id hD
    refine ⟨_, rfl, d, _, _, rfl, hB.obj, rfl, _, rfl, _, rfl, d, fr, S, ls, F, p, t, rfl, hD, hp, ht, ?_⟩
    refine ⟨_, rfl, d, _, _, rfl, hB.obj, rfl, _, rfl, d, x, rfl, tx, fun H1 s1 => ?_⟩
    have hB1 : DeskAt H1 (He.ga K "Desk") (He.ga K "Past") d fr S ls B := hB.keep (fun x o _ e => s1 _ _ e) (fun _ _ e => s1 _ _ e)
    refine ⟨_, rfl, d, _, _, _, _, rfl, hB1.obj, T.k_Desk, T.n_Desk_past, df_past _ _, B.p, _, _, rfl, hB1.past.raw.obj, rfl, _, rfl, _, rfl, _, rfl, B.p, fr, S, B.A, p, t, s0, rfl, hB1.past, fo, hp, ht, fun H2 s2 => ⟨true, by rw [decide_eq_true (De.seen_in sn)], iteF ?_⟩⟩
    have hB2 : DeskAt H2 (He.ga K "Desk") (He.ga K "Past") d fr S ls B := hB1.keep (fun x o _ e => s2 _ _ e) (fun _ _ e => s2 _ _ e)
    refine ⟨_, rfl, d, _, _, _, _, rfl, hB2.obj, T.k_Desk, T.n_Desk_past, df_past _ _, B.p, _, _, rfl, hB2.past.raw.obj, rfl, _, rfl, _, rfl, _, rfl, B.p, fr, S, B.A, p, t, ov, rfl, hB2.past, hp, ht, fun H3 s3 => ⟨true, by rw [decide_eq_true eo], iteF ?_⟩⟩
    have hB3 : DeskAt H3 (He.ga K "Desk") (He.ga K "Past") d fr S ls B := hB2.keep (fun x o _ e => s3 _ _ e) (fun _ _ e => s3 _ _ e)
    have s03 := (s1.trans s2).trans s3
    refine ⟨_, rfl, d, _, _, _, _, rfl, hB3.obj, T.k_Desk, T.n_Desk_past, df_past _ _, B.p, _, _, rfl, hB3.past.raw.obj, rfl, _, rfl, _, rfl, _, rfl, _, rfl, B.p, fr, S, B.A, p, t, x, s0, rfl, hB3.past, hp, ht, fw, fun H4 hP4 o4 => ?_⟩
    obtain ⟨vs, hv, hal⟩ := hB3.lines
    have hd4 := o4.out _ _ hB3.nd hB3.obj
    have hL4 := o4.out _ _ hB3.nL hv
    refine ⟨_, rfl, d, _, _, _, _, rfl, hd4, T.k_Desk, T.n_Desk_lines, df_lines _ _, .inl ⟨rfl, _, SqL.of hL4⟩, _, rfl, _, rfl, _, rfl, _, rfl, _, rfl, _, rfl, (by show 7 ≤ sizeLine; decide), fun b nb => ?_⟩
    obtain ⟨hl5, hB5⟩ := hB3.line (B' := B) (n := .put p t x s0 ov (S.puts.length : Int)) (q := b) o4 hP4 rfl rfl rfl (fun x z => .inl z) hv upd_same nb
    refine ⟨B.L, _, _, rfl, rfl, hl5, by rw [hal.len]; exact small5000 (by omega), ?_⟩
    refine ⟨_, rfl, q _ _ (desk_of hB5) ?_ ?_⟩
    · have o5 := (o4.same (same_upd nb (o := .tup (Line.put p t x s0 ov (S.puts.length : Int)).vals))).mono (G := F) fun x z => hF x (.inr (.inr z))
      have o6 := o5.set (y := B.L) (o := .lst (vs ++ [V.ref b])) (hF _ (.inr (.inl rfl)))
      exact (only_same s03).trans o6
    · exact fun x z => .inl (hF x z)
def spPhrase (K : PySem.W.Frag) : Sp := fun vs H Q _ => ∃ (d : Addr) (fr : List Int) (S : De) (ls : List Line) (F : Addr → Prop) (x : Str), vs = [.ref d, .str x] ∧ DeK K H d fr S ls F ∧ FrOk fr ∧ S.Ok fr ∧ S.May fr (.phrase x) ∧ S.puts.length < 5000 ∧ ls.length < 5000 ∧
  Goes (He.ga K "Desk") (He.ga K "Past") d fr H F (S.more.lay S.n 0 x none) (ls ++ [.phrase S.n x (S.puts.length : Int)]) (Q (.int (S.n : Int)))
theorem sc_Desk_phrase : FnScope ["self", "text", "phrase", "number"] ["self", "text"] (defScope s_Desk_phrase) := ⟨rfl, rfl, rfl, by decide +kernel, rfl, by decide +kernel, by decide +kernel⟩
theorem c_Desk_phrase {P : Program} {w : World} {K : PySem.W.Frag} {mg : Str → Option Value} {base : Heap} (T : Tx K mg) : C8.Met P w K mg base 3 (He.ga K "Desk") "phrase" (spPhrase K) [] := by
  refine metD T.F_Desk_phrase T.k_Desk T.m_Desk_phrase (fun _ _ _ _ _ _ us hl => match us, hl with | [_, _], _ => rfl) sc_Desk_phrase (fun vs H Q E h => ?_) (fun cdv A outer s H vs Q E hr h => ?_)
  · obtain ⟨d, fr, S, ls, F, x, rfl, _⟩ := h
    rfl
  · obtain ⟨d, fr, S, ls, F, x, rfl, hD, fo, ok, may, fw, lw, q⟩ := h
    refine ⟨_, (pss_cons (ps_expr (C8.pe_mt (c_Desk_check_text T) hr (by decide) (pv 0) (pa_cons (pv 1) pa_nil)))
    (pss_cons (ps_if (pt_cmpR op_ge (pe_fld (pe_fld (pv 0) (by rfl)) (by rfl)) (pe_glob (v := .int 6) rfl (T.g_MOST_PHRASES).choose_spec ⟨_, rfl⟩) (nomark _))
      (pss_one ps_never)
      pss_nil)
    (pss_cons (ps_set (i := 2) sc_Desk_phrase.nd rfl (Or.inl rfl) (C8.pe_mt0 (c_Past_begin_phrase T) hr (by decide) (pe_fld (pv 0) (by rfl))))
    (pss_cons (ps_set (i := 3) sc_Desk_phrase.nd rfl (Or.inl rfl) (C8.pe_mt (c_Past_lay_down T) hr (by decide) (pe_fld (pv 0) (by rfl)) (pa_cons (pv 2) (pa_cons pe_int (pa_cons (pv 1) (pa_cons pe_non pa_nil))))))
    (pss_cons (ps_expr (pe_bm PySem.F.plainAttrs_list PySem.F.slot_list_append PySem.F.type_list_append mt_append (pe_fld (pv 0) (by rfl)) (pa_cons (pe_tup (pa_cons pe_str (pa_cons (pv 2) (pa_cons (pv 1) (pa_cons (pv 3) pa_nil))))) pa_nil)))
    (pss_one (ps_ret (pv 2)))))))), ?_⟩
    obtain ⟨n6, tx⟩ := may
    obtain ⟨B, hB, hF, h3⟩ := id hD
    refine ⟨_, rfl, d, _, _, rfl, hB.obj, rfl, _, rfl, d, x, rfl, tx, fun H1 s1 => ?_⟩
    have hB1 : DeskAt H1 (He.ga K "Desk") (He.ga K "Past") d fr S ls B := hB.keep (fun x o _ e => s1 _ _ e) (fun _ _ e => s1 _ _ e)
    refine ⟨_, rfl, d, _, _, _, _, rfl, hB1.obj, T.k_Desk, T.n_Desk_past, df_past _ _, B.p, _, _, _, _, rfl, hB1.past.raw.obj, T.k_Past, T.n_Past_phrases, pf_phrases _ _, _, _, rfl, rfl, false, congrArg V.bl (decide_eq_false (by omega)), iteF ?_⟩
    refine ⟨_, rfl, d, _, _, _, _, rfl, hB1.obj, T.k_Desk, T.n_Desk_past, df_past _ _, B.p, _, _, rfl, hB1.past.raw.obj, rfl, B.p, fr, S, B.A, rfl, hB1.past, ok, fo, n6, fun H2 A2 hP2 o2 f2 => ?_⟩
    have hd2 := o2.out _ _ hB1.nd hB1.obj
    refine ⟨_, rfl, d, _, _, _, _, rfl, hd2, T.k_Desk, T.n_Desk_past, df_past _ _, B.p, _, _, rfl, hP2.raw.obj, rfl, _, rfl, _, rfl, B.p, fr, S.more, A2, S.n, 0, x, none, rfl, hP2, Nat.lt_succ_self _, Nat.zero_le _, fw, fun H4 hP4 o4' => ?_⟩
    have o4 : Only (footP B.p fr S.n B.A) H1 H4 := by
      refine ⟨fun y o n e => o4'.out y o (fun z => (f2 y z).elim n fun w => by rw [e] at w; cases w) (o2.out y o n e), fun y o e => ?_⟩
      obtain ⟨u, eu⟩ := o2.grow y o e
      exact o4'.grow y u eu
    obtain ⟨vs, hv, hal⟩ := hB1.lines
    have hd4 := o4.out _ _ hB1.nd hB1.obj
    have hL4 := o4.out _ _ hB1.nL hv
    refine ⟨_, rfl, d, _, _, _, _, rfl, hd4, T.k_Desk, T.n_Desk_lines, df_lines _ _, .inl ⟨rfl, _, SqL.of hL4⟩, _, rfl, _, rfl, _, rfl, (by show 4 ≤ sizeLine; decide), fun b nb => ?_⟩
    obtain ⟨hl5, hB5⟩ := hB1.line (B' := ⟨B.dx, B.p, B.L, A2⟩) (n := .phrase S.n x (S.puts.length : Int)) (q := b) o4 hP4 rfl rfl rfl f2 hv upd_same nb
    refine ⟨B.L, _, _, rfl, rfl, hl5, by rw [hal.len]; exact small5000 (by omega), ?_⟩
    refine ⟨_, rfl, q _ _ (desk_of hB5) ?_ ?_⟩
    · have o5 := (o4.same (same_upd nb (o := .tup (Line.phrase S.n x (S.puts.length : Int)).vals))).mono (G := F) fun x z => hF x (.inr (.inr z))
      have o6 := o5.set (y := B.L) (o := .lst (vs ++ [V.ref b])) (hF _ (.inr (.inl rfl)))
      exact (only_same s1).trans o6
    · rintro y (z | z | z)
      · exact .inl (hF y (.inl z))
      · exact .inl (hF y (.inr (.inl z)))
      · exact (f2 y z).imp (fun w => hF y (.inr (.inr w))) (fun w => s1.free w)
def spBack (K : PySem.W.Frag) : Sp := fun vs H Q _ => ∃ (d : Addr) (fr : List Int) (S : De) (ls : List Line) (F : Addr → Prop) (p t : Nat) (k : Int), vs = [.ref d, .int p, .int t] ∧ DeK K H d fr S ls F ∧ S.May fr (.back p t) ∧ S.now p t = some k ∧ ls.length < 5000 ∧
  Goes (He.ga K "Desk") (He.ga K "Past") d fr H F (S.off p t) (ls ++ [.back p t k]) (Q (.int k))
theorem sc_Desk_back : FnScope ["self", "phrase", "tongue", "number"] ["self", "phrase", "tongue"] (defScope s_Desk_back) := ⟨rfl, rfl, rfl, by decide +kernel, rfl, by decide +kernel, by decide +kernel⟩
theorem c_Desk_back {P : Program} {w : World} {K : PySem.W.Frag} {mg : Str → Option Value} {base : Heap} (T : Tx K mg) : C8.Met P w K mg base 6 (He.ga K "Desk") "back" (spBack K) [] := by
  refine metD T.F_Desk_back T.k_Desk T.m_Desk_back (fun _ _ _ _ _ _ us hl => match us, hl with | [_, _, _], _ => rfl) sc_Desk_back (fun vs H Q E h => ?_) (fun cdv A outer s H vs Q E hr h => ?_)
  · obtain ⟨d, fr, S, ls, F, p, t, k, rfl, _⟩ := h
    rfl
  · obtain ⟨d, fr, S, ls, F, p, t, k, rfl, hD, may, ek, lw, q⟩ := h
    refine ⟨_, (pss_cons (ps_expr (C8.pe_mt (c_Desk_check_place T) hr (by decide) (pv 0) (pa_cons (pv 1) (pa_cons (pv 2) pa_nil))))
    (pss_cons (ps_if (pt_not (pt_val (C8.pe_mt (c_Past_can_take_off T) hr (by decide) (pe_fld (pv 0) (by rfl)) (pa_cons (pv 1) (pa_cons (pv 2) pa_nil)))))
      (pss_one ps_never)
      pss_nil)
    (pss_cons (ps_set (i := 3) sc_Desk_back.nd rfl (Or.inl rfl) (C8.pe_mt (c_Past_take_off T) hr (by decide) (pe_fld (pv 0) (by rfl)) (pa_cons (pv 1) (pa_cons (pv 2) pa_nil))))
    (pss_cons (ps_expr (pe_bm PySem.F.plainAttrs_list PySem.F.slot_list_append PySem.F.type_list_append mt_append (pe_fld (pv 0) (by rfl)) (pa_cons (pe_tup (pa_cons pe_str (pa_cons (pv 1) (pa_cons (pv 2) (pa_cons (pv 3) pa_nil))))) pa_nil)))
    (pss_one (ps_ret (pv 3))))))), ?_⟩
    obtain ⟨hp, ht, hl⟩ := may
    obtain ⟨B, hB, hF, h3⟩ := id hD
    refine ⟨_, rfl, d, _, _, rfl, hB.obj, rfl, _, rfl, _, rfl, d, fr, S, ls, F, p, t, rfl, hD, hp, ht, ?_⟩
    refine ⟨_, rfl, d, _, _, _, _, rfl, hB.obj, T.k_Desk, T.n_Desk_past, df_past _ _, B.p, _, _, rfl, hB.past.raw.obj, rfl, _, rfl, _, rfl, B.p, fr, S, B.A, p, t, rfl, hB.past, hp, ht, fun H1 s1 => ⟨true, by rw [decide_eq_true hl], iteF ?_⟩⟩
    have hB1 : DeskAt H1 (He.ga K "Desk") (He.ga K "Past") d fr S ls B := hB.keep (fun x o _ e => s1 _ _ e) (fun _ _ e => s1 _ _ e)
    refine ⟨_, rfl, d, _, _, _, _, rfl, hB1.obj, T.k_Desk, T.n_Desk_past, df_past _ _, B.p, _, _, rfl, hB1.past.raw.obj, rfl, _, rfl, _, rfl, B.p, fr, S, B.A, p, t, k, rfl, hB1.past, hp, ht, ek, fun H4 hP4 o4 => ?_⟩
    obtain ⟨vs, hv, hal⟩ := hB1.lines
    have hd4 := o4.out _ _ hB1.nd hB1.obj
    have hL4 := o4.out _ _ hB1.nL hv
    refine ⟨_, rfl, d, _, _, _, _, rfl, hd4, T.k_Desk, T.n_Desk_lines, df_lines _ _, .inl ⟨rfl, _, SqL.of hL4⟩, _, rfl, _, rfl, _, rfl, (by show 4 ≤ sizeLine; decide), fun b nb => ?_⟩
    obtain ⟨hl5, hB5⟩ := hB1.line (B' := B) (n := .back p t k) (q := b) o4 hP4 rfl rfl rfl (fun x z => .inl z) hv upd_same nb
    refine ⟨B.L, _, _, rfl, rfl, hl5, by rw [hal.len]; exact small5000 (by omega), ?_⟩
    refine ⟨_, rfl, q _ _ (desk_of hB5) ?_ ?_⟩
    · have o5 := (o4.same (same_upd nb (o := .tup (Line.back p t k).vals))).mono (G := F) fun x z => hF x (.inr (.inr z))
      have o6 := o5.set (y := B.L) (o := .lst (vs ++ [V.ref b])) (hF _ (.inr (.inl rfl)))
      exact (only_same s1).trans o6
    · exact fun x z => .inl (hF x z)

def spNowD (K : PySem.W.Frag) : Sp := fun vs H Q _ => ∃ (d : Addr) (fr : List Int) (S : De) (ls : List Line) (F : Addr → Prop) (p t : Nat), vs = [.ref d, .int p, .int t] ∧ DeK K H d fr S ls F ∧ S.Num ∧ p < S.n ∧ t ≤ fr.length ∧ (S.now p t = none → ∀ H' : Hp, Same H H' → Q .non H') ∧
  ∀ k, S.now p t = some k → ∀ (H' : Hp) (r : Addr), Same H H' → H r = none → H' r = some (.tup [.int k, .str (S.pt k).x]) → Q (.ref r) H'
theorem sc_Desk_now : FnScope ["self", "phrase", "tongue", "number"] ["self", "phrase", "tongue"] (defScope s_Desk_now) := ⟨rfl, rfl, rfl, by decide +kernel, rfl, by decide +kernel, by decide +kernel⟩
theorem c_Desk_now {P : Program} {w : World} {K : PySem.W.Frag} {mg : Str → Option Value} {base : Heap} (T : Tx K mg) : C8.Met P w K mg base 6 (He.ga K "Desk") "now" (spNowD K) [] := by
  refine metD T.F_Desk_now T.k_Desk T.m_Desk_now (fun _ _ _ _ _ _ us hl => match us, hl with | [_, _, _], _ => rfl) sc_Desk_now (fun vs H Q E h => ?_) (fun cdv A outer s H vs Q E hr h => ?_)
  · obtain ⟨d, fr, S, ls, F, p, t, rfl, _⟩ := h
    rfl
  · obtain ⟨d, fr, S, ls, F, p, t, rfl, hD, hN, hp, ht, q0, q1⟩ := h
    refine ⟨_, (pss_cons (ps_expr (C8.pe_mt (c_Desk_check_place T) hr (by decide) (pv 0) (pa_cons (pv 1) (pa_cons (pv 2) pa_nil))))
    (pss_cons (ps_set (i := 3) sc_Desk_now.nd rfl (Or.inl rfl) (C8.pe_mt (c_Past_standing T) hr (by decide) (pe_fld (pv 0) (by rfl)) (pa_cons (pv 1) (pa_cons (pv 2) pa_nil))))
    (pss_one (ps_ret (pe_ifExp (pt_cmpR op_isN (pv 3) pe_non (nomark _)) pe_non (pe_tup (pa_cons (pv 3) (pa_cons (pe_ix ix_list (pe_fld (pe_fld (pv 0) (by rfl)) (by rfl)) (pv 3) (fun _ _ => rfl)) pa_nil)))))))), ?_⟩
    obtain ⟨B, hB, hF, h3⟩ := id hD
    refine ⟨_, rfl, d, _, _, rfl, hB.obj, rfl, _, rfl, _, rfl, d, fr, S, ls, F, p, t, rfl, hD, hp, ht, ?_⟩
    refine ⟨_, rfl, d, _, _, _, _, rfl, hB.obj, T.k_Desk, T.n_Desk_past, df_past _ _, B.p, _, _, rfl, hB.past.raw.obj, rfl, _, rfl, _, rfl, B.p, fr, S, B.A, p, t, rfl, hB.past, hp, ht, fun H1 s1 => ?_⟩
    have hB1 : DeskAt H1 (He.ga K "Desk") (He.ga K "Past") d fr S ls B := hB.keep (fun x o _ e => s1 _ _ e) (fun _ _ e => s1 _ _ e)
    cases en : S.now p t with
    | none => exact ⟨_, rfl, rfl, true, rfl, iteT (q0 en _ s1)⟩
    | some k =>
      obtain ⟨k0, u, eu, _, _⟩ := hN.now en
      refine ⟨_, rfl, rfl, false, rfl, iteF ⟨_, rfl, _, rfl, d, _, _, _, _, rfl, hB1.obj, T.k_Desk, T.n_Desk_past, df_past _ _, B.p, _, _, _, _, rfl, hB1.past.raw.obj, T.k_Past, T.n_Past_texts, pf_texts _ _, _, rfl, B.A.tx, _, _, _, rfl, rfl, SqL.of hB1.past.raw.tx, at_of (j := k.toNat) (by omega) (lookup_at eu), (by show 2 ≤ sizeLine; decide), fun r nr => ?_⟩⟩
      refine q1 k en _ r (s1.trans (same_upd nr)) (s1.free nr) ?_
      rw [upd_same, De.pt_at eu]
      rfl
def spRowD (K : PySem.W.Frag) : Sp := fun vs H Q _ => ∃ (d : Addr) (fr : List Int) (S : De) (ls : List Line) (F : Addr → Prop) (p : Nat), vs = [.ref d, .int p] ∧ DeK K H d fr S ls F ∧ S.Num ∧ FrOk fr ∧ p < S.n ∧
  ∀ (H' : Hp) (r : Addr), Same H H' → H r = none → RowAt H' r (S.row (fr.length + 1) p) → Q (.ref r) H'
theorem sc_Desk_row : FnScope ["self", "phrase"] ["self", "phrase"] (defScope s_Desk_row) := ⟨rfl, rfl, rfl, by decide +kernel, rfl, by decide +kernel, by decide +kernel⟩
theorem c_Desk_row {P : Program} {w : World} {K : PySem.W.Frag} {mg : Str → Option Value} {base : Heap} (T : Tx K mg) : C8.Met P w K mg base 5 (He.ga K "Desk") "row" (spRowD K) [] := by
  refine metD T.F_Desk_row T.k_Desk T.m_Desk_row (fun _ _ _ _ _ _ us hl => match us, hl with | [_, _], _ => rfl) sc_Desk_row (fun vs H Q E h => ?_) (fun cdv A outer s H vs Q E hr h => ?_)
  · obtain ⟨d, fr, S, ls, F, p, rfl, _⟩ := h
    rfl
  · obtain ⟨d, fr, S, ls, F, p, rfl, hD, hN, fo, hp, q⟩ := h
    refine ⟨_, (pss_cons (ps_expr (C8.pe_mt (c_Desk_check_phrase T) hr (by decide) (pv 0) (pa_cons (pv 1) pa_nil)))
    (pss_one (ps_ret (C8.pe_mt (c_Past_cells T) hr (by decide) (pe_fld (pv 0) (by rfl)) (pa_cons (pv 1) pa_nil))))), ?_⟩
    obtain ⟨B, hB, hF, h3⟩ := id hD
    refine ⟨_, rfl, d, _, _, rfl, hB.obj, rfl, _, rfl, d, fr, S, ls, F, p, rfl, hD, hp, ?_⟩
    exact ⟨_, rfl, d, _, _, _, _, rfl, hB.obj, T.k_Desk, T.n_Desk_past, df_past _ _, B.p, _, _, rfl, hB.past.raw.obj, rfl, _, rfl, B.p, fr, S, B.A, p, rfl, hB.past, hN, fo, hp, q⟩

end PD

namespace PD
open PySem PySem.Spec PyProof.Rows L2

/-! Phrasedesk: all that is old at a desk -/
def spOldD (K : PySem.W.Frag) : Sp := fun vs H Q _ => ∃ (d : Addr) (fr : List Int) (S : De) (ls : List Line) (F : Addr → Prop), vs = [.ref d] ∧ DeK K H d fr S ls F ∧ S.Ok fr ∧ FrOk fr ∧ ∀ (H' : Hp) (r : Addr), Same H H' → H r = none → PrsAt H' r (S.olds fr) → Q (.ref r) H'
theorem rg_at {lo hi : Int} {i : Nat} {x : V} (h : (rgV lo hi)[i]? = some x) : x = .int (lo + (i : Int)) ∧ i < (hi - lo).toNat := by
  unfold rgV at h
  have hi := (List.getElem?_eq_some_iff.mp h).1
  rw [List.length_map, List.length_range] at hi
  rw [List.getElem?_map, List.getElem?_range hi] at h
  exact ⟨(Option.some.inj h).symm, hi⟩
theorem PrsAt.snoc {H : Hp} {D : Addr} {vs : List V} {l : List Pr} {v : V} {e : Pr} (h : PrsAt H D l) (hv : H D = some (.lst vs)) (he : PrV H v e) : PrsAt (upd H D (.lst (vs ++ [v]))) D (l ++ [e]) := by
  obtain ⟨ws, hw, ha⟩ := h
  rw [hv] at hw
  cases (HO.lst.inj (Option.some.inj hw))
  have keep : ∀ {u : V} {e : Pr}, PrV H u e → PrV (upd H D (.lst (vs ++ [v]))) u e := fun z => z.upd hv (fun _ w => nomatch w)
  exact ⟨_, upd_same, All2.app (ha.mono fun _ _ z => keep z) (All2.cons (keep he) All2.nil)⟩
theorem sc_Desk_old : FnScope ["self", "tongues", "phrases", "phrase", "tongue"] ["self"] (defScope s_Desk_old) := ⟨rfl, rfl, rfl, by decide +kernel, rfl, by decide +kernel, by decide +kernel⟩
theorem c_Desk_old {P : Program} {w : World} {K : PySem.W.Frag} {mg : Str → Option Value} {base : Heap} (T : Tx K mg) : C8.Met P w K mg base 5 (He.ga K "Desk") "old" (spOldD K) [] := by
  refine metD T.F_Desk_old T.k_Desk T.m_Desk_old (fun _ _ _ _ _ _ us hl => match us, hl with | [_], _ => rfl) sc_Desk_old (fun vs H Q E h => ?_) (fun cdv A outer s H vs Q E hr h => ?_)
  · obtain ⟨d, fr, S, ls, F, rfl, _⟩ := h
    rfl
  · obtain ⟨d, fr, S, ls, F, rfl, hD, ok, fo, q⟩ := h
    refine ⟨_, (pss_cons (ps_set (i := 1) sc_Desk_old.nd rfl (Or.inr rfl) (pe_listRg rfl (by rfl) T.f_list (prg_2 (by rfl) T.f_range pe_int (pe_op op_add (pe_callB call_len_seq (by rfl) T.f_len (by decide +kernel) (pa_cons (pe_fld (pe_fld (pv 0) (by rfl)) (by rfl)) pa_nil)) pe_int))))
    (pss_cons (ps_set (i := 2) sc_Desk_old.nd rfl (Or.inl rfl) (pe_listRg rfl (by rfl) T.f_list (prg_1 (by rfl) T.f_range (pe_fld (pe_fld (pv 0) (by rfl)) (by rfl)))))
    (pss_one (ps_ret (pe_lc2 (own := [("phrase", 3), ("tongue", 4)]) (vs1 := [4]) (g := gName 3) (g1 := gName 4) (tt := tYes) (by rfl) sc_Desk_old.nd (pi_list (pv 2)) (blkOk_by (own := [("phrase", 3), ("tongue", 4)]) (N := ["self", "tongues", "phrases", "phrase", "tongue"]) (sc := defScope s_Desk_old) (by decide +kernel)) (by decide) (fun _ _ _ _ _ => (pg_name (i := 3) sc_Desk_old.nd rfl (Or.inl rfl))) (fun _ _ _ _ _ => pts_nil) (fun _ _ _ _ _ => (show PI _ _ _ (iList K (tVar 1)) from pi_list (pv 1))) (fun _ _ _ _ _ => (pg_name (i := 4) sc_Desk_old.nd rfl (Or.inl rfl))) (fun _ _ _ _ _ => (pts_one (pt_not (pt_val (C8.pe_mt (c_Desk_is_fresh T) hr (by decide) (pv 0) (pa_cons (pv 3) (pa_cons (pv 4) pa_nil))))))) (fun _ _ _ _ _ => (pe_tup (pa_cons (pv 3) (pa_cons (pv 4) pa_nil))))))))), ?_⟩
    obtain ⟨B, hB, hF, h3⟩ := id hD
    have n6 := ok.six
    have hi7 := fo.hi
    refine ⟨_, rfl, d, _, _, _, _, rfl, hB.obj, T.k_Desk, T.n_Desk_past, df_past _ _, B.p, _, _, _, _, rfl, hB.past.raw.obj, T.k_Past, T.n_Past_froms, pf_froms _ _, B.A.f, _, rfl, .inl (SqL.of hB.past.raw.frm), _, _, rfl, rfl, _, _, rfl, rfl, RgOk.of_le (by omega) (by rw [List.length_map]; omega) (by omega) (by omega), fun b nb => ?_⟩
    have s1 : Same H (upd H b (.lst (rgV 1 ((fr.map V.int).length + 1)))) := same_upd nb
    have hb1 : (upd H b (.lst (rgV 1 ((fr.map V.int).length + 1)))) b = some (.lst (rgV 1 ((fr.map V.int).length + 1))) := upd_same
    generalize upd H b (.lst (rgV 1 ((fr.map V.int).length + 1))) = H1 at s1 hb1 ⊢
    have hB1 : DeskAt H1 (He.ga K "Desk") (He.ga K "Past") d fr S ls B := hB.keep (fun x o _ e => s1 _ _ e) (fun _ _ e => s1 _ _ e)
    refine ⟨_, rfl, d, _, _, _, _, rfl, hB1.obj, T.k_Desk, T.n_Desk_past, df_past _ _, B.p, _, _, _, _, rfl, hB1.past.raw.obj, T.k_Past, T.n_Past_phrases, pf_phrases _ _, _, rfl, RgOk.of_le (by omega) (by omega) (by omega) (by omega), fun a na => ?_⟩
    have s2 : Same H1 (upd H1 a (.lst (rgV 0 (S.n : Int)))) := same_upd na
    have ha2 : (upd H1 a (.lst (rgV 0 (S.n : Int)))) a = some (.lst (rgV 0 (S.n : Int))) := upd_same
    generalize upd H1 a (.lst (rgV 0 (S.n : Int))) = H2 at s2 ha2 ⊢
    have hb2 := s2 _ _ hb1
    have s02 := s1.trans s2
    have hD2 := hD.same s02
    dsimp only [gName, tRet]
    refine lc2_two (i0 := 3) (j0 := 4) (K := K) (a := a) (b := b) (xs := rgV 0 (S.n : Int)) (ys := rgV 1 ((fr.map V.int).length + 1)) (fun D i j G => Same H2 G ∧ PrsAt G D (S.oldUp fr i j)) ?_ ?_ ?_ ?_ ?_ ?_ ?_ ?_ ?_
    · exact fun R hR => ⟨_, rfl, a, rfl, ⟨_, SqL.of ha2⟩, hR⟩
    · exact fun x G R hG hR => ⟨_, rfl, b, rfl, ⟨_, hG⟩, hR⟩
    · exact fun x => rfl
    · exact fun x y => rfl
    · intro D nD
      refine ⟨same_upd nD, [], upd_same, ?_⟩
      exact All2.nil
    · rintro D i j G ⟨sG, _⟩
      exact ⟨SqL.of (sG _ _ ha2), SqL.of (sG _ _ hb2)⟩
    · rintro D i G ⟨sG, hG⟩
      refine ⟨sG, ?_⟩
      rw [rgV_length, List.length_map, show ((fr.length : Int) + 1 - 1).toNat = fr.length by omega, ← De.oldTo_succ] at hG
      have e : S.oldUp fr (i + 1) 0 = S.oldTo fr (i + 1) := by
        unfold De.oldUp
        rw [List.range_zero, List.filter_nil, List.map_nil, List.append_nil]
      rw [e]
      exact hG
    · rintro D nD i j x y G ex ey ⟨sG, hG⟩
      obtain ⟨rfl, hi⟩ := rg_at ex
      obtain ⟨rfl, hj⟩ := rg_at ey
      rw [List.length_map] at hj
      have hi' : i < S.n := by omega
      have hj' : j + 1 ≤ fr.length := by omega
      obtain ⟨B2, hB2, _, _⟩ := id (hD2.same sG)
      have e1 : (0 : Int) + (i : Int) = (i : Int) := Int.zero_add _
      have e2 : (1 : Int) + (j : Int) = ((j + 1 : Nat) : Int) := by omega
      rw [e1, e2]
      refine ⟨_, rfl, d, _, _, rfl, hB2.obj, rfl, _, rfl, _, rfl, d, fr, S, ls, F, i, j + 1, rfl, hD2.same sG, ok, fo, hi', hj', fun G1 sG1 => ⟨_, rfl, ?_⟩⟩
      obtain ⟨ws, hws, aws⟩ := hG
      have wlen : ws.length < sizeLine := by
        rw [aws.len]
        have h1 := De.oldUp_len (fr := fr) (S := S) (i := i) (j := j)
        have h2 : fr.length * i ≤ 7 * 6 := Nat.mul_le_mul hi7 (by omega)
        exact small1000 (by omega)
      cases ec : (chain fr (S.row (fr.length + 1) i) (j + 1)) with
      | none =>
        refine iteF ⟨sG.trans sG1, ?_⟩
        rw [De.oldUp_succ, ec, Option.isSome_none, if_neg (by decide), List.append_nil]
        exact ⟨ws, sG1 _ _ hws, aws.mono fun _ _ z => z.same sG1⟩
      | some c =>
        refine iteT ⟨_, rfl, _, rfl, (by show 2 ≤ sizeLine; decide), fun t nt => ?_⟩
        have sG2 := sG1.trans (same_upd nt (o := .tup [V.int (i : Int), V.int ((j + 1 : Nat) : Int)]))
        refine ⟨ws, sG2 _ _ hws, wlen, Same.chg (sG.trans sG2) nD, ?_⟩
        rw [De.oldUp_succ, ec, Option.isSome_some, if_pos rfl]
        exact PrsAt.snoc (l := S.oldUp fr i j) ⟨ws, sG2 _ _ hws, aws.mono fun _ _ z => z.same sG2⟩ (sG2 _ _ hws) ⟨t, rfl, upd_same⟩
    · rintro D nD G ⟨sG, hG⟩
      rw [rgV_length, show ((S.n : Int) - 0).toNat = S.n by omega] at hG
      have e : S.oldUp fr S.n 0 = S.olds fr := by
        unfold De.oldUp
        rw [List.range_zero, List.filter_nil, List.map_nil, List.append_nil]
      rw [e] at hG
      exact q G D (s02.trans sG) (s02.free nD) hG


end PD

namespace PD
open PySem PySem.Spec PyProof.Rows L2

/-! Phrasedesk, law_k03: below one, all put -/
--# _law_below
def natsI (l : List Nat) : List Int := l.map fun (j : Nat) => (j : Int)
theorem natsI_mem {l : List Nat} {j : Nat} : ((j : Int) ∈ natsI l) ↔ j ∈ l := by
  unfold natsI
  rw [List.mem_map]
  constructor
  · rintro ⟨i, hi, e⟩
    have : i = j := by omega
    rw [← this]
    exact hi
  · intro h
    exact ⟨j, h, rfl⟩
theorem any_ints (x : Int) : ∀ ns : List Int, ((ns.map PyData.int).any fun z => PyData.eqv z (.int x)) = decide (x ∈ ns)
  | [] => rfl
  | n :: r => by
    rw [List.map_cons, List.any_cons, any_ints x r]
    by_cases c : n = x
    · subst c
      simp [PyData.eqv]
    · have c' : ¬ x = n := fun z => c z.symm
      simp [PyData.eqv, c, c']
theorem shaped_int (x : Int) : SeqAt.shaped (.int x) = true := by
  unfold SeqAt.shaped
  simp only [PyData.canLay0, PyData.depth]
  rfl
theorem belowTo_succ {fr : List Int} {t i : Nat} : belowTo fr t (i + 1) = belowTo fr t i ++ (if up fr (i + 1) ∈ belowTo fr t i then [i + 1] else []) := rfl
def spBelow : Sp := fun vs H Q _ => ∃ (f : Addr) (fr : List Int) (t : Nat), vs = [.ref f, .int t] ∧ LsAt H f fr ∧ FrOk fr ∧ ∀ (H' : Hp) (a : Addr), Same H H' → H a = none → LsAt H' a (natsI (belowTo fr t fr.length).tail) → Q (.ref a) H'
theorem belowTo_len {fr : List Int} {t : Nat} : ∀ i, (belowTo fr t i).length ≤ i + 1
  | 0 => Nat.le_refl _
  | i + 1 => by
    unfold belowTo
    rw [List.length_append]
    have := belowTo_len (fr := fr) (t := t) i
    split
    · rw [List.length_singleton]
      omega
    · rw [List.length_nil]
      omega
theorem sc_law_below : FnScope ["_law_froms_here", "_law_tongue", "_law_found", "_law_one"] ["_law_froms_here", "_law_tongue"] (defScope s_law_below) := ⟨rfl, rfl, rfl, by decide +kernel, rfl, by decide +kernel, by decide +kernel⟩
theorem c_law_below {P : Program} {w : World} {K : PySem.W.Frag} {mg : Str → Option Value} {base : Heap} (T : Tx K mg) : C8.Cal P w K mg base 1 "_law_below" (spBelow) [] := by
  refine calD T.F_law_below T.g_law_below (fun _ _ _ _ _ _ us hl => match us, hl with | [_, _], _ => rfl) sc_law_below (fun vs H Q E h => ?_) (fun cdv A outer s H vs Q E hr h => ?_)
  · obtain ⟨f, fr, t, rfl, _⟩ := h
    rfl
  · obtain ⟨f, fr, t, rfl, hf, fo, q⟩ := h
    refine ⟨_, (pss_cons (ps_set (i := 2) sc_law_below.nd rfl (Or.inl rfl) (pe_lst (pa_cons (pv 1) pa_nil)))
    (pss_cons (ps_for PassesOwn.never rfl (pi_range2 (by rfl) T.f_range (pa_cons pe_int (pa_cons (pe_op op_add (pe_callB call_len_seq (by rfl) T.f_len (by decide +kernel) (pa_cons (pv 0) pa_nil)) pe_int) pa_nil))) (pg_name (i := 3) sc_law_below.nd rfl (Or.inl rfl))
      (pss_one (ps_if (pt_cmpR (op_inD (un65 hr)) (pe_ix ix_list (pv 0) (pe_op op_sub (pv 3) pe_int) (fun _ _ => rfl)) (pv 2) (by rfl))
        (pss_one (ps_expr (pe_bm PySem.F.plainAttrs_list PySem.F.slot_list_append PySem.F.type_list_append mt_append (pv 2) (pa_cons (pv 3) pa_nil))))
        pss_nil)))
    (pss_one (ps_ret (pe_slice sl_list (pv 2) (po_some pe_int) po_none))))), ?_⟩
    have hi7 := fo.hi
    refine ⟨_, rfl, (by show 1 ≤ sizeLine; decide), fun D nD => ?_⟩
    have s0 : Same H (upd H D (.lst [V.int (t : Int)])) := same_upd nD
    have h0 : LsAt (upd H D (.lst [V.int (t : Int)])) D (natsI (belowTo fr t 0)) := upd_same
    generalize upd H D (.lst [V.int (t : Int)]) = H0 at s0 h0 ⊢
    refine ⟨_, rfl, f, _, rfl, .inl (SqL.of (hf.same s0)), _, _, rfl, rfl, _, _, rfl, ⟨by decide, by decide, by rw [List.length_map]; omega, by rw [List.length_map]; omega⟩, ?_⟩
    refine for_range (lo := 1) (n := (((fr.map V.int).length : Int) + 1 - 1).toNat) (fun i σ G => ∃ va : Option V, σ = [some (.ref f), some (.int t), some (.ref D), va] ∧ Same H G ∧ LsAt G D (natsI (belowTo fr t i))) ⟨none, rfl, s0, h0⟩ ?_ ?_
    · rintro i σ G hi ⟨va, rfl, sG, hD⟩
      rw [List.length_map] at hi
      have ei : (1 : Int) + (i : Int) = ((i + 1 : Nat) : Int) := by omega
      rw [ei]
      obtain ⟨x, ex, x0, xl, xu⟩ := fo.at (t := i + 1) (by omega) (by omega)
      have ex' : fr[i]? = some x := ex
      subst xu
      have bl := belowTo_len (fr := fr) (t := t) i
      refine ⟨_, rfl, _, rfl, _, _, rfl, rfl, f, _, _, _, rfl, rfl, SqL.of (hf.same sG), at_of (j := i) (by omega) (ivs ex'), _, rfl, ?_⟩
      refine ⟨.int _, (natsI (belowTo fr t i)).map .int, .int _, .lst (SqL.of hD) (dpa_ints _), shaped_int _, shaped_ints _, decide (up fr (i + 1) ∈ belowTo fr t i), ?_, ?_⟩
      · rw [any_ints]
        exact congrArg V.bl (decide_eq_decide.mpr natsI_mem)
      by_cases c : up fr (i + 1) ∈ belowTo fr t i
      · rw [decide_eq_true c]
        refine iteT ⟨_, rfl, .inl ⟨rfl, _, SqL.of hD⟩, _, rfl, D, _, _, rfl, rfl, hD, ?_, ?_⟩
        · rw [List.length_map]
          unfold natsI
          rw [List.length_map]
          exact small1000 (by omega)
        refine ⟨_, rfl, Same.chg sG nD, ?_⟩
        unfold LsAt
        rw [upd_same, belowTo_succ, if_pos c]
        unfold natsI
        rw [List.map_append, List.map_append]
        rfl
      · rw [decide_eq_false c]
        refine iteF ⟨_, rfl, sG, ?_⟩
        rw [belowTo_succ, if_neg c, List.append_nil]
        exact hD
    · rintro σ G ⟨va, rfl, sG, hD⟩
      rw [show (((fr.map V.int).length : Int) + 1 - 1).toNat = fr.length by rw [List.length_map]; omega] at hD
      obtain ⟨r, er⟩ := belowTo_cons (fr := fr) (t := t) fr.length
      refine ⟨_, rfl, 1, rfl, D, _, rfl, SqL.of hD, fun c nc => ?_⟩
      refine q _ c (sG.trans (same_upd nc)) (sG.free nc) ?_
      unfold LsAt
      rw [upd_same, cut1, er]
      rfl
--# _law_all_put
theorem ah_at : ∀ j : Nat, j < 8 → (Str.ofString "abcdefgh").cps.toList[j]? = some (97 + j) := by
  have h : ∀ j : _root_.Fin 8, (Str.ofString "abcdefgh").cps.toList[j.val]? = some (97 + j.val) := by decide +kernel
  exact fun j hj => h ⟨j, hj⟩
structure Puts (fr : List Int) (S : De) (L : List Nat) (E0 Sd0 : Nat → Prop) : Prop where
  ok : S.Ok fr
  n1 : S.n = 1
  st : ∀ u, u ≤ fr.length → u = 0 ∨ Sd0 u ∨ u ∈ L → ∃ k, S.now 0 u = some k
  ed : ∀ u, 0 < u → u ≤ fr.length → E0 u ∨ u ∈ L → S.edge fr u
structure Turn (fr : List Int) (L : List Nat) (E0 Sd0 : Nat → Prop) : Prop where
  mem : ∀ t ∈ L, 0 < t ∧ t ≤ fr.length
  inc : L.Pairwise (· < ·)
  up_ : ∀ i t, L[i]? = some t → up fr t = 0 ∨ Sd0 (up fr t) ∨ up fr t ∈ L.take i
  out : ∀ u, 0 < u → u ≤ fr.length → E0 u → ∀ t ∈ L, up fr u ≠ t
theorem take_lt {L : List Nat} (h : L.Pairwise (· < ·)) {i t u : Nat} (e : L[i]? = some t) (hu : u ∈ L.take i) : u < t := by
  obtain ⟨hi, ei⟩ := List.getElem?_eq_some_iff.mp e
  have sp : L = L.take i ++ t :: L.drop (i + 1) := by
    rw [← ei, ← List.drop_eq_getElem_cons hi, List.take_append_drop]
  rw [sp, List.pairwise_append] at h
  exact h.2.2 u hu t List.mem_cons_self
theorem Puts.step {fr : List Int} {S : De} {L : List Nat} {E0 Sd0 : Nat → Prop} (fo : FrOk fr) (tn : Turn fr L E0 Sd0) {i t : Nat} (e : L[i]? = some t) (h : Puts fr S (L.take i) E0 Sd0) {x : Str} (tx : TxOk x) :
    S.May fr (.put 0 t x (S.now 0 (up fr t)) (S.now 0 t)) ∧ Puts fr (S.lay 0 t x (S.now 0 (up fr t))) (L.take (i + 1)) E0 Sd0 ∧ ∃ k, S.now 0 (up fr t) = some k := by
  obtain ⟨t0, t1⟩ := tn.mem t (List.mem_of_getElem? e)
  have hu := up_lt fo t0 t1
  have up1 : ∃ k, S.now 0 (up fr t) = some k := h.st _ (by omega) (tn.up_ i t e)
  obtain ⟨k, ek⟩ := up1
  have n1 := h.n1
  have sn : S.Seen fr 0 t (S.now 0 (up fr t)) := by
    refine ⟨fun z => by omega, fun _ => ?_⟩
    obtain ⟨j, ej, v, e1, e2, e3⟩ := h.ok.seen_now ek
    exact ⟨j, by rw [ek, ej], v, e1, e2, e3⟩
  have tk : L.take (i + 1) = L.take i ++ [t] := by rw [List.take_add_one, e]; rfl
  refine ⟨⟨by omega, t1, tx, rfl, sn⟩, ⟨h.ok.lay (by omega) t1 tx sn, h.n1, fun u u1 hu' => ?_, fun u u0 u1 hu' => ?_⟩, k, ek⟩
  · by_cases c : u = t
    · rw [c]
      exact ⟨_, lay_now_same⟩
    · rw [lay_now_ne c]
      refine h.st u u1 (hu'.imp id (fun z => z.imp id fun z => ?_))
      rw [tk] at z
      rcases List.mem_append.mp z with y | y
      · exact y
      · exact absurd (List.mem_singleton.mp y) c
  · by_cases c : u = t
    · rw [c]
      exact edge_new fo t0 t1 ⟨k, ek⟩
    · have hu2 : E0 u ∨ u ∈ L.take i := hu'.imp id fun z => by
        rw [tk] at z
        rcases List.mem_append.mp z with y | y
        · exact y
        · exact absurd (List.mem_singleton.mp y) c
      refine (edge_keep h.ok c ?_).mpr (h.ed u u0 u1 hu2)
      rcases hu2 with z | z
      · exact tn.out u u0 u1 z t (List.mem_of_getElem? e)
      · have h1 := take_lt tn.inc e z
        have h2 := up_lt fo u0 u1
        omega
def spAllPut (K : PySem.W.Frag) : Sp := fun vs H Q _ => ∃ (d : Addr) (fr : List Int) (S : De) (ls : List Line) (F : Addr → Prop) (f a : Addr) (L : List Nat) (E0 Sd0 : Nat → Prop), vs = [.ref d, .ref f, .ref a] ∧ DeK K H d fr S ls F ∧ FrOk fr ∧ LsAt H f fr ∧ LsAt H a (natsI L) ∧ ¬ F f ∧ ¬ F a ∧ Turn fr L E0 Sd0 ∧ Puts fr S [] E0 Sd0 ∧ L.length ≤ 7 ∧ S.puts.length ≤ 1000 ∧ ls.length ≤ 1000 ∧
  ∀ (H' : Hp) (F' : Addr → Prop) (S' : De) (ls' : List Line), Went (He.ga K "Desk") (He.ga K "Past") d fr H F S' ls' H' F' → Puts fr S' L E0 Sd0 → S'.puts.length ≤ S.puts.length + 7 → ls'.length ≤ ls.length + 7 → Q .non H'
theorem sc_law_all_put : FnScope ["_law_desk", "_law_froms_here", "_law_some", "_law_tongue", "_law_seen", "_law_here"] ["_law_desk", "_law_froms_here", "_law_some"] (defScope s_law_all_put) := ⟨rfl, rfl, rfl, by decide +kernel, rfl, by decide +kernel, by decide +kernel⟩
theorem c_law_all_put {P : Program} {w : World} {K : PySem.W.Frag} {mg : Str → Option Value} {base : Heap} (T : Tx K mg) : C8.Cal P w K mg base 7 "_law_all_put" (spAllPut K) [] := by
  refine calD T.F_law_all_put T.g_law_all_put (fun _ _ _ _ _ _ us hl => match us, hl with | [_, _, _], _ => rfl) sc_law_all_put (fun vs H Q E h => ?_) (fun cdv A outer s H vs Q E hr h => ?_)
  · obtain ⟨d, fr, S, ls, F, f, a, L, E0, Sd0, rfl, _⟩ := h
    rfl
  · obtain ⟨d, fr, S, ls, F, f, a, L, E0, Sd0, rfl, hD, fo, hf, ha, nFf, nFa, tn, p0, L7, pl, ll, q⟩ := h
    refine ⟨_, (pss_one (ps_for PassesOwn.never rfl (pi_list (pv 2)) (pg_name (i := 3) sc_law_all_put.nd rfl (Or.inl rfl))
      (pss_cons (ps_par (i := 4) (j := 5) (by rfl) sc_law_all_put.nd rfl rfl (by decide) rfl rfl (pa_cons (pe_ix ix_tup (C8.pe_mt (c_Desk_now T) hr (by decide) (pv 0) (pa_cons pe_int (pa_cons (pe_ix ix_list (pv 1) (pe_op op_sub (pv 3) pe_int) (fun _ _ => rfl)) pa_nil))) pe_int (fun _ _ => rfl)) (pa_cons (C8.pe_mt (c_Desk_now T) hr (by decide) (pv 0) (pa_cons pe_int (pa_cons (pv 3) pa_nil))) pa_nil)) (by rfl))
      (pss_one (ps_expr (C8.pe_mt (c_Desk_put T) hr (by decide) (pv 0) (pa_cons pe_int (pa_cons (pv 3) (pa_cons (pe_ix ix_str pe_str (pv 3) (fun _ _ => rfl)) (pa_cons (pv 4) (pa_cons (pe_ifExp (pt_cmpR op_notN (pv 5) pe_non (nomark _)) (pe_ix ix_tup (pv 5) pe_int (fun _ _ => rfl)) pe_non) pa_nil))))))))))), ?_⟩
    have hi7 := fo.hi
    refine ⟨_, rfl, a, rfl, ⟨_, SqL.of ha⟩, ?_⟩
    refine for_it (walk_list (K := K) (a := a) (xs := (natsI L).map V.int)) (fun i σ G => ∃ (va vb vc : Option V) (F4 : Addr → Prop) (S4 : De) (ls4 : List Line), σ = [some (.ref d), some (.ref f), some (.ref a), va, vb, vc] ∧ Went (He.ga K "Desk") (He.ga K "Past") d fr H F S4 ls4 G F4 ∧ Puts fr S4 (L.take i) E0 Sd0 ∧ LsAt G f fr ∧ LsAt G a (natsI L) ∧ ¬ F4 f ∧ ¬ F4 a ∧ S4.puts.length ≤ S.puts.length + i ∧ ls4.length ≤ ls.length + i)
      ⟨none, none, none, F, S, ls, rfl, Went.refl hD, p0, hf, ha, nFf, nFa, Nat.le_refl _, Nat.le_refl _⟩ (fun i σ G _ ⟨_, _, _, _, _, _, _, _, _, _, z, _⟩ => SqL.of z) ?_ ?_
    · rintro i v σ G G' hi ⟨va, vb, vc, F4, S4, ls4, rfl, w4, p4, hf4, ha4, nf4, na4, pl4, ll4⟩ ⟨rfl, ev⟩
      obtain ⟨t, et, rfl⟩ : ∃ t : Nat, L[i]? = some t ∧ v = .int (t : Int) := by
        unfold natsI at ev
        rw [List.map_map, List.getElem?_map] at ev
        cases e : L[i]? with
        | none =>
          rw [e] at ev
          cases ev
        | some t =>
          rw [e] at ev
          exact ⟨t, rfl, (Option.some.inj ev).symm⟩
      obtain ⟨t0, t1⟩ := tn.mem t (List.mem_of_getElem? et)
      have hu := up_lt fo t0 t1
      have il : i < 7 := by
        have := (List.getElem?_eq_some_iff.mp et).1
        omega
      obtain ⟨x, ex, x0, xl, xu⟩ := fo.at t0 t1
      subst xu
      have n1 := p4.n1
      obtain ⟨kU, eU⟩ := (p4.step fo tn et (x := "a") ⟨by decide, by decide, by decide⟩).2.2
      obtain ⟨B, hB, _, _⟩ := id w4.desk
      refine ⟨_, rfl, d, _, _, rfl, hB.obj, rfl, _, rfl, _, rfl, _, _, rfl, rfl, f, _, _, _, rfl, rfl, SqL.of hf4, at_of (j := t - 1) (by omega) (ivs ex), d, fr, S4, ls4, F4, 0, up fr t, rfl, w4.desk, p4.ok.num, by omega, by omega, fun e0 => ?_, fun k0 ek G1 r s1 nr hr => ?_⟩
      · rw [eU] at e0
        cases e0
      rw [eU] at ek
      cases (Option.some.inj ek)
      refine ⟨r, _, _, _, rfl, rfl, SqT.of hr, atI_nat (j := 0) rfl, ?_⟩
      have d1 := w4.desk.same s1
      obtain ⟨B1, hB1, _, _⟩ := id d1
      have tx : TxOk ⟨#[97 + t]⟩ := ⟨(by show 1 ≤ 1; decide), (by show 1 ≤ 6; decide), fun c hc => by
        have : c = 97 + t := List.mem_singleton.mp hc
        omega⟩
      obtain ⟨may, p5, _⟩ := p4.step fo tn et tx
      have wrap : ∀ (G2 : Hp), Same G' G2 → ∀ (G3 : Hp) (F5 : Addr → Prop), Desk G3 (He.ga K "Desk") (He.ga K "Past") d fr (S4.lay 0 t ⟨#[97 + t]⟩ (S4.now 0 (up fr t))) (ls4 ++ [.put 0 t ⟨#[97 + t]⟩ (S4.now 0 (up fr t)) (S4.now 0 t) (S4.puts.length : Int)]) F5 → Only F4 G2 G3 → (∀ y, F5 y → F4 y ∨ G2 y = none) →
          Went (He.ga K "Desk") (He.ga K "Past") d fr H F (S4.lay 0 t ⟨#[97 + t]⟩ (S4.now 0 (up fr t))) (ls4 ++ [.put 0 t ⟨#[97 + t]⟩ (S4.now 0 (up fr t)) (S4.now 0 t) (S4.puts.length : Int)]) G3 F5 ∧ LsAt G3 f fr ∧ LsAt G3 a (natsI L) ∧ ¬ F5 f ∧ ¬ F5 a := by
        intro G2 s2 G3 F5 d5 o5 f5
        refine ⟨(w4.same s2).trans ⟨d5, o5, f5⟩, o5.out _ _ nf4 (hf4.same s2), o5.out _ _ na4 (ha4.same s2), fun z => ?_, fun z => ?_⟩
        · rcases f5 _ z with y | y
          · exact nf4 y
          · rw [LsAt.same s2 hf4] at y
            cases y
        · rcases f5 _ z with y | y
          · exact na4 y
          · rw [LsAt.same s2 ha4] at y
            cases y
      have at8 : atI (Str.ofString "abcdefgh").cps.toList (t : Int) = some (97 + t) := atI_nat (ah_at t (by omega))
      have l5 : (S4.lay 0 t ⟨#[97 + t]⟩ (S4.now 0 (up fr t))).puts.length ≤ S.puts.length + (i + 1) := by
        show (S4.puts ++ [_]).length ≤ _
        rw [List.length_append, List.length_singleton]
        omega
      have l6 : (ls4 ++ [Line.put 0 t ⟨#[97 + t]⟩ (S4.now 0 (up fr t)) (S4.now 0 t) (S4.puts.length : Int)]).length ≤ ls.length + (i + 1) := by
        rw [List.length_append, List.length_singleton]
        omega
      refine ⟨_, rfl, d, _, _, rfl, hB1.obj, rfl, _, rfl, d, fr, S4, ls4, F4, 0, t, rfl, d1, p4.ok.num, by omega, t1, fun e0 G2 s2 => ⟨_, _, rfl, ?_⟩, fun k2 ek2 G2 r2 s2 nr2 hr2 => ⟨_, _, rfl, ?_⟩⟩
      · have s12 := s1.trans s2
        obtain ⟨B2, hB2, _, _⟩ := id (w4.desk.same s12)
        refine ⟨_, rfl, d, _, _, rfl, hB2.obj, rfl, _, rfl, _, rfl, _, _, _, rfl, rfl, by decide, at8, _, rfl, _, rfl, rfl, false, rfl, iteF ?_⟩
        refine ⟨d, fr, S4, ls4, F4, 0, t, ⟨#[97 + t]⟩, S4.now 0 (up fr t), S4.now 0 t, by rw [eU, e0]; rfl, w4.desk.same s12, fo, may, by omega, by omega, fun G3 F5 d5 o5 f5 => ?_⟩
        obtain ⟨w5, g1, g2, g3, g4⟩ := wrap G2 s12 G3 F5 d5 o5 f5
        exact ⟨_, _, _, F5, _, _, rfl, w5, p5, g1, g2, g3, g4, l5, l6⟩
      · have s12 := s1.trans s2
        obtain ⟨B2, hB2, _, _⟩ := id (w4.desk.same s12)
        refine ⟨_, rfl, d, _, _, rfl, hB2.obj, rfl, _, rfl, _, rfl, _, _, _, rfl, rfl, by decide, at8, _, rfl, _, rfl, rfl, true, rfl, iteT ⟨_, rfl, r2, _, _, _, rfl, rfl, SqT.of hr2, atI_nat (j := 0) rfl, ?_⟩⟩
        refine ⟨d, fr, S4, ls4, F4, 0, t, ⟨#[97 + t]⟩, S4.now 0 (up fr t), S4.now 0 t, by rw [eU, ek2]; rfl, w4.desk.same s12, fo, may, by omega, by omega, fun G3 F5 d5 o5 f5 => ?_⟩
        obtain ⟨w5, g1, g2, g3, g4⟩ := wrap G2 s12 G3 F5 d5 o5 f5
        exact ⟨_, _, _, F5, _, _, rfl, w5, p5, g1, g2, g3, g4, l5, l6⟩
    · rintro σ G ⟨va, vb, vc, F4, S4, ls4, rfl, w4, p4, hf4, ha4, nf4, na4, pl4, ll4⟩
      rw [show ((natsI L).map V.int).length = L.length by unfold natsI; rw [List.length_map, List.length_map]] at p4 pl4 ll4
      rw [List.take_length] at p4
      exact q G F4 S4 ls4 w4 p4 (by omega) (by omega)

end PD

namespace PD
open PySem PySem.Spec PyProof.Rows L2

/-! Phrasedesk, law_k03: the law -/
--# law
theorem eqv_prs (ps qs : List Pr) : PyData.eqv (dPs ps) (dPs qs) = decide (ps = qs) := by
  unfold dPs
  simp only [PyData.eqv, eqva_prs]
structure Fresh0 (fr : List Int) (S : De) : Prop where
  ok : S.Ok fr
  n1 : S.n = 1
  st : ∀ u, u ≤ fr.length → ∃ k, S.now 0 u = some k
  ed : ∀ u, 0 < u → u ≤ fr.length → S.edge fr u
section
variable {fr : List Int} {S : De} {t : Nat} {x : Str} {s : Option Int}
theorem off_lay_lie (u : Nat) : ((S.lay 0 t x s).off 0 t).lie 0 u = S.lie 0 u := by
  show setL (setL S.lie 0 t (S.lie 0 t ++ [(S.puts.length : Int)])) 0 t (setL S.lie 0 t (S.lie 0 t ++ [(S.puts.length : Int)]) 0 t).dropLast 0 u = _
  unfold setL
  by_cases c : u = t
  · subst c
    rw [if_pos ⟨rfl, rfl⟩, if_pos ⟨rfl, rfl⟩, List.dropLast_concat]
  · rw [if_neg (fun z => c z.2), if_neg (fun z => c z.2)]
theorem off_lay_now (u : Nat) : ((S.lay 0 t x s).off 0 t).now 0 u = S.now 0 u := by
  unfold De.now
  rw [off_lay_lie]
theorem Fresh0.back (h : Fresh0 fr S) (ok' : ((S.lay 0 t x s).off 0 t).Ok fr) : Fresh0 fr ((S.lay 0 t x s).off 0 t) := by
  refine ⟨ok', h.n1, fun u u1 => by rw [off_lay_now]; exact h.st u u1, fun u u0 u1 => ?_⟩
  obtain ⟨k, k', e1, e2, e3⟩ := h.ed u u0 u1
  refine ⟨k, k', by rw [off_lay_now]; exact e1, by rw [off_lay_now]; exact e2, ?_⟩
  obtain ⟨k0, v, ev, _, _⟩ := h.ok.num.now e1
  have : ((S.lay 0 t x s).off 0 t).pt k = S.pt k := by
    rw [De.pt_at ev, De.pt_at (S := (S.lay 0 t x s).off 0 t) (at_snoc ev)]
  rw [this]
  exact e3
theorem first_olds (fo : FrOk fr) : (De.none.more.lay 0 0 x Option.none).olds fr = (List.range fr.length).map fun (j : Nat) => ((0 : Int), ((j + 1 : Nat) : Int)) := by
  rw [olds_one rfl]
  congr 1
  rw [List.filter_eq_self]
  intro j hj
  have hj' := List.mem_range.mp hj
  have b : brk fr ((De.none.more.lay 0 0 x Option.none).row (fr.length + 1) 0) (j + 1) = true := by
    cases e : brk fr ((De.none.more.lay 0 0 x Option.none).row (fr.length + 1) 0) (j + 1) with
    | true => rfl
    | false =>
      obtain ⟨k, k', e1, _⟩ := (brk_edge fo (by omega) (by omega)).mp e
      rw [lay_now_ne (by omega)] at e1
      cases e1
  rw [chain_step fo (by omega) (by omega), b, if_pos rfl]
  rfl
end
/-- the desk of the law, its heap since B -/
structure Dk (K : PySem.W.Frag) (B G : Hp) (d : Addr) (fr : List Int) (S : De) (ls : List Line) (F : Addr → Prop) : Prop where
  same : Same B G
  desk : DeK K G d fr S ls F
  new : ∀ x, F x → B x = none
section
variable {K : PySem.W.Frag} {B G G' : Hp} {d : Addr} {fr : List Int} {S S' : De} {ls ls' : List Line} {F F' : Addr → Prop}
theorem Dk.next (h : Dk K B G d fr S ls F) (s : Same G G') : Dk K B G' d fr S ls F := ⟨h.same.trans s, h.desk.same s, h.new⟩
theorem Dk.out (h : Dk K B G d fr S ls F) {x : Addr} {o : HO} (e : B x = some o) : ¬ F x := fun z => by
  rw [h.new x z] at e
  cases e
theorem Dk.went (h : Dk K B G d fr S ls F) (w : Went (He.ga K "Desk") (He.ga K "Past") d fr G F S' ls' G' F') : Dk K B G' d fr S' ls' F' := by
  refine ⟨fun x o e => w.only.out x o (h.out e) (h.same _ _ e), w.desk, fun x z => ?_⟩
  rcases w.foot x z with y | y
  · exact h.new x y
  · exact h.same.free y
/-- a list of one's own -/
theorem went_keep (w : Went (He.ga K "Desk") (He.ga K "Past") d fr G F S' ls' G' F') {b : Addr} {o : HO} (n : ¬ F b) (e : G b = some o) : ¬ F' b ∧ G' b = some o := by
  refine ⟨fun z => ?_, w.only.out _ _ n e⟩
  rcases w.foot b z with y | y
  · exact n y
  · rw [e] at y
    cases y
end
def spLaw (K : PySem.W.Frag) : Sp := fun vs H Q _ => ∃ (a : Addr) (ns : List Int), vs = [.ref a] ∧ SqL K H a (ns.map V.int) ∧ ∀ H' : Hp, Q (.bl true) H'
theorem sc_law : FnScope ["_law_script", "_law_by", "_law_froms_here", "_law_every", "_law_desk", "_law_tongue", "_law_below_here", "_law_turn", "_law_row", "_law_seen", "_law_one", "_law_found"] ["_law_script"] (defScope s_law) := ⟨rfl, rfl, rfl, by decide +kernel, rfl, by decide +kernel, by decide +kernel⟩
theorem lawG {P : Program} {w : World} {K : PySem.W.Frag} {mg : Str → Option Value} {base : Heap} {fd : FuncData} (T : Tx K mg) (F : FunD K "law" "law" (defArgs s_law) (defBody s_law) (defScope s_law) [] [] (He.ga K "law") fd) : FnG P w K mg base 8 (He.ga K "law") fd ["_law_script"] (spLaw K) := by
  refine okG F sc_law (fun vs H Q E h => ?_) (fun cdv A outer s H vs Q E hgd hr h => ?_)
  · obtain ⟨a, ns, rfl, _⟩ := h
    rfl
  · obtain ⟨a, ns, rfl, hS, q⟩ := h
    refine ⟨_, (pss_cons (ps_for PassesOwn.never rfl (pi_range1 (by rfl) T.f_range (pa_cons pe_int pa_nil)) (pg_name (i := 1) sc_law.nd rfl (Or.inl rfl))
      (pss_cons (ps_set (i := 2) sc_law.nd rfl (Or.inr rfl) (C8.pe_c (c_law_froms T) hr (by decide) rfl (pa_cons (pv 0) (pa_cons (pv 1) pa_nil))))
      (pss_cons (ps_par (i := 3) (j := 4) (by rfl) sc_law.nd rfl rfl (by decide) rfl rfl (pa_cons (pe_listRg rfl (by rfl) T.f_list (prg_2 (by rfl) T.f_range pe_int (pe_op op_add (pe_callB call_len_seq (by rfl) T.f_len (by decide +kernel) (pa_cons (pv 2) pa_nil)) pe_int))) (pa_cons (C8.pe_mk (c_Desk_init T) hr (by decide) rfl (pa_cons (pv 2) pa_nil)) pa_nil)) (by rfl))
      (pss_cons (ps_expr (C8.pe_mt (c_Desk_phrase T) hr (by decide) (pv 4) (pa_cons (C8.pe_c (c_law_text T) hr (by decide) rfl (pa_cons (C8.pe_c (c_law_number T) hr (by decide) rfl (pa_cons (C8.pe_c (c_law_cell_at T) hr (by decide) rfl (pa_cons (pv 0) (pa_cons (pv 1) pa_nil))) (pa_cons (pe_op op_add (pv 1) pe_int) (pa_cons pe_int pa_nil)))) pa_nil)) pa_nil)))
      (pss_cons (ps_if (pt_cmpR (op_neD hr.units) (C8.pe_mt0 (c_Desk_old T) hr (by decide) (pv 4)) (pe_lc (own := [("_law_tongue", 5)]) (g := gName 5) (tt := tYes) (by rfl) sc_law.nd (pi_list (pv 3)) (blkOk_by (own := [("_law_tongue", 5)]) (N := ["_law_script", "_law_by", "_law_froms_here", "_law_every", "_law_desk", "_law_tongue", "_law_below_here", "_law_turn", "_law_row", "_law_seen", "_law_one", "_law_found"]) (sc := defScope s_law) (by decide +kernel)) (fun _ _ _ _ _ => (pg_name (i := 5) sc_law.nd rfl (Or.inl rfl))) (fun _ _ _ _ _ => pts_nil) (fun _ _ _ _ _ => (pe_tup (pa_cons pe_int (pa_cons (pv 5) pa_nil))))) (nomark _))
        (pss_one (ps_ret pe_bl))
        pss_nil)
      (pss_cons (ps_expr (C8.pe_c (c_law_all_put T) hr (by decide) rfl (pa_cons (pv 4) (pa_cons (pv 2) (pa_cons (pv 3) pa_nil)))))
      (pss_cons (ps_set (i := 5) sc_law.nd rfl (Or.inl rfl) (C8.pe_c (c_law_number T) hr (by decide) rfl (pa_cons (C8.pe_c (c_law_cell_at T) hr (by decide) rfl (pa_cons (pv 0) (pa_cons (pv 1) pa_nil))) (pa_cons (pe_op op_add (pv 1) pe_int) (pa_cons (pe_op op_add (pe_callB call_len_seq (by rfl) T.f_len (by decide +kernel) (pa_cons (pv 2) pa_nil)) pe_int) pa_nil)))))
      (pss_cons (ps_set (i := 6) sc_law.nd rfl (Or.inl rfl) (C8.pe_c (c_law_below T) hr (by decide) rfl (pa_cons (pv 2) (pa_cons (pv 5) pa_nil))))
      (pss_cons (ps_for PassesOwn.never rfl (pi_range1 (by rfl) T.f_range (pa_cons pe_int pa_nil)) (pg_name (i := 7) sc_law.nd rfl (Or.inl rfl))
        (pss_cons (ps_set (i := 8) sc_law.nd rfl (Or.inr rfl) (C8.pe_mt (c_Desk_row T) hr (by decide) (pv 4) (pa_cons pe_int pa_nil)))
        (pss_cons (ps_if (pt_cmpR (op_neD hr.units) (C8.pe_mt0 (c_Desk_old T) hr (by decide) (pv 4)) (pe_lst pa_nil) (nomark _))
          (pss_one (ps_ret pe_bl))
          pss_nil)
        (pss_cons (ps_if (pt_not (pt_val (pe_callB (cr_all rfl) (by rfl) T.f_all (by decide +kernel) (pa_cons (pe_lc (own := [("_law_one", 10)]) (g := gName 10) (tt := tYes) (by rfl) sc_law.nd (pi_list (pv 3)) (blkOk_by (own := [("_law_one", 10)]) (N := ["_law_script", "_law_by", "_law_froms_here", "_law_every", "_law_desk", "_law_tongue", "_law_below_here", "_law_turn", "_law_row", "_law_seen", "_law_one", "_law_found"]) (sc := defScope s_law) (by decide +kernel)) (fun _ _ _ _ _ => (pg_name (i := 10) sc_law.nd rfl (Or.inl rfl))) (fun _ _ _ _ _ => pts_nil) (fun _ _ _ _ _ => (pe_callB (show CallR _ (.builtin "isinstance") (rIsi K) from call_isi) (by rfl) T.f_isinstance (by decide +kernel) (pa_cons (C8.pe_c (c_told T) hr (by decide) rfl (pa_cons (pv 2) (pa_cons (pv 8) (pa_cons (pv 10) pa_nil)))) (pa_cons (pe_glob (v := .ref (He.ga K "Fresh")) rfl T.g_Fresh rfl) pa_nil))))) pa_nil))))
          (pss_one (ps_ret pe_bl))
          pss_nil)
        (C8.pss_cut (ps_set (i := 9) sc_law.nd rfl (Or.inl rfl) (pe_ifExp (pt_cmpR op_eq (pv 5) pe_int (nomark _)) pe_non (pe_ix ix_tup (C8.pe_mt (c_Desk_now T) hr (by decide) (pv 4) (pa_cons pe_int (pa_cons (pe_ix ix_list (pv 2) (pe_op op_sub (pv 5) pe_int) (fun _ _ => rfl)) pa_nil))) pe_int (fun _ _ => rfl))))
        (pss_cons (ps_expr (C8.pe_mt (c_Desk_put T) hr (by decide) (pv 4) (pa_cons pe_int (pa_cons (pv 5) (pa_cons pe_str (pa_cons (pv 9) (pa_cons (pe_ix ix_tup (C8.pe_mt (c_Desk_now T) hr (by decide) (pv 4) (pa_cons pe_int (pa_cons (pv 5) pa_nil))) pe_int (fun _ _ => rfl)) pa_nil)))))))
        (pss_cons (ps_if (pt_cmpR (op_neD hr.units) (C8.pe_mt0 (c_Desk_old T) hr (by decide) (pv 4)) (pe_lc (own := [("_law_one", 10)]) (g := gName 10) (tt := tYes) (by rfl) sc_law.nd (pi_list (pv 6)) (blkOk_by (own := [("_law_one", 10)]) (N := ["_law_script", "_law_by", "_law_froms_here", "_law_every", "_law_desk", "_law_tongue", "_law_below_here", "_law_turn", "_law_row", "_law_seen", "_law_one", "_law_found"]) (sc := defScope s_law) (by decide +kernel)) (fun _ _ _ _ _ => (pg_name (i := 10) sc_law.nd rfl (Or.inl rfl))) (fun _ _ _ _ _ => pts_nil) (fun _ _ _ _ _ => (pe_tup (pa_cons pe_int (pa_cons (pv 10) pa_nil))))) (nomark _))
          (pss_one (ps_ret pe_bl))
          pss_nil)
        (pss_cons (ps_for PassesOwn.never rfl (pi_list (pv 6)) (pg_name (i := 10) sc_law.nd rfl (Or.inl rfl))
          (pss_cons (ps_set (i := 11) sc_law.nd rfl (Or.inl rfl) (C8.pe_c (c_told T) hr (by decide) rfl (pa_cons (pv 2) (pa_cons (C8.pe_mt (c_Desk_row T) hr (by decide) (pv 4) (pa_cons pe_int pa_nil)) (pa_cons (pv 10) pa_nil)))))
          (pss_one (ps_if (PW.pt (pw_or (pt_not (pt_val (pe_callB call_isi (by rfl) T.f_isinstance (by decide +kernel) (pa_cons (pv 11) (pa_cons (pe_glob (v := .ref (He.ga K "Old")) rfl T.g_Old rfl) pa_nil))))) (pw_or (pt_cmpR op_ne (pe_ix ix_list (pv 2) (pe_op op_sub (pe_ix ix_list (pe_fld (pv 11) (by rfl)) (pe_un un_neg pe_int) (fun _ _ => rfl)) pe_int) (fun _ _ => rfl)) (pv 5) (nomark _)) (pw_or1 (pt_cmpR op_ne (pe_ix ix_list (pe_fld (pv 11) (by rfl)) pe_int (fun _ _ => rfl)) (pv 10) (nomark _))))))
            (pss_one (ps_ret pe_bl))
            pss_nil))))
        (pss_one (ps_if (pt_cmpR op_eq (pv 7) pe_int (nomark _))
          (pss_one (ps_expr (C8.pe_mt (c_Desk_back T) hr (by decide) (pv 4) (pa_cons pe_int (pa_cons (pv 5) pa_nil)))))
          (pss_one (ps_expr (C8.pe_c (c_law_all_put T) hr (by decide) rfl (pa_cons (pv 4) (pa_cons (pv 2) (pa_cons (pv 6) pa_nil))))))))))))))))
      (pss_one (ps_if (pt_cmpR (op_neD hr.units) (C8.pe_mt0 (c_Desk_old T) hr (by decide) (pv 4)) (pe_lst pa_nil) (nomark _))
        (pss_one (ps_ret pe_bl))
        pss_nil)))))))))))
    (pss_one (ps_ret pe_bl))), ?_⟩
    refine ⟨3, rfl, by decide, by decide, ?_⟩
    refine for_range (lo := 0) (n := 3) (fun i σ H1 => ∃ v1 v2 v3 v4 v5 v6 v7 v8 v9 v10 v11 : Option V, σ = [some (.ref a), v1, v2, v3, v4, v5, v6, v7, v8, v9, v10, v11] ∧ Same H H1) ⟨none, none, none, none, none, none, none, none, none, none, none, rfl, Same.refl _⟩ ?_ ?_
    · rintro i σ H1 hi ⟨v1, v2, v3, v4, v5, v6, v7, v8, v9, v10, v11, rfl, s1⟩
      rw [Int.zero_add]
      refine ⟨_, rfl, _, rfl, a, ns, _, rfl, s1.seq hS, by omega, by omega, fun H2 f fr s2 nf hf fo => ?_⟩
      have s02 := s1.trans s2
      have hi7 := fo.hi
      refine ⟨_, rfl, f, _, rfl, .inl (SqL.of hf), _, _, rfl, rfl, _, _, rfl, rfl, RgOk.of_le (by omega) (by rw [List.length_map]; omega) (by omega) (by omega), fun ev nev => ?_⟩
      have s3 : Same H2 (upd H2 ev (.lst (rgV 1 (((fr.map V.int).length : Int) + 1)))) := same_upd nev
      have hev : LsAt (upd H2 ev (.lst (rgV 1 (((fr.map V.int).length : Int) + 1)))) ev (natsI ((List.range fr.length).map (· + 1))) := by
        unfold LsAt natsI rgV
        rw [upd_same, List.length_map, show ((fr.length : Int) + 1 - 1).toNat = fr.length by omega, List.map_map, List.map_map]
        refine congrArg (fun z => some (HO.lst z)) (List.map_congr_left fun j _ => ?_)
        show V.int (1 + (j : Int)) = V.int ((j + 1 : Nat) : Int)
        rw [show (1 : Int) + (j : Int) = ((j + 1 : Nat) : Int) by omega]
      generalize upd H2 ev (.lst (rgV 1 (((fr.map V.int).length : Int) + 1))) = B at s3 hev ⊢
      have hfB := hf.same s3
      refine ⟨_, rfl, fun d dd_ nd ndd dne => ⟨d, dd_, f, fr, rfl, upd_same, ?_, fo, fun H4 F dk k4 f4 => ⟨rfl, _, _, rfl, ?_⟩⟩⟩
      · unfold LsAt
        rw [upd_ne (ne_of_none hfB nd), upd_ne (ne_of_none hfB ndd)]
        exact hfB
      have D4 : Dk K B H4 d fr De.none [] F := by
        refine ⟨fun x o e => k4 x o (ne_of_none e nd) (by rw [upd_ne (ne_of_none e nd), upd_ne (ne_of_none e ndd)]; exact e), dk, fun x fx => ?_⟩
        rcases f4 x fx with z | z
        · rw [z]
          exact nd
        · cases e : B x with
          | none => rfl
          | some o =>
            rw [upd_ne (ne_of_none e nd), upd_ne (ne_of_none e ndd), e] at z
            cases z
      clear k4 f4 dk
      have s0B := s02.trans s3
      obtain ⟨B4, hB4, _, _⟩ := id D4.desk
      refine ⟨_, rfl, d, _, _, rfl, hB4.obj, rfl, _, rfl, _, rfl, a, ns, _, rfl, (s0B.trans D4.same).seq hS, by omega, fun cy => ⟨_, rfl, _, _, rfl, rfl, _, _, _, rfl, by omega, by omega, by decide, by decide, fun H5 nn s5 n0 _ => ⟨nn, rfl, n0, fun x tx => ?_⟩⟩⟩
      refine ⟨d, fr, De.none, [], F, x, rfl, D4.desk.same s5, fo, De.none_ok, ⟨by decide, tx⟩, by decide, by decide, fun H6 F6 d6 o6 f6 => ?_⟩
      have D6 : Dk K B H6 d fr (De.none.more.lay 0 0 x none) [.phrase 0 x 0] F6 := (D4.next s5).went ⟨d6, o6, f6⟩
      clear d6 o6 f6
      obtain ⟨B6, hB6, _, _⟩ := id D6.desk
      have ok6 : (De.none.more.lay 0 0 x none).Ok fr := De.none_ok.phrase (by decide) tx
      refine ⟨_, rfl, d, _, _, rfl, hB6.obj, rfl, d, fr, _, _, F6, rfl, D6.desk, ok6, fo, fun H7 r7 s7 nr7 hr7 => ?_⟩
      have hev7 := (hev.same (D6.next s7).same)
      have Ll : ((List.range fr.length).map (· + 1)).length ≤ 7 := by
        rw [List.length_map, List.length_range]
        exact hi7
      refine ⟨_, rfl, ev, rfl, ⟨_, SqL.of (hev7)⟩, fun C1 nC1 => ?_⟩
      refine lc_list (K := K) (a := ev) (xs := (natsI ((List.range fr.length).map (· + 1))).map V.int) (fun j G => Same H7 G ∧ PrsAt G C1 ((((List.range fr.length).map (· + 1)).take j).map fun (t : Nat) => ((0 : Int), (t : Int)))) ⟨same_upd nC1, [], upd_same, All2.nil⟩ (fun j G _ z => SqL.of (z.1 _ _ (hev7))) ?_ ?_
      · rintro j v G ev2 ⟨sG, hG⟩
        obtain ⟨t, et, rfl⟩ : ∃ t : Nat, ((List.range fr.length).map (· + 1))[j]? = some t ∧ v = .int (t : Int) := by
          unfold natsI at ev2
          rw [List.map_map, List.getElem?_map] at ev2
          cases e : ((List.range fr.length).map (· + 1))[j]? with
          | none =>
            rw [e] at ev2
            cases ev2
          | some t =>
            rw [e] at ev2
            exact ⟨t, rfl, (Option.some.inj ev2).symm⟩
        obtain ⟨ws, hws, aws⟩ := id hG
        refine ⟨rfl, _, rfl, (by show 2 ≤ sizeLine; decide), fun c nc => ⟨ws, same_upd nc _ _ hws, ?_, Same.chg (sG.trans (same_upd nc)) nC1, ?_⟩⟩
        · rw [aws.len, List.length_map, List.length_take]
          have := (List.getElem?_eq_some_iff.mp et).1
          exact small1000 (by omega)
        · rw [List.take_add_one, et, Option.toList_some, List.map_append]
          exact PrsAt.snoc (hG.same (same_upd nc)) (same_upd nc _ _ hws) ⟨c, rfl, upd_same⟩
      rintro H8 ⟨sH8, hH8⟩
      rw [show ((natsI ((List.range fr.length).map (· + 1))).map V.int).length = ((List.range fr.length).map (· + 1)).length by unfold natsI; rw [List.length_map, List.length_map], List.take_length] at hH8
      refine ⟨_, _, dp_prs (hr7.same sH8), dp_prs hH8, shaped_prs _, shaped_prs _, false, ?_, iteF ?_⟩
      · rw [eqv_prs, first_olds fo, List.map_map]
        exact congrArg (fun b => V.bl (!b)) (decide_eq_true rfl)
      have D8 := (D6.next s7).next sH8
      clear hr7 nr7 hH8 nC1
      have tn1 : Turn fr ((List.range fr.length).map (· + 1)) (fun _ => False) (fun _ => False) := by
        refine ⟨fun t ht => ?_, ?_, fun j t et => ?_, fun u _ _ z => z.elim⟩
        · obtain ⟨j, hj, rfl⟩ := List.mem_map.mp ht
          have := List.mem_range.mp hj
          exact ⟨Nat.succ_pos _, by omega⟩
        · rw [List.pairwise_map]
          exact List.pairwise_lt_range.imp fun h => Nat.succ_lt_succ h
        · rw [List.getElem?_map] at et
          obtain ⟨j', ej, rfl⟩ := Option.map_eq_some_iff.mp et
          have hj := (List.getElem?_eq_some_iff.mp ej).1
          rw [List.length_range] at hj
          rw [List.getElem?_range hj] at ej
          cases (Option.some.inj ej)
          have hu := up_lt fo (t := j + 1) (by omega) (by omega)
          by_cases c : up fr (j + 1) = 0
          · exact .inl c
          · refine .inr (.inr ?_)
            rw [← List.map_take, List.take_range, Nat.min_eq_left (by omega)]
            exact List.mem_map.mpr ⟨up fr (j + 1) - 1, List.mem_range.mpr (by omega), by omega⟩
      have p1 : Puts fr (De.none.more.lay 0 0 x none) [] (fun _ => False) (fun _ => False) := by
        refine ⟨ok6, rfl, fun u _ hu => ?_, fun u _ _ hu => ?_⟩
        · rcases hu with z | z | z
          · rw [z]
            exact ⟨_, lay_now_same⟩
          · exact z.elim
          · exact (nomatch z)
        · rcases hu with z | z
          · exact z.elim
          · exact (nomatch z)
      refine ⟨_, rfl, _, rfl, _, rfl, d, fr, _, _, F6, f, ev, _, _, _, rfl, D8.desk, fo, hfB.same D8.same, hev.same D8.same, D8.out hfB, D8.out hev, tn1, p1, Ll, (by show 1 ≤ 1000; decide), (by show 1 ≤ 1000; decide), fun H9 F9 S9 ls9 w9 p9 pl9 ll9 => ?_⟩
      have D9 := D8.went w9
      have pl9' : S9.puts.length ≤ 8 := pl9
      have ll9' : ls9.length ≤ 8 := ll9
      have fr9 : Fresh0 fr S9 := by
        have all : ∀ u, 0 < u → u ≤ fr.length → u ∈ (List.range fr.length).map (· + 1) := fun u u0 u1 => List.mem_map.mpr ⟨u - 1, List.mem_range.mpr (by omega), by omega⟩
        refine ⟨p9.ok, p9.n1, fun u u1 => p9.st u u1 ?_, fun u u0 u1 => p9.ed u u0 u1 (.inr (all u u0 u1))⟩
        by_cases c : u = 0
        · exact .inl c
        · exact .inr (.inr (all u (by omega) u1))
      clear w9 p9 p1 tn1 D8 D6 D4 hB6 hB4 pl9 ll9
      -- a tongue by the cells
      refine ⟨_, rfl, _, rfl, a, ns, _, rfl, (s0B.trans D9.same).seq hS, by omega, fun cy2 => ⟨_, rfl, _, _, rfl, rfl, _, rfl, f, _, rfl, .inl (SqL.of (hfB.same D9.same)), _, _, rfl, rfl, _, _, _, rfl, by omega, by omega, by rw [List.length_map]; omega, by rw [List.length_map]; omega, fun H10 ti s10 t0_ t1_ => ?_⟩⟩
      rw [List.length_map] at t1_
      obtain ⟨t, rfl⟩ : ∃ t : Nat, ti = (t : Int) := ⟨ti.toNat, by omega⟩
      have t1 : t ≤ fr.length := by omega
      have D10 := D9.next s10
      refine ⟨_, rfl, _, rfl, f, fr, t, rfl, hfB.same D10.same, fo, fun H11 b s11 nb hb11 => ?_⟩
      have D11 := D10.next s11
      have nFb : ¬ F9 b := fun z => by
        obtain ⟨o, eo⟩ := D10.desk.there z
        rw [nb] at eo
        cases eo
      clear D9 D10 s10 s11
      generalize hL : (belowTo fr t fr.length).tail = L at hb11
      refine ⟨2, rfl, by decide, by decide, ?_⟩
      refine for_range (lo := 0) (n := 2) (fun j σ G => ∃ (v7 v8 v9 v10 v11 : Option V) (S : De) (ls : List Line) (F : Addr → Prop), σ = [some (.ref a), some (.int (i : Int)), some (.ref f), some (.ref ev), some (.ref d), some (.int (t : Int)), some (.ref b), v7, v8, v9, v10, v11] ∧ Dk K B G d fr S ls F ∧ Fresh0 fr S ∧ LsAt G b (natsI L) ∧ ¬ F b ∧ S.puts.length ≤ 8 + 10 * j ∧ ls.length ≤ 8 + 10 * j)
        ⟨_, _, _, _, _, S9, ls9, F9, rfl, D11, fr9, hb11, nFb, pl9', ll9'⟩ ?_ ?_
      · rintro j σ G hj ⟨v7, v8, v9, v10, v11, S, ls, F, rfl, DG, f0, hb, nb2, pl, ll⟩
        rw [Int.zero_add]
        obtain ⟨B1, hB1, _, _⟩ := id DG.desk
        have n1 := f0.n1
        refine ⟨_, rfl, d, _, _, rfl, hB1.obj, rfl, d, fr, S, ls, F, 0, rfl, DG.desk, f0.ok.num, fo, by omega, fun G1 r x1 nr hr => ?_⟩
        have D1 := DG.next x1
        obtain ⟨B2, hB2, _, _⟩ := id D1.desk
        refine ⟨_, rfl, d, _, _, rfl, hB2.obj, rfl, d, fr, S, ls, F, rfl, D1.desk, f0.ok, fo, fun G2 r2 x2 nr2 hr2 => ⟨Nat.zero_le _, fun g2 ng2 => ⟨_, _, dp_prs (hr2.same (same_upd ng2)), dp_prs (ps := []) ⟨[], upd_same, All2.nil⟩, shaped_prs _, shaped_prs _, false, ?_, iteF ?_⟩⟩⟩
        · rw [eqv_prs, olds_fresh fo n1 f0.ed]
          rfl
        have x3 : Same G1 (upd G2 g2 (.lst [])) := x2.trans (same_upd ng2)
        generalize upd G2 g2 (.lst []) = G3 at x3 ⊢
        have D3 := D1.next x3
        have hr3 := hr.same x3
        have rok := f0.ok.row (p := 0) (by omega)
        have hev3 := hev.same D3.same
        have hf3 := hfB.same D3.same
        refine ⟨_, rfl, ev, rfl, ⟨_, SqL.of hev3⟩, fun A1 nA1 => ?_⟩
        refine lc_list (K := K) (a := ev) (xs := (natsI ((List.range fr.length).map (· + 1))).map V.int) (fun k G => Same G3 G ∧ G A1 = some (.lst ((List.replicate k true).map V.bl))) ⟨same_upd nA1, upd_same⟩ (fun k G _ z => SqL.of (z.1 _ _ hev3)) ?_ ?_
        · rintro k v G ek ⟨sG, hA⟩
          obtain ⟨u, eu, rfl⟩ : ∃ u : Nat, ((List.range fr.length).map (· + 1))[k]? = some u ∧ v = .int (u : Int) := by
            unfold natsI at ek
            rw [List.map_map, List.getElem?_map] at ek
            cases e : ((List.range fr.length).map (· + 1))[k]? with
            | none =>
              rw [e] at ek
              cases ek
            | some u =>
              rw [e] at ek
              exact ⟨u, rfl, (Option.some.inj ek).symm⟩
          have u1 : u ≤ fr.length := by
            obtain ⟨j', hj', rfl⟩ := List.mem_map.mp (List.mem_of_getElem? eu)
            have := List.mem_range.mp hj'
            omega
          have kl : k < 7 := by
            have := (List.getElem?_eq_some_iff.mp eu).1
            omega
          refine ⟨rfl, _, rfl, _, rfl, _, rfl, f, fr, r, _, u, rfl, ⟨hf3.same sG, fo, hr3.same sG, rok, u1⟩, fun _ G4 y dy x4 ny hy => ⟨_, _, _, _, true, rfl, .own _, T.t_Fresh.ty T.k_Fresh hy, T.is_Fresh_Fresh, _, x4 _ _ hA, ?_, Same.chg (sG.trans x4) nA1, ?_⟩, fun c ec => ?_⟩
          · rw [List.length_map, List.length_replicate]
            exact small1000 (by omega)
          · rw [upd_same, List.replicate_succ', List.map_append]
            rfl
          · rw [chain_fresh fo f0.ed u u1] at ec
            cases ec
        rintro G4 ⟨x4, hA⟩
        refine ⟨A1, _, rfl, SqL.of hA, true, congrArg V.bl (all_true _), iteF ?_⟩
        have D4 := D3.next x4
        have hr4 := hr3.same x4
        clear hA nA1 hr3 hev3 hf3 nr nr2 hr2 ng2 hB1 hB2
        -- what it is put from
        refine ⟨fun σ' H' => ∃ v8 v10 v11 : Option V, σ' = [some (.ref a), some (.int (i : Int)), some (.ref f), some (.ref ev), some (.ref d), some (.int (t : Int)), some (.ref b), some (.int (j : Int)), v8, some (oV (if t = 0 then none else S.now 0 (up fr t))), v10, v11] ∧ Same G4 H', ?_, ?_⟩
        · refine ⟨_, rfl, rfl, decide (t = 0), congrArg V.bl (dec_nat (y := 0)), ?_⟩
          by_cases c0 : t = 0
          · rw [decide_eq_true c0]
            refine iteT ⟨some (.ref r), v10, v11, ?_, Same.refl _⟩
            rw [if_pos c0]
            rfl
          · rw [decide_eq_false c0]
            have hu := up_lt fo (t := t) (by omega) t1
            obtain ⟨xx, ex, x0, xl, xu⟩ := fo.at (t := t) (by omega) t1
            subst xu
            obtain ⟨kU, eU⟩ := f0.st (up fr t) (by omega)
            obtain ⟨B3, hB3, _, _⟩ := id D4.desk
            refine iteF ⟨_, rfl, d, _, _, rfl, hB3.obj, rfl, _, rfl, _, rfl, _, _, rfl, rfl, f, _, _, _, rfl, rfl, SqL.of (hfB.same D4.same), at_of (j := t - 1) (by omega) (ivs ex), d, fr, S, ls, F, 0, up fr t, rfl, D4.desk, f0.ok.num, by omega, by omega, fun e0 => ?_, fun k0 ek G5 r5 x5 nr5 hr5 => ?_⟩
            · rw [eU] at e0
              cases e0
            · refine ⟨r5, _, _, _, rfl, rfl, SqT.of hr5, atI_nat (j := 0) rfl, some (.ref r), v10, v11, ?_, x5⟩
              rw [if_neg c0, ek]
              rfl
        rintro σ' G5 ⟨v8, v10, v11, rfl, x5⟩
        have D5 := D4.next x5
        have hb5 := (((hb.same x1).same x3).same x4).same x5
        obtain ⟨B5, hB5, _, _⟩ := id D5.desk
        obtain ⟨kN, eN⟩ := f0.st t t1
        have sn : S.Seen fr 0 t (if t = 0 then none else S.now 0 (up fr t)) := by
          refine ⟨fun z => by rw [if_pos z], fun z => ?_⟩
          have hu := up_lt fo (t := t) (by omega) t1
          obtain ⟨kU, eU⟩ := f0.st (up fr t) (by omega)
          obtain ⟨j', ej, v, e1, e2, e3⟩ := f0.ok.seen_now eU
          exact ⟨j', by rw [if_neg (by omega), eU, ej], v, e1, e2, e3⟩
        have zz : TxOk "zz" := ⟨by decide, by decide, by decide⟩
        have may : S.May fr (.put 0 t "zz" (if t = 0 then none else S.now 0 (up fr t)) (S.now 0 t)) := ⟨by omega, t1, zz, rfl, sn⟩
        have ch : Chgd fr (S.lay 0 t "zz" (if t = 0 then none else S.now 0 (up fr t))) t := chgd_of fo f0.ok f0.ed t1 fun z => ⟨f0.st _ (by have := up_lt fo (t := t) (by omega) t1; omega), by rw [if_neg (by omega)]⟩
        have ok6 : (S.lay 0 t "zz" (if t = 0 then none else S.now 0 (up fr t))).Ok fr := f0.ok.lay (by omega) t1 zz sn
        refine ⟨_, rfl, d, _, _, rfl, hB5.obj, rfl, _, rfl, _, rfl, _, rfl, d, _, _, rfl, hB5.obj, rfl, _, rfl, d, fr, S, ls, F, 0, t, rfl, D5.desk, f0.ok.num, by omega, t1, fun e0 => ?_, fun k6 e6 G6 r6 x6 nr6 hr6 => ?_⟩
        · rw [eN] at e0
          cases e0
        refine ⟨r6, _, _, _, rfl, rfl, SqT.of hr6, atI_nat (j := 0) rfl, d, fr, S, ls, F, 0, t, "zz", (if t = 0 then none else S.now 0 (up fr t)), S.now 0 t, by rw [e6]; rfl, D5.desk.same x6, fo, may, by omega, by omega, fun G7 F7 d7 o7 f7 => ?_⟩
        have w7 : Went (He.ga K "Desk") (He.ga K "Past") d fr G6 F (S.lay 0 t "zz" (if t = 0 then none else S.now 0 (up fr t))) (ls ++ [.put 0 t "zz" (if t = 0 then none else S.now 0 (up fr t)) (S.now 0 t) (S.puts.length : Int)]) G7 F7 := ⟨d7, o7, f7⟩
        have D7 := (D5.next x6).went w7
        obtain ⟨nb7, hb7⟩ := went_keep w7 nb2 (hb5.same x6)
        have st7 : ∀ u, u ≤ fr.length → ∃ k, (S.lay 0 t "zz" (if t = 0 then none else S.now 0 (up fr t))).now 0 u = some k := fun u u1 => by
          by_cases c : u = t
          · rw [c]
            exact ⟨_, lay_now_same⟩
          · rw [lay_now_ne c]
            exact f0.st u u1
        have lie7 : (S.lay 0 t "zz" (if t = 0 then none else S.now 0 (up fr t))).lie 0 t = S.lie 0 t ++ [(S.puts.length : Int)] := by
          show setL S.lie 0 t _ 0 t = _
          unfold setL
          rw [if_pos ⟨rfl, rfl⟩]
        have lie0 : S.lie 0 t ≠ [] := fun z => by
          have e : (S.lie 0 t).getLast? = some kN := eN
          rw [z] at e
          cases e
        have pl7 : (S.lay 0 t "zz" (if t = 0 then none else S.now 0 (up fr t))).puts.length ≤ 8 + 10 * j + 1 := by
          show (S.puts ++ [_]).length ≤ _
          rw [List.length_append, List.length_singleton]
          omega
        have ll7 : (ls ++ [Line.put 0 t "zz" (if t = 0 then none else S.now 0 (up fr t)) (S.now 0 t) (S.puts.length : Int)]).length ≤ 8 + 10 * j + 1 := by
          rw [List.length_append, List.length_singleton]
          omega
        have now7 : (S.lay 0 t "zz" (if t = 0 then none else S.now 0 (up fr t))).now 0 t = some (S.puts.length : Int) := lay_now_same
        have back7 : ((S.lay 0 t "zz" (if t = 0 then none else S.now 0 (up fr t))).off 0 t).Ok fr → Fresh0 fr ((S.lay 0 t "zz" (if t = 0 then none else S.now 0 (up fr t))).off 0 t) := f0.back
        have plo : ((S.lay 0 t "zz" (if t = 0 then none else S.now 0 (up fr t))).off 0 t).puts.length ≤ 8 + 10 * j + 1 := pl7
        have n7 : (S.lay 0 t "zz" (if t = 0 then none else S.now 0 (up fr t))).n = 1 := n1
        clear d7 o7 f7 w7 hr6 nr6 hB5 sn may
        generalize S.lay 0 t "zz" (if t = 0 then none else S.now 0 (up fr t)) = S7 at D7 ch ok6 st7 lie7 pl7 now7 back7 plo n7 ⊢
        generalize ls ++ [Line.put 0 t "zz" (if t = 0 then none else S.now 0 (up fr t)) (S.now 0 t) (S.puts.length : Int)] = ls7 at D7 ll7 ⊢
        have bc : L = ((List.range fr.length).filter fun j => (chain fr (S7.row (fr.length + 1) 0) (j + 1)).isSome).map (· + 1) := by
          rw [← hL, below_chain fo ch fr.length (Nat.le_refl _)]
          rfl
        have memL : ∀ u, u ∈ L ↔ (0 < u ∧ u ≤ fr.length ∧ (chain fr (S7.row (fr.length + 1) 0) u).isSome = true) := by
          intro u
          rw [bc, List.mem_map]
          constructor
          · rintro ⟨j', hj', rfl⟩
            rw [List.mem_filter, List.mem_range] at hj'
            exact ⟨Nat.succ_pos _, hj'.1, hj'.2⟩
          · rintro ⟨u0, u1, hc⟩
            refine ⟨u - 1, List.mem_filter.mpr ⟨List.mem_range.mpr (by omega), ?_⟩, by omega⟩
            show (chain fr (S7.row (fr.length + 1) 0) (u - 1 + 1)).isSome = true
            rw [show u - 1 + 1 = u by omega]
            exact hc
        have Ll : L.length ≤ 7 := by
          rw [bc, List.length_map]
          have := List.length_filter_le (fun j => (chain fr (S7.row (fr.length + 1) 0) (j + 1)).isSome) (List.range fr.length)
          rw [List.length_range] at this
          omega
        obtain ⟨B7, hB7, _, _⟩ := id D7.desk
        refine ⟨_, rfl, d, _, _, rfl, hB7.obj, rfl, d, fr, S7, ls7, F7, rfl, D7.desk, ok6, fo, fun G8 r8 x8 nr8 hr8 => ?_⟩
        refine ⟨_, rfl, b, rfl, ⟨_, SqL.of ((show LsAt G8 b (natsI L) from x8 _ _ hb7))⟩, fun C2 nC2 => ?_⟩
        refine lc_list (K := K) (a := b) (xs := (natsI (L)).map V.int) (fun j G => Same G8 G ∧ PrsAt G C2 (((L).take j).map fun (t : Nat) => ((0 : Int), (t : Int)))) ⟨same_upd nC2, [], upd_same, All2.nil⟩ (fun j G _ z => SqL.of (z.1 _ _ ((show LsAt G8 b (natsI L) from x8 _ _ hb7)))) ?_ ?_
        · rintro j v G ev2 ⟨sG, hG⟩
          obtain ⟨t, et, rfl⟩ : ∃ t : Nat, (L)[j]? = some t ∧ v = .int (t : Int) := by
            unfold natsI at ev2
            rw [List.map_map, List.getElem?_map] at ev2
            cases e : (L)[j]? with
            | none =>
              rw [e] at ev2
              cases ev2
            | some t =>
              rw [e] at ev2
              exact ⟨t, rfl, (Option.some.inj ev2).symm⟩
          obtain ⟨ws, hws, aws⟩ := id hG
          refine ⟨rfl, _, rfl, (by show 2 ≤ sizeLine; decide), fun c nc => ⟨ws, same_upd nc _ _ hws, ?_, Same.chg (sG.trans (same_upd nc)) nC2, ?_⟩⟩
          · rw [aws.len, List.length_map, List.length_take]
            have := (List.getElem?_eq_some_iff.mp et).1
            exact small1000 (by omega)
          · rw [List.take_add_one, et, Option.toList_some, List.map_append]
            exact PrsAt.snoc (hG.same (same_upd nc)) (same_upd nc _ _ hws) ⟨c, rfl, upd_same⟩
        rintro G9 ⟨sG9, hG9⟩
        rw [show ((natsI (L)).map V.int).length = (L).length by unfold natsI; rw [List.length_map, List.length_map], List.take_length] at hG9
        refine ⟨_, _, dp_prs (hr8.same sG9), dp_prs hG9, shaped_prs _, shaped_prs _, false, ?_, iteF ?_⟩
        · rw [eqv_prs, olds_one n7]
          refine congrArg (fun b => V.bl (!b)) (decide_eq_true ?_)
          rw [bc, List.map_map]
          rfl
        have D9 := (D7.next x8).next sG9
        have hb9 : LsAt G9 b (natsI L) := sG9 _ _ (x8 _ _ hb7)
        clear hr8 nr8 hG9 nC2 hB7
        refine ⟨_, rfl, b, rfl, ⟨_, SqL.of hb9⟩, ?_⟩
        refine for_it (walk_list (K := K) (a := b) (xs := (natsI L).map V.int)) (fun k σ G => ∃ (v10 v11 : Option V), σ = [some (.ref a), some (.int (i : Int)), some (.ref f), some (.ref ev), some (.ref d), some (.int (t : Int)), some (.ref b), some (.int (j : Int)), v8, some (oV (if t = 0 then none else S.now 0 (up fr t))), v10, v11] ∧ Same G9 G) ⟨_, _, rfl, Same.refl _⟩ (fun k σ G _ ⟨_, _, _, z⟩ => SqL.of (z _ _ hb9)) ?_ ?_
        · rintro k v σ G10 G10' hk ⟨w10, w11, rfl, x10⟩ ⟨rfl, ek⟩
          obtain ⟨u, eu, rfl⟩ : ∃ u : Nat, L[k]? = some u ∧ v = .int (u : Int) := by
            unfold natsI at ek
            rw [List.map_map, List.getElem?_map] at ek
            cases e : L[k]? with
            | none =>
              rw [e] at ek
              cases ek
            | some u =>
              rw [e] at ek
              exact ⟨u, rfl, (Option.some.inj ek).symm⟩
          obtain ⟨u0, u1, hc⟩ := (memL u).mp (List.mem_of_getElem? eu)
          obtain ⟨c, ec⟩ := Option.isSome_iff_exists.mp hc
          obtain ⟨hh, l, hl, l0, l1, lu⟩ := ch.chain fo u u1 c ec
          have D10 := D9.next x10
          obtain ⟨B10, hB10, _, _⟩ := id D10.desk
          refine ⟨_, rfl, _, rfl, d, _, _, rfl, hB10.obj, rfl, d, fr, S7, ls7, F7, 0, rfl, D10.desk, ok6.num, fo, by omega, fun G11 r11 x11 nr11 hr11 => ?_⟩
          refine ⟨_, rfl, f, fr, r11, _, u, rfl, ⟨hfB.same (D10.next x11).same, fo, hr11, ok6.row (by omega), u1⟩, fun e0 => ?_, fun c' ec' G12 y l' x12 ny nl nyl hO => ?_⟩
          · rw [ec] at e0
            cases e0
          rw [ec] at ec'
          cases (Option.some.inj ec')
          obtain ⟨dy, ob⟩ := hO.ob
          have lst : atI (c.map V.int) (-1) = some (V.int (l : Int)) := last_at hl
          have fst : atI (c.map V.int) 0 = some (V.int (u : Int)) := by
            cases c with
            | nil => cases hh
            | cons z zs =>
              have := Option.some.inj hh
              rw [← this]
              exact atI_nat (j := 0) rfl
          obtain ⟨xx, ex, _, _, xu⟩ := fo.at l0 l1
          rw [lu] at xu
          subst xu
          refine ⟨_, rfl, _, _, _, _, true, rfl, .own _, T.t_Old.ty T.k_Old ob, T.is_Old_Old, true, rfl, iteF ?_⟩
          refine ⟨_, rfl, _, rfl, y, _, _, _, _, rfl, ob, T.k_Old, T.n_Old_chain, cfs_at l', _, rfl, l', _, _, _, rfl, rfl, SqL.of hO.ls, lst, _, _, rfl, rfl, f, _, _, _, rfl, rfl, SqL.of (hfB.same ((D10.next x11).next x12).same), at_of (j := l - 1) (by omega) (ivs ex), _, rfl, rfl, false, by rw [decide_eq_true rfl]; rfl, iteF ?_⟩
          refine ⟨_, rfl, y, _, _, _, _, rfl, ob, T.k_Old, T.n_Old_chain, cfs_at l', l', _, _, _, rfl, rfl, SqL.of hO.ls, fst, _, rfl, rfl, false, by rw [decide_eq_true rfl]; rfl, iteF ?_⟩
          exact ⟨_, _, rfl, (x10.trans x11).trans x12⟩
        · rintro σ G10 ⟨w10, w11, rfl, x10⟩
          have D10 := D9.next x10
          have hb10 := hb9.same x10
          obtain ⟨B10, hB10, _, _⟩ := id D10.desk
          have hj2 : j = 0 ∨ j = 1 := by omega
          rcases hj2 with rfl | rfl
          · refine ⟨_, rfl, rfl, true, rfl, iteT ?_⟩
            have mayb : S7.May fr (.back 0 t) := by
              refine ⟨by omega, t1, ?_⟩
              rw [lie7, List.length_append, List.length_singleton]
              have : 0 < (S.lie 0 t).length := List.length_pos_iff.mpr lie0
              split <;> omega
            refine ⟨_, rfl, d, _, _, rfl, hB10.obj, rfl, _, rfl, d, fr, S7, ls7, F7, 0, t, _, rfl, D10.desk, mayb, now7, by omega, fun G11 F11 d11 o11 f11 => ?_⟩
            have w11' : Went (He.ga K "Desk") (He.ga K "Past") d fr G10 F7 (S7.off 0 t) (ls7 ++ [.back 0 t (S.puts.length : Int)]) G11 F11 := ⟨d11, o11, f11⟩
            obtain ⟨nb11, hb11'⟩ := went_keep w11' nb7 hb10
            exact ⟨_, _, _, _, _, _, _, F11, rfl, D10.went w11', back7 (ok6.off mayb.2.2), hb11', nb11, by omega, by rw [List.length_append, List.length_singleton]; omega⟩
          · refine ⟨_, rfl, rfl, false, rfl, iteF ?_⟩
            have tn2 : Turn fr L (fun u => u ∉ L) (fun _ => True) := by
              refine ⟨fun u hu => ⟨((memL u).mp hu).1, ((memL u).mp hu).2.1⟩, ?_, fun _ _ _ => .inr (.inl trivial), fun u u0 u1 nu v hv e => ?_⟩
              · rw [bc, List.pairwise_map]
                exact (List.pairwise_lt_range.filter _).imp fun h => Nat.succ_lt_succ h
              · apply nu
                rw [memL]
                refine ⟨u0, u1, ?_⟩
                rw [ch.step fo u0 u1]
                split
                · rfl
                · rw [Option.isSome_map, e]
                  exact ((memL v).mp hv).2.2
            have p2 : Puts fr S7 [] (fun u => u ∉ L) (fun _ => True) := by
              refine ⟨ok6, n7, fun u u1 _ => st7 u u1, fun u u0 u1 hu => ?_⟩
              rcases hu with z | z
              · refine ch.yes u u0 u1 fun e => z ((memL u).mpr ⟨u0, u1, ?_⟩)
                rw [ch.step fo u0 u1, if_pos e]
                rfl
              · exact (nomatch z)
            refine ⟨_, rfl, _, rfl, _, rfl, d, fr, S7, ls7, F7, f, b, L, _, _, rfl, D10.desk, fo, hfB.same D10.same, hb10, D10.out hfB, nb7, tn2, p2, Ll, by omega, by omega, fun G11 F11 S11 ls11 w11' p11 pl11 ll11 => ?_⟩
            obtain ⟨nb11, hb11'⟩ := went_keep w11' nb7 hb10
            refine ⟨_, _, _, _, _, S11, ls11, F11, rfl, D10.went w11', ⟨p11.ok, p11.n1, fun u u1 => p11.st u u1 (.inr (.inl trivial)), fun u u0 u1 => p11.ed u u0 u1 (Classical.em (u ∈ L)).symm⟩, hb11', nb11, by omega, by omega⟩
      · rintro σ G ⟨v7, v8, v9, v10, v11, S, ls, F, rfl, DG, f0, hb, nb2, pl, ll⟩
        obtain ⟨B1, hB1, _, _⟩ := id DG.desk
        refine ⟨_, rfl, d, _, _, rfl, hB1.obj, rfl, d, fr, S, ls, F, rfl, DG.desk, f0.ok, fo, fun G2 r2 x2 nr2 hr2 => ⟨Nat.zero_le _, fun g2 ng2 => ⟨_, _, dp_prs (hr2.same (same_upd ng2)), dp_prs (ps := []) ⟨[], upd_same, All2.nil⟩, shaped_prs _, shaped_prs _, false, ?_, iteF ?_⟩⟩⟩
        · rw [eqv_prs, olds_fresh fo f0.n1 f0.ed]
          rfl
        · exact ⟨_, _, _, _, _, _, _, _, _, _, _, rfl, s0B.trans (DG.same.trans (x2.trans (same_upd ng2)))⟩
    · rintro σ H1 ⟨v1, v2, v3, v4, v5, v6, v7, v8, v9, v10, v11, rfl, s1⟩
      exact q H1

end PD

namespace PD
open PySem PySem.Spec PyProof.Rows L2
theorem facts {P : Program} {w : World} {K : PySem.W.Frag} {h : Heap} {mg : Str → Option Value} {f : Addr} (X : K.In h) (G : h.Ns mainGlobals mg) (hfa : mg ("law" : Str) = some (.ref f)) (c : He.SaysX fa fn [] [] ex w h K) :
    ∃ fd : FuncData, (∀ (t : Shared) (v : Value), BindsTo t fd ⟨[v], []⟩ [("_law_script", v)]) ∧ ∀ base : Heap, K.In base → base.Ns mainGlobals mg → FnG P w K mg base 8 f fd ["_law_script"] (spLaw K) := by
  have T : Tx K mg := tx_mk X G c
  obtain ⟨fd, F⟩ := T.F_law
  have e := hfa.symm.trans T.g_law
  cases e
  have b := FunD.bindsA (ps := ["_law_script"]) F fun _ _ _ _ _ _ us hl => match us, hl with | [_], _ => rfl
  refine ⟨fd, fun t v => b t [v] rfl, fun base _ _ => lawG T F⟩
end PD
open PySem PySem.W PySem.Calls PyProof.Rows
set_option maxRecDepth 100000 in
set_option maxHeartbeats 0 in
theorem PySem.Challenge.cw_phrasedesk_k03_whole_fresh_holds : PySem.Challenge.rw_phrasedesk_k03_whole_fresh.Holds := by
  w_on; o_law
  refine HandSHeadRun.head_any (r := OpenLaw.row PySem.Challenge.rw_phrasedesk_k03_whole_fresh) (q := view (OpenLaw.row PySem.Challenge.rw_phrasedesk_k03_whole_fresh).prog [49]) (H := PD.hk) (ob := PD.ob) (M := 6000) (loose := PD.loose) (d := HandSHeadRun.topDef (OpenLaw.row PySem.Challenge.rw_phrasedesk_k03_whole_fresh).prog 49) (kwd := []) PD.ob_eq
    (by kernel_rfl) (fun s => by kernel_rfl) PD.run (by kernel_rfl) (by kernel_rfl) (by kernel_rfl) (by rfl) (by first | assumption | decide +kernel) (by decide +kernel) ⟨rfl, rfl, rfl, rfl, rfl, by decide +kernel⟩ ?hw ?hc
  case hw => w_witness2
  case hc =>
    refine PD.walkG (l := PySem.Challenge.rw_phrasedesk_k03_whole_fresh) (n := 63) (lv := 8) (x := "_law_script") rfl (by decide) (by kernel_rfl) ⟨rfl, by decide, by decide⟩ ?F
    intro w mg fa h Y G hmg0
    obtain ⟨K, KX, c⟩ := Y
    have hmg : mg ("law" : PySem.Str) = some (.ref fa) := by
      have e : (HandSHeadRun.topDef (OpenLaw.row PySem.Challenge.rw_phrasedesk_k03_whole_fresh).prog 49).name = ("law" : PySem.Str) := by kernel_rfl
      rw [← e]
      exact hmg0
    obtain ⟨fd, hb, hF⟩ := PD.facts (P := (PySem.Challenge.rw_phrasedesk_k03_whole_fresh).prog) (w := w) KX G hmg c
    exact ⟨K, fd, PD.spLaw K, KX, hb, fun G' a ns _ _ hS => ⟨a, ns, rfl, hS, fun _ => rfl⟩, hF⟩
