import PyProof.Rows.All
import Wide.All
import OpenK.AllK
import Wide.FinOn
import HandS.ForMost
import HandS.CallLocal
import HandS.Wide
import HandS.Style
import HandS.ReplaceList
import HandS.Replace
import HandS.StrMore
import HandS.TupAny
import HandS.ReplaceLit
import PySem.Challenge.RW_heldalways_k05_marks_of_texts
set_option Elab.async false
set_option linter.all false
set_option maxRecDepth 100000
/-! defs that show their data by repr: a promise that holds where no repr is under way -/
namespace HG
open PySem PySem.Spec PyProof.Rows L2
/-- the promise of a def, asked only where no guard stands -/
structure FnG (P : Program) (w : World) (K : PySem.W.Frag) (mg : Str → Option Value) (base : Heap) (CX : CXT) (k : Nat) (f : Addr) (fd : FuncData) (ps : List Str) (sp : Sp) : Prop where
  many : ∀ vs H Q E, sp vs H Q E → vs.length = ps.length
  goes : ∀ (A : Around) (outer : List Env) (s : Shared) (H : Hp) (args : Args) (us : List Value) (vs : List V) (Q : VK) (E : XK), A.guards = some [] → Room k A →
    Env0 P w K mg base A outer s H → BindsTo s fd args (ps.zip us) → Vals vs us → sp vs H Q E → codeAny (model P w) A (.call (.ref f) args) (CR CX outer P w H s Q E) s
theorem bare_deeper {A : Around} {env : Env} (h : A.guards = some []) : (A.deeper env).guards = some [] := h
section
variable {P : Program} {w : World} {K : PySem.W.Frag} {mg : Str → Option Value} {base : Heap}
theorem FnG.of {CX : CXT} {k : Nat} {f : Addr} {fd : FuncData} {ps : List Str} {sp : Sp} (F : FnOk P w K mg base CX k f fd ps sp) : FnG P w K mg base CX k f fd ps sp :=
  ⟨F.len, fun A outer s H args us vs Q E _ => F.run A outer s H args us vs Q E⟩
/-- a def of the text keeps its promise, by its body -/
theorem okG {CX : CXT} {x qual : Str} {st : Stmt} {f : Addr} {fd : FuncData} {N ps : List Str} {k : Nat} {sp : Sp} (F : Fun K x qual st f fd) (S : FnScope N ps (defScope st))
    (many : ∀ vs H Q E, sp vs H Q E → vs.length = ps.length)
    (body : ∀ (cdv : Value) (A : Around) (outer : List Env) (s : Shared) (H : Hp) (vs : List V) (Q : VK) (E : XK), (A.deeper (envOfC qual (defScope st) s.heap.objs.size f cdv)).guards = some [] →
      Room k (A.deeper (envOfC qual (defScope st) s.heap.objs.size f cdv)) → sp vs H Q E →
      ∃ t, PSs (cxOf CX P w K mg base N qual (defScope st) f cdv A outer s H E) (defBody st) t ∧ t { nx := fun _ H1 => Q .non H1, rt := Q } (start N vs) H) :
    FnG P w K mg base CX (k + 1) f fd ps sp := by
  obtain ⟨oc, od, kV, doc, pm, an, cdv, ct, osl, efd, lk, hc⟩ := F.ex
  constructor
  · exact many
  intro A outer s H args us vs Q E bare room en bnd rel want
  subst efd
  have inH : K.In s.heap := en.mod.kin.keeps (fun b o z => (en.bs b o z).1)
  have nl : s.heap.NoLimit := en.mod.nolimit.keeps (fun b o z => (en.bs b o z).1)
  have lens : vs.length = ps.length := many _ _ _ _ want
  apply codeAny_call_function room.depth (inH _ _ lk) rfl S.co S.gen rfl (PySem.W.codeRec_of inH hc)
  apply bnd
  apply wpAny_newFunctionEnv_cells S.kind
  · rintro ⟨nm, vl⟩ mem
    rcases S.par nm (List.of_mem_zip mem).1 with z | z
    · exact Or.inl z
    · exact Or.inr ⟨z, PySem.W.cellsFrom_some _ _ _ (Or.inl z)⟩
  · intro env eenv s1 ic
    subst eenv
    refine ⟨nl.keeps ic.toInCall.keep, codeAny_func ?_⟩
    obtain ⟨t, run, got⟩ := body cdv A outer s H vs Q E (bare_deeper bare) (room.deeper _) want
    have inv := inv_start (CX := CX) (cd := cdv) (E := E) S room.hd en lens rel ic
    apply wpAny_mono (run.run [] s1 (start N vs) H _ inv got)
    · intro fl s2 z
      cases fl with
      | ret u =>
        obtain ⟨v, sl, H2, J, rv, q⟩ := z
        exact ⟨v, H2, J.os, J.bare, J.base, J.hok, rv, q⟩
      | next =>
        obtain ⟨sl, H2, J, q⟩ := z
        exact ⟨V.non, H2, J.os, J.bare, J.base, J.hok, rfl, q⟩
      | brk =>
        obtain ⟨_, _, _, no⟩ := z
        exact no.elim
      | cont =>
        obtain ⟨_, _, _, no⟩ := z
        exact no.elim
    · intro e s2 z
      exact z
/-- .. which nothing leaves by an exception -/
theorem okG0 {CX : CXT} {x qual : Str} {st : Stmt} {f : Addr} {fd : FuncData} {N ps : List Str} {k : Nat} {sp : Sp} (F : Fun K x qual st f fd) (S : FnScope N ps (defScope st))
    (many : ∀ vs H Q E, sp vs H Q E → vs.length = ps.length)
    (body : ∀ (cdv : Value) (A : Around) (outer : List Env) (s : Shared) (H : Hp) (vs : List V) (Q : VK) (E : XK), (A.deeper (envOfC qual (defScope st) s.heap.objs.size f cdv)).guards = some [] →
      Room k (A.deeper (envOfC qual (defScope st) s.heap.objs.size f cdv)) → sp vs H Q E →
      ∃ t, PSs (cxOf CX P w K mg base N qual (defScope st) f cdv A outer s H E).nox (defBody st) t ∧ t { nx := fun _ H1 => Q .non H1, rt := Q } (start N vs) H) :
    FnG P w K mg base CX (k + 1) f fd ps sp := okG F S many fun cdv A outer s H vs Q E b r h => by
  obtain ⟨t, run, got⟩ := body cdv A outer s H vs Q E b r h
  exact ⟨t, run.nox, got⟩
end
section
variable {X : Cx} {CX : CXT} {k : Nat} {f : Addr} {fd : FuncData} {ps : List Str} {sp : Sp} {dvs : List V} {ds : List Value} {E : XK} {x : Str} {p pos : Pos} {e : Expr} {es : List Expr} {t : TA}
theorem enterG {pins : List (Addr × Obj)} {σ : L2.St} {H : Hp} {s : Shared} {Q : VK} {args : Args} {us : List Value} {vs : List V} (F : FnG X.prog X.w X.K X.mg X.base CX k f fd ps sp) (bare : X.A.guards = some []) (room : Room k X.A)
    (ps_ : Passes CX X E) (I : Inv X pins σ H s) (bnd : BindsTo s fd args (ps.zip us)) (rel : Vals vs us) (want : sp vs H Q E) :
    codeAny (model X.prog X.w) X.A (.call (.ref f) args) (fun r s' => match r with | .ok (.ret u) => EP X pins σ Q u s' | .ok _ => False | .error e => X.xe e s') s := by
  apply codeAny_mono (F.goes X.A X.stack s H args us vs Q E bare room I.env0 bnd rel want)
  intro r s2 z
  cases r with
  | error er => exact ps_ pins σ H s er s2 I z
  | ok fl =>
    cases fl with
    | ret u => exact I.after z
    | next => exact z.elim
    | brk => exact z.elim
    | cont => exact z.elim
theorem asCall {pins : List (Addr × Obj)} {σ : L2.St} {Q : VK} {s : Shared} {args : Args} (h : codeAny (model X.prog X.w) X.A (.call (.ref f) args) (fun r s' => match r with | .ok (.ret u) => EP X pins σ Q u s' | .ok _ => False | .error e => X.xe e s') s) :
    wpAny (model X.prog X.w) X.A (call (.ref f) args.pos args.kw) (EP X pins σ Q) X.xe s := by
  apply wpAny_call
  apply codeAny_mono h
  intro r s2 z
  cases r with
  | error er => exact z
  | ok fl =>
    cases fl with
    | ret u => exact z
    | next => exact z.elim
    | brk => exact z.elim
    | cont => exact z.elim
theorem pe_callG (F : FnG X.prog X.w X.K X.mg X.base CX k f fd ps sp) (bare : X.A.guards = some []) (room : Room k X.A) (hg : Gl X x) (hm : X.mg x = some (.ref f)) (hk : PySem.W.keepIn X.K (.ref f) = true) (hb : Binds X.K fd ps ds) (hd : Vals dvs ds) (hx : Passes CX X E)
    (ha : PA X (e :: es) t) (hdb : (x == ("__debug__" : Str)) = false := by decide) (he : starEach (e :: es) X.env = (false, eval e X.env) :: starEach es X.env := by rfl) (hpl : (backTo pos (starEach es X.env)).any (·.1) = false := by rfl) :
    PE X (.Call (.Name x p) (e :: es) [] pos) (tCall sp dvs E t) := by
  constructor
  intro pins s σ H Q I h
  apply wpAny_Call_Name_kw
  refine ld_glob I hg hm ?_ hdb
  apply PySem.W.callWith_K (h₀ := X.base) I.ok.mod.kin hk _ he hpl
  refine thn (ha.run pos pins s σ H _ I h) ?_
  rintro us s1 ⟨vs, H1, I1, r1, q1⟩
  have rel : Vals (vs ++ dvs) (us ++ ds) := r1.append hd
  refine ⟨I1.kIn, asCall (args := ⟨us, []⟩) (enterG F bare room hx I1 (hb _ _ I1.kIn ?_) rel q1)⟩
  rw [← rel.length]
  exact F.many _ _ _ _ q1
theorem pe_callGK {ks : List Str} {kws : List Keyword} {tk : TA} {g : List Value → List Value → List Value} {gV : List V → List V → List V} (F : FnG X.prog X.w X.K X.mg X.base CX k f fd ps sp) (bare : X.A.guards = some []) (room : Room k X.A) (hg : Gl X x)
    (hm : X.mg x = some (.ref f)) (hk : PySem.W.keepIn X.K (.ref f) = true) (hb : KBinds X.K fd ps ks g gV) (hx : Passes CX X E) (hkw : PK X kws tk)
    (hall : (backToKw pos (keywordEach kws X.env)).all (·.1.isSome) = true := by rfl) (hks : (backToKw pos (keywordEach kws X.env)).filterMap (·.1) = ks := by rfl) (hdb : (x == ("__debug__" : Str)) = false := by decide)
    (hpl : ((backTo pos (starEach [] X.env)).any (·.1) || (backToKw pos (keywordEach kws X.env)).any (·.1.isNone)) = false := by rfl) :
    PE X (.Call (.Name x p) [] kws pos) (tCallK sp gV E tNil tk) := by
  constructor
  intro pins s σ H Q I h
  apply wpAny_Call_Name_kw
  refine ld_glob I hg hm ?_ hdb
  apply PySem.W.callWith_KW0 (h₀ := X.base) I.ok.mod.kin hk hall _ hpl
  refine thn (hkw.run pos pins s σ H _ I h) ?_
  rintro ws s1 ⟨zs, H1, I1, r1, q1⟩
  rw [hks]
  have rel : Vals (gV [] zs) (g [] ws) := hb.rel .nil r1
  refine ⟨I1.kIn, asCall (args := ⟨[], ks.zip ws⟩) (enterG F bare room hx I1 (hb.to _ _ _ I1.kIn ?_) rel q1)⟩
  rw [← rel.length]
  exact F.many _ _ _ _ q1
/-- repr of data -/
def rRepr (K : PySem.W.Frag) : List V → Hp → VK → Prop := fun xs H Q => ∃ x d, xs = [x] ∧ Dp K H x d ∧ d.showable = true ∧ d.hasDict = false ∧ d.depth ≤ 60 ∧ d.shown.length ≤ sizeLine ∧ Q (.str d.shown) H
theorem call_repr (bare : X.A.guards = some []) (hu : X.A.units + 64 < cLine) : CallR X (.builtin "repr") (rRepr X.K) := by
  intro pins s σ H xs us Q I rel h
  obtain ⟨x, d, rfl, hd, hs, hn, dp, sz, q⟩ := h
  obtain ⟨u, rfl, ru⟩ : ∃ u, us = [u] ∧ RelV x u := by
    cases rel with
    | cons a b =>
      cases b
      exact ⟨_, rfl, a⟩
  obtain ⟨as, rd⟩ := Dp.reads I d x u hd ru
  have big : ∀ a, u = .ref a → wpAny (model X.prog X.w) X.A (call (.builtin "repr") [u]) (EP X pins σ Q) X.xe s := by
    rintro a rfl
    refine repr_of_reads' rd hs (PyData.noDict_hsm hn) bare (by omega) (fun _ _ z => z) ?_ sz
    intro h1 v tk keep
    exact ⟨.str d.shown, H, I.kept keep, ⟨v, rfl⟩, q⟩
  cases hd with
  | lst _ _ => exact big _ ru
  | tup _ _ => exact big _ ru
  | non =>
    cases ru
    exact PySem.P.repr_of_none ⟨.str _, H, I.tok _, ⟨_, rfl⟩, q⟩
  | bl b =>
    cases ru
    exact PySem.P.repr_of_bool ⟨.str _, H, I.tok _, ⟨_, rfl⟩, q⟩
  | int i =>
    obtain ⟨t, rfl⟩ := ru
    exact PySem.P.repr_of_int (of_decide_eq_true (by simpa [PyData.showable] using hs)) ⟨.str _, H, I.tok _, ⟨_, rfl⟩, q⟩
  | str y =>
    obtain ⟨t, rfl⟩ := ru
    exact PySem.P.repr_of_str ⟨.str _, H, I.tok _, ⟨_, rfl⟩, q⟩ sz
end
/-! ### the law's own head -/
section
variable {P : Program} {w : World} {K : PySem.W.Frag} {mg mb : Str → Option Value} {CX : CXT} {k : Nat} {fa a : Addr} {fd : FuncData} {x : Str} {sp : Sp} {s₁ : Shared} {vs : List Value} {ns : List Int}
/-- the abstract heap at the law's entry: the script, if it is no object of the module -/
def entryHp (K : PySem.W.Frag) (a : Addr) (vs : List Value) (ns : List Int) : Hp := fun b => if b = a ∧ K.lookup a = none then some (.frz { cls := .type "list", data := .seq vs.toArray } (.lst (ns.map V.int))) else none
theorem entry_one {b : Addr} (h : entryHp K a vs ns b ≠ none) : b = a ∧ K.lookup a = none := by
  unfold entryHp at h
  split at h
  · assumption
  · exact absurd rfl h
theorem entry_is {b : Addr} {o : HO} (h : entryHp K a vs ns b = some o) : b = a ∧ K.lookup a = none ∧ o = .frz { cls := .type "list", data := .seq vs.toArray } (.lst (ns.map V.int)) := by
  have e := entry_one (K := K) (a := a) (vs := vs) (ns := ns) (b := b) (by rw [h]; exact fun z => nomatch z)
  unfold entryHp at h
  rw [if_pos e] at h
  exact ⟨e.1, e.2, (Option.some.inj h).symm⟩
theorem entry_call (inK : K.In s₁.heap) (main : s₁.heap.Ns mainGlobals mg) (bl : s₁.heap.Ns builtinsNs mb) (boot : ∀ x : Str, x ≠ "__name__" → mb x = bootBuiltins x) (lim : s₁.heap.NoLimit) (gens : s₁.gens = #[])
    (obj : s₁.heap.get? a = some { cls := .type "list", data := .seq vs.toArray }) (inq : IntsAre vs ns) (few : ns.length ≤ sizeLine) (room : Room k callerA)
    (F : ∀ base : Heap, K.In base → base.Ns mainGlobals mg → FnG P w K mg base CX k fa fd [x] sp) (bind : ∀ (s : Shared) (u : Value), BindsTo s fd ⟨[u], []⟩ [(x, u)])
    (want : ∀ H : Hp, SqL K H a (ns.map V.int) → sp [.ref a] H (fun v _ => v = .bl true) fun _ _ _ => False)
    (none_ : ∀ H e s', CX [] H s₁ (fun _ _ _ => False) e s' → False) :
    codeAny (model P w) callerA (.call (.ref fa) ⟨[.ref a], []⟩) (fun r s' => r = .ok (.ret (.bool true)) ∧ OldK s₁.heap s'.heap ∧ s'.os = s₁.os ∧ AllBare s'.gens) s₁ := by
  have rel := vals_ints inq
  have hl := inq.length
  let H := entryHp K a vs ns
  have ok : HOk P w H s₁.heap := by
    intro b o z
    obtain ⟨rfl, _, rfl⟩ := entry_is z
    exact ⟨obj, by rw [List.length_map]; exact few, vs, _, rel, obj⟩
  have seq : SqL K H a (ns.map V.int) := by
    cases q : K.lookup a with
    | none => exact .inl (.inr ⟨_, if_pos ⟨rfl, q⟩⟩)
    | some o =>
      obtain rfl : o = { cls := .type "list", data := .seq vs.toArray } := Option.some.inj ((inK a o q).symm.trans obj)
      exact .inr ⟨_, vs.toArray, _, q, rfl, rfl, rfl, by rw [List.size_toArray, hl]; exact few, rel⟩
  -- a dict, or an object of the module, is not the script
  have dicts : ∀ {b : Addr} {o : Obj} {es : Array DictEntry} {ep : Nat}, s₁.heap.get? b = some o → o.data = .dict es ep → H b = none := by
    intro b o es ep z dz
    apply Classical.byContradiction
    intro no
    have eb : b = a := (entry_one no).1
    subst eb
    have eo : o = _ := Option.some.inj (z.symm.trans obj)
    subst eo
    cases dz
  have left : ∀ {b : Addr} {m : Str → Option Value}, s₁.heap.Ns b m → (hidT s₁.heap H).Ns b m := by
    rintro b m ⟨o, es, ep, z, dz, more⟩
    exact ⟨o, es, ep, hidT_get z (dicts z dz), dz, more⟩
  have inB : K.In (hidT s₁.heap H) := by
    intro b o z
    refine hidT_get (inK b o z) (Classical.byContradiction fun no => ?_)
    obtain ⟨rfl, out⟩ := entry_one no
    rw [out] at z
    cases z
  have md : Mod K mg (hidT s₁.heap H) := by
    refine ⟨inB, left main, ⟨mb, left bl, boot⟩, ?_⟩
    obtain ⟨mc, l1, l2⟩ := lim
    exact ⟨mc, left l1, l2⟩
  have en : Env0 P w K mg (hidT s₁.heap H) callerA [] s₁ H :=
    { frames := rfl, mod := md, bs := fun b o z => of_hidT z, bsz := Nat.le_of_eq (hidT_size _ _), funs := trivial, frf := fun b z => (by cases z), hok := ok, bare := .of_eq gens }
  apply codeAny_mono ((F _ inB (left main)).goes callerA [] s₁ H ⟨[.ref a], []⟩ [.ref a] [.ref a] _ _ rfl room en (bind s₁ (.ref a)) (.cons rfl .nil) (want H seq))
  intro r s2 z
  cases r with
  | error e => exact (none_ H e s2 z).elim
  | ok fl =>
    cases fl with
    | next => exact z.elim
    | brk => exact z.elim
    | cont => exact z.elim
    | ret u =>
      obtain ⟨v, H2, os, bare, un, ok2, rv, q⟩ := z
      have qv : v = .bl true := q
      subst qv
      have eu : u = Value.bool true := rv
      subst eu
      refine ⟨rfl, OldK.of_keep ?_, os, bare⟩
      intro b o zb
      cases q : H b with
      | none => exact un.keep b o zb q (by intro z; cases z) (by intro z; cases z)
      | some ho =>
        obtain ⟨rfl, _, rfl⟩ := entry_is q
        have back := un.frzs _ _ _ q
        have now := (ok2 _ _ back).1
        have eo : o = _ := Option.some.inj (zb.symm.trans obj)
        subst eo
        exact now
end
/-- what k_head leaves, from such a promise of the law -/
theorem walk_G {l : PySem.W.OpenLaw} {n k : Nat} {q : Program} {loose : List Str} {XP : (Str → Option Value) → Heap → Prop} {YP : World → Heap → Prop} {d : DefRec} {K : Params → PySem.W.Frag} {CX : World → CXT} {sp : World → Sp} {x : Str}
    (most : l.most = some n) (few : n ≤ sizeLine) (dfl : d.params.defaults = []) (room : Room k callerA) (inK : ∀ (w : World) (h : Heap), YP w h → (K w.params).In h)
    (F : ∀ (w : World) (mg : Str → Option Value) (fa : Addr) (h : Heap), (K w.params).In h → h.Ns mainGlobals mg → mg d.name = some (.ref fa) → ∃ fd : FuncData,
      (∀ (s : Shared) (u : Value), BindsTo s fd ⟨[u], []⟩ [(x, u)]) ∧ ∀ base : Heap, (K w.params).In base → base.Ns mainGlobals mg → FnG l.prog w (K w.params) mg base (CX w) k fa fd [x] (sp w))
    (want : ∀ (w : World) (H : Hp) (a : Addr) (ns : List Int), ns.length ≤ n → SqL (K w.params) H a (ns.map V.int) → sp w [.ref a] H (fun v _ => v = .bl true) fun _ _ _ => False)
    (none_ : ∀ (w : World) (H : Hp) (s : Shared) (e : Value) (s' : Shared), CX w [] H s (fun _ _ _ => False) e s' → False) : PySem.W.WalkO q loose XP YP l.row.toRowW d [] (fun f vs => PySem.call f vs) := by
  apply Att.attach_call most dfl
  intro w s₀ s₁ mg mb fa o pm cd doc a vs ns G Y ho hd hcd hmg obj inq many gens
  have X := inK w _ Y
  obtain ⟨fd, bind, all⟩ := F w mg fa _ X G.T.g hmg
  exact entry_call X G.T.g G.T.b G.T.builtins G.T.nolimit gens obj inq (Nat.le_trans many few) room all bind (fun H seq => want w H a ns many seq) fun H e s' => none_ w H s₁ e s'
/-! ### ways that meet behind an if without else: R holds behind both -/
theorem meet {b : Bool} {A : Prop} {G : Hp → Prop} {H : Hp} (R : Hp → Prop) (rest : ∀ H', R H' → G H') (h1 : b = true → (∀ H', R H' → G H') → A) (h2 : b = false → R H) : if b = true then A else G H := by
  cases b with
  | true => exact iteT (h1 rfl rest)
  | false => exact iteF (rest H (h2 rfl))
theorem meetW {b : Bool} {A : Prop} {G : Hp → Prop} {H : Hp} (R : Hp → Prop) (at_ : R H) (rest : ∀ H', R H' → G H') (h1 : b = true → (∀ H', R H' → G H') → A) : if b = true then A else G H := by
  cases b with
  | true => exact iteT (h1 rfl rest)
  | false => exact iteF (rest H at_)
/-- .. behind a while's test t and u: the first part is false -/
theorem meetA {b : Bool} {A B : Prop} {G : Hp → Prop} {H : Hp} (R : Hp → Prop) (at_ : R H) (rest : ∀ H', R H' → G H') (h1 : b = true → (∀ H', R H' → G H') → A) : if b = true then A else (if false = true then B else G H) := by
  cases b with
  | true => exact iteT (h1 rfl rest)
  | false => exact iteF (iteF (rest H at_))
/-- a statement whose ways meet at R, and what is behind it -/
theorem thru {t u : TS} {D : Ends} {σ : L2.St} {H : Hp} (R : L2.St → Hp → Prop) (rest : ∀ σ' H', R σ' H' → u D σ' H') (h : ∀ G : L2.St → Hp → Prop, (∀ σ' H', R σ' H' → G σ' H') → t { D with nx := G } σ H) : tSeq t u D σ H := h (u D) rest
/-! ### short words for calls -/
/-- the def named x keeps a promise -/
structure Ent (P : Program) (w : World) (K : PySem.W.Frag) (mg : Str → Option Value) (base : Heap) (k : Nat) (x : Str) (ps : List Str) (sp : Sp) : Prop where
  ex : ∃ (f : Addr) (fd : FuncData), FnOk P w K mg base CX0 k f fd ps sp ∧ PySem.W.keepIn K (.ref f) = true ∧ Binds K fd ps [] ∧ mg x = some (.ref f)
structure EntG (P : Program) (w : World) (K : PySem.W.Frag) (mg : Str → Option Value) (base : Heap) (k : Nat) (x : Str) (ps : List Str) (sp : Sp) : Prop where
  ex : ∃ (f : Addr) (fd : FuncData), FnG P w K mg base CX0 k f fd ps sp ∧ PySem.W.keepIn K (.ref f) = true ∧ Binds K fd ps [] ∧ mg x = some (.ref f)
section
variable {X : Cx} {k : Nat} {ps : List Str} {sp : Sp} {x : Str} {p pos : Pos} {e : Expr} {es : List Expr} {t : TA}
theorem Ent.g {P : Program} {w : World} {K : PySem.W.Frag} {mg : Str → Option Value} {base : Heap} (D : Ent P w K mg base k x ps sp) : EntG P w K mg base k x ps sp := by
  obtain ⟨f, fd, F, r⟩ := D.ex
  exact ⟨f, fd, FnG.of F, r⟩
theorem pe_ent (D : Ent X.prog X.w X.K X.mg X.base k x ps sp) (hr : Room k X.A) (ha : PA X (e :: es) t) (hg : Gl X x := by rfl) (hdb : (x == ("__debug__" : Str)) = false := by decide)
    (he : starEach (e :: es) X.env = (false, eval e X.env) :: starEach es X.env := by rfl) (hpl : (backTo pos (starEach es X.env)).any (·.1) = false := by rfl) (hx : Passes CX0 X E0 := by exact pass0) : PE X (.Call (.Name x p) (e :: es) [] pos) (tCall sp [] E0 t) := by
  obtain ⟨f, fd, F, hk, hb, hm⟩ := D.ex
  exact pe_call F hr hg hm hk hb .nil hx ha hdb he hpl
theorem pe_entG (D : EntG X.prog X.w X.K X.mg X.base k x ps sp) (bare : X.A.guards = some []) (hr : Room k X.A) (ha : PA X (e :: es) t) (hg : Gl X x := by rfl) (hdb : (x == ("__debug__" : Str)) = false := by decide)
    (he : starEach (e :: es) X.env = (false, eval e X.env) :: starEach es X.env := by rfl) (hpl : (backTo pos (starEach es X.env)).any (·.1) = false := by rfl) (hx : Passes CX0 X E0 := by exact pass0) : PE X (.Call (.Name x p) (e :: es) [] pos) (tCall sp [] E0 t) := by
  obtain ⟨f, fd, F, hk, hb, hm⟩ := D.ex
  exact pe_callG F bare hr hg hm hk hb .nil hx ha hdb he hpl
structure EntK (P : Program) (w : World) (K : PySem.W.Frag) (mg : Str → Option Value) (base : Heap) (k : Nat) (x : Str) (ps ks : List Str) (gV : List V → List V → List V) (sp : Sp) : Prop where
  ex : ∃ (f : Addr) (fd : FuncData) (g : List Value → List Value → List Value), FnG P w K mg base CX0 k f fd ps sp ∧ PySem.W.keepIn K (.ref f) = true ∧ KBinds K fd ps ks g gV ∧ mg x = some (.ref f)
theorem pe_entK {ks : List Str} {kws : List Keyword} {tk : TA} {gV : List V → List V → List V} (D : EntK X.prog X.w X.K X.mg X.base k x ps ks gV sp) (bare : X.A.guards = some []) (hr : Room k X.A) (hkw : PK X kws tk)
    (hall : (backToKw pos (keywordEach kws X.env)).all (·.1.isSome) = true := by rfl) (hks : (backToKw pos (keywordEach kws X.env)).filterMap (·.1) = ks := by rfl) (hg : Gl X x := by rfl) (hdb : (x == ("__debug__" : Str)) = false := by decide)
    (hpl : ((backTo pos (starEach [] X.env)).any (·.1) || (backToKw pos (keywordEach kws X.env)).any (·.1.isNone)) = false := by rfl) (hx : Passes CX0 X E0 := by exact pass0) : PE X (.Call (.Name x p) [] kws pos) (tCallK sp gV E0 tNil tk) := by
  obtain ⟨f, fd, g, F, hk, hb, hm⟩ := D.ex
  exact pe_callGK F bare hr hg hm hk hb hx hkw hall hks hdb hpl
end
end HG

namespace K05
open PySem PySem.Spec PyProof.Rows L2 HG
def isLet (c : Nat) : Bool := decide (97 ≤ c ∧ c ≤ 122)
def isDig (c : Nat) : Bool := decide (48 ≤ c ∧ c ≤ 57)
def runEnd (p : Nat → Bool) (L : List Nat) (i : Nat) : Nat := i + ((L.drop i).takeWhile p).length
def two (L : List Nat) (i : Nat) : Bool := decide ((L.drop i).take 2 = [62, 61]) || decide ((L.drop i).take 2 = [60, 61])
def markEnd (L : List Nat) (i : Nat) : Nat :=
  if isLet (L.getD i 0) then runEnd isLet L i else if isDig (L.getD i 0) then runEnd isDig L i else if two L i then i + 2 else i + 1
theorem drop_at {L : List Nat} {i c : Nat} (h : L[i]? = some c) : L.drop i = c :: L.drop (i + 1) := by
  obtain ⟨h1, h2⟩ := List.getElem?_eq_some_iff.mp h
  rw [List.drop_eq_getElem_cons h1, h2]
theorem getD_at {L : List Nat} {i c : Nat} (h : L[i]? = some c) : L.getD i 0 = c := by
  rw [List.getD_eq_getElem?_getD, h]
  rfl
theorem run_yes {p : Nat → Bool} {L : List Nat} {i c : Nat} (h : L[i]? = some c) (hp : p c = true) : runEnd p L i = runEnd p L (i + 1) := by
  unfold runEnd
  rw [drop_at h, List.takeWhile_cons_of_pos hp, List.length_cons]
  omega
theorem run_no {p : Nat → Bool} {L : List Nat} {i c : Nat} (h : L[i]? = some c) (hp : p c = false) : runEnd p L i = i := by
  unfold runEnd
  rw [drop_at h, List.takeWhile_cons_of_neg (by rw [hp]; decide)]
  rfl
theorem run_out {p : Nat → Bool} {L : List Nat} {i : Nat} (h : L.length ≤ i) : runEnd p L i = i := by
  unfold runEnd
  rw [List.drop_eq_nil_of_le h]
  rfl
theorem run_ge (p : Nat → Bool) (L : List Nat) (i : Nat) : i ≤ runEnd p L i := Nat.le_add_right _ _
theorem run_le {p : Nat → Bool} {L : List Nat} {i : Nat} (h : i ≤ L.length) : runEnd p L i ≤ L.length := by
  unfold runEnd
  have h1 : ((L.drop i).takeWhile p).length ≤ (L.drop i).length := (List.takeWhile_sublist p).length_le
  rw [List.length_drop] at h1
  omega
theorem two_len {L : List Nat} {i : Nat} (h : two L i = true) : i + 2 ≤ L.length := by
  unfold two at h
  have h2 : ((L.drop i).take 2).length = 2 := by
    rcases Bool.or_eq_true_iff.mp h with h | h
    · rw [of_decide_eq_true h]; rfl
    · rw [of_decide_eq_true h]; rfl
  rw [List.length_take, List.length_drop] at h2
  omega
theorem end_gt {L : List Nat} {i c : Nat} (h : L[i]? = some c) : i < markEnd L i := by
  unfold markEnd
  rw [getD_at h]
  split
  · next q => rw [run_yes h q]; exact run_ge isLet L (i + 1)
  · split
    · next q => rw [run_yes h q]; exact run_ge isDig L (i + 1)
    · split <;> omega
theorem end_le {L : List Nat} {i c : Nat} (h : L[i]? = some c) : markEnd L i ≤ L.length := by
  have hi := (List.getElem?_eq_some_iff.mp h).1
  unfold markEnd
  split
  · exact run_le (Nat.le_of_lt hi)
  · split
    · exact run_le (Nat.le_of_lt hi)
    · split
      · next q => exact two_len q
      · omega
/-- a piece of a text -/
def sub (z : Str) (i e : Nat) : Str := cutS z (some (i : Int)) (some (e : Int))
theorem len_list (z : Str) : z.cps.toList.length = z.length := by simp [Str.length]
theorem sub_list {z : Str} {i e : Nat} (h1 : i ≤ e) (h2 : e ≤ z.length) : (sub z i e).cps.toList = (z.cps.toList.drop i).take (e - i) := by
  unfold sub cutS
  rw [show HT.sIx z.length 0 (some (i : Int)) = min i z.length from HT.sIx_nat z.length 0 i, show HT.sIx z.length z.length (some (e : Int)) = min e z.length from HT.sIx_nat z.length z.length e, Nat.min_eq_left (Nat.le_trans h1 h2), Nat.min_eq_left h2]
/-- where the reading stands -/
structure Pt where
  at_ : Nat
  line : Nat
  begin_ : Nat
  out : List (Int × Int × Str)
def step (z : Str) (s : Pt) : Pt :=
  let e := markEnd z.cps.toList s.at_
  let c := z.cps.toList.getD s.at_ 0
  { at_ := e
    line := if c = 10 then s.line + 1 else s.line
    begin_ := if c = 10 then e else s.begin_
    out := if c = 32 then s.out else s.out ++ [((s.line : Int), (s.at_ : Int) - (s.begin_ : Int), sub z s.at_ e)] }
def go (z : Str) : Nat → Pt → Pt
  | 0, s => s
  | n + 1, s => if s.at_ < z.length then go z n (step z s) else s
def marks (z : Str) : List (Int × Int × Str) := (go z z.length ⟨0, 0, 0, []⟩).out
theorem at_some {z : Str} {i : Nat} (h : i < z.length) : ∃ c, z.cps.toList[i]? = some c := by
  rw [← len_list] at h
  exact ⟨_, List.getElem?_eq_getElem h⟩
theorem step_lt {z : Str} {s : Pt} (h : s.at_ < z.length) : s.at_ < (step z s).at_ ∧ (step z s).at_ ≤ z.length := by
  obtain ⟨c, hc⟩ := at_some h
  exact ⟨end_gt hc, by rw [← len_list]; exact end_le hc⟩
theorem go_end {z : Str} {s : Pt} (h : z.length ≤ s.at_) : ∀ n, go z n s = s
  | 0 => rfl
  | n + 1 => by
    unfold go
    rw [if_neg (Nat.not_lt.mpr h)]
theorem go_any {z : Str} : ∀ (n m : Nat) (s : Pt), z.length - s.at_ ≤ n → z.length - s.at_ ≤ m → go z n s = go z m s
  | 0, m, s, h1, h2 => by
    rw [go_end (z := z) (by omega) m]
    rfl
  | n + 1, 0, s, h1, h2 => by
    rw [go_end (z := z) (by omega) (n + 1)]
    rfl
  | n + 1, m + 1, s, h1, h2 => by
    unfold go
    by_cases h : s.at_ < z.length
    · rw [if_pos h, if_pos h]
      have hs := step_lt h
      exact go_any n m (step z s) (by omega) (by omega)
    · rw [if_neg h, if_neg h]
/-- what both loops keep -/
def Along (z : Str) (s : Pt) : Prop := s.at_ ≤ z.length ∧ (go z (z.length - s.at_) s).out = marks z ∧ s.out.length ≤ s.at_ ∧ s.line ≤ s.at_ ∧ s.begin_ ≤ s.at_
theorem along_0 (z : Str) : Along z ⟨0, 0, 0, []⟩ := ⟨Nat.zero_le _, by rw [Nat.sub_zero]; rfl, Nat.le_refl _, Nat.le_refl _, Nat.le_refl _⟩
theorem along_step {z : Str} {s : Pt} (h : Along z s) (hi : s.at_ < z.length) : Along z (step z s) := by
  obtain ⟨h1, h2, h3, h4, h5⟩ := h
  have hs := step_lt hi
  refine ⟨hs.2, ?_, ?_, ?_, ?_⟩
  · rw [← h2, show z.length - s.at_ = (z.length - s.at_ - 1) + 1 by omega]
    conv => rhs; unfold go
    rw [if_pos hi]
    exact congrArg Pt.out (go_any _ _ _ (Nat.le_refl _) (by omega))
  · show (if _ then s.out else _).length ≤ _
    split
    · omega
    · rw [List.length_append, List.length_singleton]
      omega
  · show (if _ then s.line + 1 else s.line) ≤ _
    split
    · exact Nat.le_trans (Nat.succ_le_succ h4) hs.1
    · exact Nat.le_trans h4 (Nat.le_of_lt hs.1)
  · show (if _ then (step z s).at_ else s.begin_) ≤ (step z s).at_
    split <;> omega
theorem along_end {z : Str} {s : Pt} (h : Along z s) (hi : ¬ s.at_ < z.length) : s.out = marks z := by
  rw [← h.2.1, go_end (z := z) (by omega)]
/-! ### the marks put together -/
theorem take_more {L : List Nat} {i e : Nat} (h : i ≤ e) : L.take e = L.take i ++ (L.drop i).take (e - i) := by
  conv => lhs; rw [show e = i + (e - i) by omega]
  rw [List.take_add]
theorem while_all {p : Nat → Bool} : ∀ (l : List Nat) (c : Nat), c ∈ l.takeWhile p → p c = true
  | [], c, h => by cases h
  | d :: r, c, h => by
    by_cases hd : p d = true
    · rw [List.takeWhile_cons_of_pos hd] at h
      rcases List.mem_cons.mp h with e | h
      · rw [e]; exact hd
      · exact while_all r c h
    · rw [List.takeWhile_cons_of_neg hd] at h
      cases h
theorem all_run {p : Nat → Bool} {L : List Nat} {i : Nat} : ∀ c ∈ (L.drop i).take (runEnd p L i - i), p c = true := by
  intro c hc
  have e : runEnd p L i - i = ((L.drop i).takeWhile p).length := by
    unfold runEnd
    omega
  rw [e] at hc
  have pre : (L.drop i).take ((L.drop i).takeWhile p).length = (L.drop i).takeWhile p := by
    have h := List.takeWhile_append_dropWhile (p := p) (l := L.drop i)
    conv => lhs; rw [← h]
    rw [List.takeWhile_append_dropWhile]
    conv => lhs; arg 2; rw [← h]
    rw [List.take_left]
  rw [pre] at hc
  exact while_all _ c hc
theorem mark_free {L : List Nat} {i c : Nat} (h : L[i]? = some c) (hc : c ≠ 32) : ∀ d ∈ (L.drop i).take (markEnd L i - i), d ≠ 32 := by
  intro d hd
  unfold markEnd at hd
  rw [getD_at h] at hd
  split at hd
  · have := all_run d hd
    unfold isLet at this
    have := of_decide_eq_true this
    omega
  · split at hd
    · have := all_run d hd
      unfold isDig at this
      have := of_decide_eq_true this
      omega
    · split at hd
      · next q =>
        rw [show i + 2 - i = 2 by omega] at hd
        unfold two at q
        rcases Bool.or_eq_true_iff.mp q with q | q
        · rw [of_decide_eq_true q] at hd
          simp at hd
          omega
        · rw [of_decide_eq_true q] at hd
          simp at hd
          omega
      · rw [show i + 1 - i = 1 by omega, drop_at h] at hd
        simp at hd
        omega
theorem blank_end {L : List Nat} {i : Nat} (h : L[i]? = some 32) : markEnd L i = i + 1 := by
  unfold markEnd
  rw [getD_at h, if_neg (by decide), if_neg (by decide), if_neg]
  unfold two
  rw [drop_at h]
  simp
def keepsText (z : Str) (s : Pt) : Prop := (s.out.map fun m => m.2.2.cps.toList).flatten = (z.cps.toList.take s.at_).filter (· ≠ 32)
theorem keeps_step {z : Str} {s : Pt} (h : keepsText z s) (hi : s.at_ < z.length) : keepsText z (step z s) := by
  obtain ⟨c, hc⟩ := at_some hi
  have hs := step_lt hi
  unfold keepsText at h ⊢
  show ((if z.cps.toList.getD s.at_ 0 = 32 then s.out else _).map _).flatten = (z.cps.toList.take (markEnd z.cps.toList s.at_)).filter _
  rw [take_more (show s.at_ ≤ markEnd z.cps.toList s.at_ from Nat.le_of_lt hs.1), List.filter_append, ← h, getD_at hc]
  by_cases h32 : c = 32
  · subst h32
    rw [if_pos rfl]
    show _ = _ ++ ((z.cps.toList.drop s.at_).take (markEnd z.cps.toList s.at_ - s.at_)).filter _
    rw [blank_end hc, show s.at_ + 1 - s.at_ = 1 by omega, drop_at hc]
    simp
  · rw [if_neg h32, List.map_append, List.flatten_append]
    congr 1
    rw [List.filter_eq_self.mpr fun d hd => decide_eq_true (mark_free hc h32 d hd)]
    show [(sub z s.at_ (markEnd z.cps.toList s.at_)).cps.toList].flatten = _
    rw [sub_list (show s.at_ ≤ markEnd z.cps.toList s.at_ from Nat.le_of_lt hs.1) (show markEnd z.cps.toList s.at_ ≤ z.length from hs.2)]
    exact List.append_nil _
theorem keeps_go {z : Str} : ∀ (n : Nat) (s : Pt), keepsText z s → z.length - s.at_ ≤ n → s.at_ ≤ z.length → keepsText z (go z n s) ∧ z.length ≤ (go z n s).at_
  | 0, s, h, hn, hl => ⟨h, by show z.length ≤ s.at_; omega⟩
  | n + 1, s, h, hn, hl => by
    unfold go
    by_cases hi : s.at_ < z.length
    · rw [if_pos hi]
      have hs := step_lt hi
      exact keeps_go n (step z s) (keeps_step h hi) (by omega) hs.2
    · rw [if_neg hi]
      exact ⟨h, by omega⟩
/-- the marks joined are the text without its blanks -/
theorem marks_text (z : Str) : ((marks z).map fun m => m.2.2.cps.toList).flatten = z.cps.toList.filter (· ≠ 32) := by
  have h := keeps_go (z := z) z.length ⟨0, 0, 0, []⟩ rfl (Nat.sub_le _ _) (Nat.zero_le _)
  have e := h.1
  unfold keepsText at e
  rw [List.take_of_length_le (by rw [len_list]; exact h.2)] at e
  exact e
theorem marks_len {z : Str} : (marks z).length ≤ z.length := by
  have : ∀ (n : Nat) (s : Pt), Along z s → z.length - s.at_ ≤ n → (go z n s).out.length ≤ z.length := by
    intro n
    induction n with
    | zero => intro s h _; exact Nat.le_trans h.2.2.1 h.1
    | succ n ih =>
      intro s h hn
      unfold go
      by_cases hi : s.at_ < z.length
      · rw [if_pos hi]
        have := step_lt hi
        exact ih _ (along_step h hi) (by omega)
      · rw [if_neg hi]
        exact Nat.le_trans h.2.2.1 h.1
  exact this _ _ (along_0 z) (Nat.sub_le _ _)
end K05

namespace K05
open PySem PySem.Spec PyProof.Rows L2 HG
def topS (i : Nat) : Stmt := PySem.Challenge.pw_heldalways_k05_marks_of_texts.main.body.getD i (.Pass ⟨0, 0, 0, 0⟩)
abbrev sLet : Stmt := topS 1
abbrev sDig : Stmt := topS 2
abbrev sMarks : Stmt := topS 4
abbrev sEnd : Stmt := topS 5
abbrev sRun : Stmt := topS 6
abbrev sHeap : Stmt := topS 8
abbrev sDraw : Stmt := topS 9
abbrev sPick : Stmt := topS 10
abbrev sDue : Stmt := topS 11
abbrev sString : Stmt := topS 12
abbrev sLaw : Stmt := topS 13
theorem scLet : FnScope ["sign"] ["sign"] (defScope sLet) := ⟨rfl, rfl, rfl, by decide +kernel, rfl, by decide +kernel, by decide +kernel⟩
theorem scDig : FnScope ["sign"] ["sign"] (defScope sDig) := ⟨rfl, rfl, rfl, by decide +kernel, rfl, by decide +kernel, by decide +kernel⟩
theorem scRun : FnScope ["text", "at", "fits", "end"] ["text", "at", "fits"] (defScope sRun) := ⟨rfl, rfl, rfl, by decide +kernel, rfl, by decide +kernel, by decide +kernel⟩
theorem scEnd : FnScope ["text", "at"] ["text", "at"] (defScope sEnd) := ⟨rfl, rfl, rfl, by decide +kernel, rfl, by decide +kernel, by decide +kernel⟩
theorem scMarks : FnScope ["text", "found", "line", "begin", "at", "end"] ["text"] (defScope sMarks) := ⟨rfl, rfl, rfl, by decide +kernel, rfl, by decide +kernel, by decide +kernel⟩
theorem scDue : FnScope ["text", "found", "line", "begin", "at", "end"] ["text"] (defScope sDue) := ⟨rfl, rfl, rfl, by decide +kernel, rfl, by decide +kernel, by decide +kernel⟩
/-! ### one sign -/
theorem lt_one (a b : Nat) : decide (([a] : List Nat) < [b]) = decide (a < b) := by
  rw [decide_eq_decide]
  constructor
  · intro h
    cases h with
    | rel h => exact h
    | cons h => cases h
  · intro h
    exact List.Lex.rel h
def spFit (p : Nat → Bool) : Sp := fun vs H Q _ => ∃ c, vs = [.str ⟨#[c]⟩] ∧ Q (.bl (p c)) H
section
variable {P : Program} {w : World} {K : PySem.W.Frag} {mg : Str → Option Value} {base : Heap}
theorem between {Q : VK} {H : Hp} {a b c : Nat} (h : Q (.bl (decide (a ≤ c ∧ c ≤ b))) H) : (∃ i j, V.str ⟨#[a]⟩ = .str i ∧ V.str ⟨#[c]⟩ = .str j ∧ ∃ k, V.bl (!decide (j.cps.toList < i.cps.toList)) = .bl k ∧
    if k = true then (∃ i j, V.str ⟨#[c]⟩ = .str i ∧ V.str ⟨#[b]⟩ = .str j ∧ Q (.bl (!decide (j.cps.toList < i.cps.toList))) H) else Q (.bl false) H) := by
  refine ⟨_, _, rfl, rfl, _, rfl, ?_⟩
  show if (!decide (([c] : List Nat) < [a])) = true then _ else _
  rw [lt_one]
  by_cases h1 : c < a
  · rw [decide_eq_true h1]
    refine iteF ?_
    rw [decide_eq_false (by omega)] at h
    exact h
  · rw [decide_eq_false h1]
    refine iteT ⟨_, _, rfl, rfl, ?_⟩
    show Q (.bl (!decide (([b] : List Nat) < [c]))) H
    rw [lt_one]
    have e : (!decide (b < c)) = decide (a ≤ c ∧ c ≤ b) := by
      by_cases h2 : b < c
      · rw [decide_eq_true h2, decide_eq_false (by omega)]; rfl
      · rw [decide_eq_false h2, decide_eq_true (by omega)]; rfl
    rw [e]
    exact h
theorem ok_let {f : Addr} {fd : FuncData} (F : Fun K "is_letter" "is_letter" sLet f fd) : FnOk P w K mg base CX0 1 f fd ["sign"] (spFit isLet) := by
  refine F.ok scLet (fun vs H Q E h => ?_) (fun cdv A outer s H vs Q E hr h => ?_)
  · obtain ⟨c, rfl, _⟩ := h
    rfl
  · obtain ⟨c, rfl, q⟩ := h
    refine ⟨_, pss_one (ps_ret (pe_chain op_le_str op_le_str pe_str (pv 0) pe_str)), ?_⟩
    exact ⟨_, rfl, between q⟩
theorem ok_dig {f : Addr} {fd : FuncData} (F : Fun K "is_digit" "is_digit" sDig f fd) : FnOk P w K mg base CX0 1 f fd ["sign"] (spFit isDig) := by
  refine F.ok scDig (fun vs H Q E h => ?_) (fun cdv A outer s H vs Q E hr h => ?_)
  · obtain ⟨c, rfl, _⟩ := h
    rfl
  · obtain ⟨c, rfl, q⟩ := h
    refine ⟨_, pss_one (ps_ret (pe_chain op_le_str op_le_str pe_str (pv 0) pe_str)), ?_⟩
    exact ⟨_, rfl, between q⟩
/-! ### the end of a run, of a mark -/
theorem sizes {z : Str} (h : z.length ≤ 1000) : z.length ≤ sizeLine := Nat.le_trans h (by decide)
theorem sign_at {z : Str} {i c : Nat} (h : z.cps.toList[i]? = some c) : atI z.cps.toList (i : Int) = some c := atI_nat h
structure Fits (P : Program) (w : World) (K : PySem.W.Frag) (mg : Str → Option Value) (base : Heap) (f : Addr) (p : Nat → Bool) : Prop where
  ex : ∃ fd, FnOk P w K mg base CX0 1 f fd ["sign"] (spFit p) ∧ PySem.W.keepIn K (.ref f) = true ∧ Binds K fd ["sign"] []
def spRun (P : Program) (w : World) (K : PySem.W.Frag) (mg : Str → Option Value) (base : Heap) : Sp := fun vs H Q _ => ∃ (z : Str) (i : Nat) (f : Addr) (p : Nat → Bool), vs = [.str z, .int (i : Int), .ref f] ∧ Fits P w K mg base f p ∧ z.length ≤ 1000 ∧ i ≤ z.length ∧
  Q (.int (runEnd p z.cps.toList i : Nat)) H
theorem ok_run {f : Addr} {fd : FuncData} (F : Fun K "run_end" "run_end" sRun f fd) (ml : mg "len" = none) : FnOk P w K mg base CX0 2 f fd ["text", "at", "fits"] (spRun P w K mg base) := by
  refine F.ok scRun (fun vs H Q E h => ?_) (fun cdv A outer s H vs Q E hr h => ?_)
  · obtain ⟨z, i, g, p, rfl, _⟩ := h
    rfl
  · obtain ⟨z, i, g, p, rfl, ⟨fdg, G, kg, bg⟩, hz, hi, q⟩ := h
    refine ⟨_, pss_cons (ps_set (i := 3) scRun.nd rfl (.inl rfl) (pv 1))
      (pss_cons (ps_while PassesOwn.never (PW.pt (pw_and (pt_cmpR op_lt (pv 3) (pe_callB call_len_str (by rfl) ml PySem.boot_len (pa_cons (pv 0) pa_nil)) (nomark _))
          (pw_and1 (pt_val (pe_callL (i := 2) (f := g) G hr rfl (.inl rfl) kg bg .nil pass0 (pa_cons (pe_ix ix_str (pv 0) (pv 3) (fun _ _ => rfl)) pa_nil))))))
        (pss_one (ps_aug (i := 3) scRun.nd rfl (.inl rfl) pe_int ip_add)))
      (pss_one (ps_ret (pv 3)))), ?_⟩
    refine ⟨_, rfl, ?_⟩
    refine ⟨fun m σ H3 => ∃ e : Nat, σ = [some (.str z), some (.int (i : Int)), some (.ref g), some (.int (e : Int))] ∧ m = z.length - e ∧ e ≤ z.length ∧ runEnd p z.cps.toList e = runEnd p z.cps.toList i ∧ H3 = H,
      ⟨z.length - i, i, rfl, rfl, hi, rfl, rfl⟩, ?_⟩
    rintro m σ H3 ⟨e, rfl, rfl, he, er, rfl⟩
    refine ⟨_, rfl, _, rfl, _, rfl, sizes hz, _, _, rfl, rfl, _, rfl, ?_⟩
    refine ite2 (fun hlt => ?_) (fun hlt => ?_)
    · have hlt : e < z.length := by have := of_decide_eq_true hlt; omega
      obtain ⟨c, hc⟩ := at_some hlt
      refine ⟨rfl, _, rfl, _, rfl, _, _, c, rfl, rfl, sizes hz, sign_at hc, c, rfl, _, rfl, ?_⟩
      refine ite2 (fun hp => ?_) (fun hp => ?_)
      · refine ⟨fun σ' H' => σ' = [some (.str z), some (.int (i : Int)), some (.ref g), some (.int ((e + 1 : Nat) : Int))] ∧ H' = H3, fun σ' H' hN => ?_, ?_⟩
        · obtain ⟨rfl, rfl⟩ := hN
          exact ⟨z.length - (e + 1), by omega, e + 1, rfl, rfl, hlt, by rw [← er, run_yes hc hp], rfl⟩
        · exact ⟨_, rfl, _, _, rfl, rfl, rfl, rfl⟩
      · have hp : p c = false := by simpa using hp
        refine ⟨_, rfl, ?_⟩
        rw [← er, run_no hc hp] at q
        exact q
    · have hlt : ¬ e < z.length := fun h => hlt (decide_eq_true (by omega))
      refine iteF ?_
      refine ⟨_, rfl, ?_⟩
      rw [← er, run_out (by rw [len_list]; omega)] at q
      exact q
end
end K05

namespace K05
open PySem PySem.Spec PyProof.Rows L2 HG
theorem same_upd {H : Hp} {p : Addr} {o : HO} (h : H p = none) : Same H (upd H p o) := fun b x e => by
  rw [upd_ne (ne_of_none e h)]
  exact e
theorem str_is (a b : Str) : a = b ↔ a.cps.toList = b.cps.toList := by
  constructor
  · rintro rfl; rfl
  · intro h
    obtain ⟨x⟩ := a
    obtain ⟨y⟩ := b
    have : x = y := Array.toList_inj.mp h
    rw [this]
theorem beq_str (a b : Str) : (a == b) = decide (a.cps.toList = b.cps.toList) := by
  rw [Bool.eq_iff_iff, beq_iff_eq, decide_eq_true_eq, str_is]
theorem sub2_list (z : Str) (i n : Nat) : (cutS z (some (i : Int)) (some ((i : Int) + (n : Int)))).cps.toList = (z.cps.toList.drop i).take n := by
  rw [show ((i : Int) + (n : Int)) = ((i + n : Nat) : Int) by omega]
  unfold cutS
  rw [show HT.sIx z.length 0 (some (i : Int)) = min i z.length from HT.sIx_nat z.length 0 i, show HT.sIx z.length z.length (some ((i + n : Nat) : Int)) = min (i + n) z.length from HT.sIx_nat z.length z.length (i + n)]
  show (z.cps.toList.drop _).take _ = _
  by_cases h : i ≤ z.length
  · rw [Nat.min_eq_left h]
    by_cases h2 : i + n ≤ z.length
    · rw [Nat.min_eq_left h2, show i + n - i = n by omega]
    · rw [Nat.min_eq_right (by omega), List.take_of_length_le (by rw [List.length_drop, len_list]; omega), List.take_of_length_le (by rw [List.length_drop, len_list]; omega)]
  · rw [Nat.min_eq_right (by omega), List.drop_eq_nil_of_le (by rw [len_list]; omega), List.drop_eq_nil_of_le (by rw [len_list]; omega)]
    simp
theorem two_in (z : Str) (i : Nat) : inV (.str (cutS z (some (i : Int)) (some ((i : Int) + 2)))) [.str ">=", .str "<="] = two z.cps.toList i := by
  have e := sub2_list z i 2
  unfold inV two
  show ((((">=" : Str) == _) : Bool) || ((("<=" : Str) == _) || false)) = _
  rw [Bool.or_false, beq_str, beq_str]
  have e2 : (cutS z (some (i : Int)) (some ((i : Int) + 2))).cps.toList = (z.cps.toList.drop i).take 2 := e
  rw [e2]
  congr 1
  · rw [decide_eq_decide]
    exact ⟨fun h => h.symm, fun h => h.symm⟩
  · rw [decide_eq_decide]
    exact ⟨fun h => h.symm, fun h => h.symm⟩
section
variable {P : Program} {w : World} {K : PySem.W.Frag} {mg : Str → Option Value} {base : Heap}
def spEnd : Sp := fun vs H Q _ => ∃ (z : Str) (i c : Nat), vs = [.str z, .int (i : Int)] ∧ z.length ≤ 1000 ∧ z.cps.toList[i]? = some c ∧ ∀ H', Same H H' → Q (.int (markEnd z.cps.toList i : Nat)) H'
theorem ok_end {f fL fD fR : Addr} {fd fdL fdD fdR : FuncData} (F : Fun K "mark_end" "mark_end" sEnd f fd) (GL : FnOk P w K mg base CX0 1 fL fdL ["sign"] (spFit isLet)) (kL : PySem.W.keepIn K (.ref fL) = true) (bL : Binds K fdL ["sign"] [])
    (GD : FnOk P w K mg base CX0 1 fD fdD ["sign"] (spFit isDig)) (kD : PySem.W.keepIn K (.ref fD) = true) (bD : Binds K fdD ["sign"] []) (GR : FnOk P w K mg base CX0 2 fR fdR ["text", "at", "fits"] (spRun P w K mg base)) (kR : PySem.W.keepIn K (.ref fR) = true) (bR : Binds K fdR ["text", "at", "fits"] [])
    (mL : mg "is_letter" = some (.ref fL)) (mD : mg "is_digit" = some (.ref fD)) (mR : mg "run_end" = some (.ref fR)) : FnOk P w K mg base CX0 3 f fd ["text", "at"] spEnd := by
  refine F.ok scEnd (fun vs H Q E h => ?_) (fun cdv A outer s H vs Q E hr h => ?_)
  · obtain ⟨z, i, c, rfl, _⟩ := h
    rfl
  · obtain ⟨z, i, c, rfl, hz, hc, q⟩ := h
    have hr1 : Room 1 _ := hr.mono (by decide)
    refine ⟨_, pss_cons (ps_if (pt_val (pe_call GL hr1 (by rfl) mL kL bL .nil pass0 (pa_cons (pe_ix ix_str (pv 0) (pv 1) (fun _ _ => rfl)) pa_nil)))
        (pss_one (ps_ret (pe_call GR hr (by rfl) mR kR bR .nil pass0 (pa_cons (pv 0) (pa_cons (pv 1) (pa_cons (pe_glob (v := .ref fL) (by rfl) mL rfl) pa_nil)))))) pss_nil)
      (pss_cons (ps_if (pt_val (pe_call GD hr1 (by rfl) mD kD bD .nil pass0 (pa_cons (pe_ix ix_str (pv 0) (pv 1) (fun _ _ => rfl)) pa_nil)))
        (pss_one (ps_ret (pe_call GR hr (by rfl) mR kR bR .nil pass0 (pa_cons (pv 0) (pa_cons (pv 1) (pa_cons (pe_glob (v := .ref fD) (by rfl) mD rfl) pa_nil)))))) pss_nil)
      (pss_cons (ps_if (pt_cmpR op_in_seq (pe_slice sl_str (pv 0) (po_some (pv 1)) (po_some (pe_op op_add (pv 1) pe_int))) (pe_tup (pa_cons pe_str (pa_cons pe_str pa_nil))) (by rfl))
        (pss_one (ps_ret (pe_op op_add (pv 1) pe_int))) pss_nil)
      (pss_one (ps_ret (pe_op op_add (pv 1) pe_int))))), ?_⟩
    have hi : i < z.length := by
      rw [← len_list]
      exact (List.getElem?_eq_some_iff.mp hc).1
    have gd := getD_at hc
    refine ⟨_, rfl, _, rfl, _, _, c, rfl, rfl, sizes hz, sign_at hc, c, rfl, _, rfl, ?_⟩
    refine ite2 (fun h1 => ?_) (fun h1 => ?_)
    · have e : markEnd z.cps.toList i = runEnd isLet z.cps.toList i := by
        unfold markEnd
        rw [gd, if_pos h1]
      have q' := q H (Same.refl H)
      rw [e] at q'
      exact ⟨_, rfl, _, rfl, z, i, fL, isLet, rfl, ⟨fdL, GL, kL, bL⟩, hz, Nat.le_of_lt hi, q'⟩
    refine ⟨_, rfl, _, rfl, _, _, c, rfl, rfl, sizes hz, sign_at hc, c, rfl, _, rfl, ?_⟩
    refine ite2 (fun h2 => ?_) (fun h2 => ?_)
    · have e : markEnd z.cps.toList i = runEnd isDig z.cps.toList i := by
        unfold markEnd
        rw [gd, if_neg h1, if_pos h2]
      have q' := q H (Same.refl H)
      rw [e] at q'
      exact ⟨_, rfl, _, rfl, z, i, fD, isDig, rfl, ⟨fdD, GD, kD, bD⟩, hz, Nat.le_of_lt hi, q'⟩
    refine ⟨_, rfl, _, rfl, _, rfl, _, rfl, _, _, rfl, rfl, _, rfl, z, rfl, sizes hz, by show 2 ≤ sizeLine; decide, fun p hp => ?_⟩
    have sm : Same H (upd H p (.tup [.str ">=", .str "<="])) := same_upd hp
    refine ⟨p, _, rfl, .inr (.inl (.inl upd_same)), rfl, rfl, _, rfl, ?_⟩
    have e2 := two_in z i
    refine ite2 (fun h3 => ?_) (fun h3 => ?_)
    · have h3 : two z.cps.toList i = true := by rw [← e2]; exact h3
      have e : markEnd z.cps.toList i = i + 2 := by
        unfold markEnd
        rw [gd, if_neg h1, if_neg h2, if_pos h3]
      have q' := q _ sm
      rw [e] at q'
      exact ⟨_, rfl, _, _, rfl, rfl, q'⟩
    · have h3 : ¬ two z.cps.toList i = true := by rw [← e2]; exact h3
      have e : markEnd z.cps.toList i = i + 1 := by
        unfold markEnd
        rw [gd, if_neg h1, if_neg h2, if_neg h3]
      have q' := q _ sm
      rw [e] at q'
      exact ⟨_, rfl, _, _, rfl, rfl, q'⟩
end
end K05

namespace K05
open PySem PySem.Spec PyProof.Rows L2 HG
def MarkAt (H : Hp) (v : V) (m : Int × Int × Str) : Prop := ∃ p, v = .ref p ∧ H p = some (.tup [.int m.1, .int m.2.1, .str m.2.2])
theorem MarkAt.keep {H H' : Hp} {v : V} {m : Int × Int × Str} (h : MarkAt H v m) (s : ∀ b xs, H b = some (.tup xs) → H' b = some (.tup xs)) : MarkAt H' v m := by
  obtain ⟨p, e, q⟩ := h
  exact ⟨p, e, s _ _ q⟩
theorem pair_keep {H H' : Hp} (s : ∀ b xs, H b = some (.tup xs) → H' b = some (.tup xs)) : ∀ {vs : List V} {ms : List (Int × Int × Str)}, Paired (MarkAt H) vs ms → Paired (MarkAt H') vs ms
  | _, _, .nil => .nil
  | _, _, .cons a r => .cons (a.keep s) (pair_keep s r)
theorem pair_snoc {H : Hp} {v : V} {m : Int × Int × Str} (h : MarkAt H v m) : ∀ {vs : List V} {ms : List (Int × Int × Str)}, Paired (MarkAt H) vs ms → Paired (MarkAt H) (vs ++ [v]) (ms ++ [m])
  | _, _, .nil => .cons h .nil
  | _, _, .cons a r => .cons a (pair_snoc h r)
theorem pair_len {H : Hp} : ∀ {vs : List V} {ms : List (Int × Int × Str)}, Paired (MarkAt H) vs ms → vs.length = ms.length
  | _, _, .nil => rfl
  | _, _, .cons a r => by rw [List.length_cons, List.length_cons, pair_len r]
/-- a tuple of marks -/
def MarksAt (H : Hp) (p : Addr) (ms : List (Int × Int × Str)) : Prop := ∃ vs, H p = some (.tup vs) ∧ Paired (MarkAt H) vs ms
def spMarks : Sp := fun vs H Q _ => ∃ z : Str, vs = [.str z] ∧ z.length ≤ 1000 ∧ ∀ H' p, Same H H' → H p = none → MarksAt H' p (marks z) → Q (.ref p) H'
/-- what the reading loops keep: the list found at o -/
structure Found (H0 H : Hp) (o : Addr) (z : Str) (s : Pt) : Prop where
  same : Same H0 H
  new : H0 o = none
  ex : ∃ vs, H o = some (.lst vs) ∧ Paired (MarkAt H) vs s.out
  al : Along z s
theorem Found.more {H0 H H' : Hp} {o : Addr} {z : Str} {s : Pt} (h : Found H0 H o z s) (e : Same H H') : Found H0 H' o z s := by
  obtain ⟨vs, h1, h2⟩ := h.ex
  exact ⟨h.same.trans e, h.new, ⟨vs, e _ _ h1, pair_keep (fun b xs q => e _ _ q) h2⟩, h.al⟩
/-- a mark is put behind the others -/
theorem Found.put {H0 H : Hp} {o p : Addr} {z : Str} {s s' : Pt} {m : Int × Int × Str} {vs : List V} (h : Found H0 H o z s) (hv : H o = some (.lst vs)) (hm : H p = some (.tup [.int m.1, .int m.2.1, .str m.2.2])) (eo : s'.out = s.out ++ [m]) (al : Along z s') :
    Found H0 (upd H o (.lst (vs ++ [.ref p]))) o z s' := by
  obtain ⟨vs', h1, h2⟩ := h.ex
  rw [hv] at h1
  obtain rfl : vs = vs' := HO.lst.inj (Option.some.inj h1)
  have keep : ∀ b xs, H b = some (.tup xs) → (upd H o (.lst (vs ++ [.ref p]))) b = some (.tup xs) := fun b xs q => by
    rw [upd_ne (ne_of q hv (by intro z; cases z))]
    exact q
  refine ⟨fun b x q => ?_, h.new, ⟨_, upd_same, ?_⟩, al⟩
  · rw [upd_ne (ne_of_none q h.new)]
    exact h.same _ _ q
  · rw [eo]
    exact pair_snoc ⟨p, rfl, keep _ _ hm⟩ (pair_keep keep h2)
theorem Found.skip {H0 H : Hp} {o : Addr} {z : Str} {s s' : Pt} (h : Found H0 H o z s) (eo : s'.out = s.out) (al : Along z s') : Found H0 H o z s' := by
  obtain ⟨vs, h1, h2⟩ := h.ex
  exact ⟨h.same, h.new, ⟨vs, h1, by rw [eo]; exact h2⟩, al⟩
theorem Found.few {H0 H : Hp} {o : Addr} {z : Str} {s : Pt} {vs : List V} (h : Found H0 H o z s) (hz : z.length ≤ 1000) (hv : H o = some (.lst vs)) : vs.length < sizeLine := by
  obtain ⟨vs', h1, h2⟩ := h.ex
  rw [hv] at h1
  obtain rfl : vs = vs' := HO.lst.inj (Option.some.inj h1)
  rw [pair_len h2]
  have := h.al.1
  have := h.al.2.2.1
  exact small1000 (by omega)
theorem Found.all {H0 H : Hp} {o : Addr} {z : Str} {s : Pt} (h : Found H0 H o z s) (hi : ¬ s.at_ < z.length) {p : Addr} (hp : H p = none) {vs : List V} (hv : H o = some (.lst vs)) : Same H0 (upd H p (.tup vs)) ∧ H0 p = none ∧ MarksAt (upd H p (.tup vs)) p (marks z) := by
  obtain ⟨vs', h1, h2⟩ := h.ex
  rw [hv] at h1
  obtain rfl : vs = vs' := HO.lst.inj (Option.some.inj h1)
  refine ⟨h.same.trans (same_upd hp), h.same.free hp, vs, upd_same, ?_⟩
  rw [← along_end h.al hi]
  exact pair_keep (fun b xs q => same_upd hp _ _ q) h2
theorem blank_dec (c : Nat) : decide (V.str ⟨#[c]⟩ = V.str " ") = decide (c = 32) := by
  rw [decide_eq_decide]
  constructor
  · intro h
    have h := congrArg (fun x : Str => x.cps.toList) (V.str.inj h)
    have h2 : [c] = [32] := h
    exact List.head_eq_of_cons_eq h2
  · rintro rfl; rfl
theorem line_dec (c : Nat) : decide (V.str ⟨#[c]⟩ = V.str "\n") = decide (c = 10) := by
  rw [decide_eq_decide]
  constructor
  · intro h
    have h := congrArg (fun x : Str => x.cps.toList) (V.str.inj h)
    have h2 : [c] = [10] := h
    exact List.head_eq_of_cons_eq h2
  · rintro rfl; rfl
/-- built-ins that no top statement hides -/
structure Names (mg : Str → Option Value) : Prop where
  n_len : mg "len" = none
  n_tuple : mg "tuple" = none
  n_int : mg "int" = none
  n_abs : mg "abs" = none
  n_range : mg "range" = none
  n_repr : mg "repr" = none
section
variable {P : Program} {w : World} {K : PySem.W.Frag} {mg : Str → Option Value} {base : Heap}
abbrev s_marks_in : Stmt := topS 4
abbrev Nsc_marks_in : List Str := ["text", "found", "line", "begin", "at", "end"]
theorem sc_marks_in : FnScope Nsc_marks_in ["text"] (defScope s_marks_in) := ⟨rfl, rfl, rfl, by decide +kernel, rfl, by decide +kernel, by decide +kernel⟩
theorem ok_marks {f : Addr} {fd : FuncData} (F : Fun K "marks_in" "marks_in" s_marks_in f fd) (d_mark_end : Ent P w K mg base 3 "mark_end" ["text", "at"] spEnd) (T : Names mg) : FnOk P w K mg base CX0 4 f fd ["text"] spMarks := by
  refine F.ok sc_marks_in (fun vs H Q E h => ?_) (fun cdv A outer s H vs Q E hr h => ?_)
  · obtain ⟨z, rfl, _⟩ := h
    rfl
  · obtain ⟨z, rfl, hz, q⟩ := h
    refine ⟨_, (pss_cons (ps_set (i := 1) sc_marks_in.nd rfl (.inl rfl) (pe_lst pa_nil))
    (pss_cons (ps_set (i := 2) sc_marks_in.nd rfl (.inl rfl) pe_int)
    (pss_cons (ps_set (i := 3) sc_marks_in.nd rfl (.inl rfl) pe_int)
    (pss_cons (ps_set (i := 4) sc_marks_in.nd rfl (.inl rfl) pe_int)
    (pss_cons (ps_while PassesOwn.never (pt_cmpR op_lt (pv 4) (pe_callB call_len_str (by rfl) T.n_len PySem.boot_len (pa_cons (pv 0) pa_nil)) (nomark _))
      (pss_cons (ps_set (i := 5) sc_marks_in.nd rfl (.inl rfl) (pe_ent d_mark_end (hr.mono (by decide)) (pa_cons (pv 0) (pa_cons (pv 4) pa_nil))))
      (pss_cons (ps_if (pt_cmpR op_ne (pe_ix ix_str (pv 0) (pv 4) (fun _ _ => rfl)) pe_str (nomark _))
        (pss_one (ps_expr (pe_bm PySem.F.plainAttrs_list PySem.F.slot_list_append PySem.F.type_list_append mt_append (pv 1) (pa_cons (pe_tup (pa_cons (pv 2) (pa_cons (pe_op op_sub (pv 4) (pv 3)) (pa_cons (pe_slice sl_str (pv 0) (po_some (pv 4)) (po_some (pv 5))) pa_nil)))) pa_nil))))
        pss_nil)
      (pss_cons (ps_if (pt_cmpR op_eq (pe_ix ix_str (pv 0) (pv 4) (fun _ _ => rfl)) pe_str (nomark _))
        (pss_cons (ps_aug (i := 2) sc_marks_in.nd rfl (.inl rfl) pe_int ip_add)
        (pss_one (ps_set (i := 3) sc_marks_in.nd rfl (.inl rfl) (pv 5))))
        pss_nil)
      (pss_one (ps_set (i := 4) sc_marks_in.nd rfl (.inl rfl) (pv 5)))))))
    (pss_one (ps_ret (pe_callTy call_tuple_of (by rfl) T.n_tuple (by decide +kernel) (pa_cons (pv 1) pa_nil))))))))), ?_⟩
    refine ⟨Nat.zero_le _, fun o no => ?_⟩
    refine ⟨fun m σ H3 => ∃ (st : Pt) (v5 : Option V), σ = [some (.str z), some (.ref o), some (.int (st.line : Int)), some (.int (st.begin_ : Int)), some (.int (st.at_ : Int)), v5] ∧ m = z.length - st.at_ ∧ Found H H3 o z st,
      ⟨z.length, ⟨0, 0, 0, []⟩, none, rfl, rfl, ⟨same_upd no, no, ⟨[], upd_same, .nil⟩, along_0 z⟩⟩, ?_⟩
    rintro m σ H3 ⟨st, v5, rfl, rfl, fo⟩
    refine ⟨_, rfl, _, rfl, _, rfl, sizes hz, _, _, rfl, rfl, _, rfl, ?_⟩
    refine ite2 (fun hlt => ?_) (fun hlt => ?_)
    · have hlt : st.at_ < z.length := by have := of_decide_eq_true hlt; omega
      obtain ⟨c, hc⟩ := at_some hlt
      have hs := step_lt hlt
      have ae : (step z st).at_ = markEnd z.cps.toList st.at_ := rfl
      refine ⟨fun σ' H' => ∃ v5, σ' = [some (.str z), some (.ref o), some (.int ((step z st).line : Int)), some (.int ((step z st).begin_ : Int)), some (.int ((step z st).at_ : Int)), v5] ∧ Found H H' o z (step z st), fun σ' H' hN => ?_, ?_⟩
      · obtain ⟨v, rfl, fo'⟩ := hN
        exact ⟨z.length - (step z st).at_, by omega, step z st, v, rfl, rfl, fo'⟩
      -- end = mark_end(text, at)
      refine ⟨_, rfl, _, rfl, z, st.at_, c, rfl, hz, hc, fun H4 sm => ?_⟩
      have fo4 := fo.more sm
      refine ⟨_, rfl, _, rfl, _, _, c, rfl, rfl, sizes hz, sign_at hc, rfl, _, rfl, ?_⟩
      rw [blank_dec]
      refine meet (fun H5 => Found H H5 o z (step z st)) (fun H5 fo5 => ?_) (fun h32 rest => ?_) (fun h32 => ?_)
      · refine ⟨_, rfl, _, rfl, _, _, c, rfl, rfl, sizes hz, sign_at hc, rfl, _, rfl, ?_⟩
        rw [line_dec]
        by_cases h10 : c = 10
        · rw [decide_eq_true h10]
          refine iteT ?_
          refine ⟨_, rfl, _, _, rfl, rfl, _, rfl, _, rfl, some (.int (markEnd z.cps.toList st.at_ : Nat)), ?_, fo5⟩
          have e1 : (step z st).line = st.line + 1 := by
            show (if z.cps.toList.getD st.at_ 0 = 10 then _ else _) = _
            rw [getD_at hc, if_pos h10]
          have e2 : (step z st).begin_ = markEnd z.cps.toList st.at_ := by
            show (if z.cps.toList.getD st.at_ 0 = 10 then _ else _) = _
            rw [getD_at hc, if_pos h10]
          rw [e1, e2]
          rfl
        · rw [decide_eq_false h10]
          refine iteF ?_
          refine ⟨_, rfl, some (.int (markEnd z.cps.toList st.at_ : Nat)), ?_, fo5⟩
          have e1 : (step z st).line = st.line := by
            show (if z.cps.toList.getD st.at_ 0 = 10 then _ else _) = _
            rw [getD_at hc, if_neg h10]
          have e2 : (step z st).begin_ = st.begin_ := by
            show (if z.cps.toList.getD st.at_ 0 = 10 then _ else _) = _
            rw [getD_at hc, if_neg h10]
          rw [e1, e2]
          rfl
      · have h32 : ¬ c = 32 := by simpa using h32
        obtain ⟨vs, hv, _⟩ := fo4.ex
        refine ⟨_, rfl, .inl ⟨rfl, _, .inl (.inl hv)⟩, _, rfl, _, rfl, _, rfl, _, _, rfl, rfl, _, rfl, _, rfl, _, rfl, _, rfl, _, rfl, z, rfl, sizes hz, by show 3 ≤ sizeLine; decide, fun p hp => ?_⟩
        have sp := same_upd (o := .tup [.int (st.line : Int), .int ((st.at_ : Int) - (st.begin_ : Int)), .str (sub z st.at_ (markEnd z.cps.toList st.at_))]) hp
        have fo6 := fo4.more sp
        refine ⟨o, vs, _, rfl, rfl, sp _ _ hv, fo6.few hz (sp _ _ hv), ?_⟩
        refine rest _ (fo6.put (m := ((st.line : Int), (st.at_ : Int) - (st.begin_ : Int), sub z st.at_ (markEnd z.cps.toList st.at_))) (sp _ _ hv) upd_same ?_ (along_step fo.al hlt))
        show (if z.cps.toList.getD st.at_ 0 = 32 then _ else _) = _
        rw [getD_at hc, if_neg h32]
      · have h32 : c = 32 := by simpa using h32
        refine fo4.skip ?_ (along_step fo.al hlt)
        show (if z.cps.toList.getD st.at_ 0 = 32 then _ else _) = _
        rw [getD_at hc, if_pos h32]
    · have hlt : ¬ st.at_ < z.length := fun h => hlt (decide_eq_true (by omega))
      obtain ⟨vs, hv, _⟩ := fo.ex
      refine ⟨_, rfl, o, vs, rfl, .inl ⟨.inl (.inl hv), fun p hp => ?_⟩⟩
      obtain ⟨a, b, d⟩ := fo.all hlt hp hv
      exact q _ p a b d
end
end K05

namespace K05
open PySem PySem.Spec PyProof.Rows L2 HG
abbrev s__law_draw : Stmt := topS 9
abbrev Nsc__law_draw : List Str := ["heap", "many", "rest"]
theorem sc__law_draw : FnScope Nsc__law_draw ["heap", "many"] (defScope s__law_draw) := ⟨rfl, rfl, rfl, by decide +kernel, rfl, by decide +kernel, by decide +kernel⟩

/-! ### the law's own draws -/
/-- the draws' heap stands at a, its cells at b -/
structure HeapAt (H : Hp) (a b : Addr) : Prop where
  ne : a ≠ b
  ex : ∃ (xs : List Int) (st : Int), xs.length ≤ 63 ∧ H a = some (.lst [.ref b, .int st]) ∧ H b = some (.lst (xs.map V.int))
/-- all but the draws' heap is as it was -/
def Kept (a b : Addr) (H H' : Hp) : Prop := ∀ c o, c ≠ a → c ≠ b → H c = some o → H' c = some o
theorem Kept.refl (a b : Addr) (H : Hp) : Kept a b H H := fun _ _ _ _ h => h
theorem Kept.trans {a b : Addr} {H H1 H2 : Hp} (h : Kept a b H H1) (k : Kept a b H1 H2) : Kept a b H H2 := fun c o n1 n2 e => k c o n1 n2 (h c o n1 n2 e)
theorem Same.kept {a b : Addr} {H H' : Hp} (s : Same H H') : Kept a b H H' := fun c o _ _ e => s c o e
theorem HeapAt.same {a b : Addr} {H H' : Hp} (h : HeapAt H a b) (s : Same H H') : HeapAt H' a b := by
  obtain ⟨xs, st, h1, h2, h3⟩ := h.ex
  exact ⟨h.ne, xs, st, h1, s _ _ h2, s _ _ h3⟩
theorem dp_ints {K : PySem.W.Frag} {H : Hp} : ∀ xs : List Int, DpAll K H (xs.map V.int) (xs.map PyData.int)
  | [] => .nil
  | x :: r => .cons (.int x) (dp_ints r)
theorem lay_ints : ∀ ys : List Int, PyData.canLayAll0 (ys.map PyData.int) = true ∧ PyData.depthAll (ys.map PyData.int) ≤ 1
  | [] => ⟨by simp [PyData.canLayAll0], by simp [PyData.depthAll]⟩
  | y :: r => by
    obtain ⟨h1, h2⟩ := lay_ints r
    exact ⟨by simpa [PyData.canLayAll0, PyData.canLay0] using h1, by simp only [List.map_cons, PyData.depthAll, PyData.depth]; omega⟩
theorem shaped_ints (xs : List Int) : SeqAt.shaped (.list (xs.map PyData.int)) = true := by
  obtain ⟨h1, h2⟩ := lay_ints xs
  unfold SeqAt.shaped
  rw [Bool.and_eq_true]
  exact ⟨by simpa [PyData.canLay0] using h1, decide_eq_true (by simp only [PyData.depth]; omega)⟩
theorem eqv_nil (xs : List Int) : (!PyData.eqv (.list (xs.map PyData.int)) (.list [])) = !xs.isEmpty := by
  cases xs with
  | nil => rfl
  | cons x r => simp [PyData.eqv, PyData.eqvAll]
theorem at0 {α : Type} {x : α} {r : List α} : atI (x :: r) (0 : Int) = some x := atI_nat (j := 0) rfl
theorem at1 {α : Type} {x y : α} {r : List α} : atI (x :: y :: r) (1 : Int) = some y := atI_nat (j := 1) rfl
def spDraw : Sp := fun vs H Q _ => ∃ (a b : Addr) (many : Int), vs = [.ref a, .int many] ∧ HeapAt H a b ∧ 0 < many ∧ many < 1000000 ∧ ∀ H' r, HeapAt H' a b → Kept a b H H' → 0 ≤ r → r < many → Q (.int r) H'
section
variable {P : Program} {w : World} {K : PySem.W.Frag} {mg : Str → Option Value} {base : Heap}
theorem ok_draw {f : Addr} {fd : FuncData} (F : Fun K "_law_draw" "_law_draw" s__law_draw f fd) (T : Names mg) : FnOk P w K mg base CX0 1 f fd ["heap", "many"] spDraw := by
  refine F.ok sc__law_draw (fun vs H Q E h => ?_) (fun cdv A outer s H vs Q E hr h => ?_)
  · obtain ⟨a, b, many, rfl, _⟩ := h
    rfl
  · obtain ⟨a, b, many, rfl, hh, m0, m1, q⟩ := h
    have hu := hr.units
    have ne := hh.ne
    have div : ∀ i : Int, CDivW i many := fun i => ⟨m0, by
      have : many.natAbs < 2 ^ 20 := by omega
      exact Nat.lt_of_lt_of_le (PySem.Flt.log2_lt_of (by decide) this) (by decide)⟩
    obtain ⟨xs0, st0, hx0, ha0, hb0⟩ := hh.ex
    refine ⟨_, (pss_cons (ps_while PassesOwn.never (PW.pt (pw_and (pt_cmpR (op_neD hu) (pe_ix ix_list (pv 0) pe_int (fun _ _ => rfl)) (pe_lst pa_nil) (nomark _)) (pw_and1 (pt_cmpR op_eq (pe_ix ix_list (pe_ix ix_list (pv 0) pe_int (fun _ _ => rfl)) (pe_un un_neg pe_int) (fun _ _ => rfl)) pe_int (nomark _)))))
      (pss_one (ps_expr (pe_bm0 PySem.F.plainAttrs_list PySem.F.slot_list_pop PySem.F.type_list_pop mt_pop (pe_ix ix_list (pv 0) pe_int (fun _ _ => rfl))))))
    (pss_cons (ps_if (pt_cmpR (op_neD hu) (pe_ix ix_list (pv 0) pe_int (fun _ _ => rfl)) (pe_lst pa_nil) (nomark _))
      (pss_cons (ps_set (i := 2) sc__law_draw.nd rfl (.inl rfl) (pe_bm0 PySem.F.plainAttrs_list PySem.F.slot_list_pop PySem.F.type_list_pop mt_pop (pe_ix ix_list (pv 0) pe_int (fun _ _ => rfl))))
      (pss_cons (ps_expr (pe_bm PySem.F.plainAttrs_list PySem.F.slot_list_append PySem.F.type_list_append mt_append (pe_ix ix_list (pv 0) pe_int (fun _ _ => rfl)) (pa_cons (pe_op op_fdivW (pv 2) (pv 1)) pa_nil)))
      (pss_one (ps_ret (pe_op op_mod (pe_callTy call_int1 (by rfl) T.n_int (by decide +kernel) (pa_cons (pv 2) pa_nil)) (pv 1))))))
      pss_nil)
    (pss_cons (ps_asg (pe_op op_mod (pe_callTy call_int1 (by rfl) T.n_int (by decide +kernel) (pa_cons (pe_op op_add (pe_op op_mul (pe_ix ix_list (pv 0) pe_int (fun _ _ => rfl)) pe_int) pe_int) pa_nil)) pe_int) (pg_sub (pv 0) pe_int set_list))
    (pss_one (ps_ret (pe_op op_mod (pe_callTy call_int1 (by rfl) T.n_int (by decide +kernel) (pa_cons (pe_op op_fdivW (pe_ix ix_list (pv 0) pe_int (fun _ _ => rfl)) pe_int) pa_nil)) (pv 1))))))), ?_⟩
    refine ⟨fun m σ H3 => ∃ (xs : List Int) (st : Int), σ = [some (.ref a), some (.int many), none] ∧ m = xs.length ∧ xs.length ≤ 63 ∧ H3 a = some (.lst [.ref b, .int st]) ∧ H3 b = some (.lst (xs.map V.int)) ∧ Kept a b H H3,
      ⟨xs0.length, xs0, st0, rfl, rfl, hx0, ha0, hb0, Kept.refl a b H⟩, ?_⟩
    rintro m σ H3 ⟨xs, st, rfl, rfl, hx, h1, h2, kp⟩
    refine ⟨_, rfl, a, _, 0, .ref b, rfl, rfl, .inl (.inl h1), at0, Nat.zero_le _, fun l hl => ?_⟩
    have sl := same_upd (o := .lst []) hl
    have kp1 : Kept a b H (upd H3 l (.lst [])) := kp.trans (Same.kept sl)
    have h1' := sl _ _ h1
    have h2' := sl _ _ h2
    refine ⟨.list (xs.map PyData.int), .list [], .lst (.inl (.inl h2')) (dp_ints xs), .lst (.inl (.inl upd_same)) .nil, shaped_ints xs, rfl, _, rfl, ?_⟩
    rw [eqv_nil]
    generalize upd H3 l (.lst []) = H4 at h1' h2' kp1 ⊢
    show if (!xs.isEmpty) = true then _ else _
    -- what stands behind the loop
    refine meetA (fun H4 => H4 a = some (.lst [.ref b, .int st]) ∧ H4 b = some (.lst (xs.map V.int)) ∧ Kept a b H H4) ⟨h1', h2', kp1⟩ (fun H5 hh => ?_) (fun hne rest => ?_)
    · obtain ⟨e1, e2, kp5⟩ := hh
      -- if heap[0] != []
      refine ⟨_, rfl, a, _, 0, .ref b, rfl, rfl, .inl (.inl e1), at0, Nat.zero_le _, fun l2 hl2 => ?_⟩
      have s2 := same_upd (o := .lst []) hl2
      have g1 := s2 _ _ e1
      have g2 := s2 _ _ e2
      have kp6 : Kept a b H (upd H5 l2 (.lst [])) := kp5.trans (Same.kept s2)
      refine ⟨.list (xs.map PyData.int), .list [], .lst (.inl (.inl g2)) (dp_ints xs), .lst (.inl (.inl upd_same)) .nil, shaped_ints xs, rfl, _, rfl, ?_⟩
      rw [eqv_nil]
      generalize upd H5 l2 (.lst []) = H6 at g1 g2 kp6 ⊢
      show if (!xs.isEmpty) = true then _ else _
      refine ite2 (fun hne => ?_) (fun hne => ?_)
      · obtain ⟨ys, y, rfl⟩ : ∃ ys y, xs = ys ++ [y] := by
          rcases List.eq_nil_or_concat xs with e | ⟨ys, y, e⟩
          · rw [e] at hne
            cases hne
          · exact ⟨ys, y, by rw [e, List.concat_eq_append]⟩
        have el : ((ys ++ [y]).map V.int)[((ys ++ [y]).map V.int).length - 1]? = some (.int y) := by
          rw [List.map_append, List.length_append, List.length_map]
          simp
        have dl : ((ys ++ [y]).map V.int).dropLast = ys.map V.int := by
          rw [List.map_append]
          simp
        rw [List.length_append, List.length_singleton] at hx
        -- rest = heap[0].pop()
        refine ⟨_, rfl, a, _, 0, .ref b, rfl, rfl, .inl (.inl g1), at0, .inl ⟨rfl, _, .inl (.inl g2)⟩, b, _, _, rfl, rfl, g2, el, ?_⟩
        rw [dl]
        have i1 : (upd H6 b (.lst (ys.map V.int))) a = some (.lst [.ref b, .int st]) := by
          rw [upd_ne ne]
          exact g1
        -- heap[0].append(rest // many)
        refine ⟨_, rfl, a, _, 0, .ref b, rfl, rfl, .inl (.inl i1), at0, .inl ⟨rfl, _, .inl (.inl upd_same)⟩, _, rfl, _, rfl, _, _, rfl, rfl, div _, b, _, _, rfl, rfl, upd_same, by rw [List.length_map]; exact small1000 (by omega), ?_⟩
        -- return int(rest) % many
        refine ⟨_, rfl, .inl ⟨_, rfl, _, rfl, _, _, rfl, rfl, m0, ?_⟩⟩
        refine q _ _ ⟨ne, ys ++ [y / many], st, by rw [List.length_append, List.length_singleton]; exact hx, by rw [upd_ne ne]; exact i1, ?_⟩ (fun c o n1 n2 e => ?_) (Int.emod_nonneg _ (by omega)) (Int.emod_lt_of_pos _ m0)
        · rw [upd_same, List.map_append]
          rfl
        · rw [upd_ne n2, upd_ne n2]
          exact kp6 c o n1 n2 e
      · -- heap[1] = int(heap[1] * 48271 + 17) % 2147483647
        refine ⟨_, rfl, a, _, 1, .int st, rfl, rfl, .inl (.inl g1), at1, _, _, rfl, rfl, .inr ⟨by decide, by decide⟩, _, _, rfl, rfl, .inl ⟨_, rfl, _, _, rfl, rfl, (by show (0 : Int) < 2147483647; decide), _, rfl, a, _, 1, 1, rfl, rfl, g1, rfl, ?_⟩⟩
        -- return int(heap[1] // 32) % many
        refine ⟨_, rfl, a, _, 1, _, rfl, rfl, .inl (.inl upd_same), at1, _, _, rfl, rfl, ⟨by decide, by decide⟩, .inl ⟨_, rfl, _, rfl, _, _, rfl, rfl, m0, ?_⟩⟩
        refine q _ _ ⟨ne, xs, _, hx, upd_same, by rw [upd_ne ne.symm]; exact g2⟩ (fun c o n1 n2 e => ?_) (Int.emod_nonneg _ (by omega)) (Int.emod_lt_of_pos _ m0)
        rw [upd_ne n1]
        exact kp6 c o n1 n2 e
    · obtain ⟨ys, y, rfl⟩ : ∃ ys y, xs = ys ++ [y] := by
        rcases List.eq_nil_or_concat xs with e | ⟨ys, y, e⟩
        · rw [e] at hne
          cases hne
        · exact ⟨ys, y, by rw [e, List.concat_eq_append]⟩
      have lastI : atI ((ys ++ [y]).map V.int) (-1) = some (.int y) := by
        rw [List.map_append]
        exact atI_last _ _
      refine ⟨_, rfl, a, _, 0, .ref b, rfl, rfl, .inl (.inl h1'), at0, 1, rfl, b, _, -1, .int y, rfl, rfl, .inl (.inl h2'), lastI, rfl, _, rfl, ?_⟩
      refine ite2 (fun h0 => ?_) (fun h0 => rest _ ⟨h1', h2', kp1⟩)
      refine ⟨fun σ' H' => ∃ st, σ' = [some (.ref a), some (.int many), none] ∧ H' a = some (.lst [.ref b, .int st]) ∧ H' b = some (.lst (ys.map V.int)) ∧ Kept a b H H', fun σ' H' hN => ?_, ?_⟩
      · obtain ⟨st', rfl, g1, g2, g3⟩ := hN
        rw [List.length_append, List.length_singleton] at hx
        exact ⟨ys.length, by rw [List.length_append, List.length_singleton]; omega, ys, st', rfl, rfl, by omega, g1, g2, g3⟩
      · have el : ((ys ++ [y]).map V.int)[((ys ++ [y]).map V.int).length - 1]? = some (.int y) := by
          rw [List.map_append, List.length_append, List.length_map]
          simp
        have dl : ((ys ++ [y]).map V.int).dropLast = ys.map V.int := by
          rw [List.map_append]
          simp
        refine ⟨_, rfl, a, _, 0, .ref b, rfl, rfl, .inl (.inl h1'), at0, .inl ⟨rfl, _, .inl (.inl h2')⟩, b, _, _, rfl, rfl, h2', el, ?_⟩
        rw [dl]
        refine ⟨st, rfl, by rw [upd_ne ne]; exact h1', upd_same, fun c o n1 n2 e => ?_⟩
        rw [upd_ne n2]
        exact kp1 c o n1 n2 e
end

end K05

namespace K05
open PySem PySem.Spec PyProof.Rows L2 HG
abbrev s__law_pick : Stmt := topS 10
abbrev Nsc__law_pick : List Str := ["heap", "some"]
theorem sc__law_pick : FnScope Nsc__law_pick ["heap", "some"] (defScope s__law_pick) := ⟨rfl, rfl, rfl, by decide +kernel, rfl, by decide +kernel, by decide +kernel⟩

theorem at_any {α : Type} {xs : List α} {i : Int} (h0 : 0 ≤ i) (h1 : i < xs.length) : ∃ v, atI xs i = some v ∧ v ∈ xs := by
  obtain ⟨n, rfl⟩ := Int.eq_ofNat_of_zero_le h0
  have hn : n < xs.length := by omega
  exact ⟨xs[n], atI_nat (List.getElem?_eq_getElem hn), List.getElem_mem hn⟩
def spPick : Sp := fun vs H Q _ => ∃ (a b : Addr), HeapAt H a b ∧
  ((∃ z : Str, vs = [.ref a, .str z] ∧ 0 < z.length ∧ z.length ≤ 1000 ∧ ∀ H' c, HeapAt H' a b → Kept a b H H' → c ∈ z.cps.toList → Q (.str ⟨#[c]⟩) H') ∨
   (∃ (l : Addr) (xs : List V), vs = [.ref a, .ref l] ∧ H l = some (.lst xs) ∧ l ≠ a ∧ l ≠ b ∧ 0 < xs.length ∧ xs.length ≤ 1000 ∧ ∀ H' v, HeapAt H' a b → Kept a b H H' → v ∈ xs → Q v H'))
section
variable {P : Program} {w : World} {K : PySem.W.Frag} {mg : Str → Option Value} {base : Heap}
theorem ok_pick {f : Addr} {fd : FuncData} (F : Fun K "_law_pick" "_law_pick" s__law_pick f fd) (d__law_draw : Ent P w K mg base 1 "_law_draw" ["heap", "many"] spDraw) (T : Names mg) : FnOk P w K mg base CX0 2 f fd ["heap", "some"] spPick := by
  refine F.ok sc__law_pick (fun vs H Q E h => ?_) (fun cdv A outer s H vs Q E hr h => ?_)
  · obtain ⟨a, b, _, ⟨z, rfl, _⟩ | ⟨l, xs, rfl, _⟩⟩ := h <;> rfl
  · obtain ⟨a, b, hh, h⟩ := h
    refine ⟨_, (pss_one (ps_ret (pe_ix ix_seq (pv 1) (pe_ent d__law_draw (hr.mono (by decide)) (pa_cons (pv 0) (pa_cons (pe_callB call_len (by rfl) T.n_len PySem.boot_len (pa_cons (pv 1) pa_nil)) pa_nil))) (fun _ _ => rfl)))), ?_⟩
    rcases h with ⟨z, rfl, z0, z1, q⟩ | ⟨l, xs, rfl, hl, la, lb, x0, x1, q⟩
    · refine ⟨_, rfl, _, rfl, _, rfl, _, z.length, rfl, ⟨sizes z1, rfl⟩, a, b, z.length, rfl, hh, by omega, by omega, fun H' r h1 kp r0 r1 => ?_⟩
      obtain ⟨c, e, hc⟩ := at_any (xs := z.cps.toList) r0 (by rw [len_list]; exact r1)
      exact .inr (.inr ⟨z, r, c, rfl, rfl, sizes z1, e, q H' c h1 kp hc⟩)
    · refine ⟨_, rfl, _, rfl, _, rfl, _, xs.length, rfl, .inl ⟨_, .inl (.inl hl), rfl⟩, a, b, xs.length, rfl, hh, by omega, by omega, fun H' r h1 kp r0 r1 => ?_⟩
      obtain ⟨v, e, hv⟩ := at_any (xs := xs) r0 r1
      exact .inl ⟨l, xs, r, v, rfl, rfl, .inl (.inl (kp _ _ la lb hl)), e, q H' v h1 kp hv⟩
end

end K05

namespace K05
open PySem PySem.Spec PyProof.Rows L2 HG
abbrev s__law_heap : Stmt := topS 8
abbrev Nsc__law_heap : List Str := ["script", "cells", "stir", "cell"]
theorem sc__law_heap : FnScope Nsc__law_heap ["script"] (defScope s__law_heap) := ⟨rfl, rfl, rfl, by decide +kernel, rfl, by decide +kernel, by decide +kernel⟩

theorem cut_ints (ns : List Int) (lo hi : Option Int) : ∃ ms : List Int, cutV (ns.map V.int) lo hi = ms.map V.int ∧ ms.length ≤ ns.length := by
  refine ⟨(ns.drop (HT.sIx (ns.map V.int).length 0 lo)).take (HT.sIx (ns.map V.int).length (ns.map V.int).length hi - HT.sIx (ns.map V.int).length 0 lo), ?_, ?_⟩
  · rw [List.map_take, List.map_drop]
    rfl
  · rw [List.length_take, List.length_drop]
    omega
theorem int_at {ns : List Int} {i : Nat} {y : V} (h : (ns.map V.int)[i]? = some y) : ∃ z, y = .int z ∧ ns[i]? = some z := by
  rw [List.getElem?_map] at h
  cases e : ns[i]? with
  | none =>
    rw [e] at h
    cases h
  | some z =>
    rw [e] at h
    exact ⟨z, (Option.some.inj h).symm, rfl⟩
theorem yes_ {σ : L2.St} {H : Hp} {Q : Bool → Hp → Prop} (h : Q true H) : tYes σ H Q := h
def spHeap (K : PySem.W.Frag) : Sp := fun vs H Q _ => ∃ (a : Addr) (ns : List Int), vs = [.ref a] ∧ SqL K H a (ns.map V.int) ∧ ns.length ≤ 63 ∧ ∀ H' h b, Same H H' → H h = none → H b = none → HeapAt H' h b → Q (.ref h) H'
section
variable {P : Program} {w : World} {K : PySem.W.Frag} {mg : Str → Option Value} {base : Heap}
theorem ok_heap {f : Addr} {fd : FuncData} (F : Fun K "_law_heap" "_law_heap" s__law_heap f fd) (T : Names mg) : FnOk P w K mg base CX0 1 f fd ["script"] (spHeap K) := by
  refine F.ok sc__law_heap (fun vs H Q E h => ?_) (fun cdv A outer s H vs Q E hr h => ?_)
  · obtain ⟨a, ns, rfl, _⟩ := h
    rfl
  · obtain ⟨a, ns, rfl, hS, hl, q⟩ := h
    refine ⟨_, (pss_cons (ps_par (i := 1) (j := 2) (by rfl) sc__law_heap.nd rfl rfl (by decide) rfl rfl (pa_cons (pe_lc (own := [("cell", 3)]) (g := gName 3) (tt := tYes) rfl sc__law_heap.nd (pi_list (pe_slice sl_list (pv 0) po_none (po_some pe_int))) (blkOk_by (own := [("cell", 3)]) (N := Nsc__law_heap) (sc := defScope s__law_heap) (by decide +kernel)) (fun _ _ _ _ _ => (pg_name (i := 3) sc__law_heap.nd rfl (.inl rfl))) (fun _ _ _ _ _ => pts_nil) (fun _ _ _ _ _ => (pe_op op_add (pe_op op_mul pe_int (pe_callB call_abs (by rfl) T.n_abs (by decide +kernel) (pa_cons (pv 3) pa_nil))) (pe_callTy call_int1 (by rfl) T.n_int (by decide +kernel) (pa_cons (pe_cmpR op_lt (pv 3) pe_int (nomark _)) pa_nil))))) (pa_cons pe_int pa_nil)) (by rfl))
    (pss_cons (ps_for PassesOwn.never rfl (pi_list (pv 1)) (pg_name (i := 3) sc__law_heap.nd rfl (.inl rfl))
      (pss_one (ps_set (i := 2) sc__law_heap.nd rfl (.inl rfl) (pe_op op_mod (pe_callTy call_int1 (by rfl) T.n_int (by decide +kernel) (pa_cons (pe_op op_add (pe_op op_add (pe_op op_mul (pv 2) pe_int) (pe_op op_mod (pe_callTy call_int1 (by rfl) T.n_int (by decide +kernel) (pa_cons (pv 3) pa_nil)) pe_int)) pe_int) pa_nil)) pe_int))))
    (pss_one (ps_ret (pe_lst (pa_cons (pe_revL (pe_lc (own := [("cell", 3)]) (g := gName 3) rfl sc__law_heap.nd (pi_list (pv 1)) (blkOk_by (own := [("cell", 3)]) (N := Nsc__law_heap) (sc := defScope s__law_heap) (by decide +kernel)) (fun _ _ _ _ _ => (pg_name (i := 3) sc__law_heap.nd rfl (.inl rfl))) (fun _ _ _ _ _ => (pts_one (pt_cmpR op_ge (pv 3) (pe_op op_pow pe_int pe_int) (nomark _)))) (fun _ _ _ _ _ => (pv 3)))) (pa_cons (pv 2) pa_nil))))))), ?_⟩
    -- cells
    refine ⟨_, rfl, 60, rfl, a, _, rfl, hS, fun p np => ?_⟩
    obtain ⟨ms, ems, hms⟩ := cut_ints ns none (some 60)
    rw [ems]
    have s1 := same_upd (o := .lst (ms.map V.int)) np
    refine ⟨p, rfl, ⟨_, .inl (.inl upd_same)⟩, fun D hD => ?_⟩
    refine lc_list (K := K) (a := p) (xs := ms.map V.int) (fun i H3 => ∃ acc : List Int, acc.length = i ∧ H3 D = some (.lst (acc.map V.int)) ∧ Same (upd H p (.lst (ms.map V.int))) H3) ⟨[], rfl, upd_same, same_upd hD⟩
      (fun i H3 _ ⟨_, _, _, sm⟩ => sm.seq (.inl (.inl upd_same))) (fun i x H3 hx ⟨acc, ea, hacc, sm⟩ => ?_) (fun H3 hh => ?_)
    · obtain ⟨z, rfl, hz⟩ := int_at hx
      have hi := (List.getElem?_eq_some_iff.mp hz).1
      refine ⟨rfl, yes_ (iteT ?_)⟩
      refine ⟨_, rfl, _, rfl, _, _, rfl, rfl, .inl ⟨by decide, by decide⟩, _, rfl, _, _, rfl, rfl, .inr ⟨_, rfl, _, _, rfl, rfl, acc.map V.int, hacc, by rw [List.length_map]; exact small1000 (by omega), acc ++ [2 * (if z < 0 then -z else z) + (if decide (z < 0) = true then 1 else 0)], by rw [List.length_append, ea]; rfl, ?_, fun b o e => ?_⟩⟩
      · rw [upd_same, List.map_append]
        rfl
      · rw [upd_ne (ne_of_none e hD)]
        exact sm b o e
    obtain ⟨cs, ec, hcs, sm⟩ := hh
    rw [List.length_map] at ec
    -- stir
    refine ⟨_, _, rfl, ?_⟩
    have s2 : Same H H3 := s1.trans sm
    refine ⟨_, rfl, D, rfl, ⟨_, .inl (.inl hcs)⟩, for_list (K := K) (a := D) (xs := cs.map V.int) (fun i σ H4 => ∃ (st : Int) (v3 : Option V), σ = [some (.ref a), some (.ref D), some (.int st), v3] ∧ H4 = H3) ⟨70501, none, rfl, rfl⟩
      (fun i σ H4 _ ⟨_, _, _, e⟩ => by rw [e]; exact .inl (.inl hcs)) ?_ ?_⟩
    · rintro i y σ H4 hy ⟨st, v3, rfl, rfl⟩
      obtain ⟨z, rfl, hz⟩ := int_at hy
      refine ⟨_, rfl, _, _, rfl, rfl, .inr ⟨by decide, by decide⟩, _, rfl, .inl ⟨_, rfl, _, _, rfl, rfl, (by show (0 : Int) < 2147483563; decide), _, _, rfl, rfl, _, _, rfl, rfl, .inl ⟨_, rfl, _, _, rfl, rfl, (by show (0 : Int) < 2147483647; decide), ?_⟩⟩⟩
      exact ⟨_, _, rfl, rfl⟩
    · rintro σ H4 ⟨st, v3, rfl, rfl⟩
      -- return [[cell ..][::-1], stir]
      refine ⟨_, rfl, D, rfl, ⟨_, .inl (.inl hcs)⟩, fun D2 hD2 => ?_⟩
      refine lc_list (K := K) (a := D) (xs := cs.map V.int) (fun i H5 => ∃ acc : List Int, acc.length ≤ i ∧ H5 D2 = some (.lst (acc.map V.int)) ∧ Same H4 H5) ⟨[], Nat.le_refl _, upd_same, same_upd hD2⟩
        (fun i H5 _ ⟨_, _, _, sm5⟩ => sm5.seq (.inl (.inl hcs))) (fun i x H5 hx ⟨acc, ea, hacc, sm5⟩ => ?_) (fun H5 hh => ?_)
      · obtain ⟨z, rfl, hz⟩ := int_at hx
        have hi := (List.getElem?_eq_some_iff.mp hz).1
        refine ⟨rfl, _, rfl, _, _, rfl, rfl, ⟨by decide, by decide, by decide⟩, _, _, rfl, rfl, _, rfl, ?_⟩
        refine ite2 (fun _ => ?_) (fun _ => ?_)
        · refine ⟨_, rfl, acc.map V.int, hacc, by rw [List.length_map]; exact small1000 (by omega), acc ++ [z], by rw [List.length_append, List.length_singleton]; omega, ?_, fun b o e => ?_⟩
          · rw [upd_same, List.map_append]
            rfl
          · rw [upd_ne (ne_of_none e hD2)]
            exact sm5 b o e
        · exact ⟨acc, by omega, hacc, sm5⟩
      · obtain ⟨acc, ea, hacc, sm5⟩ := hh
        rw [List.length_map, ec] at ea
        refine ⟨D2, _, rfl, .inl (.inl hacc), fun r hr_ => ?_⟩
        refine ⟨_, rfl, by show 2 ≤ sizeLine; decide, fun l hl_ => ?_⟩
        have s3 : Same H H5 := s2.trans sm5
        have s4 := same_upd (o := .lst ((acc.map V.int).reverse)) hr_
        have s5 := same_upd (o := .lst [.ref r, .int st]) hl_
        refine q _ l r (s3.trans (s4.trans s5)) ((s3.trans s4).free hl_) (s3.free hr_) ⟨fun e => ?_, acc.reverse, st, ?_, upd_same, ?_⟩
        · rw [e, upd_same] at hl_
          cases hl_
        · rw [List.length_reverse]
          omega
        · rw [s5 _ _ upd_same, List.map_reverse]
end

end K05

namespace K05
open PySem PySem.Spec PyProof.Rows L2 HG
abbrev s__law_string : Stmt := topS 12
abbrev Nsc__law_string : List Str := ["heap", "many", "signs", "text", "turn", "way"]
theorem sc__law_string : FnScope Nsc__law_string ["heap", "many"] (defScope s__law_string) := ⟨rfl, rfl, rfl, by decide +kernel, rfl, by decide +kernel, by decide +kernel⟩

/-- signs that repr shows shortly -/
def Low (z : Str) : Prop := ∀ c ∈ z.cps.toList, c < 1000
instance (z : Str) : Decidable (Low z) := inferInstanceAs (Decidable (∀ c ∈ z.cps.toList, c < 1000))
theorem Low.add {x y : Str} (h : Low x) (k : Low y) : Low (x ++ y) := fun c hc => by
  rw [Str.cps_append, Array.toList_append, List.mem_append] at hc
  rcases hc with hc | hc
  · exact h c hc
  · exact k c hc
theorem add_len (x y : Str) : (x ++ y).length = x.length + y.length := by
  show (x ++ y).cps.size = x.cps.size + y.cps.size
  rw [Str.cps_append, Array.size_append]
def some1 : List Str := ["ab", "z", "10", "007", "<", ">", "=", ">=", "<=", "\n", " ", "  ", "\n\n", "'", "q9"]
def some2 : List Str := ["level", "a", "0", "5", "\n ", " \n", "=<", "=>", "<<=", ">=="]
theorem some1_ok : ∀ y ∈ some1, y.length ≤ 5 ∧ Low y := by decide +kernel
theorem some2_ok : ∀ y ∈ some2, y.length ≤ 5 ∧ Low y := by decide +kernel
def spString : Sp := fun vs H Q _ => ∃ (a b : Addr) (many : Nat), vs = [.ref a, .int (many : Int)] ∧ HeapAt H a b ∧ many ≤ 40 ∧ ∀ H' z, HeapAt H' a b → Kept a b H H' → z.length ≤ 200 → Low z → Q (.str z) H'
section
variable {P : Program} {w : World} {K : PySem.W.Frag} {mg : Str → Option Value} {base : Heap}
theorem ok_string {f : Addr} {fd : FuncData} (F : Fun K "_law_string" "_law_string" s__law_string f fd) (d__law_draw : Ent P w K mg base 1 "_law_draw" ["heap", "many"] spDraw) (d__law_pick : Ent P w K mg base 2 "_law_pick" ["heap", "some"] spPick) (T : Names mg) : FnOk P w K mg base CX0 3 f fd ["heap", "many"] spString := by
  refine F.ok sc__law_string (fun vs H Q E h => ?_) (fun cdv A outer s H vs Q E hr h => ?_)
  · obtain ⟨a, b, many, rfl, _⟩ := h
    rfl
  · obtain ⟨a, b, many, rfl, hh, hm, q⟩ := h
    refine ⟨_, (pss_cons (ps_asg (pe_tup (pa_cons pe_str (pa_cons pe_str pa_nil))) (pg_tup (by rfl) (pgs_cons (pg_name (i := 2) sc__law_string.nd rfl (.inl rfl)) (pgs_cons (pg_name (i := 3) sc__law_string.nd rfl (.inl rfl)) pgs_nil))))
    (pss_cons (ps_for PassesOwn.never rfl (pi_range1 (by rfl) T.n_range (pa_cons (pv 1) pa_nil)) (pg_name (i := 4) sc__law_string.nd rfl (.inl rfl))
      (pss_cons (ps_set (i := 5) sc__law_string.nd rfl (.inl rfl) (pe_ent d__law_draw (hr.mono (by decide)) (pa_cons (pv 0) (pa_cons pe_int pa_nil))))
      (pss_one (ps_if (pt_cmpR op_lt (pv 5) pe_int (nomark _))
        (pss_one (ps_set (i := 3) sc__law_string.nd rfl (.inl rfl) (pe_op op_add_str (pv 3) (pe_ent d__law_pick (hr.mono (by decide)) (pa_cons (pv 0) (pa_cons (pv 2) pa_nil))))))
        (pss_one (ps_if (pt_cmpR op_lt (pv 5) pe_int (nomark _))
          (pss_one (ps_set (i := 3) sc__law_string.nd rfl (.inl rfl) (pe_op op_add_str (pv 3) (pe_ent d__law_pick (hr.mono (by decide)) (pa_cons (pv 0) (pa_cons (pe_lst (pa_cons pe_str (pa_cons pe_str (pa_cons pe_str (pa_cons pe_str (pa_cons pe_str (pa_cons pe_str (pa_cons pe_str (pa_cons pe_str (pa_cons pe_str (pa_cons pe_str (pa_cons pe_str (pa_cons pe_str (pa_cons pe_str (pa_cons pe_str (pa_cons pe_str pa_nil)))))))))))))))) pa_nil))))))
          (pss_one (ps_set (i := 3) sc__law_string.nd rfl (.inl rfl) (pe_op op_add_str (pv 3) (pe_ent d__law_pick (hr.mono (by decide)) (pa_cons (pv 0) (pa_cons (pe_lst (pa_cons pe_str (pa_cons pe_str (pa_cons pe_str (pa_cons pe_str (pa_cons pe_str (pa_cons pe_str (pa_cons pe_str (pa_cons pe_str (pa_cons pe_str (pa_cons pe_str pa_nil))))))))))) pa_nil))))))))))))
    (pss_one (ps_ret (pv 3))))), ?_⟩
    refine ⟨by show 2 ≤ sizeLine; decide, fun p hp => ⟨p, _, rfl, .inl (.inl upd_same), rfl, _, _, rfl, _, _, rfl, rfl, ?_⟩⟩
    refine ⟨_, rfl, many, rfl, by omega, by omega, for_range (lo := 0) (n := (many : Int).toNat) (fun i σ H3 => ∃ (z : Str) (v4 v5 : Option V), σ = [some (.ref a), some (.int (many : Int)), some (.str " !\"#$&'()*+,-./0123456789:;<=>?@ABCXYZ[]^_`abcdefghijklmnopqrstuvwxyz{|}~"), some (.str z), v4, v5] ∧
      HeapAt H3 a b ∧ Kept a b H H3 ∧ z.length ≤ 5 * i ∧ Low z) ⟨"", none, none, rfl, hh.same (same_upd hp), Same.kept (same_upd hp), Nat.zero_le _, by decide +kernel⟩ ?_ ?_⟩
    · rintro i σ H3 hi ⟨z, v4, v5, rfl, h3, kp, hz, lz⟩
      have hi : i < 40 := by omega
      have more : ∀ (y : Str), y.length ≤ 5 ∧ Low y → z.length + y.length ≤ sizeLine ∧ (z ++ y).length ≤ 5 * (i + 1) ∧ Low (z ++ y) := fun y hy => ⟨Nat.le_trans (show z.length + y.length ≤ 1000 by omega) (by decide), by rw [add_len]; omega, lz.add hy.2⟩
      refine ⟨_, rfl, a, b, 9, rfl, h3, by decide, by decide, fun H4 r h4 kp4 r0 r1 => ?_⟩
      have kp' := kp.trans kp4
      refine ⟨_, rfl, _, _, rfl, rfl, _, rfl, ?_⟩
      refine ite2 (fun _ => ?_) (fun _ => ?_)
      · refine ⟨_, rfl, _, rfl, _, rfl, a, b, h4, .inl ⟨_, rfl, by decide +kernel, by decide +kernel, fun H5 c h5 kp5 hc => ?_⟩⟩
        have hy : (⟨#[c]⟩ : Str).length ≤ 5 ∧ Low ⟨#[c]⟩ := ⟨by show 1 ≤ 5; decide, fun d hd => by
          have e : d = c := List.mem_singleton.mp hd
          rw [e]
          have all : Low " !\"#$&'()*+,-./0123456789:;<=>?@ABCXYZ[]^_`abcdefghijklmnopqrstuvwxyz{|}~" := by decide +kernel
          exact all c hc⟩
        obtain ⟨m1, m2, m3⟩ := more _ hy
        exact ⟨_, _, rfl, rfl, m1, z ++ ⟨#[c]⟩, _, _, rfl, h5, kp'.trans kp5, m2, m3⟩
      refine ⟨_, rfl, _, _, rfl, rfl, _, rfl, ?_⟩
      refine ite2 (fun _ => ?_) (fun _ => ?_)
      · refine ⟨_, rfl, _, rfl, by show 15 ≤ sizeLine; decide, fun l hl => ?_⟩
        obtain ⟨xs4, st4, _, a4, b4⟩ := h4.ex
        refine ⟨a, b, h4.same (same_upd hl), .inr ⟨l, some1.map V.str, rfl, upd_same, (ne_of_none a4 hl).symm, (ne_of_none b4 hl).symm, by decide, by decide, fun H5 v h5 kp5 hv => ?_⟩⟩
        obtain ⟨y, hy, rfl⟩ := List.mem_map.mp hv
        obtain ⟨m1, m2, m3⟩ := more _ (some1_ok y hy)
        exact ⟨_, _, rfl, rfl, m1, z ++ y, _, _, rfl, h5, (kp'.trans (Same.kept (same_upd hl))).trans kp5, m2, m3⟩
      · refine ⟨_, rfl, _, rfl, by show 10 ≤ sizeLine; decide, fun l hl => ?_⟩
        obtain ⟨xs4, st4, _, a4, b4⟩ := h4.ex
        refine ⟨a, b, h4.same (same_upd hl), .inr ⟨l, some2.map V.str, rfl, upd_same, (ne_of_none a4 hl).symm, (ne_of_none b4 hl).symm, by decide, by decide, fun H5 v h5 kp5 hv => ?_⟩⟩
        obtain ⟨y, hy, rfl⟩ := List.mem_map.mp hv
        obtain ⟨m1, m2, m3⟩ := more _ (some2_ok y hy)
        exact ⟨_, _, rfl, rfl, m1, z ++ y, _, _, rfl, h5, (kp'.trans (Same.kept (same_upd hl))).trans kp5, m2, m3⟩
    · rintro σ H3 ⟨z, v4, v5, rfl, h3, kp, hz, lz⟩
      exact ⟨_, rfl, q H3 z h3 kp (by omega) lz⟩
end
end K05

namespace K05
open PySem PySem.Spec PyProof.Rows L2 HG
abbrev s__law_marks : Stmt := topS 11
abbrev Nsc__law_marks : List Str := ["text", "found", "line", "begin", "at", "end"]
theorem sc__law_marks : FnScope Nsc__law_marks ["text"] (defScope s__law_marks) := ⟨rfl, rfl, rfl, by decide +kernel, rfl, by decide +kernel, by decide +kernel⟩

theorem two_eq {z : Str} {i c : Nat} (hc : z.cps.toList[i]? = some c) : two z.cps.toList i = (decide (c ∈ ("<>" : Str).cps.toList) && decide (V.str (cutS z (some ((i + 1 : Nat) : Int)) (some (((i + 1 : Nat) : Int) + 1))) = V.str "=")) := by
  have e1 : (cutS z (some ((i + 1 : Nat) : Int)) (some (((i + 1 : Nat) : Int) + 1))).cps.toList = (z.cps.toList.drop (i + 1)).take 1 := sub2_list z (i + 1) 1
  have e2 : decide (V.str (cutS z (some ((i + 1 : Nat) : Int)) (some (((i + 1 : Nat) : Int) + 1))) = V.str "=") = decide ((z.cps.toList.drop (i + 1)).take 1 = [61]) := by
    rw [decide_eq_decide]
    constructor
    · intro h
      have h := (str_is _ _).mp (V.str.inj h)
      rw [e1] at h
      exact h
    · intro h
      rw [(str_is _ ("=" : Str)).mpr (e1.trans h)]
  have e3 : decide (c ∈ ("<>" : Str).cps.toList) = decide (c = 60 ∨ c = 62) := by
    rw [decide_eq_decide]
    show c ∈ [60, 62] ↔ _
    simp
  rw [e2, e3]
  unfold two
  rw [drop_at hc, List.take_succ_cons]
  by_cases h : (z.cps.toList.drop (i + 1)).take 1 = [61]
  · rw [h, decide_eq_true (rfl : ([61] : List Nat) = [61]), Bool.and_true]
    by_cases h1 : c = 60
    · subst h1; rfl
    · by_cases h2 : c = 62
      · subst h2; rfl
      · rw [decide_eq_false (by omega : ¬ (c = 60 ∨ c = 62)), decide_eq_false (by simp [h2]), decide_eq_false (by simp [h1])]
        rfl
  · rw [decide_eq_false h, Bool.and_false, decide_eq_false (by simp [h]), decide_eq_false (by simp [h])]
    rfl
theorem betweenI {A B : Prop} {a b c : Nat} (h : if decide (a ≤ c ∧ c ≤ b) = true then A else B) : ∃ i j, V.str ⟨#[a]⟩ = .str i ∧ V.str ⟨#[c]⟩ = .str j ∧ ∃ k, V.bl (!decide (j.cps.toList < i.cps.toList)) = .bl k ∧
    if k = true then (∃ i j, V.str ⟨#[c]⟩ = .str i ∧ V.str ⟨#[b]⟩ = .str j ∧ ∃ k, V.bl (!decide (j.cps.toList < i.cps.toList)) = .bl k ∧ if k = true then A else B) else ∃ k, V.bl false = .bl k ∧ if k = true then A else B :=
  between (Q := fun x _ => ∃ k, x = V.bl k ∧ if k = true then A else B) (H := fun _ => none) ⟨_, rfl, h⟩
section
variable {P : Program} {w : World} {K : PySem.W.Frag} {mg : Str → Option Value} {base : Heap}
theorem ok_due {f : Addr} {fd : FuncData} (F : Fun K "_law_marks" "_law_marks" s__law_marks f fd) (T : Names mg) : FnOk P w K mg base CX0 1 f fd ["text"] spMarks := by
  refine F.ok sc__law_marks (fun vs H Q E h => ?_) (fun cdv A outer s H vs Q E hr h => ?_)
  · obtain ⟨z, rfl, _⟩ := h
    rfl
  · obtain ⟨z, rfl, hz, q⟩ := h
    refine ⟨_, (pss_cons (ps_asg (pe_tup (pa_cons (pe_lst pa_nil) (pa_cons pe_int (pa_cons pe_int (pa_cons pe_int pa_nil))))) (pg_tup (by rfl) (pgs_cons (pg_name (i := 1) sc__law_marks.nd rfl (.inl rfl)) (pgs_cons (pg_name (i := 2) sc__law_marks.nd rfl (.inl rfl)) (pgs_cons (pg_name (i := 3) sc__law_marks.nd rfl (.inl rfl)) (pgs_cons (pg_name (i := 4) sc__law_marks.nd rfl (.inl rfl)) pgs_nil))))))
    (pss_cons (ps_while PassesOwn.never (pt_cmpR op_lt (pv 4) (pe_callB call_len_str (by rfl) T.n_len PySem.boot_len (pa_cons (pv 0) pa_nil)) (nomark _))
      (pss_cons (ps_set (i := 5) sc__law_marks.nd rfl (.inl rfl) (pe_op op_add (pv 4) pe_int))
      (pss_cons (ps_if (pt_chain op_le_str op_le_str pe_str (pe_ix ix_str (pv 0) (pv 4) (fun _ _ => rfl)) pe_str)
        (pss_one (ps_while PassesOwn.never (PW.pt (pw_and (pt_cmpR op_lt (pv 5) (pe_callB call_len_str (by rfl) T.n_len PySem.boot_len (pa_cons (pv 0) pa_nil)) (nomark _)) (pw_and1 (pt_chain op_le_str op_le_str pe_str (pe_ix ix_str (pv 0) (pv 5) (fun _ _ => rfl)) pe_str))))
          (pss_one (ps_set (i := 5) sc__law_marks.nd rfl (.inl rfl) (pe_op op_add (pv 5) pe_int)))))
        (pss_one (ps_if (pt_chain op_le_str op_le_str pe_str (pe_ix ix_str (pv 0) (pv 4) (fun _ _ => rfl)) pe_str)
          (pss_one (ps_while PassesOwn.never (PW.pt (pw_and (pt_cmpR op_lt (pv 5) (pe_callB call_len_str (by rfl) T.n_len PySem.boot_len (pa_cons (pv 0) pa_nil)) (nomark _)) (pw_and1 (pt_chain op_le_str op_le_str pe_str (pe_ix ix_str (pv 0) (pv 5) (fun _ _ => rfl)) pe_str))))
            (pss_one (ps_set (i := 5) sc__law_marks.nd rfl (.inl rfl) (pe_op op_add (pv 5) pe_int)))))
          (pss_one (ps_if (PW.pt (pw_and (pt_cmpR op_in_sign (pe_ix ix_str (pv 0) (pv 4) (fun _ _ => rfl)) pe_str (by rfl)) (pw_and1 (pt_cmpR op_eq (pe_slice sl_str (pv 0) (po_some (pv 5)) (po_some (pe_op op_add (pv 5) pe_int))) pe_str (nomark _)))))
            (pss_one (ps_set (i := 5) sc__law_marks.nd rfl (.inl rfl) (pe_op op_add (pv 5) pe_int)))
            pss_nil)))))
      (pss_cons (ps_if (pt_cmpR op_ne (pe_ix ix_str (pv 0) (pv 4) (fun _ _ => rfl)) pe_str (nomark _))
        (pss_one (ps_expr (pe_bm PySem.F.plainAttrs_list PySem.F.slot_list_append PySem.F.type_list_append mt_append (pv 1) (pa_cons (pe_tup (pa_cons (pv 2) (pa_cons (pe_op op_sub (pv 4) (pv 3)) (pa_cons (pe_slice sl_str (pv 0) (po_some (pv 4)) (po_some (pv 5))) pa_nil)))) pa_nil))))
        pss_nil)
      (pss_cons (ps_if (pt_cmpR op_eq (pe_ix ix_str (pv 0) (pv 4) (fun _ _ => rfl)) pe_str (nomark _))
        (pss_one (ps_par (i := 2) (j := 3) (by rfl) sc__law_marks.nd rfl rfl (by decide) rfl rfl (pa_cons (pe_op op_add (pv 2) pe_int) (pa_cons (pv 5) pa_nil)) (by rfl)))
        pss_nil)
      (pss_one (ps_set (i := 4) sc__law_marks.nd rfl (.inl rfl) (pv 5))))))))
    (pss_one (ps_ret (pe_callTy call_tuple_of (by rfl) T.n_tuple (by decide +kernel) (pa_cons (pv 1) pa_nil)))))), ?_⟩
    refine ⟨Nat.zero_le _, fun o no => ?_⟩
    have s0 := same_upd (o := .lst []) no
    refine ⟨by show 4 ≤ sizeLine; decide, fun p hp => ⟨p, _, rfl, .inl (.inl upd_same), rfl, _, _, rfl, _, _, rfl, _, _, rfl, _, _, rfl, rfl, ?_⟩⟩
    have s1 := same_upd (o := .tup [.ref o, .int 0, .int 0, .int 0]) hp
    refine ⟨fun m σ H3 => ∃ (st : Pt) (v5 : Option V), σ = [some (.str z), some (.ref o), some (.int (st.line : Int)), some (.int (st.begin_ : Int)), some (.int (st.at_ : Int)), v5] ∧ m = z.length - st.at_ ∧ Found H H3 o z st,
      ⟨z.length, ⟨0, 0, 0, []⟩, none, rfl, rfl, ⟨s0.trans s1, no, ⟨[], s1 _ _ upd_same, .nil⟩, along_0 z⟩⟩, ?_⟩
    rintro m σ H3 ⟨st, v5, rfl, rfl, fo⟩
    refine ⟨_, rfl, _, rfl, _, rfl, sizes hz, _, _, rfl, rfl, _, rfl, ?_⟩
    refine ite2 (fun hlt => ?_) (fun hlt => ?_)
    · have hlt : st.at_ < z.length := by have := of_decide_eq_true hlt; omega
      obtain ⟨c, hc⟩ := at_some hlt
      have hs := step_lt hlt
      have gd := getD_at hc
      refine ⟨fun σ' H' => ∃ v5, σ' = [some (.str z), some (.ref o), some (.int ((step z st).line : Int)), some (.int ((step z st).begin_ : Int)), some (.int ((step z st).at_ : Int)), v5] ∧ Found H H' o z (step z st), fun σ' H' hN => ?_, ?_⟩
      · obtain ⟨v, rfl, fo'⟩ := hN
        exact ⟨z.length - (step z st).at_, by omega, step z st, v, rfl, rfl, fo'⟩
      -- end = at + 1
      refine ⟨_, rfl, _, _, rfl, rfl, ?_⟩
      dsimp only [gName]
      refine thru (fun σ' H' => σ' = [some (.str z), some (.ref o), some (.int (st.line : Int)), some (.int (st.begin_ : Int)), some (.int (st.at_ : Int)), some (.int (markEnd z.cps.toList st.at_ : Nat))] ∧ H' = H3) (fun σ' H4 hh => ?_) (fun G hG => ?_)
      · obtain ⟨rfl, rfl⟩ := hh
        refine ⟨_, rfl, _, rfl, _, _, c, rfl, rfl, sizes hz, sign_at hc, rfl, _, rfl, ?_⟩
        rw [blank_dec]
        refine meet (fun H5 => Found H H5 o z (step z st)) (fun H5 fo5 => ?_) (fun h32 rest => ?_) (fun h32 => ?_)
        · refine ⟨_, rfl, _, rfl, _, _, c, rfl, rfl, sizes hz, sign_at hc, rfl, _, rfl, ?_⟩
          rw [line_dec]
          by_cases h10 : c = 10
          · rw [decide_eq_true h10]
            refine iteT ?_
            refine ⟨_, rfl, _, _, rfl, rfl, _, rfl, _, _, rfl, _, rfl, some (.int (markEnd z.cps.toList st.at_ : Nat)), ?_, fo5⟩
            have e1 : (step z st).line = st.line + 1 := by
              show (if z.cps.toList.getD st.at_ 0 = 10 then _ else _) = _
              rw [getD_at hc, if_pos h10]
            have e2 : (step z st).begin_ = markEnd z.cps.toList st.at_ := by
              show (if z.cps.toList.getD st.at_ 0 = 10 then _ else _) = _
              rw [getD_at hc, if_pos h10]
            rw [e1, e2]
            rfl
          · rw [decide_eq_false h10]
            refine iteF ?_
            refine ⟨_, rfl, some (.int (markEnd z.cps.toList st.at_ : Nat)), ?_, fo5⟩
            have e1 : (step z st).line = st.line := by
              show (if z.cps.toList.getD st.at_ 0 = 10 then _ else _) = _
              rw [getD_at hc, if_neg h10]
            have e2 : (step z st).begin_ = st.begin_ := by
              show (if z.cps.toList.getD st.at_ 0 = 10 then _ else _) = _
              rw [getD_at hc, if_neg h10]
            rw [e1, e2]
            rfl
        · have h32 : ¬ c = 32 := by simpa using h32
          obtain ⟨vs, hv, _⟩ := fo.ex
          refine ⟨_, rfl, .inl ⟨rfl, _, .inl (.inl hv)⟩, _, rfl, _, rfl, _, rfl, _, _, rfl, rfl, _, rfl, _, rfl, _, rfl, _, rfl, _, rfl, z, rfl, sizes hz, by show 3 ≤ sizeLine; decide, fun p hp => ?_⟩
          have sp := same_upd (o := .tup [.int (st.line : Int), .int ((st.at_ : Int) - (st.begin_ : Int)), .str (sub z st.at_ (markEnd z.cps.toList st.at_))]) hp
          have fo6 := fo.more sp
          refine ⟨o, vs, _, rfl, rfl, sp _ _ hv, fo6.few hz (sp _ _ hv), ?_⟩
          refine rest _ (fo6.put (m := ((st.line : Int), (st.at_ : Int) - (st.begin_ : Int), sub z st.at_ (markEnd z.cps.toList st.at_))) (sp _ _ hv) upd_same ?_ (along_step fo.al hlt))
          show (if z.cps.toList.getD st.at_ 0 = 32 then _ else _) = _
          rw [getD_at hc, if_neg h32]
        · have h32 : c = 32 := by simpa using h32
          refine fo.skip ?_ (along_step fo.al hlt)
          show (if z.cps.toList.getD st.at_ 0 = 32 then _ else _) = _
          rw [getD_at hc, if_pos h32]
      -- the three kinds of marks
      · refine ⟨_, rfl, _, rfl, _, _, c, rfl, rfl, sizes hz, sign_at hc, betweenI ?_⟩
        refine ite2 (fun h1 => ?_) (fun h1 => ?_)
        · have e : markEnd z.cps.toList st.at_ = runEnd isLet z.cps.toList (st.at_ + 1) := by
            unfold markEnd
            rw [gd, if_pos (show isLet c = true from h1), run_yes hc h1]
          refine ⟨fun m σ H4 => ∃ e : Nat, σ = [some (.str z), some (.ref o), some (.int (st.line : Int)), some (.int (st.begin_ : Int)), some (.int (st.at_ : Int)), some (.int (e : Int))] ∧ m = z.length - e ∧ e ≤ z.length ∧ runEnd isLet z.cps.toList e = runEnd isLet z.cps.toList (st.at_ + 1) ∧ H4 = H3,
            ⟨z.length - (st.at_ + 1), st.at_ + 1, rfl, rfl, hlt, rfl, rfl⟩, ?_⟩
          rintro m σ H4 ⟨e', rfl, rfl, he, er, rfl⟩
          refine ⟨_, rfl, _, rfl, _, rfl, sizes hz, _, _, rfl, rfl, _, rfl, ?_⟩
          refine ite2 (fun hlt2 => ?_) (fun hlt2 => ?_)
          · have hlt2 : e' < z.length := by have := of_decide_eq_true hlt2; omega
            obtain ⟨d, hd⟩ := at_some hlt2
            refine ⟨_, rfl, _, rfl, _, _, d, rfl, rfl, sizes hz, sign_at hd, betweenI ?_⟩
            refine ite2 (fun hp => ?_) (fun hp => ?_)
            · refine ⟨fun σ' H' => σ' = [some (.str z), some (.ref o), some (.int (st.line : Int)), some (.int (st.begin_ : Int)), some (.int (st.at_ : Int)), some (.int ((e' + 1 : Nat) : Int))] ∧ H' = H4, fun σ' H' hN => ?_, ?_⟩
              · obtain ⟨rfl, rfl⟩ := hN
                exact ⟨z.length - (e' + 1), by omega, e' + 1, rfl, rfl, hlt2, by rw [← er, run_yes hd hp], rfl⟩
              · exact ⟨_, rfl, _, _, rfl, rfl, rfl, rfl⟩
            · have hp : isLet d = false := by simpa [isLet] using hp
              refine hG _ _ ⟨?_, rfl⟩
              rw [e, ← er, run_no hd hp]
          · have hlt2 : ¬ e' < z.length := fun h => hlt2 (decide_eq_true (by omega))
            refine iteF (hG _ _ ⟨?_, rfl⟩)
            rw [e, ← er, run_out (by rw [len_list]; omega)]
        refine ⟨_, rfl, _, rfl, _, _, c, rfl, rfl, sizes hz, sign_at hc, betweenI ?_⟩
        refine ite2 (fun h2 => ?_) (fun h2 => ?_)
        · have e : markEnd z.cps.toList st.at_ = runEnd isDig z.cps.toList (st.at_ + 1) := by
            unfold markEnd
            rw [gd, if_neg (show ¬ isLet c = true from h1), if_pos (show isDig c = true from h2), run_yes hc h2]
          refine ⟨fun m σ H4 => ∃ e : Nat, σ = [some (.str z), some (.ref o), some (.int (st.line : Int)), some (.int (st.begin_ : Int)), some (.int (st.at_ : Int)), some (.int (e : Int))] ∧ m = z.length - e ∧ e ≤ z.length ∧ runEnd isDig z.cps.toList e = runEnd isDig z.cps.toList (st.at_ + 1) ∧ H4 = H3,
            ⟨z.length - (st.at_ + 1), st.at_ + 1, rfl, rfl, hlt, rfl, rfl⟩, ?_⟩
          rintro m σ H4 ⟨e', rfl, rfl, he, er, rfl⟩
          refine ⟨_, rfl, _, rfl, _, rfl, sizes hz, _, _, rfl, rfl, _, rfl, ?_⟩
          refine ite2 (fun hlt2 => ?_) (fun hlt2 => ?_)
          · have hlt2 : e' < z.length := by have := of_decide_eq_true hlt2; omega
            obtain ⟨d, hd⟩ := at_some hlt2
            refine ⟨_, rfl, _, rfl, _, _, d, rfl, rfl, sizes hz, sign_at hd, betweenI ?_⟩
            refine ite2 (fun hp => ?_) (fun hp => ?_)
            · refine ⟨fun σ' H' => σ' = [some (.str z), some (.ref o), some (.int (st.line : Int)), some (.int (st.begin_ : Int)), some (.int (st.at_ : Int)), some (.int ((e' + 1 : Nat) : Int))] ∧ H' = H4, fun σ' H' hN => ?_, ?_⟩
              · obtain ⟨rfl, rfl⟩ := hN
                exact ⟨z.length - (e' + 1), by omega, e' + 1, rfl, rfl, hlt2, by rw [← er, run_yes hd hp], rfl⟩
              · exact ⟨_, rfl, _, _, rfl, rfl, rfl, rfl⟩
            · have hp : isDig d = false := by simpa [isDig] using hp
              refine hG _ _ ⟨?_, rfl⟩
              rw [e, ← er, run_no hd hp]
          · have hlt2 : ¬ e' < z.length := fun h => hlt2 (decide_eq_true (by omega))
            refine iteF (hG _ _ ⟨?_, rfl⟩)
            rw [e, ← er, run_out (by rw [len_list]; omega)]
        have te := two_eq hc
        have e0 : markEnd z.cps.toList st.at_ = if two z.cps.toList st.at_ = true then st.at_ + 2 else st.at_ + 1 := by
          unfold markEnd
          rw [gd, if_neg (show ¬ isLet c = true from h1), if_neg (show ¬ isDig c = true from h2)]
        refine ⟨_, rfl, _, rfl, _, _, c, rfl, rfl, sizes hz, sign_at hc, c, _, rfl, rfl, _, rfl, ?_⟩
        refine ite2 (fun h3 => ?_) (fun h3 => ?_)
        · refine ⟨_, rfl, _, rfl, _, rfl, _, rfl, _, _, rfl, rfl, _, rfl, z, rfl, sizes hz, rfl, _, rfl, ?_⟩
          refine ite2 (fun h4 => ?_) (fun h4 => ?_)
          · refine ⟨_, rfl, _, _, rfl, rfl, hG _ _ ⟨?_, rfl⟩⟩
            rw [e0, if_pos (by rw [te, h3]; exact h4)]
            rfl
          · refine hG _ _ ⟨?_, rfl⟩
            rw [e0, if_neg (by rw [te, h3]; exact h4)]
            rfl
        · refine iteF (hG _ _ ⟨?_, rfl⟩)
          rw [e0, if_neg (by rw [te, Bool.eq_false_iff.mpr h3]; exact Bool.false_ne_true)]
          rfl
    · have hlt : ¬ st.at_ < z.length := fun h => hlt (decide_eq_true (by omega))
      obtain ⟨vs, hv, _⟩ := fo.ex
      refine ⟨_, rfl, o, vs, rfl, .inl ⟨.inl (.inl hv), fun p hp => ?_⟩⟩
      obtain ⟨a, b, d⟩ := fo.all hlt hp hv
      exact q _ p a b d
end
end K05

namespace HG
open PySem PySem.Spec PyProof.Rows L2
section
variable {X : Cx}
/-- 'sep'.join(e) compared with o.replace('y', 'z'): the written sep has given a token out -/
theorem pt_join_repl {e o : Expr} {te to : TE} {sep y z : Str} {j k l : Nat} {cp c0 c1 ap ps ap2 ps2 pos : Pos} {op : CmpOp} {r : R2} (hr : OpR X (compareOp op) r) (he : PE X e te) (ho : PE X o to) (hm : ∀ b, behindInMarks op b = false) (hyz : (y == z) = false := by decide)
    (hs : starEach [e] X.env = [(false, eval e X.env)] := by rfl) (hbase : attributeBase (.Constant (.str sep) j cp) "join" X.env (eval (.Constant (.str sep) j cp) X.env) = eval (.Constant (.str sep) j cp) X.env := by rfl) (hline : (ap.endLine == ps.line) = true := by rfl)
    (hst : starEach [.Constant (.str y) k c0, .Constant (.str z) l c1] X.env = [(false, eval (.Constant (.str y) k c0) X.env), (false, eval (.Constant (.str z) l c1) X.env)] := by rfl)
    (hbase2 : attributeBase o "replace" X.env (eval o X.env) = eval o X.env := by rfl) (hline2 : (ap2.endLine == ps2.line) = true := by rfl) :
    PT X (.Compare (.Call (.Attribute (.Constant (.str sep) j cp) "join" ap) [e] [] ps) [op] [.Call (.Attribute o "replace" ap2) [.Constant (.str y) k c0, .Constant (.str z) l c1] [] ps2] pos)
      (tTest (tOp r (tM1 (fun x xs H Q => ∃ a p, ∃ ys : List Str, x = .str a ∧ xs = [.ref p] ∧ (SqL X.K H p (ys.map V.str) ∨ SqT X.K H p (ys.map V.str)) ∧ (ys.map (·.length)).sum + ys.length * a.length ≤ 16777216 ∧ Q (.str (Txt.join a ys)) H) (tC (.str sep)) te) (CwR.tReplC to y z))) := by
  constructor
  intro pins s σ H Q I h
  apply wpAny_isTrue_Compare1 _ (hm _)
  apply PySem.Call_method1 hbase hs hline
  apply Calls.Constant_str
  obtain ⟨_, h⟩ := h
  refine ⟨"str", _, F.plainAttrs_str, F.slot_str_join, F.type_str_join, typeIs_str _ _ _, (fun _ e => nomatch e), Calls.callWith_builtin rfl (Calls.evalArgs_plain (Calls.spliced_cons ?_))⟩
  refine wpAny_mono (wpAny_toks_of (n := 1) (by show 1 ≤ s.toks + 1; omega) (he.run pins _ σ H _ (I.tok (s.toks + 1)) h)) ?_ (fun _ _ z => z.2)
  rintro u s2 ⟨t2, y1, H2, I2, r2, q2⟩
  apply Calls.spliced_nil
  refine wpAny_mono (wpAny_toks_of t2 (mt_join pins s2 σ H2 (.str sep) [y1] _ [u] (fun x H1 => CwR.tReplC to y z σ H1 fun y H2 => r x y H2 fun x H' => ∃ k, x = V.bl k ∧ Q k H') I2 ⟨s.toks, rfl⟩ (.cons r2 .nil) q2)) ?_ (fun _ _ z => z.2)
  rintro v s3 ⟨t3, x, H3, I3, r3, q3⟩
  refine thn (CwR.pet_replC ho hyz hst hbase2 hline2 pins s3 σ H3 _ t3 I3 q3) ?_
  rintro u4 s4 ⟨x4, H4, I4, r4, q4⟩
  refine thn (hr pins s4 σ H4 x x4 v u4 _ I4 r3 r4 q4) ?_
  rintro c s5 ⟨v5, H5, I5, r5, b, eb, q5⟩
  subst eb
  cases r5
  exact wpAny_truthy_bool ⟨H5, I5, q5⟩
/-- a text so many times -/
theorem op_mul_str : OpR X (binaryOp .Mult) (fun x y H Q => ∃ (a : Str) (n : Nat), x = .str a ∧ y = .int (n : Int) ∧ 2 ≤ n ∧ n ≤ 1000 ∧ 1 ≤ a.length ∧ a.length ≤ 1000 ∧ Q (.str (Txt.mul a n)) H) := by
  intro pins s σ H x y v u Q I rx ry h
  obtain ⟨a, n, rfl, rfl, n1, n2, a1, a2, q⟩ := h
  obtain ⟨t, rfl⟩ := rx
  obtain ⟨t', rfl⟩ := ry
  have ok : MulOk a (n : Int) := by
    refine ⟨?_, fun _ _ => ?_, fun _ _ => ?_⟩
    · rw [decide_eq_false (by omega), decide_eq_false (by omega)]
      rfl
    · have h1 : (1000 : Int) ≤ (2 ^ 63 - 1) / (n : Int) := by
        rw [Int.le_ediv_iff_mul_le (by omega)]
        omega
      omega
    · have h1 : a.length * n ≤ 1000 * 1000 := Nat.mul_le_mul a2 n2
      unfold PySem.Builtin.Str.tooLong
      refine decide_eq_false ?_
      rw [sizeLine_eq]
      show ¬ a.length * n > _
      omega
  exact PySem.SB.mul ok fun u k => ⟨.str _, H, I.tok k, ⟨u, rfl⟩, q⟩
end
end HG

namespace K05
open PySem PySem.Spec PyProof.Rows L2 HG
/-! ### the marks as data -/
structure Good (z : Str) (m : Int × Int × Str) : Prop where
  a : m.1.natAbs ≤ z.length
  b : m.2.1.natAbs ≤ z.length
  c : m.2.2.length ≤ z.length
  d : Low z → Low m.2.2
theorem marks_good (z : Str) : ∀ m ∈ marks z, Good z m := by
  have step_good : ∀ s : Pt, Along z s → s.at_ < z.length → (∀ m ∈ s.out, Good z m) → ∀ m ∈ (step z s).out, Good z m := by
    intro s al hi h m hm
    have hm' : m ∈ (if z.cps.toList.getD s.at_ 0 = 32 then s.out else s.out ++ [((s.line : Int), (s.at_ : Int) - (s.begin_ : Int), sub z s.at_ (markEnd z.cps.toList s.at_))]) := hm
    split at hm'
    · exact h m hm'
    · rcases List.mem_append.mp hm' with hm' | hm'
      · exact h m hm'
      · rw [List.mem_singleton] at hm'
        subst hm'
        have h1 := al.1
        have h2 := al.2.2.2.1
        have h3 := al.2.2.2.2
        refine ⟨by show (s.line : Int).natAbs ≤ _; omega, by show ((s.at_ : Int) - (s.begin_ : Int)).natAbs ≤ _; omega, cutS_length _ _ _, fun lo c hc => ?_⟩
        have hs := step_lt hi
        have hc' : c ∈ (sub z s.at_ (markEnd z.cps.toList s.at_)).cps.toList := hc
        rw [sub_list (show s.at_ ≤ markEnd z.cps.toList s.at_ from Nat.le_of_lt hs.1) (show markEnd z.cps.toList s.at_ ≤ z.length from hs.2)] at hc'
        exact lo c (List.mem_of_mem_drop (List.mem_of_mem_take hc'))
  have all : ∀ (n : Nat) (s : Pt), Along z s → (∀ m ∈ s.out, Good z m) → ∀ m ∈ (go z n s).out, Good z m := by
    intro n
    induction n with
    | zero => intro s _ h; exact h
    | succ n ih =>
      intro s al h
      unfold go
      by_cases hi : s.at_ < z.length
      · rw [if_pos hi]
        exact ih _ (along_step al hi) (step_good s al hi h)
      · rw [if_neg hi]
        exact h
  exact all _ _ (along_0 z) fun m hm => by cases hm
def toPy (m : Int × Int × Str) : PyData := .tuple [.int m.1, .int m.2.1, .str m.2.2]
def py (ms : List (Int × Int × Str)) : PyData := .tuple (ms.map toPy)
theorem dp_pair {K : PySem.W.Frag} {H : Hp} : ∀ {vs : List V} {ms : List (Int × Int × Str)}, Paired (MarkAt H) vs ms → DpAll K H vs (ms.map toPy)
  | _, _, .nil => .nil
  | _, _, .cons ⟨p, e, q⟩ r => by
    subst e
    exact .cons (.tup (.inl (.inl q)) (.cons (.int _) (.cons (.int _) (.cons (.str _) .nil)))) (dp_pair r)
theorem dp_marks {K : PySem.W.Frag} {H : Hp} {p : Addr} {ms : List (Int × Int × Str)} (h : MarksAt H p ms) : Dp K H (.ref p) (py ms) := by
  obtain ⟨vs, h1, h2⟩ := h
  exact .tup (.inl (.inl h1)) (dp_pair h2)
theorem log_small {i : Int} (h : i.natAbs ≤ 1000) : i.natAbs.log2 < 1920 := by
  rcases Nat.eq_zero_or_pos i.natAbs with e | e
  · rw [e]; decide
  · have := (Nat.log2_lt (by omega : i.natAbs ≠ 0)).mpr (show i.natAbs < 2 ^ 1920 from Nat.lt_of_le_of_lt h (by decide))
    exact this
theorem py_show {z : Str} (hz : z.length ≤ 1000) : ∀ ms : List (Int × Int × Str), (∀ m ∈ ms, Good z m) → PyData.showableAll (ms.map toPy) = true ∧ PyData.hasDictAll (ms.map toPy) = false ∧ PyData.depthAll (ms.map toPy) ≤ 3
  | [], _ => ⟨by simp [PyData.showableAll], by simp [PyData.hasDictAll], by simp [PyData.depthAll]⟩
  | m :: r, h => by
    obtain ⟨h1, h2, h3⟩ := py_show hz r fun m hm => h m (List.mem_cons_of_mem _ hm)
    have g := h m List.mem_cons_self
    have l1 := log_small (Nat.le_trans g.a hz)
    have l2 := log_small (Nat.le_trans g.b hz)
    refine ⟨?_, ?_, ?_⟩
    · simp [PyData.showableAll, toPy, PyData.showable, h1, l1, l2]
    · simp [PyData.hasDictAll, toPy, PyData.hasDict, h2]
    · simp only [List.map_cons, PyData.depthAll, toPy, PyData.depth]
      omega
theorem show_mark {z : Str} (hz : z.length ≤ 1000) (lo : Low z) {m : Int × Int × Str} (g : Good z m) : (toPy m).shown.length ≤ 10100 := by
  have b1 := PyData.shown_int_le (i := m.1) (by have := g.a; omega)
  have b2 := PyData.shown_int_le (i := m.2.1) (by have := g.b; omega)
  have b3 : (PyData.str m.2.2).shown.length ≤ 10 * m.2.2.length + 2 := by
    rw [show (PyData.str m.2.2).shown = PySem.reprText m.2.2 by simp only [PyData.shown]]
    exact StrLaws.reprText_len m.2.2 fun c hc => Nat.lt_of_lt_of_le (g.d lo c hc) (by decide)
  have b := tupleText_len_le (PyData.shownAll [.int m.1, .int m.2.1, .str m.2.2])
  have gc := g.c
  have e : (toPy m).shown = tupleText (PyData.shownAll [.int m.1, .int m.2.1, .str m.2.2]) := by
    unfold toPy
    simp only [PyData.shown]
  rw [e]
  simp only [PyData.shownAll, List.map_cons, List.map_nil, List.sum_cons, List.sum_nil, List.length_cons, List.length_nil] at b ⊢
  omega
theorem show_sum {z : Str} (hz : z.length ≤ 1000) (lo : Low z) : ∀ ms : List (Int × Int × Str), (∀ m ∈ ms, Good z m) → ((PyData.shownAll (ms.map toPy)).map (·.length)).sum ≤ 10100 * ms.length ∧ (PyData.shownAll (ms.map toPy)).length = ms.length
  | [], _ => ⟨by simp [PyData.shownAll], by simp [PyData.shownAll]⟩
  | m :: r, h => by
    obtain ⟨h1, h2⟩ := show_sum hz lo r fun m hm => h m (List.mem_cons_of_mem _ hm)
    have g := show_mark hz lo (h m List.mem_cons_self)
    constructor
    · simp only [List.map_cons, PyData.shownAll, List.sum_cons, List.length_cons]
      omega
    · simp only [List.map_cons, PyData.shownAll, List.length_cons, h2]
/-- all that repr asks of the marks of a text -/
theorem py_ok {z : Str} (hz : z.length ≤ 1000) (lo : Low z) : (py (marks z)).showable = true ∧ (py (marks z)).hasDict = false ∧ (py (marks z)).depth ≤ 60 ∧ (py (marks z)).shown.length ≤ sizeLine := by
  obtain ⟨h1, h2, h3⟩ := py_show hz (marks z) (marks_good z)
  obtain ⟨s1, s2⟩ := show_sum hz lo (marks z) (marks_good z)
  have ml := marks_len (z := z)
  refine ⟨?_, ?_, ?_, ?_⟩
  · unfold py
    simpa [PyData.showable] using h1
  · unfold py
    simpa [PyData.hasDict] using h2
  · unfold py
    simp only [PyData.depth]
    omega
  · have e : (py (marks z)).shown = tupleText (PyData.shownAll ((marks z).map toPy)) := by
      unfold py
      simp only [PyData.shown]
    have b := tupleText_len_le (PyData.shownAll ((marks z).map toPy))
    rw [e, sizeLine_eq]
    rw [s2] at b
    omega
/-! ### the marks joined -/
theorem glue_flat : ∀ l : List Str, StrLaws.glueL [] l = (l.map fun y => y.cps.toList).flatten
  | [] => rfl
  | y :: r => by
    show [] ++ (y.cps.toList ++ StrLaws.glueL [] r) = _
    rw [glue_flat r]
    rfl
theorem join_flat (l : List Str) : (Txt.join "" l).cps.toList = (l.map fun y => y.cps.toList).flatten := by
  cases l with
  | nil => rfl
  | cons y r =>
    have h := StrLaws.glued_list ("" : Str) y r
    have e : (Txt.join "" (y :: r)).cps.toList = StrLaws.glueT ("" : Str).cps.toList (y :: r) := h
    rw [e]
    show y.cps.toList ++ StrLaws.glueL [] r = _
    rw [glue_flat r]
    rfl
theorem repl_blank : ∀ l : List Nat, StrLaws.replL [32] [] l = l.filter (· ≠ 32)
  | [] => StrLaws.replL_nil
  | c :: r => by
    by_cases h : c = 32
    · subst h
      rw [StrLaws.replL_hit (by simp) (by simp)]
      show [] ++ StrLaws.replL [32] [] ((32 :: r).drop 1) = _
      rw [show (32 :: r).drop 1 = r from rfl, repl_blank r]
      simp
    · rw [StrLaws.replL_miss (by simpa using h), repl_blank r]
      simp [h]
theorem join_replace (z : Str) : Txt.join "" ((marks z).map fun m => m.2.2) = Txt.replace z " " "" := by
  rw [str_is, join_flat, List.map_map]
  rw [show (Txt.replace z " " "").cps.toList = StrLaws.replL (" " : Str).cps.toList ("" : Str).cps.toList z.cps.toList from StrLaws.replace_list (by decide)]
  show _ = StrLaws.replL [32] [] z.cps.toList
  rw [repl_blank]
  exact marks_text z
theorem join_size {z : Str} (hz : z.length ≤ 1000) : (((marks z).map fun m => m.2.2).map (·.length)).sum ≤ 1000 := by
  have h := congrArg List.length (marks_text z)
  rw [List.length_flatten, List.map_map] at h
  have h2 : (z.cps.toList.filter (· ≠ 32)).length ≤ z.length := by
    rw [← len_list]
    exact List.length_filter_le _ _
  have e : (((marks z).map fun m => m.2.2).map (·.length)) = (marks z).map (List.length ∘ fun m => m.2.2.cps.toList) := by
    rw [List.map_map]
    refine List.map_congr_left fun m _ => ?_
    exact (len_list m.2.2).symm
  rw [e, h]
  omega
/-! ### the written texts -/
def long : Str := ((((Txt.mul "a" 300 ++ Txt.mul "9" 300) ++ Txt.mul "\n" 30) ++ Txt.mul "<" 7) ++ "=")
def mkM (i j : Int) (y : Str) : Int × Int × Str := (i, j, y)
theorem long_ok : (marks long).length = 39 ∧ (marks long)[38]? = some (mkM 30 6 "<=") ∧ (marks long).take 2 = [mkM 0 0 (Txt.mul "a" 300), mkM 0 300 (Txt.mul "9" 300)] ∧ long.length = 638 := by decide +kernel
theorem none_ok : marks "" = [] := by decide +kernel
theorem few_ok : marks " \n a'>=-1" = [mkM 0 1 "\n", mkM 1 1 "a", mkM 1 2 "'", mkM 1 3 ">=", mkM 1 5 "-", mkM 1 6 "1"] := by decide +kernel
end K05

namespace K05
open PySem PySem.Spec PyProof.Rows L2 HG
abbrev s_law : Stmt := topS 13
abbrev Nsc_law : List Str := ["script", "heap", "turn", "text", "due", "mark", "long"]
theorem sc_law : FnScope Nsc_law ["script"] (defScope s_law) := ⟨rfl, rfl, rfl, by decide +kernel, rfl, by decide +kernel, by decide +kernel⟩

theorem at2 {α : Type} {x y v : α} {r : List α} : atI (x :: y :: v :: r) (2 : Int) = some v := atI_nat (j := 2) rfl
theorem pair_at {H : Hp} : ∀ {vs : List V} {ms : List (Int × Int × Str)} {i : Nat} {m : Int × Int × Str}, Paired (MarkAt H) vs ms → ms[i]? = some m → ∃ v, vs[i]? = some v ∧ MarkAt H v m
  | _, _, _, _, .nil, h => by simp at h
  | _, _, 0, _, .cons a r, h => by
    simp at h
    subst h
    exact ⟨_, rfl, a⟩
  | _, _, i + 1, m, .cons a r, h => by
    obtain ⟨v, h1, h2⟩ := pair_at (i := i) (m := m) r (by simpa using h)
    exact ⟨v, by simpa using h1, h2⟩
theorem pair_take {H : Hp} : ∀ {vs : List V} {ms : List (Int × Int × Str)} (n : Nat), Paired (MarkAt H) vs ms → Paired (MarkAt H) (vs.take n) (ms.take n)
  | _, _, 0, _ => .nil
  | _, _, _ + 1, .nil => .nil
  | _, _, n + 1, .cons a r => .cons a (pair_take n r)
theorem MarksAt.same {H H' : Hp} {p : Addr} {ms : List (Int × Int × Str)} (h : MarksAt H p ms) (s : Same H H') : MarksAt H' p ms := by
  obtain ⟨vs, h1, h2⟩ := h
  exact ⟨vs, s _ _ h1, pair_keep (fun b xs q => s _ _ q) h2⟩
/-- a written mark -/
theorem dp_mark {K : PySem.W.Frag} {H : Hp} {p : Addr} {i j : Int} {y : Str} (h : H p = some (.tup [.int i, .int j, .str y])) : Dp K H (.ref p) (toPy (mkM i j y)) :=
  .tup (.inl (.inl h)) (.cons (.int _) (.cons (.int _) (.cons (.str _) .nil)))
def spLaw (K : PySem.W.Frag) : Sp := fun vs H Q _ => ∃ (a : Addr) (ns : List Int), vs = [.ref a] ∧ SqL K H a (ns.map V.int) ∧ ns.length ≤ 63 ∧ ∀ H', Q (.bl true) H'
section
variable {P : Program} {w : World} {K : PySem.W.Frag} {mg : Str → Option Value} {base : Heap}
set_option maxHeartbeats 4000000 in
theorem ok_law {f : Addr} {fd : FuncData} (F : Fun K "law" "law" s_law f fd) (d__law_heap : Ent P w K mg base 1 "_law_heap" ["script"] (spHeap K)) (d__law_string : Ent P w K mg base 3 "_law_string" ["heap", "many"] spString) (d__law_pick : Ent P w K mg base 2 "_law_pick" ["heap", "some"] spPick)
    (d__law_marks : Ent P w K mg base 1 "_law_marks" ["text"] spMarks) (d_marks_in : Ent P w K mg base 4 "marks_in" ["text"] spMarks) (k_marks_in : EntK P w K mg base 4 "marks_in" ["text"] ["text"] (fun vs zs => vs ++ zs) spMarks) (T : Names mg) : FnG P w K mg base CX0 5 f fd ["script"] (spLaw K) := by
  refine okG0 F sc_law (fun vs H Q E h => ?_) (fun cdv A outer s H vs Q E bare hr h => ?_)
  · obtain ⟨a, ns, rfl, _⟩ := h
    rfl
  · obtain ⟨a, ns, rfl, hS, hlen, q⟩ := h
    have hu := hr.units
    refine ⟨_, (pss_cons (ps_set (i := 1) sc_law.nd rfl (.inl rfl) (pe_ent d__law_heap (hr.mono (by decide)) (pa_cons (pv 0) pa_nil)))
    (pss_cons (ps_for PassesOwn.never rfl (pi_range1 (by rfl) T.n_range (pa_cons (pe_op op_add pe_int (pe_callTy call_int1 (by rfl) T.n_int (by decide +kernel) (pa_cons (pe_cmpR op_gt (pe_callB call_len_seq (by rfl) T.n_len PySem.boot_len (pa_cons (pv 0) pa_nil)) pe_int (nomark _)) pa_nil))) pa_nil)) (pg_name (i := 2) sc_law.nd rfl (.inl rfl))
      (pss_cons (ps_set (i := 3) sc_law.nd rfl (.inl rfl) (pe_ent d__law_string (hr.mono (by decide)) (pa_cons (pv 1) (pa_cons (pe_ent d__law_pick (hr.mono (by decide)) (pa_cons (pv 1) (pa_cons (pe_lst (pa_cons pe_int (pa_cons pe_int (pa_cons pe_int (pa_cons pe_int (pa_cons pe_int (pa_cons pe_int pa_nil))))))) pa_nil))) pa_nil))))
      (pss_cons (ps_set (i := 4) sc_law.nd rfl (.inl rfl) (pe_ent d__law_marks (hr.mono (by decide)) (pa_cons (pv 3) pa_nil)))
      (pss_cons (ps_if (PW.pt (pw_or (pt_cmpR op_ne (pe_callB (call_repr bare hu) (by rfl) T.n_repr (by decide +kernel) (pa_cons (pe_ent d_marks_in (hr.mono (by decide)) (pa_cons (pv 3) pa_nil)) pa_nil)) (pe_callB (call_repr bare hu) (by rfl) T.n_repr (by decide +kernel) (pa_cons (pv 4) pa_nil)) (nomark _)) (pw_or1 (pt_cmpR op_ne (pe_callB (call_repr bare hu) (by rfl) T.n_repr (by decide +kernel) (pa_cons (pe_entK k_marks_in bare (hr.mono (by decide)) (pk_cons (pv 3) pk_nil)) pa_nil)) (pe_callB (call_repr bare hu) (by rfl) T.n_repr (by decide +kernel) (pa_cons (pv 4) pa_nil)) (nomark _)))))
        (pss_one (ps_ret pe_bl))
        pss_nil)
      (pss_one (ps_if (pt_join_repl op_ne (pe_lc (own := [("mark", 5)]) (g := gName 5) (tt := tYes) rfl sc_law.nd (pi_tup (pv 4)) (blkOk_by (own := [("mark", 5)]) (N := Nsc_law) (sc := defScope s_law) (by decide +kernel)) (fun _ _ _ _ _ => (pg_name (i := 5) sc_law.nd rfl (.inl rfl))) (fun _ _ _ _ _ => pts_nil) (fun _ _ _ _ _ => (pe_ix (r := rIxT K) ix_tup (pv 5) pe_int (fun _ _ => rfl)))) (pv 3) (fun b => nomark b))
        (pss_one (ps_ret pe_bl))
        pss_nil))))))
    (pss_cons (ps_set (i := 6) sc_law.nd rfl (.inl rfl) (pe_op op_add_str (pe_op op_add_str (pe_op op_add_str (pe_op op_add_str (pe_op op_mul_str pe_str pe_int) (pe_op op_mul_str pe_str pe_int)) (pe_op op_mul_str pe_str pe_int)) (pe_op op_mul_str pe_str pe_int)) pe_str))
    (pss_cons (ps_if (PW.pt (pw_or (pt_cmpR (op_neD hu) (pe_ix ix_tup (pe_ent d_marks_in (hr.mono (by decide)) (pa_cons (pv 6) pa_nil)) (pe_un un_neg pe_int) (fun _ _ => rfl)) (pe_tup (pa_cons pe_int (pa_cons pe_int (pa_cons pe_str pa_nil)))) (nomark _)) (pw_or1 (pt_cmpR (op_neD hu) (pe_slice sl_tupA (pe_ent d_marks_in (hr.mono (by decide)) (pa_cons (pv 6) pa_nil)) po_none (po_some pe_int)) (pe_tup (pa_cons (pe_tup (pa_cons pe_int (pa_cons pe_int (pa_cons (pe_op op_mul_str pe_str pe_int) pa_nil)))) (pa_cons (pe_tup (pa_cons pe_int (pa_cons pe_int (pa_cons (pe_op op_mul_str pe_str pe_int) pa_nil)))) pa_nil))) (nomark _)))))
      (pss_one (ps_ret pe_bl))
      pss_nil)
    (pss_one (ps_ret (pe_and (pe_cmpR (op_eqD hu) (pe_ent d_marks_in (hr.mono (by decide)) (pa_cons pe_str pa_nil)) (pe_tup pa_nil) (nomark _)) (pe_one (pe_cmpR (op_eqD hu) (pe_ent d_marks_in (hr.mono (by decide)) (pa_cons pe_str pa_nil)) (pe_tup (pa_cons (pe_tup (pa_cons pe_int (pa_cons pe_int (pa_cons pe_str pa_nil)))) (pa_cons (pe_tup (pa_cons pe_int (pa_cons pe_int (pa_cons pe_str pa_nil)))) (pa_cons (pe_tup (pa_cons pe_int (pa_cons pe_int (pa_cons pe_str pa_nil)))) (pa_cons (pe_tup (pa_cons pe_int (pa_cons pe_int (pa_cons pe_str pa_nil)))) (pa_cons (pe_tup (pa_cons pe_int (pa_cons pe_int (pa_cons pe_str pa_nil)))) (pa_cons (pe_tup (pa_cons pe_int (pa_cons pe_int (pa_cons pe_str pa_nil)))) pa_nil))))))) (nomark _)))))))))), ?_⟩
    -- heap = _law_heap(script)
    refine ⟨_, rfl, a, ns, rfl, hS, hlen, fun H1 h b s1 nh nb hh => ?_⟩
    -- for turn in range(..)
    refine ⟨_, rfl, a, _, rfl, .inl (s1.seq hS), _, _, rfl, rfl, .inr ⟨_, rfl, _, _, rfl, rfl, _, rfl, ?_, ?_, ?_⟩⟩
    · split <;> decide
    · split <;> decide
    refine for_range (lo := 0) (fun i σ H3 => ∃ (v2 v3 v4 : Option V), σ = [some (.ref a), some (.ref h), v2, v3, v4, none, none] ∧ HeapAt H3 h b) ⟨none, none, none, rfl, hh⟩ ?_ ?_
    · rintro i σ H3 hi ⟨v2, v3, v4, rfl, h3⟩
      obtain ⟨xs3, st3, _, a3, b3⟩ := h3.ex
      -- text = _law_string(heap, _law_pick(heap, [..]))
      refine ⟨_, rfl, _, rfl, by show 6 ≤ sizeLine; decide, fun l hl => ?_⟩
      refine ⟨h, b, h3.same (same_upd hl), .inr ⟨l, ([9, 25, 3, 40, 0, 1] : List Nat).map (fun n : Nat => V.int (n : Int)), rfl, upd_same, (ne_of_none a3 hl).symm, (ne_of_none b3 hl).symm, by decide, by decide, fun H4 v h4 kp4 hv => ?_⟩⟩
      obtain ⟨many, hmany, rfl⟩ := List.mem_map.mp hv
      have hm40 : many ≤ 40 := by
        have all : ∀ n ∈ ([9, 25, 3, 40, 0, 1] : List Nat), n ≤ 40 := by decide
        exact all many hmany
      refine ⟨h, b, many, rfl, h4, hm40, fun H5 z h5 kp5 hz lz => ?_⟩
      have hz : z.length ≤ 1000 := by omega
      -- due = _law_marks(text)
      refine ⟨_, rfl, z, rfl, hz, fun H6 pd s6 np6 mk6 => ?_⟩
      obtain ⟨o1, o2, o3, o4⟩ := py_ok hz lz
      -- the first two tests
      refine ⟨_, rfl, z, rfl, hz, fun H7 p7 s7 np7 mk7 => ?_⟩
      refine ⟨_, _, rfl, dp_marks mk7, o1, o2, o3, o4, _, rfl, _, _, rfl, dp_marks (mk6.same s7), o1, o2, o3, o4, rfl, _, rfl, ?_⟩
      refine iteNS rfl ?_
      refine ⟨_, rfl, z, rfl, hz, fun H8 p8 s8 np8 mk8 => ?_⟩
      refine ⟨_, _, rfl, dp_marks mk8, o1, o2, o3, o4, _, rfl, _, _, rfl, dp_marks ((mk6.same s7).same s8), o1, o2, o3, o4, rfl, _, rfl, ?_⟩
      refine iteNS rfl ?_
      -- the third: ''.join([..]) != text.replace(' ', '')
      obtain ⟨vs, hvs, pvs⟩ := (mk6.same s7).same s8
      refine ⟨⟨_, rfl⟩, _, rfl, pd, rfl, ⟨_, .inl (.inl hvs)⟩, fun D hD => ?_⟩
      have len : vs.length = (marks z).length := pair_len pvs
      refine lc_tup (K := K) (a := pd) (xs := vs) (fun i H9 => Same H8 H9 ∧ H9 D = some (.lst ((((marks z).map fun m => m.2.2).take i).map V.str))) ⟨same_upd hD, upd_same⟩ (fun i H9 _ hh9 => .inl (.inl (hh9.1 _ _ hvs))) (fun i x H9 hx hh9 => ?_) (fun H9 hh9 => ?_)
      · obtain ⟨s9, eD⟩ := hh9
        have hi : i < (marks z).length := by
          rw [← len]
          exact (List.getElem?_eq_some_iff.mp hx).1
        have hm : (marks z)[i]? = some ((marks z)[i]) := List.getElem?_eq_getElem hi
        obtain ⟨v, hv, pm, rfl, hpm⟩ := pair_at pvs hm
        rw [hx] at hv
        obtain rfl := Option.some.inj hv
        refine ⟨rfl, yes_ (iteT ?_)⟩
        refine ⟨_, rfl, pm, _, 2, _, rfl, rfl, .inl (.inl (s9 _ _ hpm)), at2, _, eD, ?_, fun b x e => ?_, ?_⟩
        · rw [List.length_map]
          refine small1000 ?_
          have := marks_len (z := z)
          rw [List.length_take, List.length_map]
          omega
        · rw [upd_ne (ne_of_none e hD)]
          exact s9 b x e
        · rw [upd_same, List.take_add_one, List.getElem?_map, hm, List.map_append]
          rfl
      · obtain ⟨s9, eD⟩ := hh9
        rw [len, List.take_of_length_le (by rw [List.length_map]; exact Nat.le_refl _)] at eD
        refine ⟨_, D, _, rfl, rfl, .inl (.inl (.inl eD)), ?_, _, rfl, z, rfl, ?_, rfl, _, rfl, ?_⟩
        · have := join_size hz
          show _ + _ * 0 ≤ _
          omega
        · show z.length + (z.length + 1) * 0 ≤ _
          omega
        · refine iteNS (by rw [join_replace]) ?_
          exact ⟨_, _, _, rfl, ((((((h5.same s6).same s7).same s8).same s9)))⟩
    · rintro σ H3 ⟨v2, v3, v4, rfl, h3⟩
      -- long
      refine ⟨_, 300, rfl, rfl, by decide, by decide, by decide, by decide, _, 300, rfl, rfl, by decide, by decide, by decide, by decide, _, _, rfl, rfl, ?_, _, 30, rfl, rfl, by decide, by decide, by decide, by decide, _, _, rfl, rfl, ?_, _, 7, rfl, rfl, by decide, by decide, by decide, by decide, _, _, rfl, rfl, ?_, _, _, rfl, rfl, ?_, ?_⟩
      · decide +kernel
      · decide +kernel
      · decide +kernel
      · decide +kernel
      obtain ⟨l1, l2, l3, l4⟩ := long_ok
      have hl1000 : long.length ≤ 1000 := by omega
      -- marks_in(long)[-1] != (30, 6, '<=')
      refine ⟨_, rfl, long, rfl, hl1000, fun H4 p4 s4 np4 mk4 => ?_⟩
      obtain ⟨vs, hvs, pvs⟩ := mk4
      have len := pair_len pvs
      rw [l1] at len
      obtain ⟨v, hv, pm, rfl, hpm⟩ := pair_at pvs l2
      have last : atI vs (-1) = some (.ref pm) := by
        have e : vs = vs.dropLast ++ [V.ref pm] := by
          have ne : vs ≠ [] := fun e => by rw [e] at len; cases len
          have h2 : vs.getLast ne = .ref pm := by
            have h3 := List.getLast_eq_getElem ne
            rw [h3]
            have h4 : vs.length - 1 = 38 := by omega
            have h5 := (List.getElem?_eq_some_iff.mp hv).2
            simpa [h4] using h5
          conv => lhs; rw [← List.dropLast_concat_getLast ne]
          rw [h2]
        rw [e]
        exact atI_last _ _
      refine ⟨1, rfl, p4, vs, -1, .ref pm, rfl, rfl, .inl (.inl hvs), last, by show 3 ≤ sizeLine; decide, fun p5 np5 => ?_⟩
      have s5 := same_upd (o := .tup [.int 30, .int 6, .str "<="]) np5
      refine ⟨toPy (mkM 30 6 "<="), toPy (mkM 30 6 "<="), dp_mark (s5 _ _ hpm), dp_mark upd_same, by decide +kernel, by decide +kernel, _, rfl, ?_⟩
      rw [SeqAt.eqv_refl _ (by decide +kernel)]
      refine iteF ?_
      -- marks_in(long)[:2] != ((0, 0, ..), (0, 300, ..))
      refine ⟨_, rfl, long, rfl, hl1000, fun H6 p6 s6 np6 mk6 => ?_⟩
      obtain ⟨vs6, hvs6, pvs6⟩ := mk6
      have len6 := pair_len pvs6
      rw [l1] at len6
      refine ⟨2, rfl, p6, vs6, rfl, .inl (.inl hvs6), fun whole => ?_, fun _ p7 np7 => ?_⟩
      · exfalso
        have h2 := whole.2
        rw [len6, show HT.sIx 39 39 (some (2 : Int)) = min 2 39 from HT.sIx_nat 39 39 2] at h2
        exact absurd h2 (by decide)
      have cut : cutV vs6 none (some 2) = vs6.take 2 := by
        unfold cutV
        rw [show HT.sIx vs6.length 0 none = 0 from HT.sIx_none _ _, show HT.sIx vs6.length vs6.length (some (2 : Int)) = min 2 vs6.length from HT.sIx_nat _ _ 2, len6]
        rfl
      rw [cut]
      have s7 := same_upd (o := .tup (vs6.take 2)) np7
      generalize eH7 : upd H6 p7 (.tup (vs6.take 2)) = H7 at s7 ⊢
      have h7 : H7 p7 = some (.tup (vs6.take 2)) := by rw [← eH7, upd_same]
      have pv7 : Paired (MarkAt H7) (vs6.take 2) [mkM 0 0 (Txt.mul "a" 300), mkM 0 300 (Txt.mul "9" 300)] := by
        rw [← l3]
        exact pair_take 2 (pair_keep (fun b xs q => s7 _ _ q) pvs6)
      refine ⟨_, 300, rfl, rfl, by decide, by decide, by decide, by decide, by show 3 ≤ sizeLine; decide, fun t1 nt1 => ?_⟩
      have u1 := same_upd (o := .tup [.int 0, .int 0, .str (Txt.mul "a" 300)]) nt1
      refine ⟨_, 300, rfl, rfl, by decide, by decide, by decide, by decide, by show 3 ≤ sizeLine; decide, fun t2 nt2 => ?_⟩
      have u2 := same_upd (o := .tup [.int 0, .int 300, .str (Txt.mul "9" 300)]) nt2
      refine ⟨by show 2 ≤ sizeLine; decide, fun t3 nt3 => ?_⟩
      have u3 := same_upd (o := .tup [.ref t1, .ref t2]) nt3
      have g1 := u3 _ _ (u2 _ _ (upd_same (H := H7) (a := t1) (o := .tup [.int 0, .int 0, .str (Txt.mul "a" 300)])))
      refine ⟨py [mkM 0 0 (Txt.mul "a" 300), mkM 0 300 (Txt.mul "9" 300)], py [mkM 0 0 (Txt.mul "a" 300), mkM 0 300 (Txt.mul "9" 300)], ?_, ?_, by decide +kernel, by decide +kernel, _, rfl, ?_⟩
      · exact dp_marks ⟨_, u3 _ _ (u2 _ _ (u1 _ _ h7)), pair_keep (fun b xs q => u3 _ _ (u2 _ _ (u1 _ _ q))) pv7⟩
      · exact .tup (.inl (.inl upd_same)) (.cons (dp_mark g1) (.cons (dp_mark (u3 _ _ upd_same)) .nil))
      rw [SeqAt.eqv_refl _ (by decide +kernel)]
      refine iteF ?_
      -- return marks_in('') == () and marks_in(..) == (..)
      refine ⟨"", rfl, by decide, fun H8 p8 s8 np8 mk8 => ?_⟩
      rw [none_ok] at mk8
      refine ⟨Nat.zero_le _, fun p9 np9 => ?_⟩
      refine ⟨py [], .tuple [], dp_marks (mk8.same (same_upd np9)), .tup (.inl (.inl upd_same)) .nil, rfl, rfl, true, ?_, ?_⟩
      · rfl
      refine iteT ?_
      refine ⟨" \n a'>=-1", rfl, by decide +kernel, fun H10 p10 s10 np10 mk10 => ?_⟩
      rw [few_ok] at mk10
      refine ⟨by show 3 ≤ sizeLine; decide, fun t1 nt1 => ?_⟩
      have w1 := same_upd (o := .tup [.int 0, .int 1, .str "\n"]) nt1
      refine ⟨by show 3 ≤ sizeLine; decide, fun t2 nt2 => ?_⟩
      have w2 := same_upd (o := .tup [.int 1, .int 1, .str "a"]) nt2
      refine ⟨by show 3 ≤ sizeLine; decide, fun t3 nt3 => ?_⟩
      have w3 := same_upd (o := .tup [.int 1, .int 2, .str "'"]) nt3
      refine ⟨by show 3 ≤ sizeLine; decide, fun t4 nt4 => ?_⟩
      have w4 := same_upd (o := .tup [.int 1, .int 3, .str ">="]) nt4
      refine ⟨by show 3 ≤ sizeLine; decide, fun t5 nt5 => ?_⟩
      have w5 := same_upd (o := .tup [.int 1, .int 5, .str "-"]) nt5
      refine ⟨by show 3 ≤ sizeLine; decide, fun t6 nt6 => ?_⟩
      have w6 := same_upd (o := .tup [.int 1, .int 6, .str "1"]) nt6
      refine ⟨by show 6 ≤ sizeLine; decide, fun t7 nt7 => ?_⟩
      have w7 := same_upd (o := .tup [.ref t1, .ref t2, .ref t3, .ref t4, .ref t5, .ref t6]) nt7
      refine ⟨py [mkM 0 1 "\n", mkM 1 1 "a", mkM 1 2 "'", mkM 1 3 ">=", mkM 1 5 "-", mkM 1 6 "1"], py [mkM 0 1 "\n", mkM 1 1 "a", mkM 1 2 "'", mkM 1 3 ">=", mkM 1 5 "-", mkM 1 6 "1"], ?_, ?_, by decide +kernel, by decide +kernel, ?_⟩
      · exact dp_marks ((((((((mk10.same w1).same w2).same w3).same w4).same w5).same w6)).same w7)
      · exact .tup (.inl (.inl upd_same)) (.cons (dp_mark (w7 _ _ (w6 _ _ (w5 _ _ (w4 _ _ (w3 _ _ (w2 _ _ upd_same))))))) (.cons (dp_mark (w7 _ _ (w6 _ _ (w5 _ _ (w4 _ _ (w3 _ _ upd_same)))))) (.cons (dp_mark (w7 _ _ (w6 _ _ (w5 _ _ (w4 _ _ upd_same)))))
          (.cons (dp_mark (w7 _ _ (w6 _ _ (w5 _ _ upd_same)))) (.cons (dp_mark (w7 _ _ (w6 _ _ upd_same))) (.cons (dp_mark (w7 _ _ upd_same)) .nil))))))
      rw [SeqAt.eqv_refl _ (by decide +kernel)]
      exact q _
end
end K05

namespace K05
open PySem PySem.Spec PyProof.Rows L2 HG
set_option maxHeartbeats 8000000 in
theorem all_mk {l : PySem.W.OpenLaw} {w : World} {K : PySem.W.Frag} {h : Heap} {mg : Str → Option Value} {fa f1 f2 f3 f4 f5 f6 f7 f8 f9 f10 f11 : Addr} (X : K.In h) (G : h.Ns mainGlobals mg) (hfa : mg "law" = some (.ref fa))
    {od1 an1 od2 an2 od3 an3 od4 an4 od5 an5 od6 an6 od7 an7 od8 an8 od9 an9 od10 an10 od11 an11 : Option Addr} {sl1 sl2 sl3 sl4 sl5 sl6 sl7 sl8 sl9 sl10 sl11 : Array (Option Value)} {oc1 kV1 dc1 pm1 cd1 ct1 oc2 kV2 dc2 pm2 cd2 ct2 oc3 kV3 dc3 pm3 cd3 ct3 oc4 kV4 dc4 pm4 cd4 ct4 oc5 kV5 dc5 pm5 cd5 ct5 oc6 kV6 dc6 pm6 cd6 ct6 oc7 kV7 dc7 pm7 cd7 ct7 oc8 kV8 dc8 pm8 cd8 ct8 oc9 kV9 dc9 pm9 cd9 ct9 oc10 kV10 dc10 pm10 cd10 ct10 oc11 kV11 dc11 pm11 cd11 ct11 : Value}
    (a1 : PySem.W.nsIn K mainGlobals "is_letter" = some (some (.ref f1))) (l1 : K.lookup f1 = some ⟨oc1, od1, .func (PySem.W.fnOf "is_letter" "is_letter" (defArgs sLet) (defBody sLet) (defScope sLet) .none kV1 dc1 pm1 an1 cd1 ct1), sl1⟩) (c1 : PySem.W.codeIn K cd1 "is_letter" = true) (k1 : PySem.W.keepIn K (.ref f1) = true)
    (a2 : PySem.W.nsIn K mainGlobals "is_digit" = some (some (.ref f2))) (l2 : K.lookup f2 = some ⟨oc2, od2, .func (PySem.W.fnOf "is_digit" "is_digit" (defArgs sDig) (defBody sDig) (defScope sDig) .none kV2 dc2 pm2 an2 cd2 ct2), sl2⟩) (c2 : PySem.W.codeIn K cd2 "is_digit" = true) (k2 : PySem.W.keepIn K (.ref f2) = true)
    (a3 : PySem.W.nsIn K mainGlobals "run_end" = some (some (.ref f3))) (l3 : K.lookup f3 = some ⟨oc3, od3, .func (PySem.W.fnOf "run_end" "run_end" (defArgs sRun) (defBody sRun) (defScope sRun) .none kV3 dc3 pm3 an3 cd3 ct3), sl3⟩) (c3 : PySem.W.codeIn K cd3 "run_end" = true) (k3 : PySem.W.keepIn K (.ref f3) = true)
    (a4 : PySem.W.nsIn K mainGlobals "mark_end" = some (some (.ref f4))) (l4 : K.lookup f4 = some ⟨oc4, od4, .func (PySem.W.fnOf "mark_end" "mark_end" (defArgs sEnd) (defBody sEnd) (defScope sEnd) .none kV4 dc4 pm4 an4 cd4 ct4), sl4⟩) (c4 : PySem.W.codeIn K cd4 "mark_end" = true) (k4 : PySem.W.keepIn K (.ref f4) = true)
    (a5 : PySem.W.nsIn K mainGlobals "marks_in" = some (some (.ref f5))) (l5 : K.lookup f5 = some ⟨oc5, od5, .func (PySem.W.fnOf "marks_in" "marks_in" (defArgs s_marks_in) (defBody s_marks_in) (defScope s_marks_in) .none kV5 dc5 pm5 an5 cd5 ct5), sl5⟩) (c5 : PySem.W.codeIn K cd5 "marks_in" = true) (k5 : PySem.W.keepIn K (.ref f5) = true)
    (a6 : PySem.W.nsIn K mainGlobals "_law_heap" = some (some (.ref f6))) (l6 : K.lookup f6 = some ⟨oc6, od6, .func (PySem.W.fnOf "_law_heap" "_law_heap" (defArgs s__law_heap) (defBody s__law_heap) (defScope s__law_heap) .none kV6 dc6 pm6 an6 cd6 ct6), sl6⟩) (c6 : PySem.W.codeIn K cd6 "_law_heap" = true) (k6 : PySem.W.keepIn K (.ref f6) = true)
    (a7 : PySem.W.nsIn K mainGlobals "_law_draw" = some (some (.ref f7))) (l7 : K.lookup f7 = some ⟨oc7, od7, .func (PySem.W.fnOf "_law_draw" "_law_draw" (defArgs s__law_draw) (defBody s__law_draw) (defScope s__law_draw) .none kV7 dc7 pm7 an7 cd7 ct7), sl7⟩) (c7 : PySem.W.codeIn K cd7 "_law_draw" = true) (k7 : PySem.W.keepIn K (.ref f7) = true)
    (a8 : PySem.W.nsIn K mainGlobals "_law_pick" = some (some (.ref f8))) (l8 : K.lookup f8 = some ⟨oc8, od8, .func (PySem.W.fnOf "_law_pick" "_law_pick" (defArgs s__law_pick) (defBody s__law_pick) (defScope s__law_pick) .none kV8 dc8 pm8 an8 cd8 ct8), sl8⟩) (c8 : PySem.W.codeIn K cd8 "_law_pick" = true) (k8 : PySem.W.keepIn K (.ref f8) = true)
    (a9 : PySem.W.nsIn K mainGlobals "_law_marks" = some (some (.ref f9))) (l9 : K.lookup f9 = some ⟨oc9, od9, .func (PySem.W.fnOf "_law_marks" "_law_marks" (defArgs s__law_marks) (defBody s__law_marks) (defScope s__law_marks) .none kV9 dc9 pm9 an9 cd9 ct9), sl9⟩) (c9 : PySem.W.codeIn K cd9 "_law_marks" = true) (k9 : PySem.W.keepIn K (.ref f9) = true)
    (a10 : PySem.W.nsIn K mainGlobals "_law_string" = some (some (.ref f10))) (l10 : K.lookup f10 = some ⟨oc10, od10, .func (PySem.W.fnOf "_law_string" "_law_string" (defArgs s__law_string) (defBody s__law_string) (defScope s__law_string) .none kV10 dc10 pm10 an10 cd10 ct10), sl10⟩) (c10 : PySem.W.codeIn K cd10 "_law_string" = true) (k10 : PySem.W.keepIn K (.ref f10) = true)
    (a11 : PySem.W.nsIn K mainGlobals "law" = some (some (.ref f11))) (l11 : K.lookup f11 = some ⟨oc11, od11, .func (PySem.W.fnOf "law" "law" (defArgs s_law) (defBody s_law) (defScope s_law) .none kV11 dc11 pm11 an11 cd11 ct11), sl11⟩) (c11 : PySem.W.codeIn K cd11 "law" = true) (k11 : PySem.W.keepIn K (.ref f11) = true)
    (z_len : PySem.W.nsIn K mainGlobals "len" = some none) (z_tuple : PySem.W.nsIn K mainGlobals "tuple" = some none) (z_int : PySem.W.nsIn K mainGlobals "int" = some none) (z_abs : PySem.W.nsIn K mainGlobals "abs" = some none) (z_range : PySem.W.nsIn K mainGlobals "range" = some none) (z_repr : PySem.W.nsIn K mainGlobals "repr" = some none) :
    ∃ fd : FuncData, (∀ (s : Shared) (v : Value), BindsTo s fd ⟨[v], []⟩ [("script", v)]) ∧ ∀ base : Heap, K.In base → base.Ns mainGlobals mg → FnG l.prog w K mg base CX0 5 fa fd ["script"] (spLaw K) := by
  have e := hfa.symm.trans (PySem.W.mg_of X G a11)
  cases e
  have F1 := fun_mk (st := sLet) l1 c1 k1
  have m1 := PySem.W.mg_of X G a1
  have F2 := fun_mk (st := sDig) l2 c2 k2
  have m2 := PySem.W.mg_of X G a2
  have F3 := fun_mk (st := sRun) l3 c3 k3
  have m3 := PySem.W.mg_of X G a3
  have F4 := fun_mk (st := sEnd) l4 c4 k4
  have m4 := PySem.W.mg_of X G a4
  have F5 := fun_mk (st := s_marks_in) l5 c5 k5
  have m5 := PySem.W.mg_of X G a5
  have F6 := fun_mk (st := s__law_heap) l6 c6 k6
  have m6 := PySem.W.mg_of X G a6
  have F7 := fun_mk (st := s__law_draw) l7 c7 k7
  have m7 := PySem.W.mg_of X G a7
  have F8 := fun_mk (st := s__law_pick) l8 c8 k8
  have m8 := PySem.W.mg_of X G a8
  have F9 := fun_mk (st := s__law_marks) l9 c9 k9
  have m9 := PySem.W.mg_of X G a9
  have F10 := fun_mk (st := s__law_string) l10 c10 k10
  have m10 := PySem.W.mg_of X G a10
  have F11 := fun_mk (st := s_law) l11 c11 k11
  have m11 := PySem.W.mg_of X G a11
  have T : Names mg := ⟨PySem.W.mg_none_of X G z_len, PySem.W.mg_none_of X G z_tuple, PySem.W.mg_none_of X G z_int, PySem.W.mg_none_of X G z_abs, PySem.W.mg_none_of X G z_range, PySem.W.mg_none_of X G z_repr⟩
  have b1 := F1.binds (ps := ["sign"]) fun _ _ _ _ _ _ us hl => match us, hl with | [_], _ => rfl
  have b2 := F2.binds (ps := ["sign"]) fun _ _ _ _ _ _ us hl => match us, hl with | [_], _ => rfl
  have b3 := F3.binds (ps := ["text", "at", "fits"]) fun _ _ _ _ _ _ us hl => match us, hl with | [_, _, _], _ => rfl
  have b4 := F4.binds (ps := ["text", "at"]) fun _ _ _ _ _ _ us hl => match us, hl with | [_, _], _ => rfl
  have b5 := F5.binds (ps := ["text"]) fun _ _ _ _ _ _ us hl => match us, hl with | [_], _ => rfl
  have b6 := F6.binds (ps := ["script"]) fun _ _ _ _ _ _ us hl => match us, hl with | [_], _ => rfl
  have b7 := F7.binds (ps := ["heap", "many"]) fun _ _ _ _ _ _ us hl => match us, hl with | [_, _], _ => rfl
  have b8 := F8.binds (ps := ["heap", "some"]) fun _ _ _ _ _ _ us hl => match us, hl with | [_, _], _ => rfl
  have b9 := F9.binds (ps := ["text"]) fun _ _ _ _ _ _ us hl => match us, hl with | [_], _ => rfl
  have b10 := F10.binds (ps := ["heap", "many"]) fun _ _ _ _ _ _ us hl => match us, hl with | [_, _], _ => rfl
  refine ⟨PySem.W.fnOf "law" "law" (defArgs s_law) (defBody s_law) (defScope s_law) .none kV11 dc11 pm11 an11 cd11 ct11, fun s v => .of_eq rfl, fun base _ _ => ?_⟩
  have G1 : FnOk l.prog w K mg base CX0 1 f1 _ ["sign"] (spFit isLet) := ok_let F1
  have G2 : FnOk l.prog w K mg base CX0 1 f2 _ ["sign"] (spFit isDig) := ok_dig F2
  have G3 : FnOk l.prog w K mg base CX0 2 f3 _ ["text", "at", "fits"] (spRun l.prog w K mg base) := ok_run F3 T.n_len
  have G4 : FnOk l.prog w K mg base CX0 3 f4 _ ["text", "at"] spEnd := ok_end F4 G1 k1 b1 G2 k2 b2 G3 k3 b3 m1 m2 m3
  have G5 : FnOk l.prog w K mg base CX0 4 f5 _ ["text"] spMarks := ok_marks F5 ⟨f4, _, G4, k4, b4, m4⟩ T
  have D7 : Ent l.prog w K mg base 1 "_law_draw" ["heap", "many"] spDraw := ⟨f7, _, ok_draw F7 T, k7, b7, m7⟩
  have D8 : Ent l.prog w K mg base 2 "_law_pick" ["heap", "some"] spPick := ⟨f8, _, ok_pick F8 D7 T, k8, b8, m8⟩
  have kb : KBinds K (PySem.W.fnOf "marks_in" "marks_in" (defArgs s_marks_in) (defBody s_marks_in) (defScope s_marks_in) .none kV5 dc5 pm5 an5 cd5 ct5) ["text"] ["text"] (fun us ws => us ++ ws) (fun vs zs => vs ++ zs) := by
    refine ⟨fun s us ws _ hl => ?_, fun r1 r2 => r1.append r2⟩
    match us, ws, hl with
    | [], [_], _ => exact .of_eq rfl
    | [_], [], _ => exact .of_eq rfl
    | [], [], hl => exact absurd hl (by simp)
    | [], _ :: _ :: _, hl => exact absurd hl (by simp)
    | [_], _ :: _, hl => exact absurd hl (by simp)
    | _ :: _ :: _, _, hl => exact absurd hl (by simp)
  exact ok_law F11 ⟨f6, _, ok_heap F6 T, k6, b6, m6⟩ ⟨f10, _, ok_string F10 D7 D8 T, k10, b10, m10⟩ D8 ⟨f9, _, ok_due F9 T, k9, b9, m9⟩ ⟨f5, _, G5, k5, b5, m5⟩ ⟨f5, _, _, FnG.of G5, k5, kb, m5⟩ T
end K05
open PySem PySem.W PyProof.Rows
set_option maxRecDepth 100000 in
set_option maxHeartbeats 0 in
theorem PySem.Challenge.cw_heldalways_k05_marks_of_texts_holds : PySem.Challenge.rw_heldalways_k05_marks_of_texts.Holds := by
  w_on; o_law; k_head; (case hw => w_witness2)
  k_fill
  refine HG.walk_G (l := PySem.Challenge.rw_heldalways_k05_marks_of_texts) (n := 63) (k := 5) (x := "script") (CX := fun _ => L2.CX0) (sp := fun w => K05.spLaw _) rfl (by decide) rfl ⟨rfl, by decide, by decide⟩ (fun w h Y => PySem.W.kIn_of Y) ?F (fun _ _ a ns hl hS => ⟨a, ns, rfl, hS, hl, fun _ => rfl⟩) (fun _ _ _ _ _ h => h)
  case F =>
    intro w mg fa h KX G hmg
    refine' K05.all_mk KX G hmg ?a1 ?l1 ?c1 ?k1 ?a2 ?l2 ?c2 ?k2 ?a3 ?l3 ?c3 ?k3 ?a4 ?l4 ?c4 ?k4 ?a5 ?l5 ?c5 ?k5 ?a6 ?l6 ?c6 ?k6 ?a7 ?l7 ?c7 ?k7 ?a8 ?l8 ?c8 ?k8 ?a9 ?l9 ?c9 ?k9 ?a10 ?l10 ?c10 ?k10 ?a11 ?l11 ?c11 ?k11 ?z_len ?z_tuple ?z_int ?z_abs ?z_range ?z_repr
    (case a1 => k_is); (case l1 => k_is); (case c1 => k_is); (case k1 => k_is); (case a2 => k_is); (case l2 => k_is); (case c2 => k_is); (case k2 => k_is); (case a3 => k_is); (case l3 => k_is); (case c3 => k_is); (case k3 => k_is); (case a4 => k_is); (case l4 => k_is); (case c4 => k_is); (case k4 => k_is); (case a5 => k_is); (case l5 => k_is); (case c5 => k_is); (case k5 => k_is); (case a6 => k_is); (case l6 => k_is); (case c6 => k_is); (case k6 => k_is); (case a7 => k_is); (case l7 => k_is); (case c7 => k_is); (case k7 => k_is); (case a8 => k_is); (case l8 => k_is); (case c8 => k_is); (case k8 => k_is); (case a9 => k_is); (case l9 => k_is); (case c9 => k_is); (case k9 => k_is); (case a10 => k_is); (case l10 => k_is); (case c10 => k_is); (case k10 => k_is); (case a11 => k_is); (case l11 => k_is); (case c11 => k_is); (case k11 => k_is); (case z_len => k_is); (case z_tuple => k_is); (case z_int => k_is); (case z_abs => k_is); (case z_range => k_is); (case z_repr => k_is)
