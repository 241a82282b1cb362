import PyProof.Rows.All
import Wide.All
import OpenK.AllK
import Wide.FinOn
import HandS.ForMost
import HandS.Evl
import HandS.Codes
import HandS.RaiseMore
import PyProof.ReprRoads
import HandS.RaiseOp
import HandS.Walk
import PyProof.StrLawsRepr
import PyProof.FitsInt
import HandS.Lambda
import HandS.EndTab
import HandS.CallLocal
import HandS.EndOwn
import HandS.ExcInit
import HandS.ExcField
import HandS.ExcOwn
import HandS.WordsExc
import HandS.SortInts
import HandS.Style
import PyProof.StrLawsOcc
import HandS.StrMore
import PyProof.StrOps2
import HandS.DictComp
import HandS.SortRule
import HandS.More
import HandS.Deep
import KE.KEqNest
import KE.SortData
import KE.KDictLaw
import KE.KExcIs
import HandS.IsInst
import HandS.ExcIs
import HandS.ExcValue
import HandS.TupAny
import KE.KDictZip
import HandS.Zip0
import HandS.Zip
import HandS.SortOrd
import PyProof.TupleOfSeq
import HandS.Strs
import PyProof.DictUpdate
import PyProof.Rows.TupDisplay
import HandS.ReplaceLit
import HandS.TryMany
import PyProof.StrReplace2
import HandS.SortKw
import HandS.DictTup
import HandS.Finally
import KE.SortUse
import KE.GoesZip
import KE.GoesMore
import KE.KDictKeyed
import KE.KDictCopyH
import HandS.Set
import HandS.SetFor
import PyProof.Rows.SetFrom
import HandS.NoneIn
import KE.KDictPairs
import HandS.ListItems
import PySem.Challenge.RW_leastlaid_k23_layers_over_styles
set_option Elab.async false
set_option linter.all false
set_option maxRecDepth 100000
set_option maxHeartbeats 4000000
/-! Own words, for every law: defs whose promise is kept where no repr is under way (FnG), repr of data, a list's item changed by +=. -/
namespace Vf
open PySem PySem.Spec PyProof.Rows L2

/-- a def that keeps its promise wherever no repr is under way -/
structure FnG (P : Program) (w : World) (K : PySem.W.Frag)
    (mg : Str → Option Value) (base : Heap) (k : Nat) (f : Addr)
    (fd : FuncData) (ps : List Str) (sp : Sp) : Prop where
  many : ∀ vs H Q E, sp vs H Q E → vs.length = ps.length
  go : ∀ (A : Around) (outer : List Env) (s : Shared) (H : Hp)
    (args : Args) (us : List Value) (vs : List V) (Q : VK) (E : XK),
    Room k A → A.guards = some [] → Env0 P w K mg base A outer s H →
    BindsTo s fd args (ps.zip us) → Vals vs us → sp vs H Q E →
    codeAny (model P w) A (.call (.ref f) args)
      (CR CX0 outer P w H s Q E) s

section
variable {P : Program} {w : World} {K : PySem.W.Frag}
  {mg : Str → Option Value} {base : Heap}

theorem FnG.of_fn {k : Nat} {f : Addr} {fd : FuncData} {ps : List Str} {sp : Sp}
    (F : FnOk P w K mg base CX0 k f fd ps sp) : FnG P w K mg base k f fd ps sp :=
  ⟨F.len, fun A o s H a us vs Q E hr _ e b r q =>
    F.run A o s H a us vs Q E hr e b r q⟩

/-- by its body, as Fun.ok does it -/
theorem fnG_of {x qual : Str} {st : Stmt} {f : Addr} {fd : FuncData}
    {N ps : List Str} {k : Nat} {sp : Sp}
    (F : Fun K x qual st f fd) (S : FnScope N ps (defScope st))
    (many : ∀ vs H Q E, sp vs H Q E → vs.length = ps.length)
    (body : ∀ (cdv : Value) (A : Around) (outer : List Env)
      (s : Shared) (H : Hp) (vs : List V) (Q : VK) (E : XK),
      Room k (A.deeper (envOfC qual (defScope st)
        s.heap.objs.size f cdv)) →
      A.guards = some [] → sp vs H Q E →
      ∃ t, PSs (cxOf CX0 P w K mg base N qual (defScope st)
          f cdv A outer s H E).nox (defBody st) t ∧
        t { nx := fun _ H' => Q .non H', rt := Q }
          (start N vs) H) :
    FnG P w K mg base (k + 1) f fd ps sp := by
  obtain ⟨_, _, _, _, _, _, cdv, _, _, rfl, lk, hcd⟩ := F.ex
  refine ⟨many, fun A outer s H args us vs Q E hr hg e0 hb r hsp => ?_⟩
  have hlen := many _ _ _ _ hsp
  have KX : K.In s.heap := e0.mod.kin.keeps
    (fun b o e => (e0.bs b o e).1)
  have lim := e0.mod.nolimit.keeps
    (fun b o e => (e0.bs b o e).1)
  have kinds : ∀ y ∈ ps.zip us,
      (defScope st).names.lookup y.1 = some .local ∨
      ((defScope st).names.lookup y.1 = some .cell ∧
        ((cellsFrom (s.heap.objs.size + 1)
          (defScope st).names []).lookup y.1).isSome = true) := by
    rintro ⟨n, v⟩ hy
    cases S.par n (List.of_mem_zip hy).1 with
    | inl q => exact .inl q
    | inr q => exact .inr ⟨q, PySem.W.cellsFrom_some _ _ _ (.inl q)⟩
  refine codeAny_call_function hr.depth (KX _ _ lk) rfl
    S.co S.gen rfl (PySem.W.codeRec_of KX hcd) (hb _ _ _ _ ?_)
  refine wpAny_newFunctionEnv_cells S.kind kinds
    (fun env he s1 x => ?_)
  subst he
  refine ⟨lim.keeps x.toInCall.keep, codeAny_func ?_⟩
  obtain ⟨t, ht, hq⟩ := body cdv A outer s H vs Q E
    (hr.deeper _) hg hsp
  have I := inv_start (CX := CX0) (E := E) S hr.hd e0 hlen r x
  refine wpAny_mono (ht.nox.run [] s1 (start N vs) H _ I hq)
    (fun fl s' hs => ?_) (fun _ _ hs => hs)
  cases fl with
  | brk => exact (hs.choose_spec.choose_spec.2 : False).elim
  | cont => exact (hs.choose_spec.choose_spec.2 : False).elim
  | next =>
    obtain ⟨_, H', J, q⟩ := hs
    exact ⟨V.non, H', J.os, J.bare, J.base, J.hok, rfl, q⟩
  | ret u =>
    obtain ⟨v, _, H', J, rv, q⟩ := hs
    exact ⟨v, H', J.os, J.bare, J.base, J.hok, rv, q⟩
end

/-- a call of such a def -/
theorem pe_callG {X : Cx} {k : Nat} {f : Addr} {fd : FuncData}
    {ps : List Str} {sp : Sp} {x : Str} {p pos : Pos}
    {e : Expr} {es : List Expr} {t : TA}
    (F : FnG X.prog X.w X.K X.mg X.base k f fd ps sp)
    (hr : Room k X.A) (gd : X.A.guards = some [])
    (hg : Gl X x) (hm : X.mg x = some (.ref f))
    (hk : PySem.W.keepIn X.K (.ref f) = true)
    (hb : Binds X.K fd ps []) (ha : PA X (e :: es) t)
    (hdb : (x == ("__debug__" : Str)) = false := by decide)
    (he : starEach (e :: es) X.env =
      (false, eval e X.env) :: starEach es X.env := by rfl)
    (hpl : (backTo pos (starEach es X.env)).any (·.1) = false := by rfl) :
    PE X (.Call (.Name x p) (e :: es) [] pos) (tCall sp [] E0 t) := by
  refine ⟨fun pins s σ H Q I h => wpAny_Call_Name_kw (ld_glob I hg hm ?_ hdb)⟩
  refine PySem.W.callWith_K (h₀ := X.base) I.ok.mod.kin hk
    (thn (ha.run pos pins s σ H _ I h) ?_) he hpl
  rintro us s1 ⟨vs, H1, I1, r, q⟩
  refine ⟨I1.kIn, ?_⟩
  have q' : sp vs H1 Q E0 := by
    have := q
    rw [List.append_nil] at this
    exact this
  have hl : us.length = ps.length := by
    rw [← r.length]
    exact F.many _ _ _ _ q'
  have hb' := hb s1 us I1.kIn (by rw [List.append_nil]; exact hl)
  rw [List.append_nil] at hb'
  refine wpAny_call (codeAny_mono (F.go X.A X.stack s1 H1 ⟨us, []⟩ us vs
    Q E0 hr gd I1.env0 hb' r q') ?_)
  intro res s' hq
  cases res with
  | error e => exact (hq : False).elim
  | ok fl =>
    cases fl with
    | ret u => exact I1.after hq
    | next => exact (hq : False).elim
    | brk => exact (hq : False).elim
    | cont => exact (hq : False).elim

/-- repr of a list or a tuple of data -/
theorem call_reprD {X : Cx} (gd : X.A.guards = some []) (hu : X.A.units + 64 < cLine) :
    CallR X (.builtin "repr") (fun xs H Q => ∃ a d, xs = [.ref a] ∧
      Dp X.K H (.ref a) d ∧ d.showable = true ∧ d.hasDict = false ∧
      d.depth ≤ 60 ∧ d.shown.length ≤ sizeLine ∧ Q (.str d.shown) H) := by
  intro pins s σ H xs us Q I r h
  obtain ⟨a, d, rfl, hd, sh, nd, dp, sz, q⟩ := h
  cases r with
  | cons rv rn =>
    cases rn
    obtain rfl := rv
    obtain ⟨as, rd⟩ := Dp.reads I d _ _ hd rfl
    refine repr_of_reads' rd sh (PyData.noDict_hsm nd) gd (by omega)
      (fun _ _ e => e) (fun h' u tk hk => ?_) sz
    exact ⟨.str d.shown, H, I.kept hk, ⟨u, rfl⟩, q⟩

end Vf

set_option Elab.async false
set_option linter.all false
set_option maxRecDepth 100000
set_option maxHeartbeats 4000000
/-! The end of a law whose def is an FnG. -/
namespace Vf
open PySem PySem.Spec PyProof.Rows L2

section
variable {P : Program} {w : World} {K : PySem.W.Frag}
  {mg mb : Str → Option Value} {k : Nat} {fa a : Addr} {fd : FuncData}
  {x : Str} {sp : Sp} {s₁ : Shared} {vs : List Value} {ns : List Int}

/-- what must be true behind the call -/
abbrev LawEnd (s₁ : Shared) : Result → Shared → Prop := fun r s' =>
  r = .ok (.ret (.bool true)) ∧ OldK s₁.heap s'.heap ∧
    s'.os = s₁.os ∧ AllBare s'.gens

theorem law_goes (KX : K.In s₁.heap)
    (hns : s₁.heap.Ns mainGlobals mg) (hb : s₁.heap.Ns builtinsNs mb)
    (hbb : ∀ y : Str, y ≠ "__name__" → mb y = bootBuiltins y)
    (hlim : s₁.heap.NoLimit) (hgen : s₁.gens = #[])
    (ha : s₁.heap.get? a =
      some { cls := .type "list", data := .seq vs.toArray })
    (hr : Room k callerA)
    (F : ∀ base : Heap, K.In base → base.Ns mainGlobals mg →
      FnG P w K mg base k fa fd [x] sp)
    (bind : ∀ (s : Shared) (u : Value),
      BindsTo s fd ⟨[u], []⟩ [(x, u)])
    (H : Hp) (hO : Only H) (ok : HOk P w H s₁.heap)
    (alone : ∀ b, H b ≠ none → b = a)
    (notK : H a ≠ none → K.lookup a = none)
    (hs : sp [.ref a] H (fun v _ => v = .bl true) fun _ _ _ => False) :
    codeAny (model P w) callerA (.call (.ref fa) ⟨[.ref a], []⟩)
      (LawEnd s₁) s₁ := by
  have free : ∀ {b : Addr} {o : Obj} {es : Array DictEntry} {ep : Nat},
      s₁.heap.get? b = some o → o.data = .dict es ep → H b = none := by
    intro b o es ep e d
    cases q : H b with
    | none => rfl
    | some u =>
      have z : b = a := alone b (by rw [q]; exact Option.some_ne_none u)
      rw [z, ha] at e
      cases e
      cases d
  have ns' : ∀ {b : Addr} {m : Str → Option Value},
      s₁.heap.Ns b m → (hidT s₁.heap H).Ns b m := by
    rintro b m ⟨o, es, ep, e, d, r⟩
    exact ⟨o, es, ep, hidT_get e (free e d), d, r⟩
  have kin : K.In (hidT s₁.heap H) := by
    intro b o e
    refine hidT_get (KX b o e) ?_
    cases q : H b with
    | none => rfl
    | some u =>
      have z : b = a := alone b (by rw [q]; exact Option.some_ne_none u)
      have z2 := notK (by rw [← z, q]; exact Option.some_ne_none u)
      rw [z, z2] at e
      cases e
  have lim' : (hidT s₁.heap H).NoLimit := by
    obtain ⟨mc, h1, h2⟩ := hlim
    exact ⟨mc, ns' h1, h2⟩
  have M : Mod K mg (hidT s₁.heap H) :=
    ⟨kin, ns' hns, ⟨mb, ns' hb, hbb⟩, lim'⟩
  have none_in : ∀ b : Addr, b ∉ ([] : List Addr) := fun b => by simp
  have env : Env0 P w K mg (hidT s₁.heap H) callerA [] s₁ H :=
    ⟨rfl, M, fun b o e => of_hidT e, Nat.le_of_eq (hidT_size _ _),
      trivial, fun b z => absurd z (none_in b), ok, .of_eq hgen⟩
  refine codeAny_mono ((F _ kin (ns' hns)).go callerA [] s₁ H
    ⟨[.ref a], []⟩ [.ref a] [.ref a] _ _ hr rfl env
    (bind s₁ (.ref a)) (.cons rfl .nil) hs) ?_
  intro r s' h
  cases r with
  | error e => exact (h : False).elim
  | ok fl =>
    cases fl with
    | next => exact (h : False).elim
    | brk => exact (h : False).elim
    | cont => exact (h : False).elim
    | ret u =>
      obtain ⟨v, H', os, bare, un, ok', rv, q⟩ := h
      obtain rfl : v = .bl true := q
      obtain rfl : u = Value.bool true := rv
      refine ⟨rfl, OldK.of_keep (fun b o e => ?_), os, bare⟩
      cases q : H b with
      | none => exact un.keep b o e q (none_in b) (none_in b)
      | some u =>
        rcases hO b with z | ⟨ob, xs, z⟩
        · rw [q] at z
          cases z
        · obtain ⟨e1, _⟩ := ok b _ z
          obtain ⟨e2, _⟩ := ok' b _ (un.frzs b ob _ z)
          rw [e] at e1
          cases e1
          exact e2

theorem law_goes2 (KX : K.In s₁.heap)
    (hns : s₁.heap.Ns mainGlobals mg) (hb : s₁.heap.Ns builtinsNs mb)
    (hbb : ∀ y : Str, y ≠ "__name__" → mb y = bootBuiltins y)
    (hlim : s₁.heap.NoLimit) (hgen : s₁.gens = #[])
    (ha : s₁.heap.get? a =
      some { cls := .type "list", data := .seq vs.toArray })
    (hi : IntsAre vs ns) (hl : ns.length ≤ sizeLine)
    (hr : Room k callerA)
    (F : ∀ base : Heap, K.In base → base.Ns mainGlobals mg →
      FnG P w K mg base k fa fd [x] sp)
    (bind : ∀ (s : Shared) (u : Value),
      BindsTo s fd ⟨[u], []⟩ [(x, u)])
    (hs : ∀ H : Hp, Only H → SqL K H a (ns.map V.int) →
      sp [.ref a] H (fun v _ => v = .bl true) fun _ _ _ => False) :
    codeAny (model P w) callerA (.call (.ref fa) ⟨[.ref a], []⟩)
      (LawEnd s₁) s₁ := by
  have rv := vals_ints hi
  cases hk : K.lookup a with
  | some o =>
    have e := KX a o hk
    rw [ha] at e
    cases e
    refine law_goes KX hns hb hbb hlim hgen ha hr F bind
      (fun _ => none) (fun _ => .inl rfl) (fun b u z => by cases z)
      (fun b z => absurd rfl z) (fun z => absurd rfl z) (hs _ (fun _ => .inl rfl) ?_)
    refine .inr ⟨_, vs.toArray, _, hk, rfl, rfl, rfl, ?_, by simpa using rv⟩
    rw [List.size_toArray, hi.length]
    exact hl
  | none =>
    have only : Only (fun b => if b = a then some (.frz { cls := .type "list", data := .seq vs.toArray } (.lst (ns.map V.int))) else none) := by
      intro b
      by_cases q : b = a
      · exact .inr ⟨_, _, if_pos q⟩
      · exact .inl (if_neg q)
    refine law_goes KX hns hb hbb hlim hgen ha hr F bind _ only
      (fun b u z => ?_) (fun b z => ?_) (fun _ => hk)
      (hs _ only (.inl (.inr ⟨_, if_pos rfl⟩)))
    · by_cases q : b = a
      · have z' := (if_pos q).symm.trans z
        cases z'
        subst q
        exact ⟨ha, by rw [List.length_map]; exact hl, vs, _, rv, ha⟩
      · have z' := (if_neg q).symm.trans z
        cases z'
    · by_cases q : b = a
      · exact q
      · exact absurd (if_neg q) z
end

/-- the goal that the head leaves -/
theorem walk_ofG {l : PySem.W.OpenLaw} {n k : Nat} {q : Program}
    {loose : List Str} {XP : (Str → Option Value) → Heap → Prop}
    {YP : World → Heap → Prop} {d : DefRec}
    {K : Params → PySem.W.Frag} {sp : World → Sp} {x : Str}
    (hn : l.most = some n) (hn2 : n ≤ sizeLine)
    (hdf : d.params.defaults = []) (hr : Room k callerA)
    (hY : ∀ (w : World) (h : Heap), YP w h → (K w.params).In h)
    (F : ∀ (w : World) (mg : Str → Option Value) (fa : Addr) (h : Heap),
      (K w.params).In h → h.Ns mainGlobals mg →
      mg d.name = some (.ref fa) →
      ∃ fd : FuncData,
        (∀ (s : Shared) (u : Value), BindsTo s fd ⟨[u], []⟩ [(x, u)]) ∧
        ∀ base : Heap, (K w.params).In base → base.Ns mainGlobals mg →
          FnG l.prog w (K w.params) mg base k fa fd [x] (sp w))
    (hsp : ∀ (w : World) (H : Hp) (a : Addr) (ns : List Int),
      ns.length ≤ n → Only H → SqL (K w.params) H a (ns.map V.int) →
      sp w [.ref a] H (fun v _ => v = .bl true) fun _ _ _ => False) :
    PySem.W.WalkO q loose XP YP l.row.toRowW d []
      (fun f vs => PySem.call f vs) := by
  refine Att.attach_call hn hdf ?_
  intro w s₀ s₁ mg mb fa o pm cd doc a vs ns G Y ho hd hcd hmg hobj hints hlen hg
  have KX := hY w _ Y
  obtain ⟨fd, hb, hF⟩ := F w mg fa _ KX G.T.g hmg
  exact law_goes2 KX G.T.g G.T.b G.T.builtins G.T.nolimit hg hobj
    hints (Nat.le_trans hlen hn2) hr hF hb
    (fun H hO hS => hsp w H a ns hlen hO hS)
end Vf

set_option Elab.async false
set_option linter.all false
set_option maxRecDepth 100000
set_option maxHeartbeats 4000000
/-! Own words: defs of the module as they are called; a list's item by +=; the bag of a law's draws. -/
namespace Vf
open PySem PySem.Spec PyProof.Rows L2
open C8 (Cal pe_c pe_gc CalAt)

/-- a def of the text, as the top has laid it -/
structure DefIn (K : PySem.W.Frag) (mg : Str → Option Value) (x : Str) (st : Stmt) (ps : List Str) : Prop where
  ex : ∃ f fd, Fun K x x st f fd ∧ mg x = some (.ref f) ∧ Binds K fd ps []

section
variable {P : Program} {w : World} {K : PySem.W.Frag} {mg : Str → Option Value} {base : Heap}

theorem defIn_mk {x : Str} {st : Stmt} {ps : List Str} {h : Heap} {f : Addr} {oc : Value} {od an : Option Addr} {osl : Array (Option Value)} {kV doc pm cdv ct : Value}
    (X : K.In h) (G : h.Ns mainGlobals mg) (a : PySem.W.nsIn K mainGlobals x = some (some (.ref f)))
    (l : K.lookup f = some ⟨oc, od, .func (PySem.W.fnOf x x (defArgs st) (defBody st) (defScope st) .none kV doc pm an cdv ct), osl⟩)
    (c : PySem.W.codeIn K cdv x = true) (k : PySem.W.keepIn K (.ref f) = true)
    (b : ∀ (kV doc pm : Value) (an : Option Addr) (cdv ct : Value) (us : List Value), us.length = ps.length →
      bindArgs (PySem.W.fnOf x x (defArgs st) (defBody st) (defScope st) .none kV doc pm an cdv ct) ⟨us, []⟩ = pure (ps.zip us)) : DefIn K mg x st ps := by
  have F := fun_mk (st := st) l c k
  exact ⟨f, _, F, PySem.W.mg_of X G a, F.binds b⟩
theorem calOf {x : Str} {st : Stmt} {N ps : List Str} {k : Nat} {sp : Sp}
    (D : DefIn K mg x st ps) (S : FnScope N ps (defScope st))
    (many : ∀ vs H Q E, sp vs H Q E → vs.length = ps.length)
    (body : ∀ (f : Addr) (cdv : Value) (A : Around) (outer : List Env) (s : Shared) (H : Hp) (vs : List V) (Q : VK) (E : XK),
      Room k (A.deeper (envOfC x (defScope st) s.heap.objs.size f cdv)) → sp vs H Q E →
      ∃ t, PSs (cxOf CX0 P w K mg base N x (defScope st) f cdv A outer s H E).nox (defBody st) t ∧ t { nx := fun _ H' => Q .non H', rt := Q } (start N vs) H) :
    Cal P w K mg base (k + 1) x sp [] := by
  obtain ⟨f, fd, F, hm, hb⟩ := D.ex
  exact ⟨f, fd, ps, [], F.ok S many (fun cdv A o s H vs Q E hr h => body f cdv A o s H vs Q E hr h), hm, F.kp, hb, .nil⟩

/-- such a def, where no repr is under way -/
structure CalG (P : Program) (w : World) (K : PySem.W.Frag) (mg : Str → Option Value) (base : Heap) (k : Nat) (x : Str) (sp : Sp) : Prop where
  ex : ∃ (f : Addr) (fd : FuncData) (ps : List Str), FnG P w K mg base k f fd ps sp ∧ mg x = some (.ref f) ∧ PySem.W.keepIn K (.ref f) = true ∧ Binds K fd ps []
theorem calGOf {x : Str} {st : Stmt} {N ps : List Str} {k : Nat} {sp : Sp}
    (D : DefIn K mg x st ps) (S : FnScope N ps (defScope st))
    (many : ∀ vs H Q E, sp vs H Q E → vs.length = ps.length)
    (body : ∀ (f : Addr) (cdv : Value) (A : Around) (outer : List Env) (s : Shared) (H : Hp) (vs : List V) (Q : VK) (E : XK),
      Room k (A.deeper (envOfC x (defScope st) s.heap.objs.size f cdv)) → A.guards = some [] → sp vs H Q E →
      ∃ t, PSs (cxOf CX0 P w K mg base N x (defScope st) f cdv A outer s H E).nox (defBody st) t ∧ t { nx := fun _ H' => Q .non H', rt := Q } (start N vs) H) :
    CalG P w K mg base (k + 1) x sp := by
  obtain ⟨f, fd, F, hm, hb⟩ := D.ex
  exact ⟨f, fd, ps, fnG_of F S many (fun cdv A o s H vs Q E hr h => body f cdv A o s H vs Q E hr h), hm, F.kp, hb⟩
end

section
variable {X : Cx} {k j : Nat} {x : Str} {sp : Sp} {p pos : Pos} {e o i : Expr} {es : List Expr} {t : TA}
theorem pe_c0 (c : Cal X.prog X.w X.K X.mg X.base k x sp []) (hr : Room j X.A) (hk : k ≤ j) (hg : Gl X x)
    (hdb : (x == ("__debug__" : Str)) = false := by decide) : PE X (.Call (.Name x p) [] [] pos) (tCall sp [] E0 tNil) := by
  obtain ⟨f, fd, ps, ds, F, hm, kp, b, d⟩ := c.ex
  exact pe_call0 F (hr.mono hk) hg hm kp b d pass0 hdb
theorem pe_cG (c : CalG X.prog X.w X.K X.mg X.base k x sp) (hr : Room k X.A) (gd : X.A.guards = some []) (hg : Gl X x) (ha : PA X (e :: es) t)
    (hdb : (x == ("__debug__" : Str)) = false := by decide) (he : starEach (e :: es) X.env = (false, eval e X.env) :: starEach es X.env := by rfl) (hpl : (backTo pos (starEach es X.env)).any (·.1) = false := by rfl) :
    PE X (.Call (.Name x p) (e :: es) [] pos) (tCall sp [] E0 t) := by
  obtain ⟨f, fd, ps, F, hm, kp, b⟩ := c.ex
  exact pe_callG F hr gd hg hm kp b ha hdb he hpl

/-- xs[i] read on the way of xs[i] += .. -/
theorem get_list : PGet X (rIxL X.K) := by
  intro pins s σ H x y v u Q I rx ry h
  obtain ⟨p, xs, i, z, rfl, rfl, hq, he, q⟩ := h
  cases rx
  obtain ⟨t, rfl⟩ := ry
  obtain ⟨its, r, pl, hz⟩ := I.list hq
  obtain ⟨j, h1, h2, h3, h4, h5⟩ := atI_get he
  obtain ⟨w, ew, rw'⟩ := r.get h2
  have hl := r.length
  have hn := line63
  have fin : EP X pins σ Q w s := ⟨z, H, I, rw', q⟩
  by_cases h0 : 0 ≤ i
  · have hj : i.toNat = j := by
      rw [seqIndex_of h0 h5] at h1
      exact Option.some.inj h1
    exact wpAny_getItem_list pl.isList h0 (by omega) (by rw [hj]; simpa using ew) fin
  · have hj : (i + (its.toArray.size : Int)).toNat = j := by
      rw [seqIndex_neg (by omega) h4] at h1
      rw [List.size_toArray, ← hl]
      exact Option.some.inj h1
    exact wpAny_getItem_list_neg pl.isList (by omega) (by rw [List.size_toArray]; omega) (by omega) (by rw [hj]; simpa using ew) fin
end

/-! ### the bag -/
/-- all but b stands as it stood -/
def Fr (b : Addr) (H H' : Hp) : Prop := ∀ a o, a ≠ b → H a = some o → H' a = some o
theorem Fr.refl (b : Addr) (H : Hp) : Fr b H H := fun _ _ _ h => h
theorem Fr.trans {b : Addr} {H H1 H2 : Hp} (x : Fr b H H1) (y : Fr b H1 H2) : Fr b H H2 := fun a o n h => y a o n (x a o n h)
theorem Fr.new {b p : Addr} {H H' : Hp} {o : HO} (x : Fr b H H') (n : H' p = none) : Fr b H (upd H' p o) := fun a u na h => by
  have := x a u na h
  rw [upd_ne (ne_of_none this n)]
  exact this
theorem Fr.at {b : Addr} {H H' : Hp} {o : HO} (x : Fr b H H') : Fr b H (upd H' b o) := fun a u na h => by
  rw [upd_ne na]
  exact x a u na h
theorem Fr.put {b p : Addr} {H H' : Hp} {o : HO} (x : Fr b H H') (n : H p = none) : Fr b H (upd H' p o) := fun a u na h => by
  rw [upd_ne (ne_of_none h n)]
  exact x a u na h
/-- tuples stay -/
def Tk (H H' : Hp) : Prop := ∀ a xs, H a = some (.tup xs) → H' a = some (.tup xs)
theorem Tk.refl (H : Hp) : Tk H H := fun _ _ h => h
theorem Tk.trans {H H1 H2 : Hp} (x : Tk H H1) (y : Tk H1 H2) : Tk H H2 := fun a o h => y a o (x a o h)
theorem Tk.of {H H' : Hp} (x : Same H H') : Tk H H' := fun a o h => x a _ h
theorem Tk.new {p : Addr} {H H' : Hp} {o : HO} (x : Tk H H') (n : H' p = none) : Tk H (upd H' p o) := fun a u h => by
  have := x a u h
  rw [upd_ne (ne_of_none this n)]
  exact this
theorem Tk.put {p : Addr} {H H' : Hp} {o : HO} (x : Tk H H') (n : ∀ xs, H p ≠ some (.tup xs)) : Tk H (upd H' p o) := fun a u h => by
  by_cases q : a = p
  · rw [q] at h
    exact absurd h (n u)
  · rw [upd_ne q]
    exact x a u h

/-- a bag stands at b, its numbers at L -/
structure Bg where
  b : Addr
  L : Addr
/-- the six things in a bag: c and e the last two -/
structure Bag (H : Hp) (g : Bg) (c e : Int) : Prop where
  ex : ∃ (z m i : Int) (ns : List Int),
    H g.b = some (.lst [.int z, .int m, .int i, .ref g.L, .int c, .int e]) ∧ H g.L = some (.lst (ns.map V.int)) ∧
    0 ≤ z ∧ 0 ≤ m ∧ m < 2147483647 ∧ 0 ≤ i ∧ (∀ n ∈ ns, (0 : Int) ≤ n) ∧ ns.length ≤ 63
  ne : g.L ≠ g.b
theorem Bag.ob {H : Hp} {g : Bg} {c e : Int} (B : Bag H g c e) : ∃ o, H g.b = some (.lst o) := by
  obtain ⟨z, m, i, ns, h, _⟩ := B.ex
  exact ⟨_, h⟩
theorem Bag.obL {H : Hp} {g : Bg} {c e : Int} (B : Bag H g c e) : ∃ o, H g.L = some (.lst o) := by
  obtain ⟨z, m, i, ns, h, h2, _⟩ := B.ex
  exact ⟨_, h2⟩
theorem Bag.ne_new {H : Hp} {g : Bg} {p : Addr} {c e : Int} (B : Bag H g c e) (n : H p = none) : p ≠ g.b := fun z => by
  obtain ⟨o, h⟩ := B.ob
  rw [← z, n] at h
  cases h
theorem Bag.ne_newL {H : Hp} {g : Bg} {p : Addr} {c e : Int} (B : Bag H g c e) (n : H p = none) : p ≠ g.L := fun z => by
  obtain ⟨o, h⟩ := B.obL
  rw [← z, n] at h
  cases h
theorem Bag.put {H : Hp} {g : Bg} {p : Addr} {c e : Int} {o : HO} (B : Bag H g c e) (n : p ≠ g.b) (n2 : p ≠ g.L) : Bag (upd H p o) g c e := by
  obtain ⟨z, m, i, ns, h, h2, r⟩ := B.ex
  exact ⟨⟨z, m, i, ns, by rw [upd_ne n.symm]; exact h, by rw [upd_ne n2.symm]; exact h2, r⟩, B.ne⟩
theorem Bag.new {H : Hp} {g : Bg} {p : Addr} {c e : Int} {o : HO} (B : Bag H g c e) (n : H p = none) : Bag (upd H p o) g c e := B.put (B.ne_new n) (B.ne_newL n)
theorem Bag.same {H H' : Hp} {g : Bg} {c e : Int} (B : Bag H g c e) (n : Same H H') : Bag H' g c e := by
  obtain ⟨z, m, i, ns, h, h2, r⟩ := B.ex
  exact ⟨⟨z, m, i, ns, n _ _ h, n _ _ h2, r⟩, B.ne⟩
theorem Bag.tk {H H' : Hp} {g : Bg} {c e : Int} (B : Bag H g c e) (f : Fr g.b H H') : Tk H H' := fun a xs h => f a _ (fun z => by
  obtain ⟨o, h2⟩ := B.ob
  rw [← z, h] at h2
  cases h2) h
/-- behind a draw: the bag stands, and all else -/
structure Drawn (g : Bg) (H H' : Hp) (c e : Int) : Prop where
  bag : Bag H' g c e
  fr : Fr g.b H H'
  tk : Tk H H'
section
variable {g : Bg} {a p : Addr} {H H1 H2 H' : Hp} {c e c' e' : Int} {o : HO}
theorem Drawn.trans (x : Drawn g H H1 c e) (y : Drawn g H1 H2 c' e') : Drawn g H H2 c' e' := ⟨y.bag, x.fr.trans y.fr, x.tk.trans y.tk⟩
theorem Drawn.new (x : Drawn g H H' c e) (n : H' p = none) : Drawn g H (upd H' p o) c e := ⟨x.bag.new n, x.fr.new n, x.tk.new n⟩
theorem Drawn.of (B : Bag H g c e) : Drawn g H H c e := ⟨B, .refl _ _, .refl _⟩
theorem Drawn.mk' (B : Bag H g c' e') (B' : Bag H' g c e) (f : Fr g.b H H') : Drawn g H H' c e := ⟨B', f, B.tk f⟩
theorem Drawn.same (B : Bag H g c e) (n : Same H H') : Drawn g H H' c e := ⟨B.same n, fun a o _ h => n a o h, .of n⟩
/-- a store into what H did not know -/
theorem Drawn.put (x : Drawn g H H' c e) (B : Bag H g c' e') (n : H p = none) : Drawn g H (upd H' p o) c e :=
  ⟨x.bag.put (B.ne_new n) (B.ne_newL n), x.fr.put n, x.tk.put fun xs h => by rw [n] at h; cases h⟩
theorem Drawn.keep (x : Drawn g H H' c e) (n : a ≠ g.b) (h : H a = some o) : H' a = some o := x.fr a o n h
theorem upd_some {u : HO} (h : H a = some o) (n : H p = none) : upd H p u a = some o := by
  rw [upd_ne (ne_of_none h n)]
  exact h
theorem Drawn.seqL {K : PySem.W.Frag} {xs : List V} (x : Drawn g H H' c e) (n : a ≠ g.b) (h : SqL K H a xs) : SqL K H' a xs := by
  rcases h with (h | ⟨o, h⟩) | h
  · exact .inl (.inl (x.fr _ _ n h))
  · exact .inl (.inr ⟨o, x.fr _ _ n h⟩)
  · exact .inr h
theorem Drawn.seqT {K : PySem.W.Frag} {xs : List V} (x : Drawn g H H' c e) (n : a ≠ g.b) (h : SqT K H a xs) : SqT K H' a xs := by
  rcases h with (h | ⟨o, h⟩) | h
  · exact .inl (.inl (x.fr _ _ n h))
  · exact .inl (.inr ⟨o, x.fr _ _ n h⟩)
  · exact .inr h
end
/-- an item below the length -/
theorem at_of {α : Type} {xs : List α} {r : Int} (h0 : 0 ≤ r) (h1 : r < (xs.length : Int)) : ∃ v, v ∈ xs ∧ atI xs r = some v := by
  obtain ⟨j, rfl⟩ := Int.eq_ofNat_of_zero_le h0
  have hj : j < xs.length := by omega
  exact ⟨xs[j], List.getElem_mem hj, atI_nat (j := j) (List.getElem?_eq_getElem hj)⟩

/-! ### what defs that draw promise -/
/-- a draw below n -/
def spTake : Sp := fun vs H Q _ => ∃ (g : Bg) (n c e : Int), vs = [.ref g.b, .int n] ∧ Bag H g c e ∧ 0 < n ∧ n < 1073741824 ∧
  ∀ (r : Int) (H' : Hp), 0 ≤ r → r < n → Drawn g H H' c e → Q (.int r) H'
/-- a list, a tuple, or a text is handed in, one of its items comes back -/
def spOne (K : PySem.W.Frag) : Sp := fun vs H Q _ => ∃ (g : Bg) (x : V) (c e : Int), vs = [.ref g.b, x] ∧ Bag H g c e ∧
  ((∃ p xs, x = .ref p ∧ (SqL K H p xs ∨ SqT K H p xs) ∧ p ≠ g.b ∧ 0 < xs.length ∧ xs.length < 1000 ∧ ∀ (v : V) (H' : Hp), v ∈ xs → Drawn g H H' c e → Q v H') ∨
   (∃ z : Str, x = .str z ∧ 0 < z.length ∧ z.length < 1000 ∧ ∀ (h : Nat) (H' : Hp), h ∈ z.cps.toList → Drawn g H H' c e → Q (.str ⟨#[h]⟩) H'))

/-! ### data in tuples -/
mutual
/-- what stands there, and lies in tuples alone -/
inductive Tr (H : Hp) : V → PyData → Prop
  | non : Tr H .non .none
  | bl (b : Bool) : Tr H (.bl b) (.bool b)
  | int (i : Int) : Tr H (.int i) (.int i)
  | str (x : Str) : Tr H (.str x) (.str x)
  | tup {a : Addr} {xs : List V} {ds : List PyData} : H a = some (.tup xs) → TrAll H xs ds → Tr H (.ref a) (.tuple ds)
inductive TrAll (H : Hp) : List V → List PyData → Prop
  | nil : TrAll H [] []
  | cons {v : V} {vs : List V} {d : PyData} {ds : List PyData} : Tr H v d → TrAll H vs ds → TrAll H (v :: vs) (d :: ds)
end
mutual
theorem Tr.keep {H H' : Hp} (k : Tk H H') : ∀ {v : V} {d : PyData}, Tr H v d → Tr H' v d
  | _, _, .non => .non
  | _, _, .bl b => .bl b
  | _, _, .int i => .int i
  | _, _, .str x => .str x
  | _, _, .tup h r => .tup (k _ _ h) (TrAll.keep k r)
theorem TrAll.keep {H H' : Hp} (k : Tk H H') : ∀ {v : List V} {d : List PyData}, TrAll H v d → TrAll H' v d
  | _, _, .nil => .nil
  | _, _, .cons h r => .cons (Tr.keep k h) (TrAll.keep k r)
end
mutual
theorem Tr.dp {K : PySem.W.Frag} {H : Hp} : ∀ {v : V} {d : PyData}, Tr H v d → Dp K H v d
  | _, _, .non => .non
  | _, _, .bl b => .bl b
  | _, _, .int i => .int i
  | _, _, .str x => .str x
  | _, _, .tup h r => .tup (SqT.of h) (TrAll.dp r)
theorem TrAll.dp {K : PySem.W.Frag} {H : Hp} : ∀ {v : List V} {d : List PyData}, TrAll H v d → DpAll K H v d
  | _, _, .nil => .nil
  | _, _, .cons h r => .cons (Tr.dp h) (TrAll.dp r)
end
theorem TrAll.len {H : Hp} : ∀ {v : List V} {d : List PyData}, TrAll H v d → v.length = d.length
  | _, _, .nil => rfl
  | _, _, .cons _ r => congrArg (· + 1) (TrAll.len r)
theorem TrAll.app {H : Hp} : ∀ {v u : List V} {d f : List PyData}, TrAll H v d → TrAll H u f → TrAll H (v ++ u) (d ++ f)
  | _, _, _, _, .nil, q => q
  | _, _, _, _, .cons h r, q => .cons h (TrAll.app r q)
theorem TrAll.one {H : Hp} {v : V} {d : PyData} (h : Tr H v d) : TrAll H [v] [d] := .cons h .nil
theorem TrAll.strs {H : Hp} : ∀ l : List Str, TrAll H (l.map V.str) (l.map PyData.str)
  | [] => .nil
  | x :: r => .cons (.str x) (TrAll.strs r)
theorem TrAll.get {H : Hp} : ∀ {v : List V} {d : List PyData} {i : Nat} {x : V}, TrAll H v d → v[i]? = some x → ∃ y, d[i]? = some y ∧ Tr H x y
  | _, _, _, _, .nil, h => by simp at h
  | _, _, 0, x, .cons h r, q => ⟨_, rfl, by
    have e := Option.some.inj q
    rw [← e]
    exact h⟩
  | _, _, i + 1, x, .cons h r, q => by
    rw [List.getElem?_cons_succ] at q ⊢
    exact TrAll.get r q
end Vf

set_option Elab.async false
set_option linter.all false
set_option maxRecDepth 100000
set_option maxHeartbeats 4000000
/-! Own words: dicts that the top has written, asked by ints and texts; a list extended by a tuple. -/
namespace Vf
open PySem PySem.Spec PyProof.Rows L2

/-- the entries of a written dict, by keys and values -/
def KdL (w : World) : List (Key × V) → List DictEntry → Prop
  | [], [] => True
  | (k, v) :: r, e :: q => keyIs k e.key = true ∧ e.hash = keyH w k ∧ RelV v e.val ∧ KdL w r q
  | _, _ => False
theorem KdL.keys {P : Program} {w : World} : ∀ {kvs : List (Key × V)} {l : List DictEntry}, KdL w kvs l → ∀ e ∈ l, ∃ k, (mixKind P w).is k e.key = true ∧ e.hash = (mixKind P w).hash k
  | [], [], _, e, he => by cases he
  | (k, v) :: r, e :: q, h, e', he => by
    rcases List.mem_cons.mp he with rfl | he
    · exact ⟨k, h.1, h.2.1⟩
    · exact KdL.keys h.2.2.2 e' he
  | [], _ :: _, h, _, _ => h.elim
  | _ :: _, [], h, _, _ => h.elim
theorem KdL.val {w : World} : ∀ {kvs : List (Key × V)} {l : List DictEntry}, KdL w kvs l → ∀ k, RelO (valV kvs k) ((l.find? fun e => keyIs k e.key).map (·.val))
  | [], [], _, k => True.intro
  | (k', v) :: r, e :: q, h, k => by
    have ih := KdL.val h.2.2.2 k
    unfold valV at ih ⊢
    rw [List.find?_cons, List.find?_cons]
    by_cases hk : k' = k
    · subst hk
      rw [h.1, decide_eq_true rfl]
      exact h.2.2.1
    · have h1 : keyIs k e.key = false := by
        cases hb : keyIs k e.key with
        | false => rfl
        | true =>
          have a1 := h.1
          rcases keyIs_shape a1 with ⟨i, t, e1, e2⟩ | ⟨x, t, e1, e2⟩
          · rcases keyIs_shape hb with ⟨j, u, e3, e4⟩ | ⟨y, u, e3, e4⟩
            · rw [e2] at e4
              cases e4
              exact absurd (e1.trans e3.symm) hk
            · rw [e2] at e4
              cases e4
          · rcases keyIs_shape hb with ⟨j, u, e3, e4⟩ | ⟨y, u, e3, e4⟩
            · rw [e2] at e4
              cases e4
            · rw [e2] at e4
              cases e4
              exact absurd (e1.trans e3.symm) hk
      rw [h1, decide_eq_false hk]
      exact ih
  | [], _ :: _, h, _ => h.elim
  | _ :: _, [], h, _ => h.elim
/-- a dict of the module stands at d -/
def KD (K : PySem.W.Frag) (w : World) (d : Addr) (kvs : List (Key × V)) : Prop :=
  ∃ es n, K.lookup d = some ⟨.type "dict", none, .dict es n, #[]⟩ ∧ (d == sysModules) = false ∧ KdL w kvs es.toList
theorem KD.map {P : Program} {w : World} {K : PySem.W.Frag} {d : Addr} {kvs : List (Key × V)} {h : Heap} (D : KD K w d kvs) (X : K.In h) :
    ∃ f, h.MapOf (mixKind P w) d f ∧ ∀ k, RelO (valV kvs k) (f k) := by
  obtain ⟨es, n, hl, _, hk⟩ := D
  refine ⟨_, ⟨_, es, n, X _ _ hl, ⟨rfl, rfl, rfl⟩, rfl, fun e he => hk.keys e (Array.mem_toList_iff.mpr he), fun _ => rfl⟩, fun k => ?_⟩
  have q := hk.val k
  obtain ⟨l⟩ := es
  unfold findBy
  rw [List.find?_toArray]
  exact q
/-- d[k], there -/
def rKGet (K : PySem.W.Frag) (w : World) : R2 := fun x y H Q => ∃ d kvs k v, x = .ref d ∧ y = kV k ∧ KD K w d kvs ∧ valV kvs k = some v ∧ Q v H
/-- d.get(k, z) -/
def tKGet2 (K : PySem.W.Frag) (w : World) (td ty tx : TE) : TE := fun σ H Q => td σ H fun x H1 => ty σ H1 fun y H2 => tx σ H2 fun z H3 =>
  ∃ d kvs k, x = .ref d ∧ y = kV k ∧ KD K w d kvs ∧ Q ((valV kvs k).getD z) H3
section
variable {X : Cx} {o e f : Expr} {apos cpos : Pos} {td ty tx : TE}
theorem ix_kd : IxR X (rKGet X.K X.w) := by
  intro value slice pins s σ H x y v u Q I rx ry h hs
  obtain ⟨d, kvs, k, z, rfl, rfl, D, hv, q⟩ := h
  cases rx
  obtain ⟨g, hm, hg⟩ := D.map (P := X.prog) I.kIn
  have q2 := hg k
  rw [hv] at q2
  obtain ⟨z', e1, r1⟩ := q2.some_of
  exact tail_any hm.typeIs PySem.F.slot_dict_getitem.lookup (wpAny_getItem_of (kV_is ry) hm e1 ⟨z, H, I.tok _, r1, q⟩) hs
theorem pe_kget2 (ho : PE X o td) (he : PE X e ty) (hf : PE X f tx) (hD : ∀ σ H Q, td σ H Q → td σ H (fun x H1 => (∃ d kvs, x = .ref d ∧ KD X.K X.w d kvs) ∧ Q x H1)) (m : M2 X o "get" apos e f cpos) :
    PE X (.Call (.Attribute o "get" apos) [e, f] [] cpos) (tKGet2 X.K X.w td ty tx) := by
  refine ⟨fun pins s σ H Q I h => ?_⟩
  have h' := hD _ _ _ h
  refine wpAny_Call_method m.base m.few m.line PySem.F.plainAttrs_dict PySem.F.slot_dict_get PySem.F.type_dict_get (thn (ho.run pins s σ H _ I h') ?_)
  rintro u s1 ⟨x, H1, I1, rx, ⟨d, kvs0, rfl, D⟩, q1⟩
  cases rx
  obtain ⟨g, hm, hg⟩ := D.map (P := X.prog) I1.kIn
  obtain ⟨es, n, hl, low, _⟩ := D
  refine ⟨hm.typeIs, fun b z => ?_, ?_⟩
  · cases z
    exact ⟨_, I1.kIn _ _ hl, rfl⟩
  rw [m.trees]
  refine Calls.callWith_builtin rfl (Calls.evalArgs_plain (Calls.spliced_cons (thn (he.run pins s1 σ H1 _ I1 q1) ?_)))
  rintro iv s2 ⟨y, H2, I2, ry, q2⟩
  refine Calls.spliced_cons (thn (hf.run pins s2 σ H2 _ I2 q2) ?_)
  rintro fv s3 ⟨z, H3, I3, rz, d', kvs, k, ed, ey, D3, q3⟩
  cases ed
  subst ey
  refine Calls.spliced_nil ?_
  obtain ⟨g3, hm3, hg3⟩ := D3.map (P := X.prog) I3.kIn
  refine call_meetsIn PySem.F.slot_dict_get hm3.typeIs PySem.F.entry_dict_get (PySem.F.args_dict_get_3 _ _ _) (meets_dict_get_default (mixKind X.prog X.w) d (kV_is ry) low fv) ⟨_, hm3, ?_⟩
  exact ⟨_, H3, I3.tok _, (hg3 k).getD rz, q3⟩

/-- xs.extend(t), t a tuple -/
def rExtendT (K : PySem.W.Frag) : V → List V → Hp → VK → Prop := fun x vs H Q => ∃ l b xs zs, x = .ref l ∧ vs = [.ref b] ∧ H l = some (.lst xs) ∧ SqT K H b zs ∧ xs.length + zs.length ≤ sizeLine ∧ Q .non (upd H l (.lst (xs ++ zs)))
theorem extend_tuple (l b : Addr) (its its2 : Array Value) (n n2 : Nat) (dd : Option Addr) (sl : Array (Option Value))
    (h0 : ¬(!its.isEmpty && Builtin.List.listTooLong (its.size + its2.size)) = true)
    (h1 : its.size ≤ sizeLine) (h2 : its.size + its2.size ≤ sizeLine + 1) :
    Meets (Builtin.«list.extend» ⟨[.ref l, .ref b], []⟩) (fun _ R s =>
      s.heap.get? l = some { cls := .type "list", dict := none, data := .seq its n, slots := #[] } ∧
      s.heap.get? b = some { cls := .type "tuple", dict := dd, data := .seq its2 n2, slots := sl } ∧
      R (.ok (.ret Value.none)) { s with heap := s.heap.update l (Obj.mapSeq fun x => x ++ its2), toks := s.toks }) :=
  .of_wp fun prog w A R s h => by
    obtain ⟨hp, g, d, tk, os⟩ := s
    obtain ⟨hl, hb, h⟩ := h
    have f1 := AutoSeq1.idx_int
    have f2 := AutoSeq1.sub_tuple_tuple
    have f3 := AutoSeq1.sub_list_list
    have f4 := AutoSeq1.sub_tuple_list
    have f5 := AutoSeq1.sub_list_tuple
    have hz' : (its ++ its2).size ≤ sizeLine + 1 := by
      rw [Array.size_append]
      exact h2
    wp_walk using (wpAny_updateSeq hl rfl (hz := h1) (_hz' := hz')), AutoSeq1.wpAny_loadPart' hl, AutoSeq1.wpAny_loadPart' hb
    exact ⟨_, rfl, h⟩
theorem mt_extendT : MtM X "list.extend" (rExtendT X.K) := by
  intro pins s σ H x vs v us Q I rx rv h
  obtain ⟨l, b, xs, zs, rfl, rfl, hH, hB, hz, q⟩ := h
  cases rx
  obtain ⟨u, rfl, ru⟩ := rv.one
  cases ru
  obtain ⟨z, its, n, r, hl, e⟩ := I.lstM hH
  obtain ⟨its2, r2, ⟨⟨cls, dd, dat, sl⟩, ho, hc, n2, hd⟩, hz2⟩ := I.tuple hB
  simp only at hc hd
  subst hc hd
  have hl2 := r2.length
  have hsz : its.toArray.size + its2.toArray.size ≤ sizeLine := by
    rw [List.size_toArray, List.size_toArray]
    omega
  have hlong : ¬ (!its.toArray.isEmpty && Builtin.List.listTooLong (its.toArray.size + its2.toArray.size)) = true := by
    rw [notLongL hsz, Bool.and_false]
    exact Bool.false_ne_true
  refine call_meets PySem.F.slot_list_extend ⟨_, e, rfl⟩ PySem.F.entry_list_extend (PySem.F.args_list_extend_2 _ _)
    (extend_tuple l b its.toArray its2.toArray n n2 dd sl hlong (by rw [List.size_toArray]; omega) (by omega)) ⟨e, ho, ?_⟩
  refine ⟨.non, _, I.lset (its' := its ++ its2) hH e (by simp) (r.append r2) ?_, rfl, q⟩
  rw [List.length_append]
  omega
end
end Vf

set_option Elab.async false
set_option linter.all false
set_option maxRecDepth 100000
set_option maxHeartbeats 4000000
/-! Own words: data that are shown alike. -/
namespace Vf
open PySem PySem.Spec PyProof.Rows L2
mutual
/-- data without dicts, whose ints and texts may be shown -/
def tame : PyData → Bool
  | .none => true
  | .bool _ => true
  | .int i => decide (i.natAbs < 10 ^ 30)
  | .str x => x.cps.all (· < 0x110000)
  | .list xs => tameAll xs
  | .tuple xs => tameAll xs
  | .dict _ => false
def tameAll : List PyData → Bool
  | [] => true
  | x :: r => tame x && tameAll r
end
mutual
/-- no less than the length of what is shown -/
def wt : PyData → Nat
  | .none => 4
  | .bool _ => 5
  | .int _ => 32
  | .str x => 10 * x.length + 2
  | .list xs => wtAll xs + 4
  | .tuple xs => wtAll xs + 4
  | .dict _ => 0
def wtAll : List PyData → Nat
  | [] => 0
  | x :: r => wt x + 2 + wtAll r
end
theorem listText_le (ts : List Str) : (listText ts).length ≤ piled ts + 2 := by
  have e1 : (("[" : Str)).length = 1 := rfl
  have e2 : (("]" : Str)).length = 1 := rfl
  unfold listText
  rw [Str.length_append]
  have e2' : (("]" : String) : Str).length = 1 := rfl
  cases ts with
  | nil =>
    show (("[" : Str)).length + _ ≤ _
    rw [e1, piled_nil]
    exact Nat.le_refl _
  | cons t r =>
    show (textFrom (0 + 1) (("[" : Str) ++ _ ++ t) r).length + _ ≤ _
    rw [textFrom_length_pos r 1 _ (by decide), piled_cons, Str.length_append, Str.length_append, e1]
    have e3 : (Str.ofString (if 0 > 0 then ", " else "" : String)).length = 0 := rfl
    rw [e3, e2']
    omega
theorem tupleText_le (ts : List Str) : (tupleText ts).length ≤ piled ts + 3 := by
  unfold tupleText
  rw [Str.length_append, Str.length_append]
  have e1 : (("(" : Str)).length = 1 := rfl
  have e2 : (Str.ofString (if ts.length == 1 then ",)" else ")" : String)).length ≤ 2 := by
    split
    · exact Nat.le_refl _
    · exact Nat.le_succ 1
  have e3 : (Str.join ", " ts).length ≤ piled ts := by
    by_cases h : ts = []
    · subst h
      exact Nat.le_refl _
    · have := join_length_add ts h
      omega
  rw [e1]
  omega
theorem ofs_len (i : Int) (h : i.natAbs < 10 ^ 30) : (Str.ofString (toString i)).length ≤ 30 + 1 := by
  have e : (Str.ofString (toString i)).length = (toString i).length := PySem.ofString_length _
  rw [e]
  exact int_text_length_le10 (by decide) h
mutual
theorem shown_le : ∀ d : PyData, tame d = true → d.shown.length ≤ wt d
  | .none, _ => Nat.le_refl _
  | .bool b, _ => by
    cases b
    · exact Nat.le_refl _
    · exact Nat.le_succ 4
  | .int i, h => by
    have h' : i.natAbs < 10 ^ 30 := of_decide_eq_true h
    exact Nat.le_trans (ofs_len i h') (by show 30 + 1 ≤ 32; decide)
  | .str x, h => by
    refine Nat.le_trans (StrLaws.reprText_len x ?_) (Nat.le_refl _)
    intro c hc
    have h' : x.cps.all (· < 0x110000) = true := h
    rw [← Array.all_toList, List.all_eq_true] at h'
    have := of_decide_eq_true (h' c hc)
    omega
  | .list xs, h => by
    have := shownAll_le xs h
    have := listText_le (PyData.shownAll xs)
    show (listText (PyData.shownAll xs)).length ≤ wtAll xs + 4
    omega
  | .tuple xs, h => by
    have := shownAll_le xs h
    have := tupleText_le (PyData.shownAll xs)
    show (tupleText (PyData.shownAll xs)).length ≤ wtAll xs + 4
    omega
  | .dict _, h => by cases h
theorem shownAll_le : ∀ xs : List PyData, tameAll xs = true → piled (PyData.shownAll xs) ≤ wtAll xs
  | [], _ => Nat.le_refl _
  | x :: r, h => by
    have h' : (tame x && tameAll r) = true := h
    rw [Bool.and_eq_true] at h'
    have := shown_le x h'.1
    have := shownAll_le r h'.2
    show piled (x.shown :: PyData.shownAll r) ≤ wt x + 2 + wtAll r
    rw [piled_cons]
    omega
end
mutual
theorem tame_ok : ∀ d : PyData, tame d = true → d.showable = true ∧ d.hasDict = false ∧ d.canLay0 = true
  | .none, _ => ⟨rfl, rfl, rfl⟩
  | .bool b, _ => ⟨rfl, rfl, rfl⟩
  | .int i, h => by
    have h' : i.natAbs < 10 ^ 30 := of_decide_eq_true h
    refine ⟨?_, rfl, rfl⟩
    show decide (i.natAbs.log2 < 1920) = true
    refine decide_eq_true ?_
    by_cases h0 : i.natAbs = 0
    · rw [h0]
      decide
    · exact (Nat.log2_lt h0).mpr (Nat.lt_trans h' (by decide +kernel))
  | .str x, h => ⟨rfl, rfl, h⟩
  | .list xs, h => tameAll_ok xs h
  | .tuple xs, h => tameAll_ok xs h
  | .dict _, h => by cases h
theorem tameAll_ok : ∀ xs : List PyData, tameAll xs = true → PyData.showableAll xs = true ∧ PyData.hasDictAll xs = false ∧ PyData.canLayAll0 xs = true
  | [], _ => ⟨rfl, rfl, rfl⟩
  | x :: r, h => by
    have h' : (tame x && tameAll r) = true := h
    rw [Bool.and_eq_true] at h'
    obtain ⟨a1, a2, a3⟩ := tame_ok x h'.1
    obtain ⟨b1, b2, b3⟩ := tameAll_ok r h'.2
    refine ⟨?_, ?_, ?_⟩
    · show (PyData.showable x && PyData.showableAll r) = true
      rw [a1, b1] <;> rfl
    · show (PyData.hasDict x || PyData.hasDictAll r) = false
      rw [a2, b2] <;> rfl
    · show (PyData.canLay0 x && PyData.canLayAll0 r) = true
      rw [a3, b3] <;> rfl
end
/-- data of a size that may be shown -/
structure OkD (d : PyData) : Prop where
  tm : tame d = true
  dp : d.depth ≤ 60
  sz : wt d ≤ 16000000
theorem OkD.shaped {d : PyData} (h : OkD d) : SeqAt.shaped d = true := by
  unfold SeqAt.shaped
  rw [Bool.and_eq_true]
  exact ⟨(tame_ok d h.tm).2.2, decide_eq_true (Nat.le_trans h.dp (by decide))⟩
theorem OkD.show {d : PyData} (h : OkD d) : d.shown.length ≤ sizeLine := Nat.le_trans (shown_le d h.tm) (Nat.le_trans h.sz (by decide))
theorem OkD.refl {d : PyData} (h : OkD d) : PyData.eqv d d = true := SeqAt.eqv_refl d (tame_ok d h.tm).2.2
/-- repr of a list or a tuple, of a truth, of an int -/
theorem call_repr {X : Cx} (gd : X.A.guards = some []) (hu : X.A.units + 64 < cLine) :
    CallR X (.builtin "repr") (fun xs H Q => ∃ a d, xs = [.ref a] ∧ Dp X.K H (.ref a) d ∧ OkD d ∧ Q (.str d.shown) H) := by
  intro pins s σ H xs us Q I r h
  obtain ⟨a, d, rfl, hd, ok, q⟩ := h
  obtain ⟨h1, h2, h3⟩ := tame_ok d ok.tm
  exact call_reprD gd hu pins s σ H [.ref a] us Q I r ⟨a, d, rfl, hd, h1, h2, ok.dp, ok.show, q⟩
def rListOf (K : PySem.W.Frag) : List V → Hp → VK → Prop := fun xs H Q => ∃ p ys, xs = [.ref p] ∧ (SqL K H p ys ∨ SqT K H p ys) ∧ ∀ l, H l = none → Q (.ref l) (upd H l (.lst ys))
def rLenK (K : PySem.W.Frag) : List V → Hp → VK → Prop := fun xs H Q => ∃ x n, xs = [x] ∧ LenV K x H n ∧ Q (.int n) H
def rTupOf (K : PySem.W.Frag) : List V → Hp → VK → Prop := fun xs H Q => ∃ p ys, xs = [.ref p] ∧ ((SqL K H p ys ∧ ∀ l, H l = none → Q (.ref l) (upd H l (.tup ys))) ∨ (SqT K H p ys ∧ Q (.ref p) H))
/-- two things alike -/
def spAlike (K : PySem.W.Frag) : Sp := fun vs H Q _ => ∃ (a b : Addr) (d : PyData), vs = [.ref a, .ref b] ∧ Dp K H (.ref a) d ∧ Dp K H (.ref b) d ∧ OkD d ∧ ∀ H', Same H H' → Q (.bl true) H'
theorem same_new {H : Hp} {p : Addr} {o : HO} (h : H p = none) : Same H (upd H p o) := fun b u e => by
  rw [upd_ne (ne_of_none e h)]
  exact e
theorem Tr.new {H : Hp} {v : V} {d : PyData} {p : Addr} {o : HO} (t : Tr H v d) (h : H p = none) : Tr (upd H p o) v d := t.keep ((Tk.refl H).new h)
theorem TrAll.new {H : Hp} {v : List V} {d : List PyData} {p : Addr} {o : HO} (t : TrAll H v d) (h : H p = none) : TrAll (upd H p o) v d := t.keep ((Tk.refl H).new h)
theorem same_put {H H' : Hp} {p : Addr} {o : HO} (s : Same H H') (h : H p = none) : Same H (upd H' p o) := fun b u e => by
  rw [upd_ne (ne_of_none e h)]
  exact s b u e
end Vf

set_option Elab.async false
set_option linter.all false
set_option maxRecDepth 100000
set_option maxHeartbeats 4000000
/-! Own words: a lambda of one parameter, handed to a def; a local that holds such a one, or a def. -/
namespace Vf
open PySem PySem.Spec PyProof.Rows L2
open LamX (CodeO TabS Tabs ExtN TabB)
/-- the lambda that stands at f, its code at c -/
def LamO (f c : Addr) (q : Str) (ar : Arguments) (bd : Expr) (sc : Scope) : HO :=
  .ext fun h => ∃ pm ct : Value, h.get? f = some (PySem.W.kla_obj "<lambda>" q ar bd sc [] pm c ct)
/-- what a call takes at f -/
def Callee (K : PySem.W.Frag) (H : Hp) (f : Addr) : Prop :=
  (∃ oc od fd sl, K.lookup f = some ⟨oc, od, .func fd, sl⟩) ∨ ∃ c q ar bd sc, H f = some (LamO f c q ar bd sc)
/-- f, called with one thing, keeps the promise -/
def One (P : Program) (w : World) (K : PySem.W.Frag) (mg : Str → Option Value) (base : Heap) (k : Nat) (f : Addr) (sp : Sp) : Prop :=
  ∀ (A : Around) (outer : List Env) (s : Shared) (H : Hp) (u : Value) (v : V) (Q : VK) (E : XK),
    Room k A → Env0 P w K mg base A outer s H → RelV v u → sp [v] H Q E →
    codeAny (model P w) A (.call (.ref f) ⟨[u], []⟩) (CR CX0 outer P w H s Q E) s
section
variable {P : Program} {w : World} {K : PySem.W.Frag} {mg : Str → Option Value} {base : Heap}
/-- a def of the text -/
theorem one_def {k : Nat} {x : Str} {sp : Sp} (C : C8.Cal P w K mg base k x sp []) : ∃ f, mg x = some (.ref f) ∧ (∃ fd ps, FnOk P w K mg base CX0 k f fd ps sp) ∧ One P w K mg base k f sp := by
  obtain ⟨f, fd, ps, ds, F, hm, kp, b, d⟩ := C
  cases d
  refine ⟨f, hm, ⟨fd, ps, F⟩, fun A o s H u v Q E hr e0 rv h => ?_⟩
  have KX : K.In s.heap := e0.mod.kin.keeps fun b o e => (e0.bs b o e).1
  have hl : ([u] : List Value).length = ps.length := F.len _ _ _ _ h
  exact F.run A o s H ⟨[u], []⟩ [u] [v] Q E hr e0 (b s [u] KX hl) (.cons rv .nil) h
/-- a lambda, by its body -/
theorem one_lam {k : Nat} {q p : Str} {ar : Arguments} {bd : Expr} {sc : Scope} {N : List Str} {sp : Sp} (f c : Addr)
    (S : FnScope N [p] sc) (nc : ∀ y ∈ sc.names, y.2 ≠ .cell)
    (bind : ∀ (pm ct u : Value), bindArgs (PySem.W.kla_fn "<lambda>" q ar bd sc [] pm (.ref c) ct) ⟨[u], []⟩ = pure [(p, u)])
    (body : ∀ (A : Around) (outer : List Env) (s : Shared) (H : Hp) (v : V) (Q : VK) (E : XK),
      Room k (A.deeper (envOfC q sc s.heap.objs.size f (.ref c))) → sp [v] H Q E →
      ∃ te : TE, PE (cxOf CX0 P w K mg base N q sc f (.ref c) A outer s H E).nox bd te ∧ te (start N [v]) H Q) :
    One P w K mg base (k + 1) f fun vs H Q E => H f = some (LamO f c q ar bd sc) ∧ H c = some (CodeO c q) ∧ sp vs H Q E := by
  intro A outer s H u v Q E hr e0 rv h
  obtain ⟨hf, hc, hs⟩ := h
  obtain ⟨⟨pm, ct, of⟩, _, _⟩ := e0.hok f _ hf
  obtain ⟨⟨oc, vs, t, e1, e2, e3⟩, _, _⟩ := e0.hok c _ hc
  have lim : s.heap.NoLimit := e0.mod.nolimit.keeps fun b o e => (e0.bs b o e).1
  refine PySem.W.kla_callFunE hr.depth of rfl S.co S.gen rfl ⟨c, oc, vs, t, rfl, e1, e2, e3⟩ ?_
  rw [bind]
  refine wpAny_pure ?_
  refine wpAny_newFunctionEnv_cells S.kind (fun y hy => ?_) fun env he s1 x => ?_
  · obtain rfl : y = (p, u) := by simpa using hy
    exact (S.par p (by simp)).elim .inl fun z => absurd rfl (nc _ (PySem.mem_of_lookup z))
  subst he
  refine ⟨lim.keeps x.toInCall.keep, ?_⟩
  obtain ⟨te, ht, hq⟩ := body A outer s H v Q E (hr.deeper _) hs
  have I := inv_start (CX := CX0) (E := E) (us := [u]) (vs := [v]) S hr.hd e0 rfl (.cons rv .nil) x
  refine PySem.W.kla_codeExpr (wpAny_mono (ht.nox.run [] s1 (start N [v]) H Q I hq) (fun u' s' hs => ?_) fun _ _ hs => hs)
  obtain ⟨v', H', J, rv', q'⟩ := hs
  exact ⟨v', H', J.os, J.bare, J.base, J.hok, rv', q'⟩
end

/-! ### a lambda is made -/
/-- what the making of a lambda gives on -/
def tLamV (T : List (Addr × Str)) (q : Str) (ar : Arguments) (bd : Expr) (sc : Scope) : TE := fun _ H Q =>
  Tabs T H ∧ ∀ (f c : Addr) (H1 : Hp), ExtN H H1 → Tabs T H1 → H1 f = some (LamO f c q ar bd sc) → H1 c = some (CodeO c q) → H f = none → H c = none ∨ H c = some (CodeO c q) → Q (.ref f) H1
section
variable {X : Cx} {pins : List (Addr × Obj)} {σ : L2.St} {H : Hp} {s : Shared}
/-- a lambda's object, laid behind all others -/
theorem inv_lam {c : Addr} {q : Str} {ar : Arguments} {bd : Expr} {sc : Scope} {pm ct : Value} {h' : Heap} {tk : Nat} (I : Inv X pins σ H { s with heap := h', toks := tk }) :
    Inv X pins σ (upd H h'.objs.size (LamO h'.objs.size c q ar bd sc)) { s with heap := h'.push (PySem.W.kla_obj "<lambda>" q ar bd sc [] pm c ct), toks := tk } := by
  refine I.laid (fun b u e => Heap.get?_push_of_some _ e) (Nat.le_refl _) ?_
  refine ⟨⟨pm, ct, Heap.get?_push_size _ rfl⟩, ⟨_, Heap.get?_push_size _ rfl⟩, ?_⟩
  rintro h1 h2 ⟨pm', ct', e⟩ st
  exact ⟨pm', ct', st _ e⟩
theorem lam_ne_tbl {f c : Addr} {q : Str} {ar : Arguments} {bd : Expr} {sc : Scope} (ps : Array Value) : LamO f c q ar bd sc ≠ .tbl ps := fun z => by
  unfold LamO at z
  cases z
theorem tabs_new {T : List (Addr × Str)} {f : Addr} {o : HO} (t : Tabs T H) (n : H f = none) : Tabs T (upd H f o) :=
  t.ext fun b u e => by
    rw [upd_ne (ne_of_none e n)]
    exact e
theorem pe_lam {T : List (Addr × Str)} {c P : Addr} {ar : Arguments} {bd : Expr} {sc : Scope} {pos : Pos} (TB : TabB X.base X.mg c P) (hcode : X.env.code = .ref c)
    (hm : (P, X.env.qual ++ "<lambda>") ∈ T) (hu : ∀ p ∈ T, p.1 = P → p.2 = X.env.qual ++ "<lambda>") (hdef : defaultsOf ar X.env = ([], []))
    (hfree : ∀ y ∈ sc.names, y.2 ≠ .free) (hclo : cloFrom X.env.cells sc.names [] = []) :
    PE X (.Lambda ar bd sc pos) (tLamV T (X.env.qual ++ "<lambda>") ar bd sc) := by
  refine ⟨fun pins s σ H Q I h => ?_⟩
  obtain ⟨hT, go⟩ := h
  obtain ⟨ps, atP, tri, known⟩ := hT _ hm
  have oP : s.heap.get? P = some { cls := .none, data := .fields ps } := I.hok P _ atP
  have bP : s.heap.BuiltinsAt X.mg P := TB.bm.keeps I.bk
  have cl := closure_ok (scope := sc) (env := X.env) fun y hy e => absurd e (hfree y hy)
  rw [hclo] at cl
  refine PySem.W.kla_eval hdef ?_
  cases found : codeAmong pos ps.toList with
  | some cv =>
    obtain ⟨c1, rfl, known1⟩ := known pos cv found
    refine PySem.W.kla_makeFunctionHit (mg := X.mg) (c := c) (P := P) (ps := ps) cl I.ok.glob (I.mod.glob.keeps I.bk) hcode (TB.code.keeps I.bk) oP tri found bP ?_
    intro ct h' tk keep size
    have I1 : Inv X pins σ H { s with heap := h', toks := tk } := I.kept keep
    have nf : H h'.objs.size = none := I.hok.fresh size
    refine ⟨.ref h'.objs.size, _, inv_lam I1, rfl, go _ c1 _ (fun b o e _ => ?_) (tabs_new hT nf) upd_same ?_ nf (.inr known1)⟩
    · rw [upd_ne (ne_of_none e nf)]
      exact e
    · rw [upd_ne (ne_of_none known1 nf)]
      exact known1
  | none =>
    refine PySem.W.kla_makeFunction (mg := X.mg) (c := c) (P := P) (ps := ps) cl I.ok.glob (I.mod.glob.keeps I.bk) hcode (TB.code.keeps I.bk) oP tri found TB.gP bP ?_
    intro c1 ct h' tk but ge lt code tab
    obtain ⟨c2, oc, vs, t, ec, e1, e2, e3⟩ := code
    cases ec
    have nc : H c1 = none := I.hok.fresh ge
    have I1 := LamX.inv_table (t' := tk) (more := #[rawInt pos.line, rawInt pos.col, .ref c1]) I atP (fun b o nb e => but b o nb e) tab ge ⟨oc, vs, t, e1, e2, e3⟩
    have size : s.heap.objs.size ≤ h'.objs.size := Nat.le_trans ge (Nat.le_of_lt lt)
    have nP : P ≠ c1 := ne_of_none atP nc
    have nf : upd (upd H P (.tbl (ps ++ #[rawInt pos.line, rawInt pos.col, .ref c1]))) c1 (CodeO c1 (X.env.qual ++ "<lambda>")) h'.objs.size = none := I1.hok.fresh (Nat.le_refl _)
    have ext : ExtN H (upd (upd H P (.tbl (ps ++ #[rawInt pos.line, rawInt pos.col, .ref c1]))) c1 (CodeO c1 (X.env.qual ++ "<lambda>"))) := by
      intro b o e notTab
      have nbP : b ≠ P := fun z => by
        rw [z, atP] at e
        exact notTab ps (Option.some.inj e).symm
      rw [upd_ne (ne_of_none e nc), upd_ne nbP]
      exact e
    have tabs : Tabs T (upd (upd H P (.tbl (ps ++ #[rawInt pos.line, rawInt pos.col, .ref c1]))) c1 (CodeO c1 (X.env.qual ++ "<lambda>"))) := by
      rintro ⟨P', q'⟩ mem
      by_cases same : P' = P
      · subst same
        obtain rfl : q' = X.env.qual ++ "<lambda>" := hu _ mem rfl
        have list : (ps ++ #[rawInt pos.line, rawInt pos.col, .ref c1]).toList = ps.toList ++ [rawInt pos.line, rawInt pos.col, .ref c1] := by simp
        refine ⟨_, (by rw [upd_ne nP, upd_same]), ?_, fun p1 cv at1 => ?_⟩
        · rw [list]
          exact PySem.TriplesOk_snoc _ _ _ _ tri
        · rw [list] at at1
          rcases LamX.among_app _ tri at1 with z | z
          · obtain ⟨c2, y1, y2⟩ := known p1 cv z
            exact ⟨c2, y1, ext _ _ y2 LamX.codeO_ne⟩
          · exact ⟨c1, z, upd_same⟩
      · obtain ⟨ps2, a1, a2, a3⟩ := hT _ mem
        refine ⟨ps2, ?_, a2, fun p1 cv at1 => ?_⟩
        · show upd (upd H P _) c1 _ P' = _
          rw [upd_ne (ne_of_none a1 nc), upd_ne same]
          exact a1
        · obtain ⟨c2, y1, y2⟩ := a3 p1 cv at1
          exact ⟨c2, y1, ext _ _ y2 LamX.codeO_ne⟩
    refine ⟨.ref h'.objs.size, _, inv_lam I1, rfl, go _ c1 _ (fun b o e n => ?_) (tabs_new tabs nf) upd_same ?_ (I.hok.fresh size) (.inl nc)⟩
    · have e2 := ext b o e n
      rw [upd_ne (ne_of_none e2 nf)]
      exact e2
    · rw [upd_ne (Nat.ne_of_lt lt), upd_same]
/-- a call of a local that holds a def, or such a lambda -/
def tCallV (P : Program) (w : World) (K : PySem.W.Frag) (mg : Str → Option Value) (base : Heap) (k i : Nat) (t : TA) : TE := fun σ H Q =>
  ∃ f sp, σ[i]? = some (some (.ref f)) ∧ One P w K mg base k f sp ∧ Callee K H f ∧ t σ H fun vs H1 => Callee K H1 f ∧ (∃ v, vs = [v]) ∧ sp vs H1 Q E0
theorem Callee.at {f : Addr} (c : Callee X.K H f) (I : Inv X pins σ H s) : PySem.W.FnAt f s.heap := by
  rcases c with ⟨oc, od, fd, sl, e⟩ | ⟨c, q, ar, bd, sc, e⟩
  · exact ⟨oc, od, fd, sl, I.kIn _ _ e⟩
  · obtain ⟨⟨pm, ct, e⟩, _, _⟩ := I.hok f _ e
    exact ⟨_, _, _, _, e⟩
theorem pe_callV {k i : Nat} {x : Str} {p pos : Pos} {e : Expr} {es : List Expr} {t : TA} (hr : Room k X.A) (hN : X.N[i]? = some x) (hv : Vis X.env.scope x) (ha : PA X (e :: es) t)
    (hdb : (x == ("__debug__" : Str)) = false := by decide) (hcd : (x == ("__classdict__" : Str)) = false := by decide)
    (he : starEach (e :: es) X.env = (false, eval e X.env) :: starEach es X.env := by rfl) (hpl : (backTo pos (starEach es X.env)).any (·.1) = false := by rfl) :
    PE X (.Call (.Name x p) (e :: es) [] pos) (tCallV X.prog X.w X.K X.mg X.base k i t) := by
  refine ⟨fun pins s σ H Q I h => ?_⟩
  obtain ⟨f, sp, hs, F, cl, ht⟩ := h
  refine wpAny_Call_Name_kw (thn ((pe_var (pos := p) hN hv hdb hcd).run pins s σ H (fun v H1 => v = .ref f ∧ H1 = H) I ⟨.ref f, hs, rfl, rfl⟩) fun u s1 ⟨v, H1, I1, r1, q1⟩ => ?_)
  obtain ⟨rfl, rfl⟩ := q1
  cases r1
  refine PySem.W.callWith_F (cl.at I1) (thn (ha.run pos pins s1 σ _ _ I1 ht) fun us s2 ⟨vs, H2, I2, r, q⟩ => ?_) he hpl
  obtain ⟨cl2, ⟨v, rfl⟩, q⟩ := q
  refine ⟨cl2.at I2, ?_⟩
  cases r with
  | cons rv rn =>
    cases rn
    refine wpAny_call (codeAny_mono (F X.A X.stack s2 H2 _ _ Q E0 hr I2.env0 rv q) fun r s' hq => ?_)
    cases r with
    | error e => exact (hq : False).elim
    | ok fl =>
      cases fl with
      | ret u => exact I2.after hq
      | next => exact (hq : False).elim
      | brk => exact (hq : False).elim
      | cont => exact (hq : False).elim
end
end Vf

set_option Elab.async false
set_option linter.all false
set_option maxRecDepth 100000
set_option maxHeartbeats 4000000
/-! The end of a law one of whose defs makes lambdas: its code object at c, the table of what it made at P. -/
namespace Vf
open PySem PySem.Spec PyProof.Rows L2
open LamX (CodeO TabS Tabs ExtN TabB)
abbrev tab0 : Obj := { cls := .none, data := .fields #[] }
section
variable {P : Program} {w : World} {K : PySem.W.Frag}
  {mg mb : Str → Option Value} {k : Nat} {fa a : Addr} {fd : FuncData}
  {x : Str} {sp : Sp} {s₁ : Shared} {vs : List Value} {ns : List Int} {c T : Addr}

theorem law_goesT (KX : K.In s₁.heap)
    (hns : s₁.heap.Ns mainGlobals mg) (hb : s₁.heap.Ns builtinsNs mb)
    (hbb : ∀ y : Str, y ≠ "__name__" → mb y = bootBuiltins y)
    (hlim : s₁.heap.NoLimit) (hgen : s₁.gens = #[])
    (hT : s₁.heap.get? T = some tab0) (nT : K.lookup T = none) (C : PySem.W.CodeHd s₁.heap c T)
    (hbm : ∃ (bm : Addr) (ob : Obj), mg "__builtins__" = some (.ref bm) ∧ bm ≠ builtinsNs ∧ s₁.heap.get? bm = some ob ∧ ob.cls = .type "module" ∧ ob.dict = some builtinsNs ∧ ob.data = .plain)
    (ha : s₁.heap.get? a =
      some { cls := .type "list", data := .seq vs.toArray })
    (hr : Room k callerA)
    (F : ∀ base : Heap, K.In base → base.Ns mainGlobals mg → TabB base mg c T →
      FnG P w K mg base k fa fd [x] sp)
    (bind : ∀ (s : Shared) (u : Value),
      BindsTo s fd ⟨[u], []⟩ [(x, u)])
    (H : Hp) (hHT : H T = some (.tbl #[])) (hO : ∀ b, H b = none ∨ b = T ∨ ∃ o xs, H b = some (.frz o (.lst xs))) (ok : HOk P w H s₁.heap)
    (alone : ∀ b, H b ≠ none → b = a ∨ b = T)
    (notK : H a ≠ none → K.lookup a = none)
    (hs : sp [.ref a] H (fun v _ => v = .bl true) fun _ _ _ => False) :
    codeAny (model P w) callerA (.call (.ref fa) ⟨[.ref a], []⟩)
      (LawEnd s₁) s₁ := by
  have free : ∀ {b : Addr} {o : Obj}, s₁.heap.get? b = some o → (∀ xs n, o.data ≠ .seq xs n) → o.data ≠ .fields #[] → H b = none := by
    intro b o e d1 d2
    cases q : H b with
    | none => rfl
    | some u =>
      rcases alone b (by rw [q]; exact Option.some_ne_none u) with z | z
      · rw [z, ha] at e
        cases e
        exact absurd rfl (d1 _ _)
      · rw [z, hT] at e
        cases e
        exact absurd rfl d2
  have ns' : ∀ {b : Addr} {m : Str → Option Value},
      s₁.heap.Ns b m → (hidT s₁.heap H).Ns b m := by
    rintro b m ⟨o, es, ep, e, d, r⟩
    refine ⟨o, es, ep, hidT_get e (free e (fun xs n z => ?_) fun z => ?_), d, r⟩
    · rw [d] at z
      cases z
    · rw [d] at z
      cases z
  have kin : K.In (hidT s₁.heap H) := by
    intro b o e
    refine hidT_get (KX b o e) ?_
    cases q : H b with
    | none => rfl
    | some u =>
      rcases alone b (by rw [q]; exact Option.some_ne_none u) with z | z
      · have z2 := notK (by rw [← z, q]; exact Option.some_ne_none u)
        rw [z, z2] at e
        cases e
      · rw [z, nT] at e
        cases e
  have lim' : (hidT s₁.heap H).NoLimit := by
    obtain ⟨mc, h1, h2⟩ := hlim
    exact ⟨mc, ns' h1, h2⟩
  have M : Mod K mg (hidT s₁.heap H) :=
    ⟨kin, ns' hns, ⟨mb, ns' hb, hbb⟩, lim'⟩
  have notMain : mainGlobals ≠ T := fun z => by
    obtain ⟨o, es, ep, e, d, _⟩ := hns
    rw [z, hT] at e
    cases e
    cases d
  have TB : TabB (hidT s₁.heap H) mg c T := by
    refine ⟨?_, ?_, notMain⟩
    · obtain ⟨o, us, fl, tf, fg, tg, inF, tx, tt, e, r1, r2, r3, rest⟩ := C
      refine ⟨o, us, fl, tf, fg, tg, inF, tx, tt, hidT_get e (free e (fun xs n z => ?_) fun z => ?_), r1, r2, r3, rest⟩
      · rw [r2] at z
        cases z
      · rw [r2] at z
        cases z
        simp at r3
    · obtain ⟨bm, ob, m1, m2, m3, m4, m5, m6⟩ := hbm
      refine ⟨bm, ob, m1, m2, fun z => ?_, fun z => ?_, hidT_get m3 (free m3 (fun xs n z => ?_) fun z => ?_), m4, m5, m6⟩
      · obtain ⟨o, es, ep, e, d, _⟩ := hns
        rw [z, e] at m3
        cases m3
        rw [m6] at d
        cases d
      · rw [z, hT] at m3
        cases m3
        cases m6
      · rw [m6] at z
        cases z
      · rw [m6] at z
        cases z
  have none_in : ∀ b : Addr, b ∉ ([] : List Addr) := fun b => by simp
  have env : Env0 P w K mg (hidT s₁.heap H) callerA [] s₁ H :=
    ⟨rfl, M, fun b o e => of_hidT e, Nat.le_of_eq (hidT_size _ _),
      trivial, fun b z => absurd z (none_in b), ok, .of_eq hgen⟩
  refine codeAny_mono ((F _ kin (ns' hns) TB).go callerA [] s₁ H
    ⟨[.ref a], []⟩ [.ref a] [.ref a] _ _ hr rfl env
    (bind s₁ (.ref a)) (.cons rfl .nil) hs) ?_
  intro r s' h
  cases r with
  | error e => exact (h : False).elim
  | ok fl =>
    cases fl with
    | next => exact (h : False).elim
    | brk => exact (h : False).elim
    | cont => exact (h : False).elim
    | ret u =>
      obtain ⟨v, H', os, bare, un, ok', rv, q⟩ := h
      obtain rfl : v = .bl true := q
      obtain rfl : u = Value.bool true := rv
      have same : ∀ b o, b ≠ T → s₁.heap.get? b = some o → s'.heap.get? b = some o := by
        intro b o nb e
        cases q : H b with
        | none => exact un.keep b o e q (none_in b) (none_in b)
        | some u =>
          rcases hO b with z | z | ⟨ob, xs, z⟩
          · rw [q] at z
            cases z
          · exact absurd z nb
          · obtain ⟨e1, _⟩ := ok b _ z
            obtain ⟨e2, _⟩ := ok' b _ (un.frzs b ob _ z)
            rw [e] at e1
            cases e1
            exact e2
      obtain ⟨more, z⟩ := un.tbls T #[] hHT
      have grown : s'.heap.get? T = some { cls := .none, data := .fields (#[] ++ more) } := ok' T _ z
      refine ⟨rfl, ⟨fun b o e => ?_, fun b o e => ?_⟩, os, bare⟩
      · by_cases nb : b = T
        · subst nb
          rw [hT] at e
          cases e
          exact .inr (.inl ⟨(C.tab hT).isCodeTable, rfl, #[], more, rfl, grown⟩)
        · exact .inl (same b o nb e)
      · by_cases nb : b = T
        · subst nb
          exact ⟨_, grown⟩
        · exact ⟨o, same b o nb e⟩

theorem law_goesT2 (KX : K.In s₁.heap)
    (hns : s₁.heap.Ns mainGlobals mg) (hb : s₁.heap.Ns builtinsNs mb)
    (hbb : ∀ y : Str, y ≠ "__name__" → mb y = bootBuiltins y)
    (hlim : s₁.heap.NoLimit) (hgen : s₁.gens = #[])
    (hT : s₁.heap.get? T = some tab0) (nT : K.lookup T = none) (C : PySem.W.CodeHd s₁.heap c T)
    (hbm : ∃ (bm : Addr) (ob : Obj), mg "__builtins__" = some (.ref bm) ∧ bm ≠ builtinsNs ∧ s₁.heap.get? bm = some ob ∧ ob.cls = .type "module" ∧ ob.dict = some builtinsNs ∧ ob.data = .plain)
    (ha : s₁.heap.get? a =
      some { cls := .type "list", data := .seq vs.toArray })
    (hi : IntsAre vs ns) (hl : ns.length ≤ sizeLine)
    (hr : Room k callerA)
    (F : ∀ base : Heap, K.In base → base.Ns mainGlobals mg → TabB base mg c T →
      FnG P w K mg base k fa fd [x] sp)
    (bind : ∀ (s : Shared) (u : Value),
      BindsTo s fd ⟨[u], []⟩ [(x, u)])
    (hs : ∀ H : Hp, H T = some (.tbl #[]) → SqL K H a (ns.map V.int) →
      sp [.ref a] H (fun v _ => v = .bl true) fun _ _ _ => False) :
    codeAny (model P w) callerA (.call (.ref fa) ⟨[.ref a], []⟩)
      (LawEnd s₁) s₁ := by
  have rv := vals_ints hi
  have aT : a ≠ T := fun z => by
    rw [z, hT] at ha
    cases ha
  cases hk : K.lookup a with
  | some o =>
    have e := KX a o hk
    rw [ha] at e
    cases e
    refine law_goesT KX hns hb hbb hlim hgen hT nT C hbm ha hr F bind
      (fun b => if b = T then some (.tbl #[]) else none) (if_pos rfl) (fun b => ?_) (fun b u z => ?_)
      (fun b z => ?_) (fun z => absurd (if_neg aT) z) (hs _ (if_pos rfl) ?_)
    · by_cases q : b = T
      · exact .inr (.inl q)
      · exact .inl (if_neg q)
    · by_cases q : b = T
      · have z' := (if_pos q).symm.trans z
        cases z'
        subst q
        exact hT
      · have z' := (if_neg q).symm.trans z
        cases z'
    · by_cases q : b = T
      · exact .inr q
      · exact absurd (if_neg q) z
    refine .inr ⟨_, vs.toArray, _, hk, rfl, rfl, rfl, ?_, by simpa using rv⟩
    rw [List.size_toArray, hi.length]
    exact hl
  | none =>
    have e1 : ∀ {p q : Option HO}, (if T = a then p else if T = T then q else none) = q := fun {p q} => by
      rw [if_neg aT.symm, if_pos rfl]
    refine law_goesT KX hns hb hbb hlim hgen hT nT C hbm ha hr F bind
      (fun b => if b = a then some (.frz { cls := .type "list", data := .seq vs.toArray } (.lst (ns.map V.int))) else if b = T then some (.tbl #[]) else none) e1 (fun b => ?_)
      (fun b u z => ?_) (fun b z => ?_) (fun _ => hk)
      (hs _ e1 (.inl (.inr ⟨_, if_pos rfl⟩)))
    · by_cases q : b = a
      · exact .inr (.inr ⟨_, _, if_pos q⟩)
      · by_cases q2 : b = T
        · exact .inr (.inl q2)
        · exact .inl ((if_neg q).trans (if_neg q2))
    · by_cases q : b = a
      · have z' := (if_pos q).symm.trans z
        cases z'
        subst q
        exact ⟨ha, by rw [List.length_map]; exact hl, vs, _, rv, ha⟩
      · by_cases q2 : b = T
        · have z' := ((if_neg q).trans (if_pos q2)).symm.trans z
          cases z'
          subst q2
          exact hT
        · have z' := ((if_neg q).trans (if_neg q2)).symm.trans z
          cases z'
    · by_cases q : b = a
      · exact .inl q
      · by_cases q2 : b = T
        · exact .inr q2
        · exact absurd ((if_neg q).trans (if_neg q2)) z
end

/-- the goal that the head leaves -/
theorem walk_ofT {l : PySem.W.OpenLaw} {n k : Nat} {q : Program}
    {loose : List Str} {XP : (Str → Option Value) → Heap → Prop}
    {YP : World → Heap → Prop} {d : DefRec}
    {K : Params → PySem.W.Frag} {sp : World → Sp} {x : Str} {T : Addr}
    (hn : l.most = some n) (hn2 : n ≤ sizeLine)
    (hdf : d.params.defaults = []) (hr : Room k callerA)
    (hY : ∀ (w : World) (h : Heap), YP w h → (K w.params).In h ∧ h.get? T = some tab0)
    (F : ∀ (w : World) (mg : Str → Option Value) (fa : Addr) (h : Heap),
      (K w.params).In h → h.Ns mainGlobals mg →
      mg d.name = some (.ref fa) →
      ∃ (fd : FuncData) (c : Addr), PySem.W.codeHdIn (K w.params) c T = true ∧ (K w.params).lookup T = none ∧
        (∀ (s : Shared) (u : Value), BindsTo s fd ⟨[u], []⟩ [(x, u)]) ∧
        ∀ base : Heap, (K w.params).In base → base.Ns mainGlobals mg → TabB base mg c T →
          FnG l.prog w (K w.params) mg base k fa fd [x] (sp w))
    (hsp : ∀ (w : World) (H : Hp) (a : Addr) (ns : List Int),
      ns.length ≤ n → H T = some (.tbl #[]) → SqL (K w.params) H a (ns.map V.int) →
      sp w [.ref a] H (fun v _ => v = .bl true) fun _ _ _ => False) :
    PySem.W.WalkO q loose XP YP l.row.toRowW d []
      (fun f vs => PySem.call f vs) := by
  refine Att.attach_call hn hdf ?_
  intro w s₀ s₁ mg mb fa o pm cd doc a vs ns G Y ho hd hcd hmg hobj hints hlen hg
  obtain ⟨KX, hT⟩ := hY w _ Y
  obtain ⟨fd, c, hC, nT, hb, hF⟩ := F w mg fa _ KX G.T.g hmg
  exact law_goesT2 KX G.T.g G.T.b G.T.builtins G.T.nolimit hg hT nT (PySem.W.codeHd_of_K KX hC) G.T.bmain hobj
    hints (Nat.le_trans hlen hn2) hr hF hb
    (fun H hO hS => hsp w H a ns hlen hO hS)

/-- a def of the text whose code object is known -/
structure DefC (K : PySem.W.Frag) (mg : Str → Option Value) (x : Str) (st : Stmt) (ps : List Str) (cd : Value) : Prop where
  ex : ∃ (f : Addr) (oc : Value) (od an : Option Addr) (sl : Array (Option Value)) (kV dc pm ct : Value),
    K.lookup f = some ⟨oc, od, .func (PySem.W.fnOf x x (defArgs st) (defBody st) (defScope st) .none kV dc pm an cd ct), sl⟩ ∧
    PySem.W.codeIn K cd x = true ∧ PySem.W.keepIn K (.ref f) = true ∧ mg x = some (.ref f) ∧
    Binds K (PySem.W.fnOf x x (defArgs st) (defBody st) (defScope st) .none kV dc pm an cd ct) ps []
theorem calOfC {P : Program} {w : World} {K : PySem.W.Frag} {mg : Str → Option Value} {base : Heap} {x : Str} {st : Stmt} {N ps : List Str} {k : Nat} {sp : Sp} {cd : Value}
    (D : DefC K mg x st ps cd) (S : FnScope N ps (defScope st))
    (many : ∀ vs H Q E, sp vs H Q E → vs.length = ps.length)
    (body : ∀ (f : Addr) (A : Around) (outer : List Env) (s : Shared) (H : Hp) (vs : List V) (Q : VK) (E : XK),
      Room k (A.deeper (envOfC x (defScope st) s.heap.objs.size f cd)) → sp vs H Q E →
      ∃ t, PSs (cxOf CX0 P w K mg base N x (defScope st) f cd A outer s H E).nox (defBody st) t ∧ t { nx := fun _ H' => Q .non H', rt := Q } (start N vs) H) :
    C8.Cal P w K mg base (k + 1) x sp [] := by
  obtain ⟨f, oc, od, an, sl, kV, dc, pm, ct, lk, hcd, kp, hm, hb⟩ := D.ex
  refine ⟨f, _, ps, [], ⟨many, fun A outer s H args us vs Q E hr e0 hb r hsp => ?_⟩, hm, kp, hb, .nil⟩
  have hlen := many _ _ _ _ hsp
  have KX : K.In s.heap := e0.mod.kin.keeps fun b o e => (e0.bs b o e).1
  have lim := e0.mod.nolimit.keeps fun b o e => (e0.bs b o e).1
  have kinds : ∀ y ∈ ps.zip us, (defScope st).names.lookup y.1 = some .local ∨
      ((defScope st).names.lookup y.1 = some .cell ∧ ((cellsFrom (s.heap.objs.size + 1) (defScope st).names []).lookup y.1).isSome = true) := by
    rintro ⟨n, v⟩ hy
    cases S.par n (List.of_mem_zip hy).1 with
    | inl q => exact .inl q
    | inr q => exact .inr ⟨q, PySem.W.cellsFrom_some _ _ _ (.inl q)⟩
  refine codeAny_call_function hr.depth (KX _ _ lk) rfl S.co S.gen rfl (PySem.W.codeRec_of KX hcd) (hb _ _ _ _ ?_)
  refine wpAny_newFunctionEnv_cells S.kind kinds fun env he s1 y => ?_
  subst he
  refine ⟨lim.keeps y.toInCall.keep, codeAny_func ?_⟩
  obtain ⟨t, ht, hq⟩ := body f A outer s H vs Q E (hr.deeper _) hsp
  have I := inv_start (CX := CX0) (E := E) S hr.hd e0 hlen r y
  refine wpAny_mono (ht.nox.run [] s1 (start N vs) H _ I hq) (fun fl s' hs => ?_) (fun _ _ hs => hs)
  cases fl with
  | brk => exact (hs.choose_spec.choose_spec.2 : False).elim
  | cont => exact (hs.choose_spec.choose_spec.2 : False).elim
  | next =>
    obtain ⟨_, H', J, q⟩ := hs
    exact ⟨V.non, H', J.os, J.bare, J.base, J.hok, rfl, q⟩
  | ret u =>
    obtain ⟨v, _, H', J, rv, q⟩ := hs
    exact ⟨v, H', J.os, J.bare, J.base, J.hok, rv, q⟩
end Vf

set_option Elab.async false
set_option linter.all false
set_option maxRecDepth 100000
set_option maxHeartbeats 4000000
/-! Own words: an error class of one field; try whose first clause, with a name, takes all that comes. -/
namespace Vf
open PySem PySem.Spec PyProof.Rows L2

/-- the ends behind a suite; what stood in slot i is gone there -/
def clearE (i : Nat) (D : Ends) : Ends :=
  ⟨fun τ G => D.nx (τ.set i none) G, D.rt, fun τ G => D.bk (τ.set i none) G, fun τ G => D.ct (τ.set i none) G⟩
/-- wished of an exception of the body: it is the first clause's -/
def wHd (K : PySem.W.Frag) (c : Value) (i : Nat) (ts : Addr → Value → Option Addr → TS) (D : Ends) : WX :=
  fun z d τ G => PySem.W.exmOne K z c = some true ∧ ∀ a, G a = none → ts a z d (clearE i D) (τ.set i (some (.ref a))) G

section
variable {X : Cx} {x n : Str} {c : Value} {i : Nat} {body suite : List Stmt} {st : Stmt} {np pos q : Pos} {more : List ExceptHandler}
  {tb : WX → TS} {ts : Addr → Value → Option Addr → TS} {D : Ends} {pins : List (Addr × Obj)} {τ : L2.St} {G : Hp} {s : Shared}
/-- the suite runs with the exception in slot i, which is gone behind it -/
theorem hd_suite {a : Addr} {oe : Obj} {z : Value} {d : Option Addr} {vs : Array Value} (nd : X.N.Nodup) (hi : X.N[i]? = some n) (loc : X.env.kindOf n = some .local)
    (run : PSs (X.suite a ((a, oe) :: (X.pn ++ pins))) (st :: suite) (ts a z d)) (J : Inv X pins τ G s)
    {R : Flow → Shared → Prop} {Er Es : Value → Shared → Prop} (hR : ∀ fl t, wpAny (model X.prog X.w) X.A (do bindName X.env n .none; unbindBehindTheSuite X.env n q) (fun _ u => SP X pins D fl u) X.xe t → R fl t)
    (e : s.heap.get? a = some oe) (f : oe.data = .fields vs) (na : G a = none) (nl : a ≠ X.env.locals) (nf : a ∉ X.fs)
    (h : ts a z d (clearE i D) (τ.set i (some (.ref a))) G) :
    wpAny (model X.prog X.w) (X.A.mark (some (.ref a))) (storeName X.env n (.ref a))
      (fun _ t => wpAny (model X.prog X.w) (X.A.mark (some (.ref a))) (execs (st :: suite) X.env) R Er t) Es s := by
  have S := J.suite e f na nl nf
  refine store_ok (X := X.suite a ((a, oe) :: (X.pn ++ pins))) (v := .ref a) S nd hi (.inl loc) rfl (fun t T => ?_) (.inr loc)
  refine wpAny_mono (run.run [] t _ G _ T h) (fun fl u hu => hR fl u ?_) fun _ _ no => no.elim
  have away : ∀ {τ' : L2.St} {G' : Hp}, Inv (X.suite a ((a, oe) :: (X.pn ++ pins))) [] τ' G' u → (∀ u', Inv X pins (τ'.set i none) G' u' → SP X pins D fl u') →
      wpAny (model X.prog X.w) X.A (do bindName X.env n .none; unbindBehindTheSuite X.env n q) (fun _ u' => SP X pins D fl u') X.xe u :=
    fun I' k => gone_ok (I'.unsuite J.ok) nd hi loc k
  cases fl with
  | ret v =>
    obtain ⟨v', τ', G', I', r, w⟩ := hu
    exact away I' fun u' J' => ⟨v', _, G', J', r, w⟩
  | next =>
    obtain ⟨τ', G', I', w⟩ := hu
    exact away I' fun u' J' => ⟨_, G', J', w⟩
  | brk =>
    obtain ⟨τ', G', I', w⟩ := hu
    exact away I' fun u' J' => ⟨_, G', J', w⟩
  | cont =>
    obtain ⟨τ', G', I', w⟩ := hu
    exact away I' fun u' J' => ⟨_, G', J', w⟩
end
end Vf
namespace Vf
open PySem PySem.Spec PyProof.Rows L2
section
variable {X : Cx} {x n : Str} {c : Value} {i : Nat} {body suite : List Stmt} {st : Stmt} {np pos q : Pos} {more : List ExceptHandler}
  {tb : WX → TS} {ts : Addr → Value → Option Addr → TS} {D : Ends} {pins : List (Addr × Obj)} {s : Shared} {e : Value} {xo : Value → Shared → Prop}
/-- an exception that has landed is no frame -/
theorem no_frame {B : Heap} {es : List Env} {h : Heap} {a : Addr} {o : Obj} {vs : Array Value} (fr : h.FunFrames B es) (g : h.get? a = some o) (f : o.data = .fields vs) : a ∉ frs es := fun m => by
  obtain ⟨_, u, g', no⟩ := fr.mem m
  obtain rfl := Option.some.inj (g.symm.trans g')
  exact no _ f
/-- the name of the clause is read -/
theorem hd_name {a : Addr} {oe : Obj} {τ : L2.St} {G : Hp} {Q : Value → Shared → Prop} {Er : Value → Shared → Prop} (hc : Names X x c) (S : Inv (X.suite a ((a, oe) :: (X.pn ++ pins))) [] τ G s) (k : Q c s) :
    wpAny (model X.prog X.w) (X.A.mark (some (.ref a))) (eval (.Name x np) X.env) Q Er s := by
  rcases hc with ⟨gl, nb, own | ⟨free, boot, nn⟩⟩
  · exact ld_glob S gl own k nb
  · exact ld_blt S gl free boot k nn nb
theorem hd_catch (hs : X.stack = X.env :: X.outer) (hf : X.env.frame = some X.env.locals) (nd : X.N.Nodup) (hi : X.N[i]? = some n) (loc : X.env.kindOf n = some .local) (hc : Names X x c) (ok : X.Ok)
    (hsu : ∀ (a : Addr) (oe : Obj) (z : Value) (d : Option Addr) (pn : List (Addr × Obj)), Zc z d oe → (∃ vs, oe.data = .fields vs) → PSs (X.suite a ((a, oe) :: pn)) (st :: suite) (ts a z d))
    (air : XE (X.tr (X.pn ++ pins) xo) (wHd X.K c i ts D) e s) :
    wpAny (model X.prog X.w) X.A (noteFrame e X.env) (fun _ t => wpAny (model X.prog X.w) X.A (setFlight e none)
      (fun _ u => wpAny (model X.prog X.w) X.A (handleBy e X.env (.ExceptHandler (some (.Name x np)) (some n) (st :: suite) q :: more)) (SP X pins D) X.xe u) X.xe t) X.xe s := by
  obtain ⟨a, B, s0, pn, τ, G, z, d, rfl, J0, new, up, sky, na, os, bare, me, go⟩ := air
  have J : Inv X pins τ G s0 := J0.ofTry ok
  have frames : X.A.frames = some (X.env :: X.outer) := ok.frames.trans (congrArg some hs)
  refine Sky.land (B := B) Zc.steady frames hf (by rw [← hs]; exact sky) fun h1 fl1 up1 => ?_
  have J1 : Inv X pins τ G { s with heap := h1 } := J.landed new fl1.1 (up.trans up1) os bare
  obtain ⟨o1, v1, g1, z1, d1⟩ := fl1.there
  have nf := no_frame fl1.2.2.1 g1 d1
  have nl : a ≠ X.env.locals := fun eq => nf (List.mem_filterMap.mpr ⟨X.env, List.mem_cons_self, hf.trans (congrArg some eq.symm)⟩)
  have nfs : a ∉ X.fs := fun m => by
    obtain ⟨en, m1, m2⟩ := List.mem_filterMap.mp m
    exact nf (List.mem_filterMap.mpr ⟨en, List.mem_cons_of_mem _ m1, m2⟩)
  refine wpAny_handleBy_cons (codeAny_handlers_test (hd_name hc (J1.suite g1 d1 na nl nfs) ?_)) (fun no => by cases no)
  have lt : PySem.W.Looks (model X.prog X.w) h1 (typeOf (.ref a)) z := fun _ _ _ _ k w => wpAny_typeOf_ref (k _ _ g1) (by rw [z1.1]; exact w)
  refine (PySem.W.exm_one J1.kIn lt me).here (codeAny_handlers_suite_as (HandSPX.lands_againZ fl1 fun h2 fl2 up2 => ?_))
  obtain ⟨o2, v2, g2, z2, d2⟩ := fl2.there
  have J2 : Inv X pins τ G { s with heap := h2 } := J.landed new fl2.1 ((up.trans up1).trans up2) os bare
  exact hd_suite nd hi loc (hsu a o2 z d (X.pn ++ pins) z2 ⟨_, d2⟩) J2 (fun fl t w => w) g2 d2 na nl nfs (go a na)
/-- try: body, except x as n: suite, and more clauses that nothing comes to -/
theorem ps_try_hd (hs : X.stack = X.env :: X.outer) (hf : X.env.frame = some X.env.locals) (nd : X.N.Nodup) (hi : X.N[i]? = some n) (loc : X.env.kindOf n = some .local) (hc : Names X x c)
    (hb : ∀ (W : WX) (pn : List (Addr × Obj)) (xe : Value → Shared → Prop), Takes (X.tr pn xe) W → PSs (X.tr pn xe) body (tb W))
    (hsu : ∀ (a : Addr) (oe : Obj) (z : Value) (d : Option Addr) (pn : List (Addr × Obj)), Zc z d oe → (∃ vs, oe.data = .fields vs) → PSs (X.suite a ((a, oe) :: pn)) (st :: suite) (ts a z d)) :
    PS X (.Try body (.ExceptHandler (some (.Name x np)) (some n) (st :: suite) q :: more) [] [] pos) (fun D τ G => tb (wHd X.K c i ts D) D τ G) := by
  refine ⟨fun pins s τ G D I h => wpAny_Try_except ?_⟩
  have ok := I.ok
  have run := (hb (wHd X.K c i ts D) (X.pn ++ pins) _ fun u t air => hd_catch (np := np) (q := q) (more := more) hs hf nd hi loc hc ok hsu air).run [] s τ G D (I.toTry _) h
  refine wpAny_mono run (fun fl t w => ?_) fun _ _ w => w
  cases fl with
  | ret v =>
    obtain ⟨v', τ', G', J, r, w⟩ := w
    exact ⟨v', τ', G', J.ofTry ok, r, w⟩
  | next =>
    obtain ⟨τ', G', J, w⟩ := w
    exact wpAny_execs_nil ⟨τ', G', J.ofTry ok, w⟩
  | brk =>
    obtain ⟨τ', G', J, w⟩ := w
    exact ⟨τ', G', J.ofTry ok, w⟩
  | cont =>
    obtain ⟨τ', G', J, w⟩ := w
    exact ⟨τ', G', J.ofTry ok, w⟩
end
end Vf
namespace Vf
open PySem PySem.Spec PyProof.Rows L2
/-- an error class of the text that keeps one thing -/
structure XcT (K : PySem.W.Frag) (mg : Str → Option Value) (x fld : Str) (C fI : Addr) : Prop where
  gl : mg x = some (.ref C)
  cl : OexC K C
  ini : PySem.W.findIn K (.ref C) "__init__" = some (some (.ref fI))
  fn : PySem.W.typeIn K (.ref fI) = some (.type "function")
  no : PySem.W.findIn K (.ref C) fld = some none
  xf : XfC K C
  me : PySem.W.exmOne K (.ref C) (.ref C) = some true
/-- its __init__ -/
def spXi (C : Addr) (fld : Str) : Sp := fun vs H Q _ => ∃ (a : Addr) (v : V), vs = [.ref a, v] ∧ H a = some (exo a C none) ∧
  ∀ d, H d = none → d ≠ a → Q .non (upd (upd H d (exd d [(fld, v)])) a (exo a C (some d)))
theorem xi_ok {P : Program} {w : World} {K : PySem.W.Frag} {mg : Str → Option Value} {base : Heap} {x fld qual : Str} {C fI : Addr} {fd : FuncData} {sI : Stmt} {p1 p2 p3 p4 : Pos}
    (T : XcT K mg x fld C fI) (F : Fun K "__init__" qual sI fI fd) (S : FnScope ["self", fld] ["self", fld] (defScope sI))
    (hb : defBody sI = [.Assign [.Attribute (.Name "self" p1) fld p2] (.Name fld p3) p4])
    (v1 : Vis (defScope sI) "self") (v2 : Vis (defScope sI) fld) (nb : (fld == ("__debug__" : Str)) = false) (nc : (fld == ("__classdict__" : Str)) = false) :
    FnOk P w K mg base CX0 1 fI fd ["self", fld] (spXi C fld) := by
  refine F.ok S (fun vs H Q E h => ?_) (fun cdv A outer s H vs Q E hr h => ?_)
  · obtain ⟨a, v, rfl, _⟩ := h
    rfl
  · obtain ⟨a, v, rfl, ha, k⟩ := h
    rw [hb]
    refine ⟨_, pss_one (ps_ost (f := fld) (pe_var (i := 0) rfl v1 (by decide) (by decide)) (pe_var (i := 1) rfl v2 nb nc)), ?_⟩
    exact ⟨_, rfl, _, rfl, a, C, rfl, T.cl, T.no, .inl ⟨ha, fun d nd ne => k d nd ne⟩⟩
/-- the class, ready to be raised -/
structure XcR (P : Program) (w : World) (K : PySem.W.Frag) (mg : Str → Option Value) (base : Heap) (x fld : Str) (C : Addr) : Prop where
  ex : ∃ (fI : Addr) (fd : FuncData), XcT K mg x fld C fI ∧ FnOk P w K mg base CX0 1 fI fd ["self", fld] (spXi C fld) ∧ Binds K fd ["self", fld] []
theorem ps_raiseX {X : Cx} {W : WX} {x fld : Str} {C : Addr} {k : Nat} {e : Expr} {ta : TA} {p pos pos2 : Pos} (hc : X.calm = true) (R : XcR X.prog X.w X.K X.mg X.base x fld C) (hr : Room k X.A) (h2 : 2 ≤ k) (tk : Takes X W) (ha : PA X [e] ta) (hg : Gl X x := by rfl)
    (hdb : (x == ("__debug__" : Str)) = false := by decide) (he : starEach (e :: []) X.env = (false, eval e X.env) :: starEach [] X.env := by rfl) (hpl : (backTo pos (starEach [] X.env)).any (·.1) = false := by rfl) :
    PS X (.Raise (some (.Call (.Name x p) [e] [] pos)) none pos2) (fun _ σ H => tMkO C (spXi C fld) [] ta σ H fun cls d H' => W cls d σ H') := by
  obtain ⟨fI, fd, T, F, b⟩ := R.ex
  exact ps_raise hc tk (pmk_oex T.cl T.ini T.fn F (hr.mono h2) b .nil pass0 hg T.gl ha hdb he hpl)
/-- what is asked where it is made -/
theorem raiseX_in {C : Addr} {fld : Str} {H1 : Hp} {v : V} {Q : XK} (h : ∀ d H2, Same H1 H2 → H1 d = none → H2 d = some (.xd [(fld, v)]) → Q (.ref C) (some d) H2) :
    [v].length ≤ 1000 ∧ ∀ a, H1 a = none → spXi C fld (.ref a :: ([v] ++ [])) (upd H1 a (exo a C none))
      (fun u H2 => u = .non ∧ ∃ (d : Addr) (fs : List (Str × V)), H2 a = some (exo a C (some d)) ∧ H2 d = some (exd d fs) ∧ H1 d = none ∧ Q (.ref C) (some d) (upd (del H2 a) d (.xd fs))) (fun _ _ _ => False) := by
  refine ⟨Nat.le_trans (Nat.le_refl 1) (by decide), fun a na => ⟨a, v, rfl, upd_same, fun d nd ne => ⟨rfl, d, [(fld, v)], upd_same, ?_, ?_, h d _ (fun b o hb => ?_) ?_ upd_same⟩⟩⟩
  · rw [upd_ne ne, upd_same]
  · rw [upd_ne ne] at nd
    exact nd
  · rw [upd_ne ne] at nd
    rw [upd_ne (ne_of_none hb nd), del_ne (ne_of_none hb na), upd_ne (ne_of_none hb na), upd_ne (ne_of_none hb nd), upd_ne (ne_of_none hb na)]
    exact hb
  · rw [upd_ne ne] at nd
    exact nd
theorem sameT {K : PySem.W.Frag} {H H' : Hp} {a : Addr} {xs : List V} (e : Same H H') (h : SqT K H a xs) : SqT K H' a xs := by
  rcases h with (h | ⟨o, h⟩) | h
  · exact .inl (.inl (e _ _ h))
  · exact .inl (.inr ⟨o, e _ _ h⟩)
  · exact .inr h
/-- what a for walks: a list or a tuple -/
theorem pi_either {X : Cx} {tg l : Expr} {tl : TE} (hl : PE X l tl) : PI X tg l (fun σ H R => iList X.K tl σ H R ∨ iTup X.K tl σ H R) :=
  ⟨fun pins s σ H R I h => h.elim ((pi_list hl).run pins s σ H R I) ((pi_tup hl).run pins s σ H R I)⟩
/-- the turns over either -/
theorem for_either {K : PySem.W.Frag} {a : Addr} {xs : List V} {i : Nat} {g : TG} {tb : TS} {D : Ends} {σ : L2.St} {H0 H : Hp} (hq : SqL K H0 a xs ∨ SqT K H0 a xs) (hi : σ[i]? = some (some (.ref a)))
    (Pv : Nat → L2.St → Hp → Prop) (h0 : Pv 0 σ H) (hl : ∀ i σ' H', Pv i σ' H' → Same H0 H')
    (hs : ∀ i x σ H, xs[i]? = some x → Pv i σ H → g x σ H fun σ2 H2 => tb { D with nx := Pv (i + 1), ct := Pv (i + 1), bk := D.nx } σ2 H2) (hd : ∀ σ H, Pv xs.length σ H → D.nx σ H) :
    tFor (fun σ H R => iList K (tVar i) σ H R ∨ iTup K (tVar i) σ H R) g tb D σ H := by
  rcases hq with hq | hq
  · exact .inl ⟨.ref a, hi, a, rfl, ⟨xs, (hl 0 σ H h0).seq hq⟩, for_list (K := K) (a := a) (xs := xs) Pv h0 (fun j σ' H' _ p => (hl j σ' H' p).seq hq) hs hd⟩
  · exact .inr ⟨.ref a, hi, a, rfl, ⟨xs, sameT (hl 0 σ H h0) hq⟩, for_tup (K := K) (a := a) (xs := xs) Pv h0 (fun j σ' H' _ p => sameT (hl j σ' H' p) hq) hs hd⟩
end Vf
namespace Vf
open PySem PySem.Spec PyProof.Rows L2
/-- a def of the text that may raise -/
structure CalX (P : Program) (w : World) (K : PySem.W.Frag) (mg : Str → Option Value) (base : Heap) (k : Nat) (x : Str) (ps : List Str) (sp : Sp) : Prop where
  ex : ∃ (f : Addr) (fd : FuncData), FnOk P w K mg base (L2.CX P w) k f fd ps sp ∧ mg x = some (.ref f) ∧ PySem.W.keepIn K (.ref f) = true ∧ Binds K fd ps []
theorem calXOf {P : Program} {w : World} {K : PySem.W.Frag} {mg : Str → Option Value} {base : Heap} {x : Str} {st : Stmt} {N ps : List Str} {k : Nat} {sp : Sp}
    (D : DefIn K mg x st ps) (S : FnScope N ps (defScope st)) (many : ∀ vs H Q E, sp vs H Q E → vs.length = ps.length)
    (body : ∀ (f : Addr) (cdv : Value) (A : Around) (outer : List Env) (s : Shared) (H : Hp) (vs : List V) (Q : VK) (E : XK),
      Room k (A.deeper (envOfC x (defScope st) s.heap.objs.size f cdv)) → sp vs H Q E →
      ∃ t, PSs (cxOf (L2.CX P w) P w K mg base N x (defScope st) f cdv A outer s H E) (defBody st) t ∧ t { nx := fun _ H' => Q .non H', rt := Q } (start N vs) H) :
    CalX P w K mg base (k + 1) x ps sp := by
  obtain ⟨f, fd, F, hm, hb⟩ := D.ex
  exact ⟨f, fd, F.okX S many (fun cdv A o s H vs Q E hr h => body f cdv A o s H vs Q E hr h), hm, F.kp, hb⟩
theorem pe_cX {X : Cx} {k j : Nat} {x : Str} {ps : List Str} {sp : Sp} {W : WX} {p pos : Pos} {e : Expr} {es : List Expr} {t : TA} (c : CalX X.prog X.w X.K X.mg X.base k x ps sp) (hr : Room j X.A) (hk : k ≤ j) (hg : Gl X x) (tk : Takes X W) (ha : PA X (e :: es) t)
    (hdb : (x == ("__debug__" : Str)) = false := by decide) (he : starEach (e :: es) X.env = (false, eval e X.env) :: starEach es X.env := by rfl) (hpl : (backTo pos (starEach es X.env)).any (·.1) = false := by rfl) :
    PE X (.Call (.Name x p) (e :: es) [] pos) (tCallS sp (WE W) t) := by
  obtain ⟨f, fd, F, hm, kp, b⟩ := c.ex
  exact pe_callS F (hr.mono hk) hg hm kp b (fun σ => passAt tk σ) ha hdb he hpl
end Vf
namespace Vf
open PySem PySem.Spec PyProof.Rows L2
/-- an error of the class itself is what a clause of it names -/
theorem exm_me {K : PySem.W.Frag} {S : Addr} (sub : PySem.W.subIn K (.ref S) (.type "BaseException") = some true) (is : PySem.W.isClsIn K S = true) (ty : PySem.W.typeIn K (.ref S) = some (.type "type")) (own : PySem.W.subIn K (.ref S) (.ref S) = some true) :
    PySem.W.exmOne K (.ref S) (.ref S) = some true := by
  have is' : (PySem.W.clsIn K S).isSome = true := is
  unfold PySem.W.exmOne PySem.W.kitCls
  simp only [sub, is', ty, own, beq_self_eq_true, Bool.and_self, if_true]
end Vf

set_option Elab.async false
set_option linter.all false
set_option maxRecDepth 100000
set_option maxHeartbeats 4000000
/-! Own words: changes of texts. -/
namespace Vf
open PySem PySem.Spec PyProof.Rows L2
open TL (tl joinL tl_join join_eq)
theorem tl_inj {x y : Str} (h : tl x = tl y) : x = y := Str.ext' (Array.toList_inj.mp h)
theorem tl_cat (x y : Str) : tl (x ++ y) = tl x ++ tl y := by
  show (x ++ y).cps.toList = _
  rw [Str.cps_append, Array.toList_append]
theorem joinL_nil : ∀ l : List (List Nat), joinL [] l = l.flatten
  | [] => rfl
  | [p] => by simp [joinL]
  | p :: q :: r => by
    show p ++ ([] ++ joinL [] (q :: r)) = p ++ (q :: r).flatten
    rw [joinL_nil (q :: r)]
    rfl
theorem tl_glue (l : List Str) : tl (Txt.join "" l) = (l.map tl).flatten := by
  rw [join_eq, tl_join]
  exact joinL_nil _
theorem glue_snoc (l m : List Str) : Txt.join "" (l ++ m) = Txt.join "" l ++ Txt.join "" m := by
  apply tl_inj
  rw [tl_cat, tl_glue, tl_glue, tl_glue, List.map_append, List.flatten_append]
theorem glue_two (l : List Str) (x y : Str) : Txt.join "" (l ++ [x, y]) = Txt.join "" l ++ x ++ y := by
  apply tl_inj
  rw [glue_snoc, tl_cat, tl_cat, tl_cat, tl_glue [x, y]]
  simp
theorem str_len (x : Str) : x.length = (tl x).length := by
  simp [Str.length]
theorem glue_len (l : List Str) : (Txt.join "" l).length = (l.map (·.length)).sum := by
  rw [str_len, tl_glue, List.length_flatten, List.map_map]
  congr 1
theorem sum_le {n : Nat} : ∀ {l : List Str}, (∀ x ∈ l, x.length ≤ n) → (l.map (·.length)).sum ≤ l.length * n
  | [], _ => Nat.zero_le _
  | x :: r, h => by
    have a := h x (List.mem_cons_self ..)
    have b := sum_le fun y hy => h y (List.mem_cons_of_mem _ hy)
    simp only [List.map_cons, List.sum_cons, List.length_cons, Nat.succ_mul]
    omega
/-- signs that can be shown -/
def Nice (x : Str) : Prop := ∀ c ∈ tl x, c < 0x110000
theorem Nice.tame {x : Str} (h : Nice x) : Vf.tame (.str x) = true := by
  show x.cps.all _ = true
  rw [← Array.all_toList, List.all_eq_true]
  exact fun c hc => decide_eq_true (h c hc)
theorem Nice.cat {x y : Str} (a : Nice x) (b : Nice y) : Nice (x ++ y) := fun c hc => by
  rw [tl_cat, List.mem_append] at hc
  exact hc.elim (a c) (b c)
theorem Nice.glue {l : List Str} (h : ∀ x ∈ l, Nice x) : Nice (Txt.join "" l) := fun c hc => by
  rw [tl_glue, List.mem_flatten] at hc
  obtain ⟨p, hp, hc⟩ := hc
  obtain ⟨x, hx, rfl⟩ := List.mem_map.mp hp
  exact h x hx c hc
theorem cut_mem {x : Str} {lo hi : Option Int} {c : Nat} (h : c ∈ tl (cutS x lo hi)) : c ∈ tl x := by
  unfold cutS at h
  simp only [tl] at h ⊢
  first
    | exact List.mem_of_mem_drop (List.mem_of_mem_take (by simpa using h))
    | exact List.mem_of_mem_take (List.mem_of_mem_drop (by simpa using h))
theorem Nice.cut {x : Str} (h : Nice x) (lo hi : Option Int) : Nice (cutS x lo hi) := fun c hc => h c (cut_mem hc)
theorem nice_of {x : Str} (h : (tl x).all (· < 0x110000) = true) : Nice x := fun c hc => of_decide_eq_true (List.all_eq_true.mp h c hc)

/-- a change: its begin, its end, its string -/
structure Ch where
  b : Int
  e : Int
  s : Str
def chD (c : Ch) : PyData := .tuple [.int c.b, .int c.e, .str c.s]
/-- the first change that is refused, l being the end of the one ahead -/
def firstBad (n : Int) : Int → List Ch → Option Ch
  | _, [] => none
  | l, c :: r => if n < c.e ∨ c.b < l then some c else firstBad n c.e r
def stp (t : Str) (p : List Str × Int) (c : Ch) : List Str × Int := (p.1 ++ [cutS t (some p.2) (some c.b), c.s], c.e)
def stAt (t : Str) (cs : List Ch) (i : Nat) : List Str × Int := (cs.take i).foldl (stp t) ([], 0)
theorem stAt_succ {t : Str} {cs : List Ch} {i : Nat} {c : Ch} (h : cs[i]? = some c) : stAt t cs (i + 1) = stp t (stAt t cs i) c := by
  unfold stAt
  rw [List.take_add_one, h, List.foldl_append]
  rfl
theorem drop_at {α : Type} {cs : List α} {i : Nat} {c : α} (h : cs[i]? = some c) : cs.drop i = c :: cs.drop (i + 1) := by
  obtain ⟨hi, e⟩ := List.getElem?_eq_some_iff.mp h
  rw [List.drop_eq_getElem_cons hi, e]
/-- what all make -/
def allCh (t : Str) (cs : List Ch) : Str := Txt.join "" (stAt t cs cs.length).1 ++ cutS t (some (stAt t cs cs.length).2) none
def dueD (t : Str) (cs : List Ch) : PyData := match firstBad t.length 0 cs with
  | some c => .tuple [.str "no change", chD c]
  | none => .tuple [.str "told", .str (allCh t cs)]
theorem due_bad {t : Str} {cs : List Ch} {c : Ch} (h : firstBad t.length 0 cs = some c) : dueD t cs = .tuple [.str "no change", chD c] := by
  unfold dueD
  rw [h]
theorem due_ok {t : Str} {cs : List Ch} (h : firstBad t.length 0 cs = none) : dueD t cs = .tuple [.str "told", .str (allCh t cs)] := by
  unfold dueD
  rw [h]
/-- changes that are not too large -/
structure ChOk (c : Ch) : Prop where
  b : c.b.natAbs ≤ 1000
  e : c.e.natAbs ≤ 1000
  s : c.s.length ≤ 100
  n : Nice c.s
theorem parts_ok {t : Str} (nt : Nice t) (lt : t.length ≤ 1000) {cs : List Ch} (h : ∀ c ∈ cs, ChOk c) : ∀ i, (stAt t cs i).1.length ≤ 2 * i ∧ ∀ x ∈ (stAt t cs i).1, x.length ≤ 1000 ∧ Nice x
  | 0 => ⟨Nat.le_refl _, fun x hx => by cases hx⟩
  | i + 1 => by
    obtain ⟨a, b⟩ := parts_ok nt lt h i
    cases e : cs[i]? with
    | none =>
      have : stAt t cs (i + 1) = stAt t cs i := by
        unfold stAt
        rw [List.take_add_one, e]
        simp
      rw [this]
      exact ⟨by omega, b⟩
    | some c =>
      have k := h c (List.mem_of_getElem? e)
      rw [stAt_succ e]
      refine ⟨?_, fun x hx => ?_⟩
      · show ((stAt t cs i).1 ++ [_, _]).length ≤ _
        rw [List.length_append]
        simp only [List.length_cons, List.length_nil]
        omega
      · rcases List.mem_append.mp (show x ∈ (stAt t cs i).1 ++ [cutS t (some (stAt t cs i).2) (some c.b), c.s] from hx) with hx | hx
        · exact b x hx
        · rcases List.mem_cons.mp hx with rfl | hx
          · exact ⟨Nat.le_trans (cutS_length _ _ _) lt, nt.cut _ _⟩
          · cases List.mem_singleton.mp hx
            exact ⟨Nat.le_trans k.s (by decide), k.n⟩
theorem all_len {t : Str} (nt : Nice t) (lt : t.length ≤ 1000) {cs : List Ch} (h : ∀ c ∈ cs, ChOk c) (lc : cs.length ≤ 100) (i : Nat) (hi : i ≤ cs.length) :
    (Txt.join "" (stAt t cs i).1).length ≤ 200000 ∧ ((stAt t cs i).1.map (·.length)).sum ≤ 200000 := by
  obtain ⟨a, b⟩ := parts_ok nt lt h i
  have z := sum_le fun x hx => (b x hx).1
  rw [glue_len]
  omega
theorem chD_ok {c : Ch} (h : ChOk c) : tame (chD c) = true ∧ (chD c).depth = 1 ∧ wt (chD c) ≤ 2000 := by
  obtain ⟨hb, he, hs, hn⟩ := h
  refine ⟨?_, rfl, ?_⟩
  · show (decide (c.b.natAbs < 10 ^ 30) && (decide (c.e.natAbs < 10 ^ 30) && (tame (.str c.s) && true))) = true
    rw [hn.tame, decide_eq_true (Nat.lt_of_le_of_lt hb (by decide +kernel)), decide_eq_true (Nat.lt_of_le_of_lt he (by decide +kernel))] <;> rfl
  · show 32 + 2 + (32 + 2 + (10 * c.s.length + 2 + 2 + 0)) + 4 ≤ 2000
    omega
theorem firstBad_mem {n : Int} : ∀ {cs : List Ch} {l : Int} {c : Ch}, firstBad n l cs = some c → c ∈ cs
  | [], _, _, h => by cases h
  | x :: r, l, c, h => by
    unfold firstBad at h
    split at h
    · cases h
      exact List.mem_cons_self ..
    · exact List.mem_cons_of_mem _ (firstBad_mem h)
theorem due_okd {t : Str} (nt : Nice t) (lt : t.length ≤ 1000) {cs : List Ch} (h : ∀ c ∈ cs, ChOk c) (lc : cs.length ≤ 100) : OkD (dueD t cs) := by
  cases e : firstBad t.length 0 cs with
  | some c =>
    rw [due_bad e]
    obtain ⟨a1, a2, a3⟩ := chD_ok (h c (firstBad_mem e))
    refine ⟨?_, ?_, ?_⟩
    · show (tame (.str "no change") && (tame (chD c) && true)) = true
      rw [a1, show tame (.str "no change") = true by decide +kernel] <;> rfl
    · show max 0 (max (chD c).depth 0) + 1 ≤ 60
      rw [a2]
      decide
    · show 10 * ("no change" : Str).length + 2 + 2 + (wt (chD c) + 2 + 0) + 4 ≤ 16000000
      rw [show (("no change" : Str)).length = 9 from rfl]
      omega
  | none =>
    rw [due_ok e]
    obtain ⟨p1, p2⟩ := parts_ok nt lt h cs.length
    have q := (all_len nt lt h lc cs.length (Nat.le_refl _)).1
    have nn : Nice (allCh t cs) := (Nice.glue fun x hx => (p2 x hx).2).cat (nt.cut _ _)
    have ll : (allCh t cs).length ≤ 201000 := by
      unfold allCh
      have := cutS_length t (some (stAt t cs cs.length).2) none
      rw [Str.length_append]
      omega
    refine ⟨?_, Nat.le_trans (Nat.le_refl 1) (by decide), ?_⟩
    · show (tame (.str "told") && (tame (.str (allCh t cs)) && true)) = true
      rw [nn.tame, show tame (.str "told") = true by decide +kernel] <;> rfl
    · show 10 * ("told" : Str).length + 2 + 2 + (10 * (allCh t cs).length + 2 + 2 + 0) + 4 ≤ 16000000
      rw [show (("told" : Str)).length = 4 from rfl]
      omega
theorem chs_okd : ∀ {cs : List Ch}, (∀ c ∈ cs, ChOk c) → tameAll (cs.map chD) = true ∧ PyData.depthAll (cs.map chD) ≤ 1 ∧ wtAll (cs.map chD) ≤ cs.length * 2002
  | [], _ => ⟨rfl, Nat.zero_le _, Nat.le_refl _⟩
  | c :: r, h => by
    obtain ⟨a1, a2, a3⟩ := chD_ok (h c (List.mem_cons_self ..))
    obtain ⟨b1, b2, b3⟩ := chs_okd fun x hx => h x (List.mem_cons_of_mem _ hx)
    refine ⟨?_, ?_, ?_⟩
    · show (tame (chD c) && tameAll (r.map chD)) = true
      rw [a1, b1] <;> rfl
    · show max (chD c).depth (PyData.depthAll (r.map chD)) ≤ 1
      rw [a2]
      omega
    · show wt (chD c) + 2 + wtAll (r.map chD) ≤ (r.length + 1) * 2002
      omega
/-- what stands there for a change -/
theorem ch_at {H : Hp} {v : V} {c : Ch} (t : Tr H v (chD c)) : ∃ q, v = .ref q ∧ H q = some (.tup [.int c.b, .int c.e, .str c.s]) := by
  unfold chD at t
  cases t with
  | tup h r =>
    cases r with
    | cons h1 r =>
      cases h1
      cases r with
      | cons h2 r =>
        cases h2
        cases r with
        | cons h3 r =>
          cases h3
          cases r
          exact ⟨_, rfl, h⟩
theorem chs_at {H : Hp} {xs : List V} {cs : List Ch} (t : TrAll H xs (cs.map chD)) {i : Nat} {y : V} (h : xs[i]? = some y) : ∃ c q, cs[i]? = some c ∧ y = .ref q ∧ H q = some (.tup [.int c.b, .int c.e, .str c.s]) ∧ Tr H y (chD c) := by
  obtain ⟨d, hd, ty⟩ := t.get h
  rw [List.getElem?_map] at hd
  obtain ⟨c, hc, rfl⟩ := Option.map_eq_some_iff.mp hd
  obtain ⟨q, rfl, hq⟩ := ch_at ty
  exact ⟨c, q, hc, rfl, hq, ty⟩
end Vf
namespace Vf
open PySem PySem.Spec PyProof.Rows L2
/-- a text, and the changes of it in a list or a tuple -/
structure Chs (K : PySem.W.Frag) (H : Hp) (t : Str) (a : Addr) (xs : List V) (cs : List Ch) : Prop where
  sq : SqL K H a xs ∨ SqT K H a xs
  tr : TrAll H xs (cs.map chD)
  nt : Nice t
  lt : t.length ≤ 1000
  ok : ∀ c ∈ cs, ChOk c
  lc : cs.length ≤ 100
theorem Chs.len {K : PySem.W.Frag} {H : Hp} {t : Str} {a : Addr} {xs : List V} {cs : List Ch} (h : Chs K H t a xs cs) : xs.length = cs.length := by
  rw [h.tr.len, List.length_map]
theorem Chs.same {K : PySem.W.Frag} {H H' : Hp} {t : Str} {a : Addr} {xs : List V} {cs : List Ch} (h : Chs K H t a xs cs) (s : Same H H') : Chs K H' t a xs cs :=
  ⟨h.sq.elim (fun q => .inl (s.seq q)) (fun q => .inr (sameT s q)), h.tr.keep (Tk.of s), h.nt, h.lt, h.ok, h.lc⟩
def spAllX (K : PySem.W.Frag) (C : Addr) : Sp := fun vs H Q E => ∃ (t : Str) (a : Addr) (xs : List V) (cs : List Ch), vs = [.str t, .ref a] ∧ Chs K H t a xs cs ∧
  (∀ c v d H', firstBad t.length 0 cs = some c → Tr H' v (chD c) → Same H H' → H' d = some (.xd [(("change" : Str), v)]) → E (.ref C) (some d) H') ∧
  (firstBad t.length 0 cs = none → ∀ H', Same H H' → Q (.str (allCh t cs)) H')
/-- told, or refused -/
def spDue (K : PySem.W.Frag) : Sp := fun vs H Q _ => ∃ (t : Str) (a : Addr) (xs : List V) (cs : List Ch), vs = [.str t, .ref a] ∧ Chs K H t a xs cs ∧
  ∀ v H', Same H H' → Tr H' v (dueD t cs) → Q v H'
def spAllC (K : PySem.W.Frag) : Sp := fun vs H Q _ => ∃ (t : Str) (a : Addr) (xs : List V) (cs : List Ch), vs = [.str t, .ref a] ∧ Chs K H t a xs cs ∧ ∀ H', Same H H' → Q (.str (allCh t cs)) H'
end Vf
namespace Vf
open PySem PySem.Spec PyProof.Rows L2
/-- one of some written things -/
theorem pick_of {K : PySem.W.Frag} {g : Bg} {H1 : Hp} {c e : Int} {l : List V} {p : Addr} {Q : VK} (B : Bag H1 g c e) (hp : H1 p = none) (h0 : 0 < l.length) (h1 : l.length < 1000)
    (k : ∀ v H3, v ∈ l → Drawn g H1 H3 c e → Q v H3) : spOne K [.ref g.b, .ref p] (upd H1 p (.lst l)) Q E0 :=
  ⟨g, _, c, e, rfl, B.new hp, .inl ⟨p, l, rfl, .inl (SqL.of upd_same), B.ne_new hp, h0, h1, fun v H3 hv D => k v H3 hv (((Drawn.of B).new hp).trans D)⟩⟩
theorem strs_in {l : List Str} {v : V} (h : v ∈ l.map V.str) : ∃ z, z ∈ l ∧ v = .str z := by
  obtain ⟨z, hz, rfl⟩ := List.mem_map.mp h
  exact ⟨z, hz, rfl⟩
theorem ints_in {l : List Int} {v : V} (h : v ∈ l.map V.int) : ∃ z, z ∈ l ∧ v = .int z := by
  obtain ⟨z, hz, rfl⟩ := List.mem_map.mp h
  exact ⟨z, hz, rfl⟩
theorem TrAll.set' {H : Hp} {v : V} {d : PyData} (t : Tr H v d) : ∀ {vs : List V} {ds : List PyData} (j : Nat), TrAll H vs ds → TrAll H (vs.set j v) (ds.set j d)
  | _, _, _, .nil => .nil
  | _, _, 0, .cons _ r => .cons t r
  | _, _, j + 1, .cons h r => .cons h (TrAll.set' t j r)
theorem tr_due {H : Hp} {v : V} {t : Str} {cs : List Ch} (h : Tr H v (dueD t cs)) : ∃ p, v = .ref p := by
  cases e : firstBad t.length 0 cs with
  | some c =>
    rw [due_bad e] at h
    cases h
    exact ⟨_, rfl⟩
  | none =>
    rw [due_ok e] at h
    cases h
    exact ⟨_, rfl⟩
theorem lst_okd {cs : List Ch} (h : ∀ c ∈ cs, ChOk c) (l : cs.length ≤ 100) : OkD (.list (cs.map chD)) ∧ OkD (.tuple (cs.map chD)) := by
  obtain ⟨a, b, c⟩ := chs_okd h
  refine ⟨⟨a, ?_, ?_⟩, ⟨a, ?_, ?_⟩⟩
  · show PyData.depthAll (cs.map chD) + 1 ≤ 60
    omega
  · show wtAll (cs.map chD) + 4 ≤ 16000000
    omega
  · show PyData.depthAll (cs.map chD) + 1 ≤ 60
    omega
  · show wtAll (cs.map chD) + 4 ≤ 16000000
    omega
/-- where the item stood -/
theorem at_of_ix {α : Type} {xs : List α} {r : Int} (h0 : 0 ≤ r) (h1 : r < (xs.length : Int)) : ∃ (j : Nat) (v : α), xs[j]? = some v ∧ atI xs r = some v ∧ ixN xs.length r = some j := by
  obtain ⟨j, rfl⟩ := Int.eq_ofNat_of_zero_le h0
  have hj : j < xs.length := by omega
  refine ⟨j, xs[j], List.getElem?_eq_getElem hj, atI_nat (j := j) (List.getElem?_eq_getElem hj), ?_⟩
  first
    | exact ixN_nat hj
    | (unfold ixN; simp [hj])
theorem chs_set {cs : List Ch} {c : Ch} (j : Nat) (h : ∀ x ∈ cs, ChOk x) (hc : ChOk c) : ∀ x ∈ cs.set j c, ChOk x := fun x hx => by
  rcases List.mem_or_eq_of_mem_set hx with q | q
  · exact h x q
  · rw [q]
    exact hc
end Vf

set_option Elab.async false
set_option linter.all false
set_option maxRecDepth 100000
set_option maxHeartbeats 4000000
/-! The end of a law some of whose defs make lambdas: their code objects and the tables of what they made, in a list. -/
namespace Vf
open PySem PySem.Spec PyProof.Rows L2
open LamX (CodeO TabS Tabs ExtN TabB)
abbrev tabE : Obj := { cls := .none, data := .fields #[] }
section
variable {P : Program} {w : World} {K : PySem.W.Frag}
  {mg mb : Str → Option Value} {k : Nat} {fa a : Addr} {fd : FuncData}
  {x : Str} {sp : Sp} {s₁ : Shared} {vs : List Value} {ns : List Int} {L : List (Addr × Addr)}

theorem law_goesY {S : Prop} (hS : S → ∃ (o : Obj) (es : Array DictEntry) (n : Nat), s₁.heap.get? sysModules = some o ∧ o.cls = .type "dict" ∧ o.data = .dict es n) (KX : K.In s₁.heap)
    (hns : s₁.heap.Ns mainGlobals mg) (hb : s₁.heap.Ns builtinsNs mb)
    (hbb : ∀ y : Str, y ≠ "__name__" → mb y = bootBuiltins y)
    (hlim : s₁.heap.NoLimit) (hgen : s₁.gens = #[])
    (hT : ∀ p ∈ L, s₁.heap.get? p.2 = some tabE ∧ K.lookup p.2 = none ∧ PySem.W.CodeHd s₁.heap p.1 p.2)
    (hbm : ∃ (bm : Addr) (ob : Obj), mg "__builtins__" = some (.ref bm) ∧ bm ≠ builtinsNs ∧ s₁.heap.get? bm = some ob ∧ ob.cls = .type "module" ∧ ob.dict = some builtinsNs ∧ ob.data = .plain)
    (ha : s₁.heap.get? a =
      some { cls := .type "list", data := .seq vs.toArray })
    (hr : Room k callerA)
    (F : ∀ base : Heap, K.In base → base.Ns mainGlobals mg → (S → ∃ o, base.get? sysModules = some o ∧ o.cls = .type "dict") → (∀ p ∈ L, TabB base mg p.1 p.2) →
      FnG P w K mg base k fa fd [x] sp)
    (bind : ∀ (s : Shared) (u : Value),
      BindsTo s fd ⟨[u], []⟩ [(x, u)])
    (H : Hp) (hHT : ∀ p ∈ L, H p.2 = some (.tbl #[])) (hO : ∀ b, H b = none ∨ (∃ p ∈ L, b = p.2) ∨ ∃ o xs, H b = some (.frz o (.lst xs))) (ok : HOk P w H s₁.heap)
    (alone : ∀ b, H b ≠ none → b = a ∨ ∃ p ∈ L, b = p.2)
    (notK : H a ≠ none → K.lookup a = none)
    (hs : sp [.ref a] H (fun v _ => v = .bl true) fun _ _ _ => False) :
    codeAny (model P w) callerA (.call (.ref fa) ⟨[.ref a], []⟩)
      (LawEnd s₁) s₁ := by
  have free : ∀ {b : Addr} {o : Obj}, s₁.heap.get? b = some o → (∀ xs n, o.data ≠ .seq xs n) → o.data ≠ .fields #[] → H b = none := by
    intro b o e d1 d2
    cases q : H b with
    | none => rfl
    | some u =>
      rcases alone b (by rw [q]; exact Option.some_ne_none u) with z | ⟨p, hp, z⟩
      · rw [z, ha] at e
        cases e
        exact absurd rfl (d1 _ _)
      · rw [z, (hT p hp).1] at e
        cases e
        exact absurd rfl d2
  have ns' : ∀ {b : Addr} {m : Str → Option Value},
      s₁.heap.Ns b m → (hidT s₁.heap H).Ns b m := by
    rintro b m ⟨o, es, ep, e, d, r⟩
    refine ⟨o, es, ep, hidT_get e (free e (fun xs n z => ?_) fun z => ?_), d, r⟩
    · rw [d] at z
      cases z
    · rw [d] at z
      cases z
  have kin : K.In (hidT s₁.heap H) := by
    intro b o e
    refine hidT_get (KX b o e) ?_
    cases q : H b with
    | none => rfl
    | some u =>
      rcases alone b (by rw [q]; exact Option.some_ne_none u) with z | ⟨p, hp, z⟩
      · have z2 := notK (by rw [← z, q]; exact Option.some_ne_none u)
        rw [z, z2] at e
        cases e
      · rw [z, (hT p hp).2.1] at e
        cases e
  have lim' : (hidT s₁.heap H).NoLimit := by
    obtain ⟨mc, h1, h2⟩ := hlim
    exact ⟨mc, ns' h1, h2⟩
  have M : Mod K mg (hidT s₁.heap H) :=
    ⟨kin, ns' hns, ⟨mb, ns' hb, hbb⟩, lim'⟩
  have TB : ∀ p ∈ L, TabB (hidT s₁.heap H) mg p.1 p.2 := fun p hp => by
    obtain ⟨eT, nT, C⟩ := hT p hp
    have notMain : mainGlobals ≠ p.2 := fun z => by
      obtain ⟨o, es, ep, e, d, _⟩ := hns
      rw [z, eT] at e
      cases e
      cases d
    refine ⟨?_, ?_, notMain⟩
    · obtain ⟨o, us, fl, tf, fg, tg, inF, tx, tt, e, r1, r2, r3, rest⟩ := C
      refine ⟨o, us, fl, tf, fg, tg, inF, tx, tt, hidT_get e (free e (fun xs n z => ?_) fun z => ?_), r1, r2, r3, rest⟩
      · rw [r2] at z
        cases z
      · rw [r2] at z
        cases z
        simp at r3
    · obtain ⟨bm, ob, m1, m2, m3, m4, m5, m6⟩ := hbm
      refine ⟨bm, ob, m1, m2, fun z => ?_, fun z => ?_, hidT_get m3 (free m3 (fun xs n z => ?_) fun z => ?_), m4, m5, m6⟩
      · obtain ⟨o, es, ep, e, d, _⟩ := hns
        rw [z, e] at m3
        cases m3
        rw [m6] at d
        cases d
      · rw [z, eT] at m3
        cases m3
        cases m6
      · rw [m6] at z
        cases z
      · rw [m6] at z
        cases z
  have sb : S → ∃ o, (hidT s₁.heap H).get? sysModules = some o ∧ o.cls = .type "dict" := fun h => by
    obtain ⟨o, es, n, e, c, d⟩ := hS h
    refine ⟨o, hidT_get e (free e (fun xs n z => ?_) fun z => ?_), c⟩
    · rw [d] at z
      cases z
    · rw [d] at z
      cases z
  have none_in : ∀ b : Addr, b ∉ ([] : List Addr) := fun b => by simp
  have env : Env0 P w K mg (hidT s₁.heap H) callerA [] s₁ H :=
    ⟨rfl, M, fun b o e => of_hidT e, Nat.le_of_eq (hidT_size _ _),
      trivial, fun b z => absurd z (none_in b), ok, .of_eq hgen⟩
  refine codeAny_mono ((F _ kin (ns' hns) sb TB).go callerA [] s₁ H
    ⟨[.ref a], []⟩ [.ref a] [.ref a] _ _ hr rfl env
    (bind s₁ (.ref a)) (.cons rfl .nil) hs) ?_
  intro r s' h
  cases r with
  | error e => exact (h : False).elim
  | ok fl =>
    cases fl with
    | next => exact (h : False).elim
    | brk => exact (h : False).elim
    | cont => exact (h : False).elim
    | ret u =>
      obtain ⟨v, H', os, bare, un, ok', rv, q⟩ := h
      obtain rfl : v = .bl true := q
      obtain rfl : u = Value.bool true := rv
      have same : ∀ b o, (∀ p ∈ L, b ≠ p.2) → s₁.heap.get? b = some o → s'.heap.get? b = some o := by
        intro b o nb e
        cases q : H b with
        | none => exact un.keep b o e q (none_in b) (none_in b)
        | some u =>
          rcases hO b with z | ⟨p, hp, z⟩ | ⟨ob, xs, z⟩
          · rw [q] at z
            cases z
          · exact absurd z (nb p hp)
          · obtain ⟨e1, _⟩ := ok b _ z
            obtain ⟨e2, _⟩ := ok' b _ (un.frzs b ob _ z)
            rw [e] at e1
            cases e1
            exact e2
      have grown : ∀ p ∈ L, ∃ more, s'.heap.get? p.2 = some { cls := .none, data := .fields (#[] ++ more) } := fun p hp => by
        obtain ⟨more, z⟩ := un.tbls p.2 #[] (hHT p hp)
        exact ⟨more, ok' p.2 _ z⟩
      refine ⟨rfl, ⟨fun b o e => ?_, fun b o e => ?_⟩, os, bare⟩
      · by_cases nb : ∀ p ∈ L, b ≠ p.2
        · exact .inl (same b o nb e)
        · obtain ⟨p, hz⟩ := Classical.not_forall.mp nb
          obtain ⟨hp, e2⟩ := Classical.not_imp.mp hz
          obtain rfl := Classical.not_not.mp e2
          obtain ⟨more, g⟩ := grown p hp
          rw [(hT p hp).1] at e
          cases e
          exact .inr (.inl ⟨((hT p hp).2.2.tab (hT p hp).1).isCodeTable, rfl, #[], more, rfl, g⟩)
      · by_cases nb : ∀ p ∈ L, b ≠ p.2
        · exact ⟨o, same b o nb e⟩
        · obtain ⟨p, hz⟩ := Classical.not_forall.mp nb
          obtain ⟨hp, e2⟩ := Classical.not_imp.mp hz
          obtain rfl := Classical.not_not.mp e2
          obtain ⟨more, g⟩ := grown p hp
          exact ⟨_, g⟩

theorem law_goesY2 {S : Prop} (hS : S → ∃ (o : Obj) (es : Array DictEntry) (n : Nat), s₁.heap.get? sysModules = some o ∧ o.cls = .type "dict" ∧ o.data = .dict es n) (KX : K.In s₁.heap)
    (hns : s₁.heap.Ns mainGlobals mg) (hb : s₁.heap.Ns builtinsNs mb)
    (hbb : ∀ y : Str, y ≠ "__name__" → mb y = bootBuiltins y)
    (hlim : s₁.heap.NoLimit) (hgen : s₁.gens = #[])
    (hT : ∀ p ∈ L, s₁.heap.get? p.2 = some tabE ∧ K.lookup p.2 = none ∧ PySem.W.CodeHd s₁.heap p.1 p.2)
    (hbm : ∃ (bm : Addr) (ob : Obj), mg "__builtins__" = some (.ref bm) ∧ bm ≠ builtinsNs ∧ s₁.heap.get? bm = some ob ∧ ob.cls = .type "module" ∧ ob.dict = some builtinsNs ∧ ob.data = .plain)
    (ha : s₁.heap.get? a =
      some { cls := .type "list", data := .seq vs.toArray })
    (hi : IntsAre vs ns) (hl : ns.length ≤ sizeLine)
    (hr : Room k callerA)
    (F : ∀ base : Heap, K.In base → base.Ns mainGlobals mg → (S → ∃ o, base.get? sysModules = some o ∧ o.cls = .type "dict") → (∀ p ∈ L, TabB base mg p.1 p.2) →
      FnG P w K mg base k fa fd [x] sp)
    (bind : ∀ (s : Shared) (u : Value),
      BindsTo s fd ⟨[u], []⟩ [(x, u)])
    (hs : ∀ H : Hp, (∀ p ∈ L, H p.2 = some (.tbl #[])) → SqL K H a (ns.map V.int) →
      sp [.ref a] H (fun v _ => v = .bl true) fun _ _ _ => False) :
    codeAny (model P w) callerA (.call (.ref fa) ⟨[.ref a], []⟩)
      (LawEnd s₁) s₁ := by
  have rv := vals_ints hi
  have aT : a ∉ L.map (·.2) := fun z => by
    obtain ⟨p, hp, e⟩ := List.mem_map.mp z
    have e2 := (hT p hp).1
    rw [e, ha] at e2
    cases e2
  have into : ∀ {p : Addr × Addr}, p ∈ L → p.2 ∈ L.map (·.2) := fun hp => List.mem_map.mpr ⟨_, hp, rfl⟩
  have out : ∀ {b : Addr}, b ∈ L.map (·.2) → ∃ p ∈ L, b = p.2 := fun h => by
    obtain ⟨p, hp, e⟩ := List.mem_map.mp h
    exact ⟨p, hp, e.symm⟩
  cases hk : K.lookup a with
  | some o =>
    have e := KX a o hk
    rw [ha] at e
    cases e
    refine law_goesY hS KX hns hb hbb hlim hgen hT hbm ha hr F bind
      (fun b => if b ∈ L.map (·.2) then some (.tbl #[]) else none) (fun p hp => if_pos (into hp)) (fun b => ?_) (fun b u z => ?_)
      (fun b z => ?_) (fun z => absurd (if_neg aT) z) (hs _ (fun p hp => if_pos (into hp)) ?_)
    · by_cases q : b ∈ L.map (·.2)
      · exact .inr (.inl (out q))
      · exact .inl (if_neg q)
    · by_cases q : b ∈ L.map (·.2)
      · have z' := (if_pos q).symm.trans z
        cases z'
        obtain ⟨p, hp, rfl⟩ := out q
        exact (hT p hp).1
      · have z' := (if_neg q).symm.trans z
        cases z'
    · by_cases q : b ∈ L.map (·.2)
      · exact .inr (out q)
      · exact absurd (if_neg q) z
    refine .inr ⟨_, vs.toArray, _, hk, rfl, rfl, rfl, ?_, by simpa using rv⟩
    rw [List.size_toArray, hi.length]
    exact hl
  | none =>
    have e1 : ∀ p ∈ L, ∀ {u v : Option HO}, (if p.2 = a then u else if p.2 ∈ L.map (·.2) then v else none) = v := fun p hp {u v} => by
      rw [if_neg (fun z => aT (by rw [← z]; exact into hp)), if_pos (into hp)]
    refine law_goesY hS KX hns hb hbb hlim hgen hT hbm ha hr F bind
      (fun b => if b = a then some (.frz { cls := .type "list", data := .seq vs.toArray } (.lst (ns.map V.int))) else if b ∈ L.map (·.2) then some (.tbl #[]) else none) (fun p hp => e1 p hp) (fun b => ?_)
      (fun b u z => ?_) (fun b z => ?_) (fun _ => hk)
      (hs _ (fun p hp => e1 p hp) (.inl (.inr ⟨_, if_pos rfl⟩)))
    · by_cases q : b = a
      · exact .inr (.inr ⟨_, _, if_pos q⟩)
      · by_cases q2 : b ∈ L.map (·.2)
        · exact .inr (.inl (out q2))
        · exact .inl ((if_neg q).trans (if_neg q2))
    · by_cases q : b = a
      · have z' := (if_pos q).symm.trans z
        cases z'
        subst q
        exact ⟨ha, by rw [List.length_map]; exact hl, vs, _, rv, ha⟩
      · by_cases q2 : b ∈ L.map (·.2)
        · have z' := ((if_neg q).trans (if_pos q2)).symm.trans z
          cases z'
          obtain ⟨p, hp, rfl⟩ := out q2
          exact (hT p hp).1
        · have z' := ((if_neg q).trans (if_neg q2)).symm.trans z
          cases z'
    · by_cases q : b = a
      · exact .inl q
      · by_cases q2 : b ∈ L.map (·.2)
        · exact .inr (out q2)
        · exact absurd ((if_neg q).trans (if_neg q2)) z
end

/-- the goal that the head leaves -/
theorem walk_ofX {l : PySem.W.OpenLaw} {n k : Nat} {q : Program}
    {loose : List Str} {XP : (Str → Option Value) → Heap → Prop}
    {S : Prop} {YP : World → Heap → Prop} {d : DefRec}
    {K : Params → PySem.W.Frag} {sp : World → Sp} {x : Str} {Ts : List Addr}
    (hn : l.most = some n) (hn2 : n ≤ sizeLine)
    (hdf : d.params.defaults = []) (hr : Room k callerA)
    (hY : ∀ (w : World) (h : Heap), YP w h → ((K w.params).In h ∧ ∀ T ∈ Ts, h.get? T = some tabE) ∧ (S → ∃ (o : Obj) (es : Array DictEntry) (n : Nat), h.get? sysModules = some o ∧ o.cls = .type "dict" ∧ o.data = .dict es n))
    (F : ∀ (w : World) (mg : Str → Option Value) (fa : Addr) (h : Heap),
      (K w.params).In h → h.Ns mainGlobals mg →
      mg d.name = some (.ref fa) →
      ∃ (fd : FuncData) (L : List (Addr × Addr)), (∀ p ∈ L, PySem.W.codeHdIn (K w.params) p.1 p.2 = true ∧ (K w.params).lookup p.2 = none) ∧ L.map (·.2) = Ts ∧
        (∀ (s : Shared) (u : Value), BindsTo s fd ⟨[u], []⟩ [(x, u)]) ∧
        ∀ base : Heap, (K w.params).In base → base.Ns mainGlobals mg → (S → ∃ o, base.get? sysModules = some o ∧ o.cls = .type "dict") → (∀ p ∈ L, TabB base mg p.1 p.2) →
          FnG l.prog w (K w.params) mg base k fa fd [x] (sp w))
    (hsp : ∀ (w : World) (H : Hp) (a : Addr) (ns : List Int),
      ns.length ≤ n → (∀ T ∈ Ts, H T = some (.tbl #[])) → SqL (K w.params) H a (ns.map V.int) →
      sp w [.ref a] H (fun v _ => v = .bl true) fun _ _ _ => False) :
    PySem.W.WalkO q loose XP YP l.row.toRowW d []
      (fun f vs => PySem.call f vs) := by
  refine Att.attach_call hn hdf ?_
  intro w s₀ s₁ mg mb fa o pm cd doc a vs ns G Y ho hd hcd hmg hobj hints hlen hg
  obtain ⟨⟨KX, hT⟩, hS⟩ := hY w _ Y
  obtain ⟨fd, L, hC, hL, hb, hF⟩ := F w mg fa _ KX G.T.g hmg
  refine law_goesY2 hS KX G.T.g G.T.b G.T.builtins G.T.nolimit hg (L := L) (fun p hp => ⟨hT p.2 (hL ▸ List.mem_map.mpr ⟨p, hp, rfl⟩), (hC p hp).2, PySem.W.codeHd_of_K KX (hC p hp).1⟩) G.T.bmain hobj
    hints (Nat.le_trans hlen hn2) hr hF hb
    (fun H hO hS => hsp w H a ns hlen (fun T hT => ?_) hS)
  rw [← hL] at hT
  obtain ⟨p, hp, rfl⟩ := List.mem_map.mp hT
  exact hO p hp
/-- the goal that the head leaves -/
theorem walk_ofY {l : PySem.W.OpenLaw} {n k : Nat} {q : Program}
    {loose : List Str} {XP : (Str → Option Value) → Heap → Prop}
    {YP : World → Heap → Prop} {d : DefRec}
    {K : Params → PySem.W.Frag} {sp : World → Sp} {x : Str} {Ts : List Addr}
    (hn : l.most = some n) (hn2 : n ≤ sizeLine)
    (hdf : d.params.defaults = []) (hr : Room k callerA)
    (hY : ∀ (w : World) (h : Heap), YP w h → (K w.params).In h ∧ ∀ T ∈ Ts, h.get? T = some tabE)
    (F : ∀ (w : World) (mg : Str → Option Value) (fa : Addr) (h : Heap),
      (K w.params).In h → h.Ns mainGlobals mg →
      mg d.name = some (.ref fa) →
      ∃ (fd : FuncData) (L : List (Addr × Addr)), (∀ p ∈ L, PySem.W.codeHdIn (K w.params) p.1 p.2 = true ∧ (K w.params).lookup p.2 = none) ∧ L.map (·.2) = Ts ∧
        (∀ (s : Shared) (u : Value), BindsTo s fd ⟨[u], []⟩ [(x, u)]) ∧
        ∀ base : Heap, (K w.params).In base → base.Ns mainGlobals mg → (∀ p ∈ L, TabB base mg p.1 p.2) →
          FnG l.prog w (K w.params) mg base k fa fd [x] (sp w))
    (hsp : ∀ (w : World) (H : Hp) (a : Addr) (ns : List Int),
      ns.length ≤ n → (∀ T ∈ Ts, H T = some (.tbl #[])) → SqL (K w.params) H a (ns.map V.int) →
      sp w [.ref a] H (fun v _ => v = .bl true) fun _ _ _ => False) :
    PySem.W.WalkO q loose XP YP l.row.toRowW d []
      (fun f vs => PySem.call f vs) :=
  walk_ofX (S := False) hn hn2 hdf hr (fun w h y => ⟨hY w h y, fun f => f.elim⟩)
    (fun w mg fa h a b c => by
      obtain ⟨fd, L, h1, h2, h3, h4⟩ := F w mg fa h a b c
      exact ⟨fd, L, h1, h2, h3, fun base p q _ t => h4 base p q t⟩) hsp
/-- a hook that also looks at sys.modules -/
def sysHook (k : PySem.W.Hook) : PySem.W.Hook where
  α := k.α × Option (Value × Bool)
  obs := fun s => (k.obs s, (s.heap.get? sysModules).map fun o => (o.cls, match o.data with | .dict _ _ => true | _ => false))
  val := fun w => (k.val w, some (.type "dict", true))
  says := fun w h => k.says w h ∧ ∃ (o : Obj) (es : Array DictEntry) (n : Nat), h.get? sysModules = some o ∧ o.cls = .type "dict" ∧ o.data = .dict es n
  of := fun w s x => ⟨k.of w s (Prod.mk.inj x).1, by
    have y := (Prod.mk.inj x).2
    cases e : s.heap.get? sysModules with
    | none =>
      rw [e] at y
      cases y
    | some o =>
      rw [e] at y
      have y1 := (Prod.mk.inj (Option.some.inj y)).1
      have y2 := (Prod.mk.inj (Option.some.inj y)).2
      cases d : o.data with
      | dict es n => exact ⟨o, es, n, rfl, y1, d⟩
      | _ =>
        rw [d] at y2
        cases y2⟩
  keeps := fun w h h' x k2 => ⟨k.keeps w h h' x.1 k2, by
    obtain ⟨o, es, n, e, r⟩ := x.2
    exact ⟨o, es, n, k2 _ _ e, r⟩⟩
end Vf

set_option Elab.async false
set_option linter.all false
set_option maxRecDepth 100000
set_option maxHeartbeats 4000000
/-! Own words: how much two rows begin alike; the least change between two texts. -/
namespace Vf
open PySem PySem.Spec PyProof.Rows L2
open TL (tl joinL tl_join join_eq)
/-- how many begin alike -/
def lcp : List Nat → List Nat → Nat
  | a :: x, b :: y => if a = b then lcp x y + 1 else 0
  | _, _ => 0
theorem lcp_le : ∀ x y : List Nat, lcp x y ≤ x.length ∧ lcp x y ≤ y.length
  | [], _ => ⟨Nat.zero_le _, Nat.zero_le _⟩
  | _ :: _, [] => ⟨Nat.zero_le _, Nat.zero_le _⟩
  | a :: x, b :: y => by
    have ih := lcp_le x y
    unfold lcp
    split
    · simp only [List.length_cons]
      omega
    · exact ⟨Nat.zero_le _, Nat.zero_le _⟩
/-- one turn of a count: there are i that are alike; the next is too, or not -/
theorem lcp_more {x y : List Nat} {i : Nat} (h : lcp x y = i + lcp (x.drop i) (y.drop i)) {a : Nat} (ex : x[i]? = some a) (ey : y[i]? = some a) : lcp x y = (i + 1) + lcp (x.drop (i + 1)) (y.drop (i + 1)) := by
  rw [drop_at ex, drop_at ey] at h
  have : lcp (a :: x.drop (i + 1)) (a :: y.drop (i + 1)) = lcp (x.drop (i + 1)) (y.drop (i + 1)) + 1 := if_pos rfl
  omega
theorem lcp_end {x y : List Nat} {i : Nat} (h : lcp x y = i + lcp (x.drop i) (y.drop i)) {a b : Nat} (ex : x[i]? = some a) (ey : y[i]? = some b) (ne : a ≠ b) : lcp x y = i := by
  rw [drop_at ex, drop_at ey] at h
  have : lcp (a :: x.drop (i + 1)) (b :: y.drop (i + 1)) = 0 := if_neg ne
  omega
theorem lcp_end' {x y : List Nat} {i : Nat} (h : lcp x y = i + lcp (x.drop i) (y.drop i)) (hi : ¬ (i < x.length ∧ i < y.length)) : lcp x y = i := by
  have a := (lcp_le (x.drop i) (y.drop i)).1
  have b := (lcp_le (x.drop i) (y.drop i)).2
  rw [List.length_drop] at a b
  omega
theorem lcp_take : ∀ (x y : List Nat) (i : Nat), i ≤ lcp x y → x.take i = y.take i
  | _, _, 0, _ => by simp
  | [], _, i + 1, h => absurd h (by simp [lcp])
  | _ :: _, [], i + 1, h => absurd h (by simp [lcp])
  | a :: x, b :: y, i + 1, h => by
    unfold lcp at h
    split at h
    · rename_i e
      rw [List.take_succ_cons, List.take_succ_cons, e, lcp_take x y i (by omega)]
    · omega
theorem take_lcp : ∀ (x y : List Nat) (i : Nat), i ≤ x.length → i ≤ y.length → x.take i = y.take i → i ≤ lcp x y
  | _, _, 0, _, _, _ => Nat.zero_le _
  | [], _, i + 1, h, _, _ => by simp at h
  | _ :: _, [], i + 1, _, h, _ => by simp at h
  | a :: x, b :: y, i + 1, h1, h2, h => by
    rw [List.take_succ_cons, List.take_succ_cons] at h
    obtain ⟨e, h⟩ := List.cons.inj h
    have := take_lcp x y i (by simpa using h1) (by simpa using h2) h
    unfold lcp
    rw [if_pos e]
    omega
/-- the begin of the least change, and how much is alike behind it -/
def begB (x y : List Nat) : Nat := lcp x y
def sameB (x y : List Nat) : Nat := lcp (x.drop (begB x y)).reverse (y.drop (begB x y)).reverse
theorem begB_le (x y : List Nat) : begB x y ≤ x.length ∧ begB x y ≤ y.length := lcp_le x y
theorem sameB_le (x y : List Nat) : begB x y + sameB x y ≤ x.length ∧ begB x y + sameB x y ≤ y.length := by
  have a := lcp_le (x.drop (begB x y)).reverse (y.drop (begB x y)).reverse
  have b := begB_le x y
  rw [List.length_reverse, List.length_reverse, List.length_drop, List.length_drop] at a
  unfold sameB
  omega
/-- b, e may be begin and end of a change that leads from x to y -/
def Leads (x y : List Nat) (b e : Nat) : Prop := b ≤ e ∧ e ≤ x.length ∧ b + (x.length - e) ≤ y.length ∧ x.take b = y.take b ∧ x.drop e = y.drop (y.length - (x.length - e))
theorem leads_beg {x y : List Nat} {b e : Nat} (h : Leads x y b e) : b ≤ begB x y := by
  obtain ⟨h1, h2, h3, h4, _⟩ := h
  exact take_lcp x y b (by omega) (by omega) h4
theorem rev_take_drop {x : List Nat} {b k : Nat} (h : b + k ≤ x.length) : (x.drop b).reverse.take k = (x.drop (x.length - k)).reverse := by
  rw [List.take_reverse, List.length_drop, List.drop_drop]
  congr 2
  omega
theorem leads_end {x y : List Nat} {e : Nat} (h : Leads x y (begB x y) e) : x.length - sameB x y ≤ e := by
  obtain ⟨h1, h2, h3, _, h5⟩ := h
  have := take_lcp (x.drop (begB x y)).reverse (y.drop (begB x y)).reverse (x.length - e) (by rw [List.length_reverse, List.length_drop]; omega) (by rw [List.length_reverse, List.length_drop]; omega) (by
    rw [rev_take_drop (by omega), rev_take_drop (by omega)]
    rw [show x.length - (x.length - e) = e by omega, h5])
  have : x.length - e ≤ sameB x y := this
  omega
theorem leads_all (x y : List Nat) : Leads x y (begB x y) (x.length - sameB x y) := by
  have a := begB_le x y
  have b := sameB_le x y
  refine ⟨by omega, by omega, by omega, lcp_take x y _ (Nat.le_refl _), ?_⟩
  have h := lcp_take (x.drop (begB x y)).reverse (y.drop (begB x y)).reverse (sameB x y) (Nat.le_refl _)
  rw [rev_take_drop (by omega), rev_take_drop (by omega)] at h
  rw [show x.length - (x.length - sameB x y) = sameB x y by omega]
  exact List.reverse_inj.mp h
theorem leads_whole (x y : List Nat) : Leads x y (begB x y) x.length := by
  have a := begB_le x y
  refine ⟨a.1, Nat.le_refl _, by omega, lcp_take x y _ (Nat.le_refl _), ?_⟩
  rw [Nat.sub_self, Nat.sub_zero, List.drop_length, List.drop_length]
end Vf

set_option Elab.async false
set_option linter.all false
set_option maxRecDepth 100000
set_option maxHeartbeats 4000000
/-! Own words: repr of a text too; a def whose lambdas' code is known; what tables and drawn bags keep. -/
namespace Vf
open PySem PySem.Spec PyProof.Rows L2
open LamX (CodeO TabS Tabs ExtN TabB)
/-- an object, or a text -/
def ShowV (v : V) : Prop := (∃ a, v = .ref a) ∨ ∃ x, v = .str x
theorem call_repr2 {X : Cx} (gd : X.A.guards = some []) (hu : X.A.units + 64 < cLine) :
    CallR X (.builtin "repr") (fun xs H Q => ∃ v d, xs = [v] ∧ ShowV v ∧ Dp X.K H v d ∧ OkD d ∧ Q (.str d.shown) H) := by
  intro pins s σ H xs us Q I r h
  obtain ⟨v, d, rfl, sv, hd, ok, q⟩ := h
  rcases sv with ⟨a, rfl⟩ | ⟨x, rfl⟩
  · exact call_repr gd hu pins s σ H [.ref a] us Q I r ⟨a, d, rfl, hd, ok, q⟩
  · cases hd
    cases r with
    | cons rv rn =>
      cases rn
      obtain ⟨t, rfl⟩ := rv
      exact PySem.P.repr_of_str ⟨.str _, H, I.tok _, ⟨_, rfl⟩, q⟩ ok.show
/-- two things alike, objects or texts -/
def spAlike2 (K : PySem.W.Frag) : Sp := fun vs H Q _ => ∃ (u v : V) (d : PyData), vs = [u, v] ∧ ShowV u ∧ ShowV v ∧ Dp K H u d ∧ Dp K H v d ∧ OkD d ∧ ∀ H', Same H H' → Q (.bl true) H'
/-- a def of the text whose code object stands at c -/
structure DefK (K : PySem.W.Frag) (mg : Str → Option Value) (x : Str) (st : Stmt) (ps : List Str) (c : Addr) : Prop where
  ex : ∃ (f : Addr) (oc : Value) (od an : Option Addr) (sl : Array (Option Value)) (kV dc pm ct : Value),
    K.lookup f = some ⟨oc, od, .func (PySem.W.fnOf x x (defArgs st) (defBody st) (defScope st) .none kV dc pm an (.ref c) ct), sl⟩ ∧
    PySem.W.codeIn K (.ref c) x = true ∧ PySem.W.keepIn K (.ref f) = true ∧ mg x = some (.ref f) ∧
    Binds K (PySem.W.fnOf x x (defArgs st) (defBody st) (defScope st) .none kV dc pm an (.ref c) ct) ps []
section
variable {P : Program} {w : World} {K : PySem.W.Frag} {mg : Str → Option Value} {base : Heap}
theorem fnG_ofK {x : Str} {st : Stmt} {f c : Addr} {oc : Value} {od an : Option Addr} {sl : Array (Option Value)} {kV dc pm ct : Value} {N ps : List Str} {k : Nat} {sp : Sp}
    (lk : K.lookup f = some ⟨oc, od, .func (PySem.W.fnOf x x (defArgs st) (defBody st) (defScope st) .none kV dc pm an (.ref c) ct), sl⟩) (hcd : PySem.W.codeIn K (.ref c) x = true) (S : FnScope N ps (defScope st))
    (many : ∀ vs H Q E, sp vs H Q E → vs.length = ps.length)
    (body : ∀ (A : Around) (outer : List Env) (s : Shared) (H : Hp) (vs : List V) (Q : VK) (E : XK),
      Room k (A.deeper (envOfC x (defScope st) s.heap.objs.size f (.ref c))) → A.guards = some [] → sp vs H Q E →
      ∃ t, PSs (cxOf CX0 P w K mg base N x (defScope st) f (.ref c) A outer s H E).nox (defBody st) t ∧ t { nx := fun _ H' => Q .non H', rt := Q } (start N vs) H) :
    FnG P w K mg base (k + 1) f (PySem.W.fnOf x x (defArgs st) (defBody st) (defScope st) .none kV dc pm an (.ref c) ct) ps sp := by
  refine ⟨many, fun A outer s H args us vs Q E hr hg e0 hb r hsp => ?_⟩
  have hlen := many _ _ _ _ hsp
  have KX : K.In s.heap := e0.mod.kin.keeps (fun b o e => (e0.bs b o e).1)
  have lim := e0.mod.nolimit.keeps (fun b o e => (e0.bs b o e).1)
  have kinds : ∀ y ∈ ps.zip us, (defScope st).names.lookup y.1 = some .local ∨
      ((defScope st).names.lookup y.1 = some .cell ∧ ((cellsFrom (s.heap.objs.size + 1) (defScope st).names []).lookup y.1).isSome = true) := by
    rintro ⟨n, v⟩ hy
    cases S.par n (List.of_mem_zip hy).1 with
    | inl q => exact .inl q
    | inr q => exact .inr ⟨q, PySem.W.cellsFrom_some _ _ _ (.inl q)⟩
  refine codeAny_call_function hr.depth (KX _ _ lk) rfl S.co S.gen rfl (PySem.W.codeRec_of KX hcd) (hb _ _ _ _ ?_)
  refine wpAny_newFunctionEnv_cells S.kind kinds (fun env he s1 x => ?_)
  subst he
  refine ⟨lim.keeps x.toInCall.keep, codeAny_func ?_⟩
  obtain ⟨t, ht, hq⟩ := body A outer s H vs Q E (hr.deeper _) hg hsp
  have I := inv_start (CX := CX0) (E := E) S hr.hd e0 hlen r x
  refine wpAny_mono (ht.nox.run [] s1 (start N vs) H _ I hq) (fun fl s' hs => ?_) (fun _ _ hs => hs)
  cases fl with
  | brk => exact (hs.choose_spec.choose_spec.2 : False).elim
  | cont => exact (hs.choose_spec.choose_spec.2 : False).elim
  | next =>
    obtain ⟨_, H', J, q⟩ := hs
    exact ⟨V.non, H', J.os, J.bare, J.base, J.hok, rfl, q⟩
  | ret u =>
    obtain ⟨v, _, H', J, rv, q⟩ := hs
    exact ⟨v, H', J.os, J.bare, J.base, J.hok, rv, q⟩
theorem calGOfK {x : Str} {st : Stmt} {N ps : List Str} {k : Nat} {sp : Sp} {c : Addr}
    (D : DefK K mg x st ps c) (S : FnScope N ps (defScope st)) (many : ∀ vs H Q E, sp vs H Q E → vs.length = ps.length)
    (body : ∀ (f : Addr) (A : Around) (outer : List Env) (s : Shared) (H : Hp) (vs : List V) (Q : VK) (E : XK),
      Room k (A.deeper (envOfC x (defScope st) s.heap.objs.size f (.ref c))) → A.guards = some [] → sp vs H Q E →
      ∃ t, PSs (cxOf CX0 P w K mg base N x (defScope st) f (.ref c) A outer s H E).nox (defBody st) t ∧ t { nx := fun _ H' => Q .non H', rt := Q } (start N vs) H) :
    CalG P w K mg base (k + 1) x sp := by
  obtain ⟨f, oc, od, an, sl, kV, dc, pm, ct, lk, hcd, kp, hm, hb⟩ := D.ex
  exact ⟨f, _, ps, fnG_ofK lk hcd S many (fun A o s H vs Q E hr h => body f A o s H vs Q E hr h), hm, kp, hb⟩
end
/-! ### what is kept where lambdas are made -/
section
variable {g : Bg} {H H1 H2 : Hp} {c e : Int} {T : List (Addr × Str)} {p : Addr} {o : HO}
theorem ExtN.tk' (x : ExtN H H1) : Tk H H1 := fun a xs h => x a _ h (fun ps z => by cases z)
theorem ExtN.lst (x : ExtN H H1) {a : Addr} {xs : List V} (h : H a = some (.lst xs)) : H1 a = some (.lst xs) := x a _ h (fun ps z => by cases z)
theorem Bag.ext (B : Bag H g c e) (x : ExtN H H1) : Bag H1 g c e := by
  obtain ⟨z, m, i, ns, h, h2, r⟩ := B.ex
  exact ⟨⟨z, m, i, ns, ExtN.lst x h, ExtN.lst x h2, r⟩, B.ne⟩
theorem Tabs.drawn (t : Tabs T H) (B : Bag H g c e) (D : Drawn g H H1 c e) : Tabs T H1 := fun q hq => by
  obtain ⟨ps, h, tri, k⟩ := t q hq
  obtain ⟨ob, hb⟩ := B.ob
  have keep : ∀ {a : Addr} {u : HO}, H a = some u → (∀ ys, u ≠ .lst ys) → H1 a = some u := fun {a u} ha n => D.fr a u (fun z => by
    rw [z, hb] at ha
    exact n _ (Option.some.inj ha).symm) ha
  refine ⟨ps, keep h (fun ys z => by cases z), tri, fun pos cv hc => ?_⟩
  obtain ⟨c1, e1, e2⟩ := k pos cv hc
  exact ⟨c1, e1, keep e2 (fun ys z => by unfold CodeO at z; cases z)⟩
theorem Tabs.same' (t : Tabs T H) (s : Same H H1) : Tabs T H1 := t.ext s
theorem Tabs.new' (t : Tabs T H) (n : H p = none) : Tabs T (upd H p o) := t.ext (same_new n)
end
end Vf

set_option Elab.async false
set_option linter.all false
set_option maxRecDepth 100000
set_option maxHeartbeats 4000000
/-! Own words: a text's signs in the other order; slices of texts as lists. -/
namespace Vf
open PySem PySem.Spec PyProof.Rows L2
open TL (tl)
def revS (x : Str) : Str := ⟨(tl x).reverse.toArray⟩
theorem tl_revS (x : Str) : tl (revS x) = (tl x).reverse := by
  show ((tl x).reverse.toArray).toList = _
  rw [List.toList_toArray]
theorem rev_is (x : Str) (u : Tok) : Txt.sliceBy x none none (-1, u) = revS x := by
  refine tl_inj ?_
  rw [tl_revS]
  refine (step_rev_list x u).trans ?_
  apply List.ext_getElem
  · simp [Str.length]
  · intro i h1 h2
    simp only [List.length_map, List.length_range] at h1
    have hs : x.length = x.cps.size := rfl
    have h3 : x.cps.size - 1 - i < x.cps.size := by
      rw [hs] at h1
      omega
    simp [List.getElem_reverse, Array.getD, hs, h3]
theorem pe_revS {X : Cx} {e : Expr} {te : TE} {k : Nat} {p1 p2 p3 pos : Pos} (he : PE X e te) :
    PE X (.Subscript e (.Slice none none (some (.UnaryOp .USub (.Constant (.int 1) k p1) p2)) p3) pos) (fun τ G Q => te τ G fun v G1 => ∃ z, v = .str z ∧ z.length ≤ sizeLine ∧ Q (.str (revS z)) G1) := by
  refine ⟨fun pins s τ G Q I h => Subscript_ (thn (he.run pins s τ G _ I h) fun u t ⟨v, G1, J, rv, z, ev, lz, q⟩ => ?_)⟩
  subst ev
  obtain ⟨tk, rfl⟩ := rv
  have step : PO X (some (.UnaryOp .USub (.Constant (.int 1) k p1) p2)) (tPart (tUn (rU fun i => .int (-i)) (tC (.int 1)))) := po_some (pe_un un_neg pe_int)
  refine wpAny_Slice (thn (po_none.run pins t τ G1 (fun o F => o = none ∧ F = G1) J ⟨rfl, rfl⟩) fun a t1 ⟨oa, F1, J1, pa, ea, fa⟩ => ?_)
  subst ea fa
  refine thn (po_none.run pins t1 τ F1 (fun o F => o = none ∧ F = F1) J1 ⟨rfl, rfl⟩) fun b t2 ⟨ob, F2, J2, pb, eb, fb⟩ => ?_
  subst eb fb
  refine thn (step.run pins t2 τ F2 (fun o F => o = some (-1) ∧ F = F2) J2 ⟨1, rfl, -1, rfl, rfl, rfl⟩) fun c t3 ⟨oc, F3, J3, pc, ec, fc⟩ => ?_
  subst ec fc
  obtain ⟨l, rfl, el⟩ := IsPart.raw pa
  obtain ⟨m, rfl, em⟩ := IsPart.raw pb
  obtain ⟨n, rfl, en⟩ := IsPart.raw pc
  obtain rfl : l = none := by cases l <;> simp at el <;> rfl
  obtain rfl : m = none := by cases m <;> simp at em <;> rfl
  obtain ⟨n1, rfl⟩ : ∃ n1, n = some (-1, n1) := by
    cases n with
    | none => simp at en
    | some q =>
      obtain ⟨i, w⟩ := q
      simp at en
      subst en
      exact ⟨w, rfl⟩
  have c0 : ¬ ((((some ((-1 : Int), n1)).map (·.1)).getD 1 == 1 && (slicePicked z none none (some (-1, n1))).length == z.length) = true) := by
    rw [show ((((some ((-1 : Int), n1)).map (·.1)).getD 1 == 1)) = false from rfl]
    simp
  have er := rev_is z n1
  unfold Txt.sliceBy at er
  rw [if_neg c0] at er
  have J4 : Inv X pins τ F3 { t3 with heap := t3.heap.push { cls := .type "slice", data := .fields #[partValue none, partValue none, partValue (some (-1, n1))] } } := J3.kept (t' := t3.toks) fun b ob w => Heap.get?_push_of_some _ w
  refine tail_any (ops := [.str z tk, .ref t3.heap.objs.size]) (typeIs_str _ _ _) PySem.F.slot_str_getitem.lookup ?_ (by with_unfolding_all rfl)
  refine wpAny_getItem_str_slice (l := none) (u := none) (st := some (-1, n1)) ⟨_, Heap.get?_push_size _ rfl, rfl, rfl⟩ rfl ?_
  unfold sliceMade
  rw [if_neg c0, er]
  have lr : (revS z).length ≤ sizeLine := by
    rw [str_len, tl_revS, List.length_reverse, ← str_len]
    exact lz
  exact ⟨lr, .str _, F3, J4.tok _, ⟨_, rfl⟩, q⟩
/-! ### slices as lists -/
theorem tl_cutS (z : Str) (lo hi : Option Int) : tl (cutS z lo hi) = ((tl z).drop (HT.sIx z.length 0 lo)).take (HT.sIx z.length z.length hi - HT.sIx z.length 0 lo) := by
  show (List.toArray _).toList = _
  rw [List.toList_toArray]
theorem sIx_nat (n d : Nat) {i : Nat} : HT.sIx n d (some (i : Int)) = min i n := by
  show (if (i : Int) < 0 then ((i : Int) + n).toNat else min (i : Int).toNat n) = _
  rw [if_neg (by omega)]
  rfl
theorem tl_from (z : Str) (i : Nat) : tl (cutS z (some (i : Int)) none) = (tl z).drop i := by
  rw [tl_cutS, sIx_nat]
  show ((tl z).drop (min i z.length)).take (z.length - min i z.length) = _
  rw [str_len]
  by_cases h : i ≤ (tl z).length
  · rw [Nat.min_eq_left h]
    exact List.take_of_length_le (by rw [List.length_drop]; omega)
  · rw [Nat.min_eq_right (by omega), List.drop_of_length_le (by omega), List.drop_of_length_le (by omega)]
    simp
theorem tl_upto (z : Str) (i : Nat) : tl (cutS z none (some (i : Int))) = (tl z).take i := by
  rw [tl_cutS, sIx_nat]
  show ((tl z).drop 0).take (min i z.length - 0) = _
  rw [str_len, List.drop_zero, Nat.sub_zero]
  by_cases h : i ≤ (tl z).length
  · rw [Nat.min_eq_left h]
  · rw [Nat.min_eq_right (by omega), List.take_of_length_le (by omega), List.take_of_length_le (by omega)]
theorem tl_part (z : Str) (i j : Nat) (hj : j ≤ z.length) : tl (cutS z (some (i : Int)) (some (j : Int))) = ((tl z).take j).drop i := by
  rw [tl_cutS, sIx_nat, sIx_nat]
  rw [str_len] at hj ⊢
  rw [Nat.min_eq_left hj, List.drop_take]
  by_cases h : i ≤ (tl z).length
  · rw [Nat.min_eq_left h]
  · rw [Nat.min_eq_right (by omega), List.drop_of_length_le (by omega), List.drop_of_length_le (by omega)]
    simp
end Vf

set_option Elab.async false
set_option linter.all false
set_option maxRecDepth 100000
set_option maxHeartbeats 4000000
/-! Own words: where the words of a text end, as a function of its signs. -/
namespace Vf
open PySem PySem.Spec PyProof.Rows L2 PySem.Builtin PySem.Builtin.Str PySem.StrLaws
/-! ### the first place of a text in a text -/
def HitAt (x y : Str) (hi k : Nat) : Prop := k + y.length ≤ hi ∧ subAt x y k = true
theorem occ_full (x y : Str) (hi : Nat) : ∀ (l : List Nat) (st : Array Nat × Nat), st.fst.size = 1 → (forIn l st (occBody x y hi 1)).run.fst = st.fst
  | [], st, h => rfl
  | a :: l, st, h => by
    rw [List.forIn_cons]
    unfold occBody
    rw [if_neg (fun z => by
      have := z.1.1.1
      omega)]
    exact occ_full x y hi l _ h
theorem occ_first (x y : Str) (hi : Nat) : ∀ (l : List Nat) (free : Nat), (∀ i ∈ l, free ≤ i) →
    ((forIn l ((#[] : Array Nat), free) (occBody x y hi 1)).run.fst = #[] ∧ ∀ i ∈ l, ¬ HitAt x y hi i) ∨
    ∃ k l1 l2, l = l1 ++ k :: l2 ∧ (forIn l ((#[] : Array Nat), free) (occBody x y hi 1)).run.fst = #[k] ∧ HitAt x y hi k ∧ ∀ i ∈ l1, ¬ HitAt x y hi i
  | [], free, _ => .inl ⟨rfl, by simp⟩
  | a :: l, free, hf => by
    have ha : free ≤ a := hf a (List.mem_cons_self ..)
    rw [List.forIn_cons]
    by_cases hc : HitAt x y hi a
    · refine .inr ⟨a, [], l, rfl, ?_, hc, by simp⟩
      unfold occBody
      rw [if_pos ⟨⟨⟨by simp, ha⟩, hc.1⟩, hc.2⟩]
      exact occ_full x y hi l _ rfl
    · have e : occBody x y hi 1 a ((#[] : Array Nat), free) = pure (ForInStep.yield ((#[] : Array Nat), free)) := by
        unfold occBody
        rw [if_neg fun z => hc ⟨z.1.2, z.2⟩]
      rw [e]
      rcases occ_first x y hi l free (fun i h => hf i (List.mem_cons_of_mem _ h)) with ⟨h1, h2⟩ | ⟨k, l1, l2, h1, h2, h3, h4⟩
      · refine .inl ⟨h1, fun i hi' => ?_⟩
        rcases List.mem_cons.mp hi' with rfl | hm
        · exact hc
        · exact h2 i hm
      · refine .inr ⟨k, a :: l1, l2, by rw [h1]; rfl, h2, h3, fun i hi' => ?_⟩
        rcases List.mem_cons.mp hi' with rfl | hm
        · exact hc
        · exact h4 i hm
theorem from_nat (n i : Nat) : fromIndex n (i : Int) = i := by
  unfold fromIndex
  rw [if_neg (by omega)]
  omega
theorem find3_spec (x y : Str) (i : Nat) :
    (∃ k : Nat, Txt.find3 x y (i : Int) = (k : Int) ∧ i ≤ k ∧ HitAt x y x.length k ∧ ∀ j, i ≤ j → j < k → ¬ HitAt x y x.length j) ∨
    (Txt.find3 x y (i : Int) = -1 ∧ ∀ j, i ≤ j → ¬ HitAt x y x.length j) := by
  unfold Txt.find3
  rw [from_nat, occ_eq]
  have mem : ∀ j, j ∈ List.range' i (x.length + 1 - i) ↔ i ≤ j ∧ j ≤ x.length := fun j => by
    rw [List.mem_range'_1]
    omega
  have out : ∀ j, HitAt x y x.length j → j ≤ x.length := fun j h => Nat.le_trans (Nat.le_add_right _ _) h.1
  rcases occ_first x y x.length (List.range' i (x.length + 1 - i)) i (fun j h => ((mem j).mp h).1) with ⟨h1, h2⟩ | ⟨k, l1, l2, h1, h2, h3, h4⟩
  · rw [h1]
    exact .inr ⟨rfl, fun j hj h => h2 j ((mem j).mpr ⟨hj, out j h⟩) h⟩
  · rw [h2]
    have hk : k ∈ List.range' i (x.length + 1 - i) := by
      rw [h1]
      simp
    refine .inl ⟨k, rfl, ((mem k).mp hk).1, h3, fun j hj hjk h => ?_⟩
    have hm := (mem j).mpr ⟨hj, out j h⟩
    rw [h1] at hm
    rcases List.mem_append.mp hm with q | q
    · exact h4 j q h
    · have ps : (l1 ++ k :: l2).Pairwise (· < ·) := by
        rw [← h1]
        exact List.pairwise_lt_range'
      rcases List.mem_cons.mp q with q | q
      · omega
      · have := (List.pairwise_cons.mp (List.pairwise_append.mp ps).2.1).1 j q
        omega

/-! ### runs -/
def digC (c : Nat) : Bool := decide (48 ≤ c) && decide (c ≤ 57)
def letC (c : Nat) : Bool := (decide (97 ≤ c) && decide (c ≤ 122)) || ((decide (65 ≤ c) && decide (c ≤ 90)) || decide (c = 95))
def wrdC (c : Nat) : Bool := letC c || digC c
def notNl (c : Nat) : Bool := !decide (c = 10)
def runE (g : Nat → Bool) (L : List Nat) (i : Nat) : Nat := i + ((L.drop i).takeWhile g).length
theorem run_step {g : Nat → Bool} {L : List Nat} {i c : Nat} (h : L[i]? = some c) (hg : g c = true) : runE g L i = runE g L (i + 1) := by
  unfold runE
  rw [drop_at h, List.takeWhile_cons, if_pos hg, List.length_cons]
  omega
theorem run_stop {g : Nat → Bool} {L : List Nat} {i c : Nat} (h : L[i]? = some c) (hg : g c = false) : runE g L i = i := by
  unfold runE
  rw [drop_at h, List.takeWhile_cons, hg]
  rfl
theorem run_end {g : Nat → Bool} {L : List Nat} {i : Nat} (h : L.length ≤ i) : runE g L i = i := by
  unfold runE
  rw [List.drop_eq_nil_iff.mpr h]
  rfl
theorem run_le {g : Nat → Bool} {L : List Nat} {i : Nat} (h : i ≤ L.length) : runE g L i ≤ L.length := by
  unfold runE
  have h1 := (List.takeWhile_sublist (l := L.drop i) g).length_le
  rw [List.length_drop] at h1
  omega
theorem run_ge (g : Nat → Bool) (L : List Nat) (i : Nat) : i ≤ runE g L i := Nat.le_add_right _ _
theorem run_gt {g : Nat → Bool} {L : List Nat} {i c : Nat} (h : L[i]? = some c) (hg : g c = true) : i < runE g L i := by
  rw [run_step h hg]
  exact run_ge g L (i + 1)
/-! ### words -/
def numE (L : List Nat) (i : Nat) : Nat :=
  if L[runE digC L i]? = some 46 then
    (if runE digC L (runE digC L i + 1) > runE digC L i + 1 then runE digC L (runE digC L i + 1) else runE digC L i)
  else runE digC L i
def escC (c : Nat) : Bool := decide (c = 34) || (decide (c = 92) || (decide (c = 110) || decide (c = 116)))
/-- behind the mark that opens a quote -/
def quoE : List Nat → Nat → Option Nat
  | [], _ => none
  | c :: r, i => if c = 34 then some (i + 1) else if c = 10 then none else if c = 92 then
      (match r with
      | [] => none
      | d :: q => if escC d then quoE q (i + 2) else none)
    else quoE r (i + 1)
def clsE (t y : Str) (i : Nat) : Option Nat := if Txt.find3 t y (i : Int) < 0 then none else some ((Txt.find3 t y (i : Int)).toNat + y.length)
def twoL : List (List Nat) := [[61, 61], [33, 61], [60, 61], [62, 61], [45, 62]]
def oneL : List Nat := [40, 41, 91, 93, 123, 125, 44, 59, 58, 46, 61, 60, 62, 43, 45, 42, 47, 94]
def wrdE (t : Str) (i : Nat) : Option Nat :=
  match t.cps.toList[i]? with
  | none => none
  | some c =>
    if letC c then some (runE wrdC t.cps.toList i)
    else if digC c then some (numE t.cps.toList i)
    else if c = 34 then quoE (t.cps.toList.drop (i + 1)) (i + 1)
    else if c = 39 then (if (t.cps.toList.drop i).take 3 = [39, 39, 39] then clsE t "'''" (i + 3) else none)
    else if c = 35 then some (runE notNl t.cps.toList i)
    else if (t.cps.toList.drop i).take 2 = [60, 42] then clsE t "*>" (i + 2)
    else if (t.cps.toList.drop i).take 2 ∈ twoL then some (i + 2)
    else if c ∈ oneL then some (i + 1) else none
theorem quo_in : ∀ (n : Nat) (r : List Nat) (i e : Nat), r.length ≤ n → quoE r i = some e → i < e ∧ e ≤ i + r.length
  | _, [], i, e, _, h => by
    unfold quoE at h
    cases h
  | 0, c :: r, i, e, hn, _ => absurd hn (by simp)
  | n + 1, c :: r, i, e, hn, h => by
    rw [List.length_cons] at hn ⊢
    unfold quoE at h
    split at h
    · cases h
      omega
    · split at h
      · cases h
      · split at h
        · cases r with
          | nil => cases h
          | cons d q =>
            have h' : (if escC d then quoE q (i + 2) else none) = some e := h
            rw [List.length_cons] at hn ⊢
            split at h'
            · have := quo_in n q (i + 2) e (by omega) h'
              omega
            · cases h'
        · have := quo_in n r (i + 1) e (by omega) h
          omega
theorem cls_in {t y : Str} {i e : Nat} (h : clsE t y i = some e) : i + y.length ≤ e ∧ e ≤ t.length := by
  unfold clsE at h
  rcases find3_spec t y i with ⟨k, h1, h2, h3, _⟩ | ⟨h1, _⟩
  · rw [h1, if_neg (by omega)] at h
    cases h
    have := h3.1
    exact ⟨by omega, by omega⟩
  · rw [h1] at h
    cases h
theorem len_at {L : List Nat} {i c : Nat} (h : L[i]? = some c) : i < L.length := (List.getElem?_eq_some_iff.mp h).1
theorem take_len {L l : List Nat} {i n : Nat} (h : (L.drop i).take n = l) (hl : l.length = n) (h0 : 0 < n) : i + n ≤ L.length := by
  have := congrArg List.length h
  rw [List.length_take, List.length_drop, hl] at this
  omega
theorem num_in {L : List Nat} {i c : Nat} (h : L[i]? = some c) (hd : digC c = true) : i < numE L i ∧ numE L i ≤ L.length := by
  have h1 := run_gt h hd
  have h2 := run_le (g := digC) (Nat.le_of_lt (len_at h))
  unfold numE
  split
  · rename_i q
    have h3 := run_le (g := digC) (i := runE digC L i + 1) (len_at q)
    split <;> omega
  · omega
theorem wrd_in {t : Str} {i e : Nat} (h : wrdE t i = some e) : i < e ∧ e ≤ t.length := by
  have hL : t.length = t.cps.toList.length := by simp [Str.length]
  rw [hL]
  unfold wrdE at h
  split at h
  · cases h
  · rename_i c hc
    have hl := len_at hc
    split at h
    · rename_i q
      cases h
      exact ⟨run_gt hc (by unfold wrdC; rw [q] <;> rfl), run_le (Nat.le_of_lt hl)⟩
    · split at h
      · rename_i q
        cases h
        exact num_in hc q
      · split at h
        · have := quo_in _ _ _ _ (Nat.le_refl _) h
          rw [List.length_drop] at this
          omega
        · split at h
          · split at h
            · have := cls_in h
              omega
            · cases h
          · split at h
            · rename_i q
              cases h
              refine ⟨run_gt hc ?_, run_le (Nat.le_of_lt hl)⟩
              rw [q] <;> rfl
            · split at h
              · have := cls_in h
                omega
              · split at h
                · rename_i q
                  cases h
                  have q2 : i + 2 ≤ t.cps.toList.length := by
                    have all : ∀ l ∈ twoL, l.length = 2 := by decide
                    exact take_len rfl (all _ q) (by decide)
                  omega
                · split at h
                  · cases h
                    omega
                  · cases h
end Vf

set_option Elab.async false
set_option linter.all false
set_option maxRecDepth 100000
set_option maxHeartbeats 4000000
/-! Own words: a text so many times. -/
namespace Vf
open PySem PySem.Spec PyProof.Rows L2
open TL (tl)
theorem fold_tl (x : Array Nat) : ∀ (n : Nat) (a : Array Nat), ((List.replicate n x).foldl (· ++ ·) a).toList = a.toList ++ (List.replicate n x.toList).flatten
  | 0, a => by simp
  | n + 1, a => by
    rw [List.replicate_succ, List.foldl_cons, fold_tl x n, List.replicate_succ, List.flatten_cons, Array.toList_append, List.append_assoc]
theorem op_rep_str {X : Cx} : OpR X (binaryOp .Mult) (fun x y H Q => ∃ z n, x = .str z ∧ y = .int n ∧ 0 ≤ n ∧ n ≤ 100000 ∧ z.length ≤ 100 ∧ ∀ r : Str, tl r = (List.replicate n.toNat (tl z)).flatten → Q (.str r) H) := by
  intro pins s σ H x y v u Q I rx ry h
  obtain ⟨z, n, rfl, rfl, h0, h1, hz, q⟩ := h
  obtain ⟨t, rfl⟩ := rx
  obtain ⟨t', rfl⟩ := ry
  have sz : z.length * n.toNat ≤ sizeLine := Nat.le_trans (Nat.mul_le_mul hz (show n.toNat ≤ 100000 by omega)) (by decide)
  have fin : ∀ (r : Str) (tk : Nat), tl r = (List.replicate n.toNat (tl z)).flatten → EP X pins σ Q (.str r s.toks) { s with toks := s.toks + 1 } := fun r _ e => ⟨.str r, H, I.tok _, ⟨_, rfl⟩, q r e⟩
  refine PySem.P.mul_str ?_ ?_ ?_ ?_
  · rw [decide_eq_false (by omega), decide_eq_false (by omega)]
    rfl
  · intro a _ c
    have : (100 : Int) ≤ (2 ^ 63 - 1) / n := Int.le_ediv_of_mul_le (by omega) (by omega)
    omega
  · intro _ _
    exact decide_eq_false (Nat.not_lt.mpr sz)
  · split
    · rename_i hn
      have : n = 0 := by omega
      subst this
      exact ⟨by decide, fin Str.empty 0 rfl⟩
    · split
      · rename_i hn hc
        refine ⟨.str z, H, I, ⟨_, rfl⟩, q z ?_⟩
        rw [Bool.or_eq_true] at hc
        rcases hc with hc | hc
        · have : n = 1 := by simpa using hc
          subst this
          simp
        · have : tl z = [] := by
            have : z.length = 0 := by simpa using hc
            exact List.length_eq_zero_iff.mp (by rw [← this]; simp [Str.length])
          rw [this]
          simp
      · refine ⟨?_, fin _ 0 ?_⟩
        · have e : ((List.replicate n.toNat z.cps).foldl (· ++ ·) #[]).size = z.length * n.toNat := by
            rw [← Array.length_toList, fold_tl, List.length_append, List.length_flatten, List.map_replicate]
            simp [Str.length, Nat.mul_comm]
          show ((List.replicate n.toNat z.cps).foldl (· ++ ·) #[]).size ≤ sizeLine
          rw [e]
          exact sz
        · show ((List.replicate n.toNat z.cps).foldl (· ++ ·) #[]).toList = _
          rw [fold_tl]
          rfl
end Vf

set_option Elab.async false
set_option linter.all false
set_option maxRecDepth 100000
set_option maxHeartbeats 4000000
namespace Vf
open PySem PySem.Spec PyProof.Rows L2
/-- sorted of a dict with whole numbers as keys, any number of them -/
theorem call_sortedDA {X : Cx} (hcalm : X.calm = true) : CallR X (.builtin "sorted") fun xs H Q => ∃ (a : Addr) (kvs : List (Key × V)) (ks : List Int), xs = [.ref a] ∧ Rd H a (.dK kvs) ∧ kvs.map (·.1) = ks.map Sum.inl ∧
    ∀ (ys : List Int) (p : Addr), ys.Perm ks → ys.Pairwise (· ≤ ·) → H p = none → Q (.ref p) (upd H p (.lst (ys.map V.int))) := by
  rintro pins s σ H xs us Q hI hv ⟨a, kvs, ks, rfl, hR, hk, k⟩
  obtain ⟨u, rfl, hu⟩ := vals1 hv
  cases hu
  obtain ⟨hn, hd, vs, hKV, hD⟩ := dk_rd hI.hok hR
  obtain ⟨ep, hA⟩ := hD.dictAt
  have lv : vs.length = kvs.length := by
    have := congrArg List.length hKV.keys
    rw [List.length_map, List.length_map] at this
    exact this.symm
  refine PySem.Calls.call_function_entry kind_sorted plain_sorted entry_sorted (args_sorted1 _) ?_
  show wpAny _ _ (Builtin.sorted { pos := [Value.ref a] }) _ _ _
  unfold Builtin.sorted
  refine wpAny_bind (wpAny_pure ?_)
  refine wpAny_bind (PySem.W.kdu_collect (PySem.W.kdl_dict hd) (hI.ok.hd hcalm) hA (by rw [lv]; exact hn) fun h' tk acc hh hit => ?_)
  have la : acc.size = vs.length := hit.1
  have lk : ks.length = vs.length := by
    have := congrArg List.length hk
    rw [List.length_map, List.length_map] at this
    omega
  have hints : IntsAre acc.toList ks := by
    refine ints_each (by rw [Array.length_toList, la, lk]) fun j v hj => ?_
    rw [Array.getElem?_toList] at hj
    obtain ⟨key, x, h1, h2⟩ := hit.2 j v hj
    have e1 : (vs.map (·.1))[j]? = some key := by rw [List.getElem?_map, h1] <;> rfl
    rw [← hKV.keys, hk, List.getElem?_map] at e1
    obtain ⟨i, hi, rfl⟩ := Option.map_eq_some_iff.mp e1
    rcases keyIs_shape (show keyIs (Sum.inl i) v = true from h2) with ⟨i', t, e, rfl⟩ | ⟨_, _, e, _⟩
    · cases e
      exact ⟨_, _, hi, rfl⟩
    · cases e
  have lz : acc.toList.length ≤ sizeLine := by
    rw [Array.length_toList, la, lv]
    exact hn
  refine wpAny_bind (wpAny_newList ?_ lz)
  have hp := Heap.get?_push_size h' (o := { cls := .type "list", data := .seq acc.toList.toArray }) rfl
  have old : ∀ (b : Addr) (u : Obj), s.heap.get? b = some u → b < h'.objs.size ∧ h'.get? b = some u := fun b u hb => ⟨Heap.lt_size (hh b u hb), hh b u hb⟩
  refine wpAny_bind (wpAny_holding (wpAny_call_entry slot_list_sort ⟨_, hp, rfl⟩ entry_list_sort ?_ (args_list_sort _)))
  refine SrtO.list_sort_ord SrtO.swo_int (vs := acc.toList) (n := 0) hp lz (fun h2 => SrtO.ints_sortable hints h2) fun out h1 h2 => ?_
  obtain ⟨o1, o2, o3⟩ := SrtO.ints_out hints h1 h2
  obtain ⟨e, he⟩ := sortedHeap_at (out := out.toArray) hp
  refine ⟨_, rfl, wpAny_pure ⟨_, rfl, ?_⟩⟩
  have hI2 := hI.kept (t' := tk) hh
  refine ⟨.ref h'.objs.size, _, hI2.laid (a := h'.objs.size) (o := .lst ((out.map SrtO.iv).map V.int)) (fun b u hb => ?_) (Nat.le_refl _) ?_, rfl, k _ _ o2 o3 (hI2.hok.fresh (Nat.le_refl _))⟩
  · have x1 := Heap.lt_size hb
    rw [sortedHeap_old (Nat.ne_of_lt x1) (Nat.lt_of_lt_of_eq (Nat.lt_succ_of_lt x1) (size_push' _ _).symm)]
    exact Heap.get?_push_of_some _ hb
  · refine ⟨?_, out, e, vals_of_ints o1, he⟩
    rw [List.length_map, o2.length_eq, lk, lv]
    exact hn
end Vf

set_option Elab.async false
set_option linter.all false
set_option maxRecDepth 100000
set_option maxHeartbeats 4000000
namespace Vf
open PySem PySem.Spec PyProof.Rows L2
/-! Own words: a tuple, walked with its numbers. -/
theorem next_tup_item {prog : Program} {w : World} {A : Around} {E : Value → Shared → Prop} {s : Shared} {it l : Addr} {i : Nat} {items : Array Value} {x : Value} {Q : Value → Shared → Prop}
    (h1 : s.heap.IsTupleIter it l i) (h2 : s.heap.IsTuple l items) (hx : items[i]? = some x)
    (k : ∀ h' : Heap, h'.IsTupleIter it l (i + 1) → Heap.SameBut it s.heap h' → Q x { heap := h', gens := s.gens, drawn := s.drawn, toks := s.toks, os := s.os }) :
    wpAny (model prog w) A (Builtin.SmallTypes.nextOf (.ref it)) Q E s := by
  have ht := h1.typeIs
  obtain ⟨o, ho, hc, hd⟩ := h1
  obtain ⟨o2, ho2, hc2, n, hd2⟩ := h2
  unfold Builtin.SmallTypes.nextOf
  refine wpAny_bind (wpAny_callSpecial?_slot ht F.slot_tuple_iterator_next (wpAny_call_entry F.slot_tuple_iterator_next ht F.entry_tuple_iterator_next ?_ (F.args_tuple_iterator_next_1 _)))
  refine wpAny_bind (wpAny_pure ?_)
  refine wpAny_bind (wpAny_field ho hd rfl ?_)
  refine wpAny_bind (wpAny_field ho hd rfl ?_)
  refine wpAny_bind (wpAny_seqItems ho2 hd2 ?_)
  show wpAny _ _ (match items[(i : Int).toNat]? with
    | some x => _
    | none => _) _ _ _
  rw [Int.toNat_natCast, hx]
  refine wpAny_bind (wpAny_setField ho hd (by show 1 < 2; decide) (wpAny_pure ⟨_, rfl, ?_⟩))
  refine wpAny_pure (k _ ⟨_, Heap.get?_update_self _ ho ?_, ?_, ?_⟩ (Heap.SameBut.update _ _ _))
  · exact Obj.isFreed_of_fields (Obj.data_mapFields hd _)
  · exact (Obj.cls_mapFields _ _).trans hc
  · exact Obj.data_mapFields hd _
theorem next_tup_end {prog : Program} {w : World} {A : Around} {E : Value → Shared → Prop} {s : Shared} {it l : Addr} {i : Nat} {items : Array Value} {Q : Value → Shared → Prop}
    (hA : A.handled = none) (h1 : s.heap.IsTupleIter it l i) (h2 : s.heap.IsTuple l items) (hx : items[i]? = none)
    (k : ∀ (h' : Heap) (e : Addr), Heap.ExtBut it s.heap h' → (∃ o, h'.get? e = some o ∧ o.cls = .type "StopIteration") → E (.ref e) { heap := h', gens := s.gens, drawn := s.drawn, toks := s.toks, os := s.os }) :
    wpAny (model prog w) A (Builtin.SmallTypes.nextOf (.ref it)) Q E s := by
  have ht := h1.typeIs
  obtain ⟨o, ho, hc, hd⟩ := h1
  obtain ⟨o2, ho2, hc2, n, hd2⟩ := h2
  unfold Builtin.SmallTypes.nextOf
  refine wpAny_bind (wpAny_callSpecial?_slot ht F.slot_tuple_iterator_next (wpAny_call_entry F.slot_tuple_iterator_next ht F.entry_tuple_iterator_next ?_ (F.args_tuple_iterator_next_1 _)))
  refine wpAny_bind (wpAny_pure ?_)
  refine wpAny_bind (wpAny_field ho hd rfl ?_)
  refine wpAny_bind (wpAny_field ho hd rfl ?_)
  refine wpAny_bind (wpAny_seqItems ho2 hd2 ?_)
  show wpAny _ _ (match items[(i : Int).toNat]? with
    | some x => _
    | none => _) _ _ _
  rw [Int.toNat_natCast, hx]
  refine wpAny_bind (wpAny_rule ?_)
  refine wpAny_bind (wpAny_setField ho hd (by show 0 < 2; decide) ?_)
  unfold Builtin.SmallTypes.stopIteration newExc
  refine wpAny_bind (wpAny_bind (wpAny_newObj_type ?_ (by show 0 ≤ sizeLine; exact Nat.zero_le _)))
  have fm : firstArgMember (.type "StopIteration") [] = pure .none := by
    unfold firstArgMember
    show (pure (if _ then Value.none else Value.none) : Sem Value) = pure .none
    rw [ite_self]
  refine wpAny_bind (wpAny_of_eq fm ?_)
  refine wpAny_newObj_type ?_ (sizeOk_excFields _ _ _ _ _ _ _ _)
  unfold raiseNew
  refine wpAny_bind (wpAny_handled ?_)
  rw [show A.in1.handled = none from hA]
  refine wpAny_throw (k _ _ (Heap.ExtBut.push (Heap.ExtBut.push (Heap.SameBut.update _ _ _).extBut _) _) ⟨_, Heap.get?_push_size _ rfl, rfl⟩)
theorem isTup_at {h h' : Heap} {a : Addr} {items : Array Value} (x : h.IsTuple a items) (k : ∀ o, h.get? a = some o → h'.get? a = some o) : h'.IsTuple a items := by
  obtain ⟨o, ho, r⟩ := x
  exact ⟨o, k o ho, r⟩
theorem draws_tup {prog : Program} {w : World} {A : Around} (hA : A.handled = none) (it l : Addr) (n : l ≠ it) (items : Array Value) :
    Draws prog w A it [it, l] items.size (fun i v => items[i]? = some v) fun i h => h.IsTupleIter it l i ∧ h.IsTuple l items where
  live := fun i h x => by
    obtain ⟨⟨o, ho, _⟩, _⟩ := x
    exact ⟨o, ho⟩
  frame := fun i h h' x k => ⟨x.1.at (k it (by simp)), isTup_at x.2 (k l (by simp))⟩
  item := fun i s Q E hi x k => by
    refine next_tup_item x.1 x.2 (Array.getElem?_eq_getElem hi) fun h' h1 h2 => ?_
    exact k _ h' s.toks (Array.getElem?_eq_getElem hi) ⟨h1, isTup_at x.2 fun o ho => by rw [h2.2 l n]; exact ho⟩ h2
  done := fun s Q E x k => by
    refine next_tup_end hA x.1 x.2 (by simp) fun h' e h1 h2 => k h' e h1 h2
theorem wp_ite2 {α : Type} {M : Model} {A : Around} {E : Value → Shared → Prop} {s : Shared} {c : Prop} [Decidable c] {a b : Sem α} {Q : α → Shared → Prop} (ha : wpAny M A a Q E s) (hb : wpAny M A b Q E s) : wpAny M A (if c then a else b) Q E s := by
  split
  · exact ha
  · exact hb
theorem meets_enum_tup (l : Addr) (items : Array Value) : Meets (Builtin.«enumerate.__new__» { pos := [.type "enumerate", .ref l] }) fun x R s =>
    s.heap.IsTuple l items ∧ R (.ok (.ret (.ref (s.heap.push { cls := .type "tuple_iterator", data := .fields #[.ref l, .int 0 0] }).objs.size)))
      { heap := (s.heap.push { cls := .type "tuple_iterator", data := .fields #[.ref l, .int 0 0] }).push
          { cls := .type "enumerate", data := .fields #[.none, .bool false, .ref s.heap.objs.size, rawInt 0, .none, .none] },
        gens := s.gens, drawn := s.drawn, toks := s.toks, os := s.os } := by
  intro prog w A R s h
  obtain ⟨ht, k⟩ := h
  have nc : Builtin.SmallTypes.newClass "enumerate" { pos := [.type "enumerate", .ref l] } = pure (Value.type "enumerate", [Value.ref l]) := by
    unfold Builtin.SmallTypes.newClass
    show (isSubtype (.type "enumerate") (.type "enumerate") >>= fun b => if (!b) = true then _ else pure (Value.type "enumerate", [Value.ref l])) = _
    rw [sub_enumerate]
    rfl
  unfold Builtin.«enumerate.__new__»
  refine wpAny_bind (wpAny_of_eq nc ?_)
  refine wpAny_ite_true (by decide) ?_
  unfold Builtin.SmallTypes.calledThroughType
  refine wpAny_bind (wpAny_bind (wpAny_stack_any fun st => wpAny_pure ?_))
  refine wp_ite2 ?_ ?_
  all_goals
    refine wpAny_bind (wpAny_of_eq (a := (Value.ref l, none)) rfl ?_)
    refine wpAny_bind (wpAny_pyIter_tuple ht ?_)
    refine wpAny_bind (wpAny_newObj_type (data := .fields #[.none, .bool false, .ref s.heap.objs.size, rawInt 0, .none, .none]) ?_ (by show 6 ≤ sizeLine + 2; rw [sizeLine_eq]; decide))
    exact wpAny_pure k
theorem call_enum_tup {prog : Program} {w : World} {A : Around} {E : Value → Shared → Prop} {s : Shared} {l : Addr} {items : Array Value} {Q : Value → Shared → Prop} (ht : s.heap.IsTuple l items)
    (k : ∀ h' : Heap, IsEnum h' (s.heap.objs.size + 1) s.heap.objs.size 0 .none → h'.IsTupleIter s.heap.objs.size l 0 → h'.objs.size = s.heap.objs.size + 2 → (∀ (b : Addr) (o : Obj), s.heap.get? b = some o → h'.get? b = some o) →
      Q (.ref (s.heap.objs.size + 1)) { heap := h', gens := s.gens, drawn := s.drawn, toks := s.toks, os := s.os }) :
    wpAny (model prog w) A (call (.type "enumerate") [.ref l]) Q E s := by
  have e1 : (s.heap.push { cls := .type "tuple_iterator", data := .fields #[.ref l, .int 0 0] }).objs.size = s.heap.objs.size + 1 := size_push' _ _
  have g1 := Heap.get?_push_size (s.heap.push { cls := .type "tuple_iterator", data := .fields #[.ref l, .int 0 0] }) (o := { cls := .type "enumerate", data := .fields #[.none, .bool false, .ref s.heap.objs.size, rawInt 0, .none, .none] }) rfl
  rw [e1] at g1
  refine callType_new F.called_enumerate (by decide) (F.typeCall_enumerate_1 _) (F.newCall_enumerate_1 _) (fun obj => F.args_object_init_2 _ _) F.entry_enumerate_new (meets_enum_tup l items) ⟨ht, ?_⟩
  show Shared.TypeIs _ (.ref _) "enumerate" ∧ Q (.ref _) _
  rw [e1]
  refine ⟨⟨_, g1, rfl⟩, k _ g1 ⟨_, Heap.get?_push_of_some _ (Heap.get?_push_size _ rfl), rfl, rfl⟩ ?_ fun b o hb => Heap.get?_push_of_some _ (Heap.get?_push_of_some _ hb)⟩
  rw [size_push', e1]
theorem enum_tup_end {prog : Program} {w : World} {A : Around} {E : Value → Shared → Prop} {s : Shared} {e it l : Addr} {i : Nat} {items : Array Value} {old : Value} {Q : Option Value → Shared → Prop}
    (hA : A.handled = none) (he : IsEnum s.heap e it (i : Nat) old) (h1 : s.heap.IsTupleIter it l i) (h2 : s.heap.IsTuple l items) (n : l ≠ it) (hx : items[i]? = none)
    (k : ∀ h' : Heap, Heap.ExtBut it s.heap h' → Q none { heap := h', gens := s.gens, drawn := s.drawn, toks := s.toks, os := s.os }) : wpAny (model prog w) A (pyNext (.ref e)) Q E s := by
  have d : Draws prog w A.in1 it [it, l] i (fun _ _ => True) (fun j h => j = i ∧ h.IsTupleIter it l j ∧ h.IsTuple l items) :=
    { live := fun j h x => by
        obtain ⟨_, ⟨o, ho, _⟩, _⟩ := x
        exact ⟨o, ho⟩
      frame := fun j h h' x k => ⟨x.1, x.2.1.at (k it (by simp)), isTup_at x.2.2 (k l (by simp))⟩
      item := fun j s Q E hj x k => absurd x.1 (Nat.ne_of_lt hj)
      done := fun s Q E x k => next_tup_end (show A.in1.handled = none from hA) x.2.1 x.2.2 hx fun h' e h1 h2 => k h' e h1 h2 }
  exact wpAny_pyNext_enum_endD d he ⟨rfl, h1, h2⟩ k
/-- the turns of enumerate(t), t a tuple -/
def Itet (K : PySem.W.Frag) (a : Addr) : It where
  go := fun i H => ∃ xs x, SqT K H a xs ∧ xs[i]? = some x
  yld := fun i H v H' => ∃ T x, v = .ref T ∧ H T = none ∧ H' = upd H T (.tup [.int (i : Nat), x]) ∧ ∀ xs, SqT K H a xs → xs[i]? = some x
  stop := fun i H => ∃ xs, SqT K H a xs ∧ xs.length ≤ i
theorem turn_enumT {P : Program} {w : World} {K : PySem.W.Frag} {elts : List Expr} {kk : Nat} {tpos : Pos} (a e it : Addr) :
    Turn P w K (.Tuple elts kk tpos) (Itet K a) [e, it] e fun i h => (∃ old, IsEnum h e it (i : Nat) old) ∧ h.IsTupleIter it a i ∧ e ≠ it where
  mem := by simp
  obj := fun i h x b hb => by
    obtain ⟨⟨old, x1⟩, ⟨o, x2, _, x3⟩, _⟩ := x
    rcases List.mem_cons.mp hb with rfl | hb
    · exact ⟨_, x1, fun v hv => by cases hv⟩
    · rw [List.mem_singleton.mp hb]
      exact ⟨_, x2, fun v hv => by rw [x3] at hv; cases hv⟩
  keep := fun i h h' x k => ⟨⟨x.1.choose, k e (by simp) _ x.1.choose_spec⟩, x.2.1.at (k it (by simp)), x.2.2⟩
  item := by
    rintro X rfl rfl rfl hc i pins s σ H E I fp ⟨⟨old, he⟩, hit, ne⟩ ⟨xs, x, hs, hx⟩
    obtain ⟨its, hv, ht, hl⟩ := I.tuple hs
    obtain ⟨u, hu, ru⟩ := hv.get hx
    have hA : X.A.handled = none := I.ok.hd hc
    obtain ⟨o1, h1, hc1, n1, hd1⟩ := ht
    obtain ⟨o2, h2, hc2, hd2⟩ := hit
    have na : a ≠ it := fun z => by
      rw [z, h2] at h1
      cases h1
      rw [hc2] at hc1
      injection hc1 with hc1
      exact absurd hc1 (by decide)
    have nea : e ≠ a := fun z => by
      have he : s.heap.get? e = _ := he
      rw [z, h1] at he
      injection he with he
      rw [he] at hc1
      injection hc1 with hc1
      exact absurd hc1 (by decide)
    have hi : i < its.toArray.size := by
      rw [List.size_toArray]
      exact (List.getElem?_eq_some_iff.mp hu).1
    refine wpAny_pyNext_enum_itemD (draws_tup (show X.A.in1.handled = none from hA) it a na its.toArray) he ⟨⟨o2, h2, hc2, hd2⟩, ⟨o1, h1, hc1, n1, hd1⟩⟩ hi ne (by simp [ne, nea]) fun x' h' tk px hout hst htup hsz hold => ?_
    refine ⟨_, rfl, wpAny_letOwnedTupleGo_enum hout fun h2' hen hsb => ?_⟩
    have ex : x' = u := by
      rw [List.getElem?_toArray, hu] at px
      cases px
      rfl
    subst ex
    have se : s.heap.objs.size ≠ e := fun z => by
      have := Heap.lt_size (show s.heap.get? e = _ from he)
      rw [z] at this
      exact Nat.lt_irrefl _ this
    have fresh : ∀ b, s.heap.objs.size ≤ b → H b = none := fun b hb => I.hok.fresh hb
    refine ⟨.ref s.heap.objs.size, upd H s.heap.objs.size (.tup [.int (i : Nat), x]), ?_, rfl, ⟨_, x, rfl, fresh _ (Nat.le_refl _), rfl, fun ys hys => ?_⟩, ⟨⟨_, hen⟩, hst.1.at fun o ho => ?_, ne⟩, fun b hb => ?_⟩
    · refine I.turnedNew (ch := [e, it]) (fun b o hb ho => ?_) fp (Nat.le_refl _) ⟨by show 2 ≤ sizeLine; rw [sizeLine_eq]; decide, [.int i tk, x'], ?_, ?_⟩
      · have n1 : b ≠ e := fun z => hb (by rw [z]; simp)
        have n2 : b ≠ it := fun z => hb (by rw [z]; simp)
        rw [hsb.2 b n1]
        exact hold b o n1 n2 ho
      · exact .cons ⟨tk, rfl⟩ (.cons ru .nil)
      · exact ⟨_, (hsb.2 _ se).trans htup, rfl, _, rfl⟩
    · rw [I.tuple_inj hys hs]
      exact hx
    · rw [hsb.2 it (Ne.symm ne)]
      exact ho
    · have hf := (fp b hb).1
      have lt : b < s.heap.objs.size := by
        rcases List.mem_cons.mp hb with rfl | hb
        · exact Heap.lt_size (show s.heap.get? b = _ from he)
        · rw [List.mem_singleton.mp hb]
          exact Heap.lt_size h2
      rw [upd_ne (Nat.ne_of_lt lt)]
      exact hf
  done := by
    rintro X rfl rfl rfl hc i pins s σ H E I fp ⟨⟨old, he⟩, hit, ne⟩ ⟨xs, hs, hx⟩
    obtain ⟨its, hv, ht, hl⟩ := I.tuple hs
    have hA : X.A.handled = none := I.ok.hd hc
    obtain ⟨o1, h1, hc1, n1, hd1⟩ := ht
    have hit2 := hit
    obtain ⟨o2, h2, hc2, hd2⟩ := hit
    have na : a ≠ it := fun z => by
      rw [z, h2] at h1
      cases h1
      rw [hc2] at hc1
      injection hc1 with hc1
      exact absurd hc1 (by decide)
    have f := fp it (by simp)
    refine enum_tup_end hA he hit2 ⟨o1, h1, hc1, n1, hd1⟩ na ?_ fun h' hx' => ?_
    · rw [List.getElem?_toArray]
      exact List.getElem?_eq_none_iff.mpr (by rw [← hv.length]; exact hx)
    · exact ⟨rfl, I.turned (it := it) (fun b o n h => hx' b o n h) f.1 f.2.1 f.2.2.2.1 f.2.2.2.2.1 f.2.2.2.2.2⟩
  self := fun A i s Q E x q => wpAny_pyIter_enum x.1.choose_spec q
def iEnumT (K : PySem.W.Frag) (ta : TA) : TI := fun σ H R => ta σ H fun vs H1 => ∃ a xs, vs = [V.ref a] ∧ SqT K H1 a xs ∧ R (Itet K a) H1
theorem pi_enumT {X : Cx} {e : Expr} {ta : TA} {p pos tpos : Pos} {elts : List Expr} {kk : Nat} (hg : Gl X "enumerate") (hm : X.mg "enumerate" = none) (ha : PA X [e] ta)
    (st : starEach [e] X.env = [(false, eval e X.env)] := by rfl) : PI X (.Tuple elts kk tpos) (.Call (.Name "enumerate" p) [e] [] pos) (iEnumT X.K ta) := by
  refine ⟨fun pins s σ H R I h => ?_⟩
  refine Call_ (ld_blt I hg hm boot_enumerate ?_) (by rfl)
  refine callWith_type1 ?_ st (by rfl)
  refine thn (ha.run pos pins s σ H _ I h) ?_
  rintro us s1 ⟨vs, H1, I1, rv, a, xs, rfl, hs, hr⟩
  obtain ⟨u, rfl, hu⟩ := vals1 rv
  cases hu
  obtain ⟨its, hv, ht, hl⟩ := I1.tuple hs
  refine call_enum_tup ht fun h' h1 h2 h3 h4 => ?_
  refine wpAny_pyIter_enum h1 ⟨_, [s1.heap.objs.size + 1, s1.heap.objs.size], _, _, H1, rfl, I1.kept h4, turn_enumT a _ s1.heap.objs.size, ⟨⟨_, h1⟩, h2, Nat.succ_ne_self _⟩, fun b hb => ?_, hr⟩
  have le : s1.heap.objs.size ≤ b := by
    rcases List.mem_cons.mp hb with rfl | hb
    · exact Nat.le_succ _
    · rw [List.mem_singleton.mp hb]
      exact Nat.le_refl _
  exact I1.fpOk le (I1.hok.fresh le)
theorem walk_enumT {K : PySem.W.Frag} {a : Addr} {xs : List V} : Walk (Itet K a) xs.length (fun H => SqT K H a xs) (YPair (fun i => some (.int (i : Nat))) (fun i => xs[i]?)) where
  goes := fun i H hi h => ⟨xs, xs[i], h, List.getElem?_eq_getElem hi⟩
  stops := fun H h => ⟨xs, h, Nat.le_refl _⟩
  yields := fun i H v H' hi h y => by
    obtain ⟨T, x, rfl, hT, rfl, hx⟩ := y
    exact ⟨T, _, x, rfl, hT, rfl, rfl, hx xs h⟩
/-- k in d, d a dict that the top has written -/
theorem op_in_kdw {X : Cx} : OpR X (compareOp .In) fun x y H Q => ∃ d kvs k, x = kV k ∧ y = .ref d ∧ KD X.K X.w d kvs ∧ Q (.bl (valV kvs k).isSome) H := by
  rintro pins s σ H x y v u Q I rx ry ⟨d, kvs, k, rfl, rfl, D, q⟩
  cases ry
  obtain ⟨g, hm, hg⟩ := D.map (P := X.prog) I.kIn
  obtain ⟨es, n, hl, low, _⟩ := D
  refine wpAny_in_of (kV_is rx) low hm ⟨_, H, I.tok _, ?_, q⟩
  rw [(hg k).isSome_eq]
  rfl
theorem dc_itv {J : It} {n : Nat} {G : Hp → Prop} {Y : Nat → Hp → V → Hp → Prop} (w : Walk J n G Y) {g : TG} {tt : TT} {tk tv : TE} {vs : List Nat} {σ : L2.St} {H1 : Hp} {D : Addr} {Qd : Hp → Prop}
    (Pv : Nat → Hp → Prop) (h0 : Pv 0 (upd H1 D (.dK []))) (hl : ∀ (i : Nat) (H : Hp), i ≤ n → Pv i H → G H)
    (hs : ∀ (i : Nat) (x : V) (H H' : Hp), i < n → Pv i H → Y i H x H' → g x (wipe σ vs) H' fun σ2 H2 => wipe σ2 vs = wipe σ vs ∧ tt σ2 H2 fun b H3 =>
      if b = true then tk σ2 H3 fun y H4 => tv σ2 H4 fun z H5 => ∃ kvs k, y = kV k ∧ H5 D = some (.dK kvs) ∧ kvs.length < sizeLine ∧ Pv (i + 1) (upd H5 D (.dK (putK kvs k z))) else Pv (i + 1) H3)
    (hd : ∀ H, Pv n H → Qd H) :
    ∃ W : Nat → Nat → Hp → Prop, (∃ m, W 0 m (upd H1 D (.dK []))) ∧ ∀ (i m : Nat) (H : Hp), W i m H → J.stop i H ∧ Qd H ∨ J.go i H ∧ ∃ Nx : Hp → Prop, (∀ H', Nx H' → ∃ m', m' < m ∧ W (i + 1) m' H') ∧
      ∀ (x : V) (H' : Hp), J.yld i H x H' → g x (wipe σ vs) H' fun σ2 H2 => wipe σ2 vs = wipe σ vs ∧ tt σ2 H2 fun b H3 =>
        if b = true then tk σ2 H3 fun y H4 => tv σ2 H4 fun z H5 => ∃ kvs k, y = kV k ∧ H5 D = some (.dK kvs) ∧ kvs.length < sizeLine ∧ Nx (upd H5 D (.dK (putK kvs k z))) else Nx H3 := by
  refine ⟨fun i m H => i ≤ n ∧ m = n - i ∧ Pv i H, ⟨n, Nat.zero_le _, rfl, h0⟩, fun i m H ⟨hi, hm, hp⟩ => ?_⟩
  have hg := hl i H hi hp
  rcases Nat.lt_or_ge i n with q | q
  · refine .inr ⟨w.goes i H q hg, Pv (i + 1), fun H' h' => ⟨n - (i + 1), by omega, q, rfl, h'⟩, fun x H' hy => hs i x H H' q hp (w.yields i H x H' q hg hy)⟩
  · obtain rfl : i = n := by omega
    exact .inl ⟨w.stops H hg, hd H hp⟩
end Vf

set_option Elab.async false
set_option linter.all false
set_option maxRecDepth 100000
set_option maxHeartbeats 4000000
/-! Own words: data with dicts in it. -/
namespace Vf
open PySem PySem.Spec PyProof.Rows L2
def keyD : Key → PyData
  | .inl i => .int i
  | .inr x => .str x
mutual
/-- data, dicts with whole numbers and texts as keys among it -/
inductive Dx (K : PySem.W.Frag) (H : Hp) : V → PyData → Prop
  | non : Dx K H .non .none
  | bl (b : Bool) : Dx K H (.bl b) (.bool b)
  | int (i : Int) : Dx K H (.int i) (.int i)
  | str (x : Str) : Dx K H (.str x) (.str x)
  | lst {a : Addr} {xs : List V} {ds : List PyData} : SqL K H a xs → DxAll K H xs ds → Dx K H (.ref a) (.list ds)
  | tup {a : Addr} {xs : List V} {ds : List PyData} : SqT K H a xs → DxAll K H xs ds → Dx K H (.ref a) (.tuple ds)
  | dic {a : Addr} {kvs : List (Key × V)} {ds : List PyData} : Rd H a (.dK kvs) → (kvs.map (·.1)).Nodup → DxAll K H (kvs.map (·.2)) ds → Dx K H (.ref a) (.dict ((kvs.map fun q => keyD q.1).zip ds))
inductive DxAll (K : PySem.W.Frag) (H : Hp) : List V → List PyData → Prop
  | nil : DxAll K H [] []
  | cons {v : V} {vs : List V} {d : PyData} {ds : List PyData} : Dx K H v d → DxAll K H vs ds → DxAll K H (v :: vs) (d :: ds)
end
mutual
theorem Dp.dx {K : PySem.W.Frag} {H : Hp} : ∀ {v : V} {d : PyData}, Dp K H v d → Dx K H v d
  | _, _, .non => .non
  | _, _, .bl b => .bl b
  | _, _, .int i => .int i
  | _, _, .str x => .str x
  | _, _, .lst h a => .lst h (DpAll.dx a)
  | _, _, .tup h a => .tup h (DpAll.dx a)
theorem DpAll.dx {K : PySem.W.Frag} {H : Hp} : ∀ {vs : List V} {ds : List PyData}, DpAll K H vs ds → DxAll K H vs ds
  | _, _, .nil => .nil
  | _, _, .cons a b => .cons (Dp.dx a) (DpAll.dx b)
end
theorem keys_read {P : Program} {w : World} {h : Heap} : ∀ {es : List DictEntry} {vs : List (Key × Value)} {kvs : List (Key × V)}, Pairs (mixKind P w) es vs → KV kvs vs →
    ReadsAll h (es.map (·.key)) (kvs.map fun q => keyD q.1) [] ∧ Vals (kvs.map (·.2)) (es.map (·.val))
  | _, _, _, .nil, hk => by
    cases hk
    exact ⟨.nil, .nil⟩
  | _, _, _, .cons (e := e) (kv := kv) h1 h2 h3, hk => by
    cases hk with
    | cons q r =>
      obtain ⟨i1, i2⟩ := keys_read (h := h) h3 r
      refine ⟨?_, .cons (by show L2.RelV _ e.val; rw [h2]; exact q.2) i2⟩
      have h1 : keyIs kv.1 e.key = true := h1
      rw [← q.1] at h1
      have one : ∀ k : Key, keyIs k e.key = true → Reads h e.key (keyD k) [] := fun k hk => by
        rcases keyIs_shape hk with ⟨i, t, e1, e2⟩ | ⟨x, t, e1, e2⟩
        · rw [e1, e2]
          exact .int i t
        · rw [e1, e2]
          exact .str x t
      exact .cons (one _ h1) i1
theorem zip_fst : ∀ {a b : List PyData}, a.length = b.length → (a.zip b).map (·.1) = a ∧ (a.zip b).map (·.2) = b
  | [], [], _ => ⟨rfl, rfl⟩
  | x :: a, y :: b, h => by
    obtain ⟨h1, h2⟩ := zip_fst (a := a) (b := b) (by rw [List.length_cons, List.length_cons] at h; omega)
    exact ⟨congrArg (x :: ·) h1, congrArg (y :: ·) h2⟩
theorem DxAll.len {K : PySem.W.Frag} {H : Hp} : ∀ {vs : List V} {ds : List PyData}, DxAll K H vs ds → vs.length = ds.length
  | _, _, .nil => rfl
  | _, _, .cons _ r => congrArg (· + 1) r.len
/-- no tracked object is sys.modules, once that stands in the law's own heap -/
theorem sys_free {X : Cx} {pins : List (Addr × Obj)} {σ : L2.St} {H : Hp} {s : Shared} {o : Obj} (hb : X.base.get? sysModules = some o) (I : L2.Inv X pins σ H s) : H sysModules = none :=
  I.base.free _ _ (I.ok.bs _ _ hb).1 (I.ok.bs _ _ hb).2 (I.ok.noex _ _ hb)
theorem rd_sys {X : Cx} {pins : List (Addr × Obj)} {σ : L2.St} {H : Hp} {s : Shared} {o : Obj} (hb : X.base.get? sysModules = some o) (I : L2.Inv X pins σ H s) {a : Addr} {u : HO} (h : Rd H a u) : a ≠ sysModules := fun z => by
  have n := sys_free hb I
  rw [← z] at n
  rcases h with h | ⟨_, h⟩ <;> (rw [n] at h; cases h)
theorem list_sys {X : Cx} {pins : List (Addr × Obj)} {σ : L2.St} {H : Hp} {s : Shared} (hb : ∃ o, X.base.get? sysModules = some o ∧ o.cls = .type "dict") (I : L2.Inv X pins σ H s) {a : Addr} {xs : List V} (h : SqL X.K H a xs) : a ≠ sysModules := by
  obtain ⟨o, h1, h2⟩ := hb
  rcases h with h | ⟨o', its, n, h3, h4, _⟩
  · exact rd_sys h1 I h
  · intro z
    have := I.ok.mod.kin _ _ h3
    rw [z, h1] at this
    cases this
    rw [h2] at h4
    injection h4 with h4
    exact absurd h4 (by decide)
section
variable {X : Cx} {pins : List (Addr × Obj)} {σ : L2.St} {H : Hp} {s : Shared}
mutual
theorem Dx.reads (I : L2.Inv X pins σ H s) : ∀ {v : V} {d : PyData} {u : Value}, Dx X.K H v d → L2.RelV v u → ∃ as, Reads s.heap u d as ∧ ((∃ o, X.base.get? sysModules = some o ∧ o.cls = .type "dict") → sysModules ∉ as)
  | _, _, _, .non, r => by
    cases r
    exact ⟨_, .none, fun _ => by simp⟩
  | _, _, _, .bl b, r => by
    cases r
    exact ⟨_, .bool b, fun _ => by simp⟩
  | _, _, _, .int i, r => by
    obtain ⟨t, rfl⟩ := r
    exact ⟨_, .int i t, fun _ => by simp⟩
  | _, _, _, .str x, r => by
    obtain ⟨t, rfl⟩ := r
    exact ⟨_, .str x t, fun _ => by simp⟩
  | _, _, _, .lst h a, r => by
    cases r
    obtain ⟨its, hv, ⟨o, n, h1, h2, _, h3⟩, _⟩ := I.list h
    obtain ⟨as, ha, hn⟩ := DxAll.reads I a hv
    refine ⟨_, .list h1 h2 h3 ha, fun hb hm => ?_⟩
    rcases List.mem_cons.mp hm with q | q
    · exact list_sys hb I h q.symm
    · exact hn hb q
  | _, _, _, .tup h a, r => by
    cases r
    obtain ⟨its, hv, ⟨o, h1, h2, n, h3⟩, _⟩ := I.tuple h
    obtain ⟨as, ha, hn⟩ := DxAll.reads I a hv
    exact ⟨_, .tuple h1 h2 h3 ha, hn⟩
  | _, _, _, .dic (kvs := kvs) (ds := ds) h _ a, r => by
    cases r
    obtain ⟨_, _, vs, hKV, o, es, ep, h1, h2, h3, _, hp, _⟩ := dk_rd I.hok h
    obtain ⟨r1, r2⟩ := keys_read (h := s.heap) hp hKV
    obtain ⟨as, ha, hn⟩ := DxAll.reads I a r2
    have l := a.len
    rw [List.length_map] at l
    obtain ⟨z1, z2⟩ := zip_fst (a := kvs.map fun q => keyD q.1) (b := ds) (by rw [List.length_map]; exact l)
    refine ⟨_, .dict h1 h2.1 h3 (by rw [z1]; exact r1) (by rw [z2]; exact ha), fun hb hm => ?_⟩
    obtain ⟨o', hb1, _⟩ := hb
    rcases List.mem_append.mp hm with q | q
    · exact rd_sys hb1 I h (List.mem_singleton.mp q).symm
    · exact hn ⟨o', hb1, by assumption⟩ q
theorem DxAll.reads (I : L2.Inv X pins σ H s) : ∀ {vs : List V} {ds : List PyData} {us : List Value}, DxAll X.K H vs ds → Vals vs us → ∃ as, ReadsAll s.heap us ds as ∧ ((∃ o, X.base.get? sysModules = some o ∧ o.cls = .type "dict") → sysModules ∉ as)
  | _, _, _, .nil, r => by
    cases r
    exact ⟨_, .nil, fun _ => by simp⟩
  | _, _, _, .cons a b, r => by
    cases r with
    | cons r1 r2 =>
      obtain ⟨as, h1, n1⟩ := Dx.reads I a r1
      obtain ⟨bs, h2, n2⟩ := DxAll.reads I b r2
      exact ⟨_, .cons h1 h2, fun hb hm => (List.mem_append.mp hm).elim (n1 hb) (n2 hb)⟩
end
end
/-- repr of data with dicts in it -/
def rReprX (K : PySem.W.Frag) (b : Heap) : List V → Hp → VK → Prop := fun xs H Q => ∃ (p : Addr) (d : PyData), xs = [.ref p] ∧ Dx K H (.ref p) d ∧ d.showable = true ∧ d.depth ≤ 60 ∧ d.shown.length ≤ sizeLine ∧ (∃ o, b.get? sysModules = some o ∧ o.cls = .type "dict") ∧ Q (.str d.shown) H
theorem call_reprX {X : Cx} (hu : X.A.units + 65 < cLine) (gd : X.A.guards = some []) : CallR X (.builtin "repr") (rReprX X.K X.base) := by
  rintro pins s σ H xs us Q I hv ⟨p, d, rfl, hd, sh, dp, sz, hb, k⟩
  obtain ⟨u, rfl, hu2⟩ := vals1 hv
  cases hu2
  obtain ⟨as, ha, hn⟩ := hd.reads I rfl
  exact repr_of_reads' ha sh (fun _ => hn hb) gd (by omega) (fun b o h => h) (fun h' u tk hh => ⟨.str d.shown, H, I.kept hh, ⟨u, rfl⟩, k⟩) sz
end Vf

set_option Elab.async false
set_option linter.all false
set_option maxRecDepth 100000
set_option maxHeartbeats 4000000
/-! Own words: == of data with dicts in it, their sizes; sorted of any data. -/
namespace Vf
open PySem PySem.Spec PyProof.Rows L2
open PySem.W (EqTree EachIs AllAlike Sortable)
theorem u70 {k : Nat} {A : Around} (r : Room k A) : A.units + 70 < cLine := by
  have := r.un
  omega
theorem u65 {k : Nat} {A : Around} (r : Room k A) : A.units + 65 < cLine := by
  have := r.un
  omega
theorem u1 {k : Nat} {A : Around} (r : Room k A) : A.units + 1 < cLine := by
  have := r.un
  omega
/-- y in d, d not in d -/
theorem op_inDict {X : Cx} (hu : X.A.units + 1 < cLine) : OpR X (compareOp .In) fun y x H Q => ∃ a o, x = .ref a ∧ DGet H a y o ∧ Q (.bl o.isSome) H := by
  rintro pins s σ H y x u v Q I ry rx ⟨a, o, rfl, g, q⟩
  cases rx
  exact d_in hu I g ry fun s2 I2 => ⟨.bl _, H, I2, rfl, q⟩
theorem op_notInDict {X : Cx} (hu : X.A.units + 1 < cLine) : OpR X (compareOp .NotIn) fun y x H Q => ∃ a o, x = .ref a ∧ DGet H a y o ∧ Q (.bl (!o.isSome)) H := by
  rintro pins s σ H y x u v Q I ry rx ⟨a, o, rfl, g, q⟩
  cases rx
  exact d_notIn hu I g ry fun s2 I2 => ⟨.bl _, H, I2, rfl, q⟩
theorem valV_some (k : Key) : ∀ kvs : List (Key × V), (valV kvs k).isSome = true ↔ k ∈ kvs.map (·.1)
  | [] => by simp [valV]
  | p :: r => by
    rw [List.map_cons, List.mem_cons]
    by_cases e : p.1 = k
    · rw [valV_pos e]
      exact ⟨fun _ => .inl e.symm, fun _ => rfl⟩
    · rw [valV_neg e, valV_some k r]
      exact ⟨.inr, fun h => h.resolve_left fun z => e z.symm⟩
theorem putK_new {kvs : List (Key × V)} {k : Key} (v : V) (h : k ∉ kvs.map (·.1)) : putK kvs k v = kvs ++ [(k, v)] := by
  unfold putK
  rw [if_neg]
  intro z
  obtain ⟨p, hp, e⟩ := List.any_eq_true.mp z
  exact h (by rw [← of_decide_eq_true e]; exact List.mem_map_of_mem hp)
theorem valV_mem : ∀ {kvs : List (Key × V)} {k : Key} {v : V}, (kvs.map (·.1)).Nodup → (k, v) ∈ kvs → valV kvs k = some v
  | p :: r, k, v, n, h => by
    rw [List.map_cons, List.nodup_cons] at n
    rcases List.mem_cons.mp h with e | h
    · rw [← e]
      exact valV_pos rfl
    · rw [valV_neg (fun e => n.1 (by rw [e]; exact List.mem_map_of_mem (f := fun q : Key × V => q.1) h))]
      exact valV_mem n.2 h
theorem merge_new : ∀ {more kvs : List (Key × V)}, ((kvs ++ more).map (·.1)).Nodup → mergeK kvs more = kvs ++ more
  | [], kvs, _ => (List.append_nil kvs).symm
  | p :: r, kvs, h => by
    show mergeK (putK kvs p.1 p.2) r = kvs ++ p :: r
    have e : kvs ++ p :: r = (kvs ++ [p]) ++ r := by rw [List.append_assoc] <;> rfl
    rw [e] at h ⊢
    rw [putK_new p.2 (fun z => by
      rw [List.map_append, List.nodup_append, List.map_append, List.nodup_append] at h
      exact h.1.2.2 p.1 z p.1 (by simp) rfl)]
    exact merge_new h
/-! ### == -/
theorem dx_lst {K : PySem.W.Frag} {H : Hp} {x : V} {d : PyData} {ds : List PyData} (h : Dx K H x d) (e : d = .list ds) : ∃ a xs, x = .ref a ∧ SqL K H a xs ∧ DxAll K H xs ds := by
  cases h <;> try (cases e)
  exact ⟨_, _, rfl, ‹_›, ‹_›⟩
theorem dx_tup {K : PySem.W.Frag} {H : Hp} {x : V} {d : PyData} {ds : List PyData} (h : Dx K H x d) (e : d = .tuple ds) : ∃ a xs, x = .ref a ∧ SqT K H a xs ∧ DxAll K H xs ds := by
  cases h <;> try (cases e)
  exact ⟨_, _, rfl, ‹_›, ‹_›⟩
theorem dx_dic {K : PySem.W.Frag} {H : Hp} {x : V} {d : PyData} {l : List (PyData × PyData)} (h : Dx K H x d) (e : d = .dict l) : ∃ (a : Addr) (kvs : List (Key × V)), x = .ref a ∧ Rd H a (.dK kvs) ∧ (kvs.map (·.1)).Nodup ∧ DxAll K H (kvs.map (·.2)) (l.map (·.2)) ∧ (kvs.map fun q => keyD q.1) = l.map (·.1) := by
  cases h with
  | @dic _ kvs ds h n a =>
    injection e with e
    have hl : (kvs.map fun q => keyD q.1).length = ds.length := by
      rw [List.length_map]
      have := a.len
      rw [List.length_map] at this
      exact this
    have z := zip_fst hl
    rw [e] at z
    refine ⟨_, _, rfl, h, n, ?_, z.1.symm⟩
    rw [z.2]
    exact a
  | _ => cases e
theorem keyD_inj {a b : Key} (h : keyD a = keyD b) : a = b := by
  cases a with
  | inl i =>
    cases b with
    | inl j =>
      injection h with h
      rw [h]
    | inr _ => cases h
  | inr i =>
    cases b with
    | inl j => cases h
    | inr _ =>
      injection h with h
      rw [h]
theorem keys_inj : ∀ {a b : List (Key × V)}, (a.map fun q => keyD q.1) = (b.map fun q => keyD q.1) → a.map (·.1) = b.map (·.1)
  | [], [], _ => rfl
  | [], _ :: _, h => by cases h
  | _ :: _, [], h => by cases h
  | x :: a, y :: b, h => by
    rw [List.map_cons, List.map_cons] at h ⊢
    injection h with h1 h2
    rw [keyD_inj h1, keys_inj h2]
theorem kv_vals : ∀ {ks : List (Key × V)} {vs : List (Key × Value)}, KV ks vs → Vals (ks.map (·.2)) (vs.map (·.2))
  | _, _, .nil => .nil
  | _, _, .cons h r => .cons h.2 (kv_vals r)
section
variable {X : Cx} {pins : List (Addr × Obj)} {σ : L2.St} {H : Hp} {s : Shared}
mutual
theorem Dx.eqT (I : L2.Inv X pins σ H s) : ∀ (d : PyData) (n : Nat) {x y : V} {v u : Value}, d.depth ≤ n → Dx X.K H x d → Dx X.K H y d → L2.RelV x v → L2.RelV y u → EqTree X.prog X.w s n v u true
  | .none, n, _, _, _, _, _, h1, h2, r1, r2 => by
    cases h1
    cases h2
    exact .leaf fun A _ => eqAt_same r1 r2 rfl
  | .bool b, n, _, _, _, _, _, h1, h2, r1, r2 => by
    cases h1
    cases h2
    exact .leaf fun A _ => eqAt_same r1 r2 rfl
  | .int i, n, _, _, _, _, _, h1, h2, r1, r2 => by
    cases h1
    cases h2
    exact .leaf fun A _ => eqAt_same r1 r2 rfl
  | .str z, n, _, _, _, _, _, h1, h2, r1, r2 => by
    cases h1
    cases h2
    exact .leaf fun A _ => eqAt_same r1 r2 rfl
  | .list ds, n, _, _, _, _, hn, h1, h2, r1, r2 => by
    obtain ⟨a, xs, rfl, sa, da⟩ := dx_lst h1 rfl
    obtain ⟨b, ys, rfl, sb, db⟩ := dx_lst h2 rfl
    cases r1
    cases r2
    by_cases e : a = b
    · subst e
      exact .same
    · cases n with
      | zero => exact absurd hn (Nat.not_succ_le_zero _)
      | succ m =>
        obtain ⟨us, v1, p1, _⟩ := I.list sa
        obtain ⟨ws, v2, p2, _⟩ := I.list sb
        have t := EqTree.lists (e := fun _ => true) e p1.isList p2.isList (by
          rw [List.size_toArray, List.size_toArray, ← v1.length, ← v2.length, da.len, db.len]) (fun j g1 g2 => by
          have := Dx.eqTAll I ds m (Nat.le_of_succ_le_succ hn) da db v1 v2 j (by simpa using g1) (by simpa using g2)
          simpa using this)
        rw [show ((List.range us.toArray.size).all fun _ => true) = true from List.all_eq_true.mpr fun _ _ => rfl] at t
        exact t
  | .tuple ds, n, _, _, _, _, hn, h1, h2, r1, r2 => by
    obtain ⟨a, xs, rfl, sa, da⟩ := dx_tup h1 rfl
    obtain ⟨b, ys, rfl, sb, db⟩ := dx_tup h2 rfl
    cases r1
    cases r2
    by_cases e : a = b
    · subst e
      exact .same
    · cases n with
      | zero => exact absurd hn (Nat.not_succ_le_zero _)
      | succ m =>
        obtain ⟨us, v1, p1, _⟩ := I.tuple sa
        obtain ⟨ws, v2, p2, _⟩ := I.tuple sb
        have t := EqTree.tuples (e := fun _ => true) e p1 p2 (fun j g1 g2 => by
          have := Dx.eqTAll I ds m (Nat.le_of_succ_le_succ hn) da db v1 v2 j (by simpa using g1) (by simpa using g2)
          simpa using this)
        have es : us.toArray.size = ws.toArray.size := by
          rw [List.size_toArray, List.size_toArray, ← v1.length, ← v2.length, da.len, db.len]
        rw [show ((List.range (min us.toArray.size ws.toArray.size)).all fun _ => true) = true from List.all_eq_true.mpr fun _ _ => rfl, es, beq_self_eq_true] at t
        exact t
  | .dict l, n, _, _, _, _, hn, h1, h2, r1, r2 => by
    obtain ⟨a, ka, rfl, sa, na, da, ea⟩ := dx_dic h1 rfl
    obtain ⟨b, kb, rfl, sb, nb, db, eb⟩ := dx_dic h2 rfl
    cases r1
    cases r2
    by_cases e : a = b
    · subst e
      exact .same
    · cases n with
      | zero => exact absurd hn (Nat.not_succ_le_zero _)
      | succ m =>
        have ek := keys_inj (ea.trans eb.symm)
        obtain ⟨_, ga, va, KA, DA⟩ := dk_rd I.hok sa
        obtain ⟨_, gb, vb, KB, DB⟩ := dk_rd I.hok sb
        have kk : va.map (·.1) = vb.map (·.1) := by rw [← KA.keys, ← KB.keys, ek]
        have nv : (vb.map (·.1)).Nodup := by rw [← KB.keys]; exact nb
        have vA : Vals (ka.map (·.2)) (va.map (·.2)) := kv_vals KA
        have vB : Vals (kb.map (·.2)) (vb.map (·.2)) := kv_vals KB
        have t := EqTree.dicts (e := fun _ => true) e ga gb DA DB (fun k v y hm hv => by
          obtain ⟨j, hj, ej⟩ := List.getElem_of_mem hm
          have hl : va.length = vb.length := by
            have := congrArg List.length kk
            rw [List.length_map, List.length_map] at this
            exact this
          have hj2 : j < vb.length := by omega
          have k1 : (va.map (·.1))[j]'(by rw [List.length_map]; exact hj) = k := by rw [List.getElem_map, ej]
          have k2 : vb[j].1 = k := by
            rw [← k1]
            simp only [kk, List.getElem_map]
          have q : valueAt vb k = some vb[j].2 := PySem.valueAt_of_mem nv (by rw [← k2]; exact List.getElem_mem hj2)
          rw [q] at hv
          injection hv with hv
          have := Dx.eqTKv I l m (Nat.le_of_succ_le_succ hn) da db vA vB j (by rw [List.length_map]; exact hj) (by rw [List.length_map]; exact hj2)
          rw [List.getElem_map, List.getElem_map, ej, hv] at this
          exact this)
        have hl : (va.length == vb.length) = true := by
          have := congrArg List.length kk
          rw [List.length_map, List.length_map] at this
          rw [this]
          exact beq_self_eq_true _
        have hall : (va.all fun p => (valueAt vb p.1).isSome && true) = true := List.all_eq_true.mpr fun p hp => by
          have : p.1 ∈ vb.map (·.1) := by
            rw [← kk]
            exact List.mem_map_of_mem hp
          rw [PySem.valueAt_isSome.mpr this]
          rfl
        rw [hl, hall] at t
        exact t
theorem Dx.eqTAll (I : L2.Inv X pins σ H s) : ∀ (ds : List PyData) (n : Nat) {xs ys : List V} {us ws : List Value}, PyData.depthAll ds ≤ n → DxAll X.K H xs ds → DxAll X.K H ys ds → Vals xs us → Vals ys ws → ∀ (j : Nat) (h1 : j < us.length) (h2 : j < ws.length), EqTree X.prog X.w s n us[j] ws[j] true
  | [], n, _, _, _, _, _, h1, h2, r1, r2, j, g, _ => by
    cases h1
    cases r1
    exact absurd g (Nat.not_lt_zero _)
  | d :: ds, n, _, _, _, _, hn, h1, h2, r1, r2, j, g1, g2 => by
    cases h1 with
    | cons a1 b1 =>
      cases h2 with
      | cons a2 b2 =>
        cases r1 with
        | cons c1 e1 =>
          cases r2 with
          | cons c2 e2 =>
            have hn : max d.depth (PyData.depthAll ds) ≤ n := hn
            cases j with
            | zero => exact Dx.eqT I d n (by omega) a1 a2 c1 c2
            | succ j => exact Dx.eqTAll I ds n (by omega) b1 b2 e1 e2 j (Nat.lt_of_succ_lt_succ g1) (Nat.lt_of_succ_lt_succ g2)
theorem Dx.eqTKv (I : L2.Inv X pins σ H s) : ∀ (l : List (PyData × PyData)) (n : Nat) {xs ys : List V} {us ws : List Value}, PyData.depthKv l ≤ n → DxAll X.K H xs (l.map (·.2)) → DxAll X.K H ys (l.map (·.2)) → Vals xs us → Vals ys ws → ∀ (j : Nat) (h1 : j < us.length) (h2 : j < ws.length), EqTree X.prog X.w s n us[j] ws[j] true
  | [], n, _, _, _, _, _, h1, h2, r1, r2, j, g, _ => by
    cases h1
    cases r1
    exact absurd g (Nat.not_lt_zero _)
  | (k, d) :: l, n, _, _, _, _, hn, h1, h2, r1, r2, j, g1, g2 => by
    cases h1 with
    | cons a1 b1 =>
      cases h2 with
      | cons a2 b2 =>
        cases r1 with
        | cons c1 e1 =>
          cases r2 with
          | cons c2 e2 =>
            have hn : max (max k.depth d.depth) (PyData.depthKv l) ≤ n := hn
            cases j with
            | zero => exact Dx.eqT I d n (by omega) a1 a2 c1 c2
            | succ j => exact Dx.eqTKv I l n (by omega) b1 b2 e1 e2 j (Nat.lt_of_succ_lt_succ g1) (Nat.lt_of_succ_lt_succ g2)
end
end
end Vf
namespace Vf
open PySem PySem.Spec PyProof.Rows L2
open PySem.W (EqTree EachIs AllAlike Sortable)
/-- x == y, both lists, both tuples or both dicts, of the same data -/
def rEqX (K : PySem.W.Frag) (f : Bool → Bool) : R2 := fun x y H Q => ∃ a b d, x = .ref a ∧ y = .ref b ∧ Dx K H x d ∧ Dx K H y d ∧ d.depth ≤ 60 ∧ Q (.bl (f true)) H
theorem op_eqX {X : Cx} (hu : X.A.units + 64 < cLine) : OpR X (compareOp .Eq) (rEqX X.K id) := by
  rintro pins s σ H x y u v Q I rx ry ⟨a, b, d, rfl, rfl, hx, hy, dp, q⟩
  cases rx
  cases ry
  have fin : EP X pins σ Q (.bool true) s := ⟨.bl true, H, I, rfl, q⟩
  cases d with
  | none => cases hx
  | bool _ => cases hx
  | int _ => cases hx
  | str _ => cases hx
  | list ds =>
    obtain ⟨a', xs, e1, sa, da⟩ := dx_lst hx rfl
    obtain ⟨b', ys, e2, sb, db⟩ := dx_lst hy rfl
    cases e1
    cases e2
    obtain ⟨us, v1, p1, _⟩ := I.list sa
    obtain ⟨ws, v2, p2, _⟩ := I.list sb
    refine PySem.W.eq_listsT (n := 60) (e := fun _ => true) p1.isList p2.isList (by
      rw [List.size_toArray, List.size_toArray, ← v1.length, ← v2.length, da.len, db.len]) (fun j g1 g2 => by
      have := Dx.eqTAll I ds 60 (by have dp : PyData.depthAll ds + 1 ≤ 60 := dp; omega) da db v1 v2 j (by simpa using g1) (by simpa using g2)
      simpa using this) (by omega) ?_
    rw [show ((List.range us.toArray.size).all fun _ => true) = true from List.all_eq_true.mpr fun _ _ => rfl]
    exact fin
  | tuple ds =>
    obtain ⟨a', xs, e1, sa, da⟩ := dx_tup hx rfl
    obtain ⟨b', ys, e2, sb, db⟩ := dx_tup hy rfl
    cases e1
    cases e2
    obtain ⟨us, v1, p1, _⟩ := I.tuple sa
    obtain ⟨ws, v2, p2, _⟩ := I.tuple sb
    refine PySem.W.eq_tuplesT (n := 60) (e := fun _ => true) p1 p2 (fun j g1 g2 => by
      have := Dx.eqTAll I ds 60 (by have dp : PyData.depthAll ds + 1 ≤ 60 := dp; omega) da db v1 v2 j (by simpa using g1) (by simpa using g2)
      simpa using this) (by omega) ?_
    have es : us.toArray.size = ws.toArray.size := by
      rw [List.size_toArray, List.size_toArray, ← v1.length, ← v2.length, da.len, db.len]
    rw [show ((List.range (min us.toArray.size ws.toArray.size)).all fun _ => true) = true from List.all_eq_true.mpr fun _ _ => rfl, es, beq_self_eq_true]
    exact fin
  | dict l =>
    by_cases e : a = b
    · subst e
      have t := Dx.eqT I (.dict l) 61 (by omega) hx hy rfl rfl
      obtain ⟨a', ka, e1, sa, na, da, ea⟩ := dx_dic hx rfl
      cases e1
      obtain ⟨_, ga, va, KA, DA⟩ := dk_rd I.hok sa
      have nv : (va.map (·.1)).Nodup := by rw [← KA.keys]; exact na
      refine PySem.W.eq_dictsT (n := 60) (e := fun _ => true) ga ga DA DA (fun k v y hm hv => ?_) (by omega) ?_
      · rw [PySem.valueAt_of_mem nv hm] at hv
        cases hv
        exact .same
      · have hall : (va.all fun p => (valueAt va p.1).isSome && true) = true := List.all_eq_true.mpr fun p hp => by
          rw [PySem.valueAt_isSome.mpr (List.mem_map_of_mem hp)]
          rfl
        rw [hall, beq_self_eq_true]
        exact fin
    · obtain ⟨a', ka, e1, sa, na, da, ea⟩ := dx_dic hx rfl
      obtain ⟨b', kb, e2, sb, nb, db, eb⟩ := dx_dic hy rfl
      cases e1
      cases e2
      have ek := keys_inj (ea.trans eb.symm)
      obtain ⟨_, ga, va, KA, DA⟩ := dk_rd I.hok sa
      obtain ⟨_, gb, vb, KB, DB⟩ := dk_rd I.hok sb
      have kk : va.map (·.1) = vb.map (·.1) := by rw [← KA.keys, ← KB.keys, ek]
      have nv : (vb.map (·.1)).Nodup := by rw [← KB.keys]; exact nb
      have vA : Vals (ka.map (·.2)) (va.map (·.2)) := kv_vals KA
      have vB : Vals (kb.map (·.2)) (vb.map (·.2)) := kv_vals KB
      refine PySem.W.eq_dictsT (n := 60) (e := fun _ => true) ga gb DA DB (fun k v y hm hv => ?_) (by omega) ?_
      · obtain ⟨j, hj, ej⟩ := List.getElem_of_mem hm
        have hl : va.length = vb.length := by
          have := congrArg List.length kk
          rw [List.length_map, List.length_map] at this
          exact this
        have hj2 : j < vb.length := by omega
        have k1 : (va.map (·.1))[j]'(by rw [List.length_map]; exact hj) = k := by rw [List.getElem_map, ej]
        have k2 : vb[j].1 = k := by
          rw [← k1]
          simp only [kk, List.getElem_map]
        have q : valueAt vb k = some vb[j].2 := PySem.valueAt_of_mem nv (by rw [← k2]; exact List.getElem_mem hj2)
        rw [q] at hv
        injection hv with hv
        have := Dx.eqTKv I l 60 (by have dp : PyData.depthKv l + 1 ≤ 60 := dp; omega) da db vA vB j (by rw [List.length_map]; exact hj) (by rw [List.length_map]; exact hj2)
        rw [List.getElem_map, List.getElem_map, ej, hv] at this
        exact this
      · have hl : (va.length == vb.length) = true := by
          have := congrArg List.length kk
          rw [List.length_map, List.length_map] at this
          rw [this]
          exact beq_self_eq_true _
        have hall : (va.all fun p => (valueAt vb p.1).isSome && true) = true := List.all_eq_true.mpr fun p hp => by
          rw [PySem.valueAt_isSome.mpr (by rw [← kk]; exact List.mem_map_of_mem hp)]
          rfl
        rw [hl, hall]
        exact fin
/-! ### sizes -/
mutual
/-- data whose ints and texts may be shown -/
def tmx : PyData → Bool
  | .none => true
  | .bool _ => true
  | .int i => decide (i.natAbs < 10 ^ 60)
  | .str x => x.cps.all (· < 0x110000)
  | .list xs => tmxAll xs
  | .tuple xs => tmxAll xs
  | .dict l => tmxKv l
def tmxAll : List PyData → Bool
  | [] => true
  | x :: r => tmx x && tmxAll r
def tmxKv : List (PyData × PyData) → Bool
  | [] => true
  | (k, v) :: r => tmx k && (tmx v && tmxKv r)
end
mutual
/-- no less than the length of what is shown -/
def wtx : PyData → Nat
  | .none => 4
  | .bool _ => 5
  | .int _ => 62
  | .str x => 10 * x.length + 2
  | .list xs => wtxAll xs + 4
  | .tuple xs => wtxAll xs + 4
  | .dict l => wtxKv l + 4
def wtxAll : List PyData → Nat
  | [] => 0
  | x :: r => wtx x + 2 + wtxAll r
def wtxKv : List (PyData × PyData) → Nat
  | [] => 0
  | (k, v) :: r => wtx k + wtx v + 4 + wtxKv r
end
theorem dictText_le (ts : List Str) : (dictText ts).length ≤ piled ts + 2 := by
  unfold dictText
  rw [Str.length_append, Str.length_append]
  have e1 : (("{" : Str)).length = 1 := rfl
  have e2 : (("}" : Str)).length = 1 := rfl
  have e3 : (Str.join ", " ts).length ≤ piled ts := by
    by_cases h : ts = []
    · subst h
      exact Nat.le_refl _
    · have := join_length_add ts h
      omega
  rw [e1, e2]
  omega
mutual
theorem shownx_le : ∀ d : PyData, tmx d = true → d.shown.length ≤ wtx d
  | .none, _ => Nat.le_refl _
  | .bool b, _ => by
    cases b
    · exact Nat.le_refl _
    · exact Nat.le_succ 4
  | .int i, h => by
    have h' : i.natAbs < 10 ^ 60 := of_decide_eq_true h
    have e : (Str.ofString (toString i)).length = (toString i).length := PySem.ofString_length _
    have : (Str.ofString (toString i)).length ≤ 60 + 1 := by
      rw [e]
      exact int_text_length_le10 (by decide) h'
    exact Nat.le_trans this (by show 60 + 1 ≤ 62; decide)
  | .str x, h => by
    refine Nat.le_trans (StrLaws.reprText_len x ?_) (Nat.le_refl _)
    intro c hc
    have h' : x.cps.all (· < 0x110000) = true := h
    rw [← Array.all_toList, List.all_eq_true] at h'
    have := of_decide_eq_true (h' c hc)
    omega
  | .list xs, h => by
    have := shownxAll_le xs h
    have := listText_le (PyData.shownAll xs)
    show (listText (PyData.shownAll xs)).length ≤ wtxAll xs + 4
    omega
  | .tuple xs, h => by
    have := shownxAll_le xs h
    have := tupleText_le (PyData.shownAll xs)
    show (tupleText (PyData.shownAll xs)).length ≤ wtxAll xs + 4
    omega
  | .dict l, h => by
    have := shownxKv_le l h
    have := dictText_le (PyData.shownKv l)
    show (dictText (PyData.shownKv l)).length ≤ wtxKv l + 4
    omega
theorem shownxAll_le : ∀ xs : List PyData, tmxAll xs = true → piled (PyData.shownAll xs) ≤ wtxAll xs
  | [], _ => Nat.le_refl _
  | x :: r, h => by
    have h' : (tmx x && tmxAll r) = true := h
    rw [Bool.and_eq_true] at h'
    have := shownx_le x h'.1
    have := shownxAll_le r h'.2
    show piled (x.shown :: PyData.shownAll r) ≤ wtx x + 2 + wtxAll r
    rw [piled_cons]
    omega
theorem shownxKv_le : ∀ l : List (PyData × PyData), tmxKv l = true → piled (PyData.shownKv l) ≤ wtxKv l
  | [], _ => Nat.le_refl _
  | (k, v) :: r, h => by
    have h' : (tmx k && (tmx v && tmxKv r)) = true := h
    rw [Bool.and_eq_true, Bool.and_eq_true] at h'
    have := shownx_le k h'.1
    have := shownx_le v h'.2.1
    have := shownxKv_le r h'.2.2
    show piled ((k.shown ++ ": " ++ v.shown) :: PyData.shownKv r) ≤ wtx k + wtx v + 4 + wtxKv r
    rw [piled_cons, Str.length_append, Str.length_append]
    have e1 : ((": " : Str)).length = 2 := rfl
    rw [e1]
    omega
end
mutual
theorem tmx_ok : ∀ d : PyData, tmx d = true → d.showable = true
  | .none, _ => rfl
  | .bool b, _ => rfl
  | .int i, h => by
    have h' : i.natAbs < 10 ^ 60 := of_decide_eq_true h
    show decide (i.natAbs.log2 < 1920) = true
    refine decide_eq_true ?_
    by_cases h0 : i.natAbs = 0
    · rw [h0]
      decide
    · exact (Nat.log2_lt h0).mpr (Nat.lt_trans h' (by decide +kernel))
  | .str x, h => rfl
  | .list xs, h => tmxAll_ok xs h
  | .tuple xs, h => tmxAll_ok xs h
  | .dict l, h => tmxKv_ok l h
theorem tmxAll_ok : ∀ xs : List PyData, tmxAll xs = true → PyData.showableAll xs = true
  | [], _ => rfl
  | x :: r, h => by
    have h' : (tmx x && tmxAll r) = true := h
    rw [Bool.and_eq_true] at h'
    show (PyData.showable x && PyData.showableAll r) = true
    rw [tmx_ok x h'.1, tmxAll_ok r h'.2] <;> rfl
theorem tmxKv_ok : ∀ l : List (PyData × PyData), tmxKv l = true → PyData.showableKv l = true
  | [], _ => rfl
  | (k, v) :: r, h => by
    have h' : (tmx k && (tmx v && tmxKv r)) = true := h
    rw [Bool.and_eq_true, Bool.and_eq_true] at h'
    show (PyData.showable k && PyData.showable v && PyData.showableKv r) = true
    rw [tmx_ok k h'.1, tmx_ok v h'.2.1, tmxKv_ok r h'.2.2] <;> rfl
end
/-- data of a size that may be shown -/
structure OkX (d : PyData) : Prop where
  tm : tmx d = true
  dp : d.depth ≤ 60
  sz : wtx d ≤ 16000000
theorem OkX.show {d : PyData} (h : OkX d) : d.shown.length ≤ sizeLine := Nat.le_trans (shownx_le d h.tm) (Nat.le_trans h.sz (by decide))
/-- two things alike -/
def spAlikeX (K : PySem.W.Frag) : Sp := fun vs H Q _ => ∃ (a b : Addr) (d : PyData), vs = [.ref a, .ref b] ∧ Dx K H (.ref a) d ∧ Dx K H (.ref b) d ∧ OkX d ∧ ∀ H', Same H H' → Q (.bl true) H'
/-- repr of a list, a tuple or a dict -/
def rReprO (K : PySem.W.Frag) : List V → Hp → VK → Prop := fun xs H Q => ∃ (p : Addr) (d : PyData), xs = [.ref p] ∧ Dx K H (.ref p) d ∧ OkX d ∧ Q (.str d.shown) H
theorem call_reprO {X : Cx} (hu : X.A.units + 65 < cLine) (gd : X.A.guards = some []) (sb : ∃ o, X.base.get? sysModules = some o ∧ o.cls = .type "dict") : CallR X (.builtin "repr") (rReprO X.K) := by
  rintro pins s σ H xs us Q I hv ⟨p, d, rfl, hd, ok, k⟩
  exact call_reprX hu gd pins s σ H [.ref p] us Q I hv ⟨p, d, rfl, hd, tmx_ok d ok.tm, ok.dp, ok.show, sb, k⟩
mutual
/-- what holds of data without dicts -/
theorem tmx_of : ∀ d : PyData, tame d = true → tmx d = true ∧ wtx d ≤ 2 * wt d
  | .none, _ => ⟨rfl, by decide⟩
  | .bool b, _ => ⟨rfl, by show 5 ≤ 2 * 5; decide⟩
  | .int i, h => by
    have h' : i.natAbs < 10 ^ 30 := of_decide_eq_true h
    exact ⟨decide_eq_true (Nat.lt_trans h' (by decide +kernel)), by show 62 ≤ 2 * 32; decide⟩
  | .str x, h => ⟨h, by show 10 * x.length + 2 ≤ 2 * (10 * x.length + 2); omega⟩
  | .list xs, h => by
    obtain ⟨a, b⟩ := tmxAll_of xs h
    exact ⟨a, by show wtxAll xs + 4 ≤ 2 * (wtAll xs + 4); omega⟩
  | .tuple xs, h => by
    obtain ⟨a, b⟩ := tmxAll_of xs h
    exact ⟨a, by show wtxAll xs + 4 ≤ 2 * (wtAll xs + 4); omega⟩
  | .dict _, h => by cases h
theorem tmxAll_of : ∀ xs : List PyData, tameAll xs = true → tmxAll xs = true ∧ wtxAll xs ≤ 2 * wtAll xs
  | [], _ => ⟨rfl, Nat.le_refl _⟩
  | x :: r, h => by
    have h' : (tame x && tameAll r) = true := h
    rw [Bool.and_eq_true] at h'
    obtain ⟨a1, a2⟩ := tmx_of x h'.1
    obtain ⟨b1, b2⟩ := tmxAll_of r h'.2
    refine ⟨?_, ?_⟩
    · show (tmx x && tmxAll r) = true
      rw [a1, b1] <;> rfl
    · show wtx x + 2 + wtxAll r ≤ 2 * (wt x + 2 + wtAll r)
      omega
end
/-! ### sorted -/
theorem each_of_vals {R : V → PyData → Prop} : ∀ {xs : List V} {us : List Value} {ds : List PyData}, Vals xs us → Paired R xs ds → EachIs (fun u d => ∃ x, L2.RelV x u ∧ R x d) us ds
  | _, _, _, .nil, h => by
    cases h
    exact .nil
  | _, _, _, .cons a b, h => by
    cases h with
    | cons p q => exact .cons ⟨_, a, p⟩ (each_of_vals b q)
theorem vals_of_each {R : V → PyData → Prop} : ∀ {us : List Value} {ds : List PyData}, EachIs (fun u d => ∃ x, L2.RelV x u ∧ R x d) us ds → ∃ xs, Vals xs us ∧ Paired R xs ds
  | _, _, .nil => ⟨[], .nil, .nil⟩
  | _, _, .cons ⟨x, a, p⟩ r => by
    obtain ⟨xs, b, q⟩ := vals_of_each r
    exact ⟨x :: xs, .cons a b, .cons p q⟩
/-- data, ascending -/
noncomputable def srtD (ds : List PyData) : List PyData := ds.mergeSort (PySem.W.dataLe false id)
theorem srtD_perm (ds : List PyData) : (srtD ds).Perm ds := List.mergeSort_perm _ _
theorem call_sortedX {X : Cx} (hu : X.A.units + 70 < cLine) : CallR X (.builtin "sorted") (fun vs H Q => ∃ (a : Addr) (xs : List V) (ds : List PyData) (R : V → PyData → Prop), vs = [.ref a] ∧ SqL X.K H a xs ∧ Paired R xs ds ∧ (∀ x d, R x d → Dx X.K H x d) ∧ AllAlike ds ∧ Sortable ds ∧ (∀ d ∈ ds, d.depth ≤ 60) ∧
    ∀ (ys : List V) (p : Addr), Paired R ys (srtD ds) → H p = none → Q (.ref p) (upd H p (.lst ys))) := by
  rintro pins s σ H vs us Q I r ⟨a, xs, ds, R, rfl, hs, hp, hR, hal, hk, hd, q⟩
  obtain ⟨its, rv, hl, hz⟩ := I.list hs
  obtain ⟨u, rfl, ru⟩ := vals1 r
  obtain rfl : u = Value.ref a := ru
  have e := each_of_vals rv hp
  have em : (ds.map id) = ds := List.map_id ds
  have er : EachIs (fun v b => ∃ as, Reads s.heap v (id b) as) its ds := e.mono fun u d hh => by
    obtain ⟨x, rx, h⟩ := hh
    obtain ⟨as, ha, _⟩ := (hR x d h).reads I rx
    exact ⟨as, ha⟩
  have ld := Paired.length hp
  refine PySem.W.sorted_data (enc := id) (bs := ds) hl.isList e er (by rw [em]; exact hal) (by rw [em]; exact hk) (by omega) (fun d hm => by
    have := hd d hm
    show X.A.units + 2 + d.depth < cLine
    omega) fun out lo eo => ?_
  obtain ⟨ys, vy, py⟩ := vals_of_each eo
  obtain ⟨ep, he'⟩ := PyProof.Rows.sortedAll_at s.heap its out.toArray
  have ly : ys.length = xs.length := by
    have := vy.length
    omega
  exact ⟨.ref _, upd H (s.heap.objs.size + 1) (.lst ys), I.laid (t' := s.toks) (fun _ _ => PyProof.Rows.sortedAll_old) (Nat.le_succ _) ⟨by omega, out, ep, vy, he'⟩, rfl, q ys _ py (I.hok.fresh (Nat.le_succ _))⟩
end Vf
namespace Vf
open PySem PySem.Spec PyProof.Rows L2
/-! ### a name set to a dict comprehension on one line -/
theorem ps_setDc {X : Cx} {j : Nat} {z : Str} {pz : Pos} {kx vx tg it : Expr} {tests : List Expr} {sco : Scope} {ow : List (Str × Nat)} {p1 p2 : Pos} {wi : TI} {g : TG} {tt : TT} {tk tv : TE} (calm : X.calm = true) (nd : X.N.Nodup) (hj : X.N[j]? = some z) (hz : X.env.scope.names.lookup z = some .local)
    (sw : swapsWith (.DictComp kx vx [⟨tg, it, tests, 0⟩] sco p1) (some (.Name z pz)) p2.line X.env = pure true) (wit : PI X tg it wi) (blk : BlkOk X.N X.env.scope sco ow)
    (ptg : ∀ (t : Shared) (G : Hp) (B : Addr) (cs : List (Str × Addr)) (pp : List Addr), PG (X.blk t G sco (compEnvC sco cs B X.env) pp) tg g) (pte : ∀ (t : Shared) (G : Hp) (B : Addr) (cs : List (Str × Addr)) (pp : List Addr), PTs (X.blk t G sco (compEnvC sco cs B X.env) pp) tests tt)
    (pkx : ∀ (t : Shared) (G : Hp) (B : Addr) (cs : List (Str × Addr)) (pp : List Addr), PE (X.blk t G sco (compEnvC sco cs B X.env) pp) kx tk) (pvx : ∀ (t : Shared) (G : Hp) (B : Addr) (cs : List (Str × Addr)) (pp : List Addr), PE (X.blk t G sco (compEnvC sco cs B X.env) pp) vx tv)
    (fs : ∀ x, foldedSetIterable it X.env x = pure x := by intro _; rfl) :
    PS X (.Assign [.Name z pz] (.DictComp kx vx [⟨tg, it, tests, 0⟩] sco p1) p2) (tAsg (tDc wi g tt tk tv (ow.map (·.2))) (gName j)) := by
  refine ⟨fun pins s σ H D I w => ?_⟩
  rw [exec_Assign_Name_used _ _ _ _ sw]
  refine wpAny_bind (wpAny_standAt (wpAny_bind ?_))
  have w' : tDc wi g tt tk tv (ow.map (·.2)) σ H (fun x H1 => gName j x σ H1 D.nx) := w
  refine wpAny_bind (thn (dc_core (Qf := fun _ u => SP X pins D .next u) (use := some (assign (.Name z pz) X.env)) calm nd I wit blk ptg pte pkx pvx fs w' fun L C u m H' I' q hn f => ?_) fun _ u hq => wpAny_pure (wpAny_pure hq))
  show wpAny _ _ (assign (.Name z pz) X.env (.ref L)) _ _ _
  refine wpAny_assign_Name (store_ok2 (v := V.ref L) I' nd hj (.inl hz) rfl (fun u2 I2 ⟨a, sb, ha⟩ => ?_) (.inr hz))
  obtain ⟨g0, g1, g2, g3, g4, g5⟩ := f
  have ne : C ≠ a := ha.elim (fun e => by rw [e]; exact g1) fun e h => g4 z a e h.symm
  exact ⟨m, hn.sameBut sb ne, fun h3 sb3 => ⟨_, H', I2.turned (t' := u2.toks) (fun b o hb e => (sb3.2 b hb).trans e) g0 g1 g3 g4 g5, q⟩⟩
theorem swd_true {kx vx : Expr} {gs : List Comprehension} {sco : Scope} {p1 pz : Pos} {z : Str} {n : Nat} {env : Env} (kd : env.scope.kind = .function) (hz : env.scope.names.lookup z = some .local) (ln : (pz.line == p1.line) = true)
    (no : (sco.names.any fun q => q.1 == z && (q.2 == .local || q.2 == .cell)) = false) : swapsWith (.DictComp kx vx gs sco p1) (some (.Name z pz)) n env = pure true := by
  have e1 : env.kindOf z = some .local := hz
  have e2 : env.blockKind = .function := by
    unfold Env.blockKind
    rw [kd] <;> rfl
  have e3 : (sco.names.any fun (x, k) => x == z && (k == .local || k == .cell)) = false := no
  unfold swapsWith
  simp only [e2, e1, e3, Expr.pos, ln]
  rfl
end Vf

set_option Elab.async false
set_option linter.all false
set_option maxRecDepth 100000
set_option maxHeartbeats 4000000
/-! Errors as values: made, asked for their classes, their fields read. -/
namespace Vf
open PySem PySem.Spec PyProof.Rows L2
/-- at a: an error of the class at C, not raised; fs: its fields -/
def ErA (H : Hp) (a C : Addr) (fs : List (Str × V)) : Prop := (fs = [] ∧ H a = some (exo a C none)) ∨ ∃ d, H a = some (exo a C (some d)) ∧ H d = some (exd d fs)
theorem ErA.same {H H' : Hp} {a C : Addr} {fs : List (Str × V)} (e : Same H H') (h : ErA H a C fs) : ErA H' a C fs := by
  rcases h with ⟨h1, h2⟩ | ⟨d, h1, h2⟩
  · exact .inl ⟨h1, e _ _ h2⟩
  · exact .inr ⟨d, e _ _ h1, e _ _ h2⟩
section
variable {X : Cx} {pins : List (Addr × Obj)} {σ : L2.St} {H : Hp} {s : Shared} {a C : Addr} {fs : List (Str × V)}
theorem ErA.inst (I : L2.Inv X pins σ H s) (h : ErA H a C fs) : ∃ (ox : Obj) (od : Option Obj), PySem.W.InstAt s.heap a ox C od ∧
    ∀ (n : Str) (v : V), fs.lookup n = some v → ∃ (o : Obj) (u : Value), od = some o ∧ PySem.W.lookIn n o = some (some u) ∧ L2.RelV v u := by
  rcases h with ⟨h1, h2⟩ | ⟨d, h1, h2⟩
  · obtain ⟨t1, e⟩ := exo_at I.hok h2
    exact ⟨_, none, ⟨e, rfl, rfl, trivial⟩, fun n v q => by rw [h1] at q; cases q⟩
  · obtain ⟨t1, e⟩ := exo_at I.hok h1
    obtain ⟨mA, hns, hr⟩ := exd_at I.hok h2
    obtain ⟨o, ho, hl⟩ := lookIn_ns hns
    refine ⟨_, some o, ⟨e, rfl, rfl, ho⟩, fun n v q => ?_⟩
    obtain ⟨u, hu, ru⟩ := RelO.some_of (v := v) (o := mA n) (by rw [← q]; exact hr n)
    exact ⟨o, u, rfl, by rw [hl, hu], ru⟩
end
/-- isinstance of an error -/
def rIsO (K : PySem.W.Frag) : List V → Hp → VK → Prop := fun xs H Q => ∃ (a C : Addr) (fs : List (Str × V)) (c : V) (u : Value) (b : Bool), xs = [.ref a, c] ∧ ClsV c u ∧ ErA H a C fs ∧ ExcC K C ∧ PySem.W.kitOne K (.ref C) u = some b ∧ Q (.bl b) H
theorem call_isO {X : Cx} : CallR X (.builtin "isinstance") (rIsO X.K) := by
  intro pins s σ H xs us Q I r h
  obtain ⟨a, C, fs, c, u, b, rfl, k, er, E, e, q⟩ := h
  obtain ⟨u1, u2, rfl, r1, r2⟩ := vals2 r
  obtain rfl := k.eq r2
  cases r1
  obtain ⟨ox, od, J, _⟩ := er.inst I
  have Z : PySem.W.KitX X.K (.ref a) (.ref C) (fun h => PySem.W.InstAt h a ox C od) := PySem.W.kitx_exc (by
    obtain ⟨cd, hc, _⟩ := PySem.W.any_some E.hd
    rw [hc] <;> rfl) E.hg E.hk E.hs E.ha E.hn E.ht E.hm
  exact PySem.W.kia_one Z I.kIn J e (fun z => nomatch z) fun tk => ⟨.bl b, H, I.tok tk, rfl, q⟩
/-- the field of an error -/
def tErF (K : PySem.W.Frag) (f : Str) (te : TE) : TE := fun σ H Q => te σ H fun x H1 => ∃ (a C : Addr) (fs : List (Str × V)) (v : V), x = .ref a ∧ ErA H1 a C fs ∧ XfC K C ∧ PySem.W.findIn K (.ref C) f = some none ∧ fs.lookup f = some v ∧ Q v H1
theorem pe_erf {X : Cx} {e : Expr} {te : TE} {pos : Pos} {n : Str} (he : PE X e te) (hb : attributeBase e n X.env (eval e X.env) = eval e X.env := by rfl) : PE X (.Attribute e n pos) (tErF X.K n te) := by
  refine ⟨fun pins s σ H Q I h => attr_of hb (thn (he.run pins s σ H _ I h) fun u s1 hh => ?_)⟩
  obtain ⟨x, H1, I1, rx, a, C, fs, v, rfl, er, T, hno, l, q⟩ := hh
  cases rx
  obtain ⟨ox, od, J, F⟩ := er.inst I1
  obtain ⟨o, w, rfl, hl, rw'⟩ := F n v l
  exact HandSPX.exc_get I1.kIn J T.ga T.gg T.exC (PySem.W.findObj_own T.hdC hno rfl hl) (handed_of rw') ⟨v, H1, I1.tok _, rw', q⟩
/-- an error is made of one thing -/
def tErX (C : Addr) (fld : Str) (ta : TA) : TE := fun σ H Q => ta σ H fun vs H1 => ∃ v : V, vs = [v] ∧ ∀ (a : Addr) (H2 : Hp), H1 a = none → Same H1 H2 → ErA H2 a C [(fld, v)] → Q (.ref a) H2
theorem pe_errX {X : Cx} {x fld : Str} {C : Addr} {k : Nat} {e : Expr} {ta : TA} {p pos : Pos} (R : XcR X.prog X.w X.K X.mg X.base x fld C) (hr : Room k X.A) (h2 : 2 ≤ k) (ha : PA X [e] ta) (hg : Gl X x := by rfl)
    (hdb : (x == ("__debug__" : Str)) = false := by decide) (he : starEach (e :: []) X.env = (false, eval e X.env) :: starEach [] X.env := by rfl) (hpl : (backTo pos (starEach [] X.env)).any (·.1) = false := by rfl) :
    PE X (.Call (.Name x p) [e] [] pos) (tErX C fld ta) := by
  obtain ⟨fI, fd, T, F1, bnd⟩ := R.ex
  obtain ⟨nm, q, N, bs, bm, sn, sub, ab, col, dd, k0, k1, k2, k3, k5, hC, hbm⟩ := T.cl.cls
  refine ⟨fun pins s σ H Q I h => wpAny_Call_Name_kw (ld_glob I hg T.gl ?_ hdb)⟩
  refine PySem.W.callWith_K (h₀ := X.base) I.ok.mod.kin T.cl.kC (thn (ha.run pos pins s σ H _ I h) fun us s1 ⟨vs, H1, I1, r1, v, ev, qq⟩ => ⟨I1.kIn, ?_⟩) he hpl
  subst ev
  show wpAny _ _ (call (.ref C) us) _ _ _
  obtain ⟨hp, g, dr, tk, os⟩ := s1
  let a : Addr := hp.objs.size + 1
  have sz : hp.objs.size ≤ a := Nat.le_succ _
  have na : H1 a = none := I1.hok.fresh sz
  let hp2 : Heap := (hp.push (PySem.W.kdv_tup us)).push (PySem.HandSPX.excO C hp.objs.size)
  have kp : ∀ b o, hp.get? b = some o → hp2.get? b = some o := fun b o z => Heap.get?_push_of_some _ (Heap.get?_push_of_some _ z)
  have at2 : hp2.get? a = some (PySem.HandSPX.excO C hp.objs.size) := by
    show ((hp.push (PySem.W.kdv_tup us)).push (PySem.HandSPX.excO C hp.objs.size)).get? (hp.objs.size + 1) = _
    heap_get
  have J : L2.Inv X pins σ (upd H1 a (exo a C none)) ⟨hp2, g, dr, tk, os⟩ := I1.laid (t' := tk) (a := a) (o := exo a C none) (h' := hp2) kp sz (exo_ok at2)
  have r2 : Vals [V.ref a, v] (Value.ref a :: us) := .cons rfl r1
  have hl : (Value.ref a :: us).length = 2 := by rw [← r2.length] <;> rfl
  have one : us.length = 1 := by
    rw [List.length_cons] at hl
    omega
  refine wpAny_call (PySem.HandSPX.call_own F.excBase_ValueError (fun Y => PySem.HandSPX.refsVE_contains Y bm hbm) (I1.kIn _ _ hC) (PySem.W.looks_findIn I1.kIn T.ini) (fun self => PySem.W.bind_fn I1.kIn self T.fn) (by rw [one, sizeLine_eq] <;> decide)
    (codeAny_mono (F1.run _ X.stack _ _ ⟨Value.ref a :: us, []⟩ (Value.ref a :: us) [V.ref a, v] (fun u H2 => u = .non ∧ Same H1 H2 ∧ ErA H2 a C [(fld, v)]) (fun _ _ _ => False) ((hr.mono h2).make C us []) (J.env0.make C us [])
      (by
        have z := bnd _ (Value.ref a :: us) J.kIn (by rw [List.append_nil]; exact hl)
        rw [List.append_nil] at z
        exact z) r2 ?_) fun r s' hq' => ?_))
  · refine ⟨a, v, rfl, upd_same, fun d nd ne => ⟨rfl, fun b o hb => ?_, .inr ⟨d, upd_same, ?_⟩⟩⟩
    · rw [upd_ne ne] at nd
      rw [upd_ne (ne_of_none hb na), upd_ne (ne_of_none hb nd), upd_ne (ne_of_none hb na)]
      exact hb
    · rw [upd_ne ne, upd_same]
  · cases r with
    | error er => exact False.elim hq'
    | ok fl =>
      cases fl with
      | ret u =>
        obtain ⟨v2, H2, os2, bare2, un2, hok2, rv, ev, sm, ea⟩ := hq'
        subst ev
        cases rv
        exact ⟨rfl, .ref a, H2, J.call' (ch := []) os2 un2 hok2 bare2 (fun b z => absurd z (by simp)), rfl, qq a H2 na sm ea⟩
      | next => exact False.elim hq'
      | brk => exact False.elim hq'
      | cont => exact False.elim hq'
/-- a class of errors without an __init__ of its own -/
structure XcN (K : PySem.W.Frag) (mg : Str → Option Value) (x : Str) (C : Addr) (bm : List Value) (nw : String) : Prop where
  gl : mg x = some (.ref C)
  q : PySem.W.excIn K C bm nw = true
  kp : PySem.W.keepIn K (.ref C) = true
/-- an error is made of nothing -/
theorem pe_err0 {X : Cx} {x : Str} {C : Addr} {bmB : List Value} {B newId initId : String} {p pos : Pos} (F : ExcBaseFacts B newId initId bmB) (N : XcN X.K X.mg x C bmB newId) (hg : Gl X x := by rfl) (hdb : (x == ("__debug__" : Str)) = false := by decide) :
    PE X (.Call (.Name x p) [] [] pos) (fun σ H Q => ∀ a, H a = none → Q (.ref a) (upd H a (exo a C none))) := by
  refine ⟨fun pins s σ H Q I h => wpAny_Call_Name_kw (ld_glob I hg N.gl ?_ hdb)⟩
  refine PySem.W.callWith_K0 I.kIn N.kp ?_
  show wpAny _ _ (call (.ref C) []) _ _ _
  obtain ⟨bm, ns, nm, qn, bs, hdct, sn, sub, ab, col, dd, k0, k1, k2, k3, k5, mN, hC, hN, hni, T⟩ := exc_obj I.kIn N.q
  refine wpAny_call_exc_subT F T hC hN hni (fun h' a hm => ?_) (by show 0 ≤ sizeLine; rw [sizeLine_eq]; omega)
  have hn : H a = none := I.hok.gone hm.new
  obtain ⟨t, ht, _, _⟩ := hm.there
  exact ⟨.ref a, upd H a (exo a C none), I.laidN hm.keeps hm.new hn (exo_ok ht), rfl, h a hn⟩
end Vf
namespace Vf
open PySem PySem.Spec PyProof.Rows L2
section
variable {prog : Program} {w : World} {A : Around} {E : Value → Shared → Prop} {s : Shared}
theorem adj_rev (n : Nat) : Builtin.Slice.sliceAdjust none none (-1) (n : Int) = ((n : Int) - 1, -1) := rfl
theorem plc_rev (n : Nat) : Builtin.Slice.slicePlaces ((n : Int) - 1) (-1) (-1) = n := by
  unfold Builtin.Slice.slicePlaces
  rw [if_neg (by decide)]
  by_cases h : n = 0
  · subst h
    rfl
  · rw [if_pos (by omega)]
    show (((n : Int) - 1 - -1 - 1) / 1 + 1).toNat = n
    rw [Int.ediv_one]
    omega
theorem fm_congr {α β : Type} {f g : α → Option β} : ∀ {l : List α}, (∀ x ∈ l, f x = g x) → l.filterMap f = l.filterMap g
  | [], _ => rfl
  | x :: r, h => by
    have e := fm_congr (l := r) fun y hy => h y (List.mem_cons_of_mem _ hy)
    rw [List.filterMap_cons, List.filterMap_cons, h x List.mem_cons_self, e]
theorem pick_rev (xs : Array Value) : ((List.range xs.size).filterMap fun (m : Nat) => xs[(((xs.size : Int) - 1) + (m : Int) * (-1)).toNat]?) = xs.toList.reverse := by
  have e := PySem.W.krv_all xs
  have r := PySem.W.krv_range xs.size
  have z : xs.toList.reverse = ((List.range xs.size).map fun k => xs.size - 1 - k).filterMap (xs[·]?) := by
    rw [r, List.filterMap_reverse, e]
  rw [z, List.filterMap_map]
  refine fm_congr fun m hm => ?_
  have hm' := List.mem_range.mp hm
  have q : (((xs.size : Int) - 1) + (m : Int) * (-1)).toNat = xs.size - 1 - m := by omega
  rw [q]
  rfl
theorem applied_rev {sl : Addr} {vl vu vs : Value} {n : Nat} {Q : Int × Int × Nat → Shared → Prop} (hs : s.heap.IsSliceOf sl vl vu vs) (pl : IsPart vl none) (pu : IsPart vu none) (ps : IsPart vs (some (-1)))
    (h : Q ((n : Int) - 1, -1, n) s) : wpAny (model prog w) A (Builtin.Slice.sliceApplied (.ref sl) (pure (n : Int))) Q E s := by
  obtain ⟨o, e, c, d⟩ := hs
  unfold Builtin.Slice.sliceApplied Builtin.Slice.sliceFields
  refine wpAny_bind (wpAny_bind (wpAny_field e d (x := vl) rfl ?_))
  refine wpAny_bind (wpAny_field e d (x := vu) rfl (wpAny_bind (wpAny_field e d (x := vs) rfl (wpAny_pure ?_))))
  refine wpAny_bind (HT.slicePart_ ps ?_)
  show wpAny _ _ (if ((-1 : Int) == 0) = true then _ else _) _ _ s
  rw [if_neg (by decide)]
  refine wpAny_bind (HT.slicePart_ pl ?_)
  refine wpAny_bind (HT.slicePart_ pu (wpAny_bind (wpAny_pure ?_)))
  show wpAny _ _ (match Builtin.Slice.sliceAdjust none none (-1) (n : Int) with | (lo, hi) => pure (lo, (-1 : Int), Builtin.Slice.slicePlaces lo hi (-1))) _ _ s
  rw [adj_rev n]
  show wpAny _ _ (pure ((n : Int) - 1, (-1 : Int), Builtin.Slice.slicePlaces ((n : Int) - 1) (-1) (-1))) _ _ s
  rw [plc_rev]
  exact wpAny_pure h
theorem getItem_revT {t sl : Addr} {items : Array Value} {vl vu vs : Value} {Q : Value → Shared → Prop} (ht : IsTup s.heap t items) (hs : s.heap.IsSliceOf sl vl vu vs) (pl : IsPart vl none) (pu : IsPart vu none) (ps : IsPart vs (some (-1)))
    (h : Q (.ref s.heap.objs.size) { s with heap := s.heap.push { cls := .type "tuple", data := .seq items.toList.reverse.toArray } }) (hsz : items.size ≤ sizeLine) : wpAny (model prog w) A (getItem (.ref t) (.ref sl)) Q E s := by
  have fits : sizeOk (.seq items.toList.reverse.toArray) := by
    show items.toList.reverse.toArray.size ≤ sizeLine
    rw [List.size_toArray, List.length_reverse, Array.length_toList]
    exact hsz
  have ts : s.TypeIs (.ref sl) "slice" := by
    obtain ⟨o, e, c, _⟩ := id hs
    exact ⟨o, e, c⟩
  unfold getItem
  (try with_reducible refine wpAny_holding ?_); (first | refine wpAny_bind (wpAny_pure ?_) | skip)
  refine wpAny_bind (wpAny_sequenceKey ht.typeIs (by decide) (wpAny_bind ?_))
  refine wpAny_callSpecial?_slot (name := Str.ofString "__getitem__") ht.typeIs PyProof.Rows.slot_tuple_getitem ?_
  refine wpAny_call_entry PyProof.Rows.slot_tuple_getitem ht.typeIs entry_tuple_getitem ?_ (args_tuple_getitem _ _)
  refine (show wpAny _ _ (Builtin.Tuple.tupleItemsOf (Value.ref t) >>= _) _ _ s from ?_)
  refine wpAny_bind (tupleItemsOf_ ht (wpAny_bind (wpAny_typeOf ts ?_)))
  rw [if_pos (by decide)]
  refine wpAny_bind (applied_rev hs pl pu ps ?_)
  have no : ¬ ((((items.size : Int) - 1) == 0 && (-1 : Int) == 1 && items.size == items.size) = true) := by
    rw [show (((-1 : Int) == 1)) = false from rfl, Bool.and_false, Bool.false_and]
    exact Bool.false_ne_true
  show wpAny _ _ (if (((items.size : Int) - 1) == 0 && (-1 : Int) == 1 && items.size == items.size) = true then _ else _) _ _ s
  rw [if_neg no, pick_rev]
  first
    | exact wpAny_bind (m := Builtin.Tuple.tupleExact _) (wpAny_newObj_type (wpAny_pure ⟨_, rfl, wpAny_pure h⟩) fits)
    | exact wpAny_bind (m := Builtin.Tuple.tupleExact _) (wpAny_newObj_type (wpAny_bind (wpAny_pure (wpAny_pure ⟨_, rfl, wpAny_pure h⟩))) fits)
    | exact wpAny_bind (wpAny_bind (m := Builtin.Tuple.tupleExact _) (wpAny_newObj_type (wpAny_pure (wpAny_pure ⟨_, rfl, wpAny_pure h⟩)) fits))
    | exact wpAny_bind (wpAny_bind (m := Builtin.Tuple.tupleExact _) (wpAny_newObj_type (wpAny_pure ⟨_, rfl, wpAny_pure h⟩) fits))
end
/-! ### tuples cut, joined, turned: a tuple of these items comes out -/
def tRevT (K : PySem.W.Frag) (te : TE) : TE := fun σ H Q => te σ H fun x H1 => ∃ (a : Addr) (xs : List V), x = .ref a ∧ SqT K H1 a xs ∧ ∀ (r : Addr) (H2 : Hp), Same H1 H2 → SqT K H2 r xs.reverse → Q (.ref r) H2
theorem pe_revT {X : Cx} {e : Expr} {te : TE} {k : Nat} {p1 p2 p3 pos : Pos} (he : PE X e te) : PE X (.Subscript e (.Slice none none (some (.UnaryOp .USub (.Constant (.int 1) k p1) p2)) p3) pos) (tRevT X.K te) := by
  refine ⟨fun pins s τ G Q I h => Subscript_ (thn (he.run pins s τ G _ I h) fun u t ⟨v, G1, J, rv, a, xs, ev, hx, q⟩ => ?_)⟩
  subst ev
  cases rv
  have step : PO X (some (.UnaryOp .USub (.Constant (.int 1) k p1) p2)) (tPart (tUn (rU fun i => .int (-i)) (tC (.int 1)))) := po_some (pe_un un_neg pe_int)
  refine wpAny_Slice (thn (po_none.run pins t τ G1 (fun o F => o = none ∧ F = G1) J ⟨rfl, rfl⟩) fun a1 t1 ⟨oa, F1, J1, pa, ea, fa⟩ => ?_)
  subst ea fa
  refine thn (po_none.run pins t1 τ F1 (fun o F => o = none ∧ F = F1) J1 ⟨rfl, rfl⟩) fun b t2 ⟨ob, F2, J2, pb, eb, fb⟩ => ?_
  subst eb fb
  refine thn (step.run pins t2 τ F2 (fun o F => o = some (-1) ∧ F = F2) J2 ⟨1, rfl, -1, rfl, rfl, rfl⟩) fun c t3 ⟨oc, F3, J3, pc, ec, fc⟩ => ?_
  subst ec fc
  have J4 : Inv X pins τ F3 { t3 with heap := t3.heap.push { cls := .type "slice", data := .fields #[a1, b, c] } } := J3.kept (t' := t3.toks) fun b ob w => Heap.get?_push_of_some _ w
  obtain ⟨its, r, ht, hz⟩ := J4.tuple hx
  have hl := r.length
  show wpAny (model X.prog X.w) X.A (subscriptTail e (.Slice none none (some (.UnaryOp .USub (.Constant (.int 1) k p1) p2)) p3) (.ref a) (.ref t3.heap.objs.size)) (EP X pins τ Q) X.xe { t3 with heap := t3.heap.push { cls := .type "slice", data := .fields #[a1, b, c] } }
  refine tail_any (ops := [.ref a, .ref t3.heap.objs.size]) ht.typeIs PyProof.Rows.slot_tuple_getitem.lookup ?_ (by with_unfolding_all rfl)
  refine getItem_revT ht (Heap.IsSliceOf.new _ a1 b c) pa pb pc ?_ (by rw [List.size_toArray]; omega)
  have nw : F3 ({ t3 with heap := t3.heap.push { cls := .type "slice", data := .fields #[a1, b, c] } } : Shared).heap.objs.size = none := J4.hok.fresh (Nat.le_refl _)
  refine ⟨.ref _, _, J4.laid (t' := t3.toks) (o := .tup xs.reverse) (fun b ob q => Heap.get?_push_of_some _ q) (Nat.le_refl _) ?_, rfl, q _ _ (same_new nw) (.inl (.inl upd_same))⟩
  exact ⟨by rw [List.length_reverse]; exact hz, _, r.reverse, IsTup.new _ _⟩
theorem sl_tupU {X : Cx} : SlR X (fun x lo hi H Q => ∃ (a : Addr) (xs : List V), x = .ref a ∧ SqT X.K H a xs ∧ ∀ (r : Addr) (H2 : Hp), Same H H2 → SqT X.K H2 r (cutV xs lo hi) → Q (.ref r) H2) := by
  intro pins s σ H x v vl vu lo hi sl Q I rx hs pl pu h
  obtain ⟨a, xs, rfl, hx, q⟩ := h
  refine sl_tupA pins s σ H _ v vl vu lo hi sl Q I rx hs pl pu ⟨a, xs, rfl, hx, fun w => q a H (Same.refl H) ?_, fun _ p hp => q p _ (same_new hp) (.inl (.inl upd_same))⟩
  have e : cutV xs lo hi = xs := by
    unfold cutV
    rw [w.1, w.2, List.drop_zero, Nat.sub_zero, List.take_length]
  rw [e]
  exact hx
theorem op_catU {X : Cx} : OpR X (binaryOp .Add) (fun x y H Q => ∃ (a b : Addr) (xs ys : List V), x = .ref a ∧ y = .ref b ∧ SqT X.K H a xs ∧ SqT X.K H b ys ∧ xs.length + ys.length ≤ sizeLine ∧
    ∀ (r : Addr) (H2 : Hp), Same H H2 → SqT X.K H2 r (xs ++ ys) → Q (.ref r) H2) := by
  intro pins s σ H x y v u Q I rx ry h
  obtain ⟨a, b, xs, ys, rfl, rfl, ha, hb, hz, q⟩ := h
  refine op_catA pins s σ H _ _ v u Q I rx ry ⟨a, b, xs, ys, rfl, rfl, ha, hb, hz, fun e => ?_, fun _ e => ?_, fun _ _ p hp => q p _ (same_new hp) (.inl (.inl upd_same))⟩
  · subst e
    exact q b H (Same.refl H) hb
  · subst e
    exact q a H (Same.refl H) (by rw [List.append_nil]; exact ha)
/-- a tuple against the empty one -/
theorem op_eqE {X : Cx} (hu : X.A.units + 64 < cLine) : OpR X (compareOp .Eq) (fun x y H Q => ∃ (a b : Addr) (xs : List V), x = .ref a ∧ y = .ref b ∧ SqT X.K H a xs ∧ SqT X.K H b [] ∧ Q (.bl (decide (xs = []))) H) := by
  intro pins s σ H x y v u Q I rx ry h
  obtain ⟨a, b, xs, rfl, rfl, ha, hb, q⟩ := h
  cases rx
  cases ry
  obtain ⟨its, r1, p1, _⟩ := I.tuple ha
  obtain ⟨its2, r2, p2, _⟩ := I.tuple hb
  cases r2
  refine PySem.W.eq_tuplesT (n := 60) (e := fun _ => true) p1 p2 (fun j g1 g2 => absurd g2 (by simp)) (by omega) ?_
  refine ⟨.bl (decide (xs = [])), H, I, ?_, q⟩
  show Value.bool _ = Value.bool _
  congr 1
  cases xs with
  | nil =>
    cases r1
    rfl
  | cons x r =>
    cases r1
    simp
end Vf
namespace Vf
open PySem PySem.Spec PyProof.Rows L2
/-! ### data with dicts that doesn't touch one place -/
def hid (b : Addr) (H : Hp) : Hp := fun a => if a = b then none else H a
theorem hid_ne {b a : Addr} {H : Hp} (h : a ≠ b) : hid b H a = H a := if_neg h
theorem hid_same (b : Addr) (H : Hp) : Same (hid b H) H := fun a u e => by
  unfold hid at e
  split at e
  · cases e
  · exact e
section
variable {K : PySem.W.Frag} {H H' : Hp}
theorem same_rd (e : Same H H') {a : Addr} {u : HO} (h : Rd H a u) : Rd H' a u := h.elim (fun h => .inl (e _ _ h)) fun ⟨o, h⟩ => .inr ⟨o, e _ _ h⟩
mutual
theorem Dx.same (e : Same H H') : ∀ {v : V} {d : PyData}, Dx K H v d → Dx K H' v d
  | _, _, .non => .non
  | _, _, .bl b => .bl b
  | _, _, .int i => .int i
  | _, _, .str x => .str x
  | _, _, .lst h a => .lst (e.seq h) (DxAll.same e a)
  | _, _, .tup h a => .tup (sameT e h) (DxAll.same e a)
  | _, _, .dic h n a => .dic (same_rd e h) n (DxAll.same e a)
theorem DxAll.same (e : Same H H') : ∀ {vs : List V} {ds : List PyData}, DxAll K H vs ds → DxAll K H' vs ds
  | _, _, .nil => .nil
  | _, _, .cons a b => .cons (Dx.same e a) (DxAll.same e b)
end
/-- the type of data -/
def tyD : PyData → String
  | .none => "NoneType"
  | .bool _ => "bool"
  | .int _ => "int"
  | .str _ => "str"
  | .list _ => "list"
  | .tuple _ => "tuple"
  | .dict _ => "dict"
theorem Dx.ty {v : V} {d : PyData} (h : Dx K H v d) : TyX K H v (.type (tyD d)) := by
  cases h with
  | non => exact .base .non
  | bl b => exact .base (.bl b)
  | int i => exact .base (.int i)
  | str x => exact .base (.str x)
  | lst h _ =>
    rcases h with (h | ⟨o, h⟩) | ⟨o, its, n, h, c, _⟩
    · exact .base (.lst h)
    · exact .base (.frz h)
    · exact .kList h c
  | tup h _ =>
    rcases h with (h | ⟨o, h⟩) | ⟨o, its, n, h, c, _⟩
    · exact .base (.tup h)
    · exact .fTuple h
    · exact .kTuple h c
  | dic h _ _ =>
    rcases h with h | ⟨o, h⟩
    · exact .base (.dK h)
    · exact .fDict h
theorem kit_strD (K : PySem.W.Frag) (d : PyData) : PySem.W.kitOne K (.type (tyD d)) (.type "str") = some (decide (tyD d = "str")) := by
  cases d <;> rfl
theorem kit_tupD (K : PySem.W.Frag) (d : PyData) : PySem.W.kitOne K (.type (tyD d)) (.type "tuple") = some (decide (tyD d = "tuple")) := by
  cases d <;> rfl
end
/-- data that doesn't touch what lies at b -/
def DX (K : PySem.W.Frag) (b : Addr) (H : Hp) (v : V) (d : PyData) : Prop := Dx K (hid b H) v d
section
variable {K : PySem.W.Frag} {b : Addr} {H H' : Hp} {v : V} {d : PyData}
theorem DX.dx (h : DX K b H v d) : Dx K H v d := Dx.same (hid_same b H) h
theorem hid_fr (f : Fr b H H') : Same (hid b H) (hid b H') := fun a u e => by
  by_cases n : a = b
  · rw [n] at e
    unfold hid at e
    rw [if_pos rfl] at e
    cases e
  · rw [hid_ne n] at e ⊢
    exact f _ _ n e
theorem DX.fr (f : Fr b H H') (h : DX K b H v d) : DX K b H' v d := Dx.same (hid_fr f) h
theorem DX.up {p : Addr} {o : HO} (n : H p = none) (h : DX K b H v d) : DX K b (upd H p o) v d := h.fr ((Fr.refl b H).new n)
theorem hid_new {p : Addr} {o : HO} (n : p ≠ b) : hid b (upd H p o) p = some o := by rw [hid_ne n, upd_same]
theorem hid_up {p : Addr} {o : HO} (n : H p = none) : Same (hid b H) (hid b (upd H p o)) := hid_fr ((Fr.refl b H).new n)
theorem DX.newT {p : Addr} {xs : List V} {ds : List PyData} (hp : H p = none) (n : p ≠ b) (h : DxAll K (hid b H) xs ds) : DX K b (upd H p (.tup xs)) (.ref p) (.tuple ds) :=
  .tup (.inl (.inl (hid_new n))) (DxAll.same (hid_up hp) h)
theorem DX.newL {p : Addr} {xs : List V} {ds : List PyData} (hp : H p = none) (n : p ≠ b) (h : DxAll K (hid b H) xs ds) : DX K b (upd H p (.lst xs)) (.ref p) (.list ds) :=
  .lst (.inl (.inl (hid_new n))) (DxAll.same (hid_up hp) h)
theorem DX.newD {p : Addr} {kvs : List (Key × V)} {ds : List PyData} (hp : H p = none) (n : p ≠ b) (nd : (kvs.map (·.1)).Nodup) (h : DxAll K (hid b H) (kvs.map (·.2)) ds) : DX K b (upd H p (.dK kvs)) (.ref p) (.dict ((kvs.map fun q => keyD q.1).zip ds)) :=
  .dic (.inl (hid_new n)) nd (DxAll.same (hid_up hp) h)
end
/-! ### sizes -/
structure SzX (n M : Nat) (d : PyData) : Prop where
  tm : tmx d = true
  dp : d.depth ≤ n
  wz : wtx d ≤ M
structure SzL (n M : Nat) (ds : List PyData) : Prop where
  tm : tmxAll ds = true
  dp : PyData.depthAll ds ≤ n
  wz : wtxAll ds ≤ M
theorem SzX.mono {n M n' M' : Nat} {d : PyData} (h : SzX n M d) (a : n ≤ n') (b : M ≤ M') : SzX n' M' d := ⟨h.tm, Nat.le_trans h.dp a, Nat.le_trans h.wz b⟩
theorem SzL.mono {n M n' M' : Nat} {ds : List PyData} (h : SzL n M ds) (a : n ≤ n') (b : M ≤ M') : SzL n' M' ds := ⟨h.tm, Nat.le_trans h.dp a, Nat.le_trans h.wz b⟩
theorem SzL.nil {n M : Nat} : SzL n M [] := ⟨rfl, Nat.zero_le _, Nat.zero_le _⟩
theorem SzL.cons {n M M' : Nat} {d : PyData} {ds : List PyData} (a : SzX n M d) (b : SzL n M' ds) : SzL n (M + 2 + M') (d :: ds) :=
  ⟨by show (tmx d && tmxAll ds) = true; rw [a.tm, b.tm] <;> rfl, Nat.max_le.mpr ⟨a.dp, b.dp⟩, by
    have := a.wz
    have := b.wz
    show wtx d + 2 + wtxAll ds ≤ _
    omega⟩
theorem SzX.tup {n M : Nat} {ds : List PyData} (h : SzL n M ds) : SzX (n + 1) (M + 4) (.tuple ds) := ⟨h.tm, Nat.succ_le_succ h.dp, Nat.add_le_add_right h.wz 4⟩
theorem SzX.lst {n M : Nat} {ds : List PyData} (h : SzL n M ds) : SzX (n + 1) (M + 4) (.list ds) := ⟨h.tm, Nat.succ_le_succ h.dp, Nat.add_le_add_right h.wz 4⟩
theorem SzX.items {n M : Nat} {ds : List PyData} (h : SzX (n + 1) M (.tuple ds)) : SzL n M ds := ⟨h.tm, Nat.le_of_succ_le_succ h.dp, by
  have : wtxAll ds + 4 ≤ M := h.wz
  omega⟩
theorem SzL.split {n M : Nat} {as bs : List PyData} (h : SzL n M (as ++ bs)) : ∃ A B : Nat, SzL n A as ∧ SzL n B bs ∧ A + B ≤ M := by
  induction as generalizing M with
  | nil => exact ⟨0, M, .nil, h, by omega⟩
  | cons x r ih =>
    have t : (tmx x && tmxAll (r ++ bs)) = true := h.tm
    rw [Bool.and_eq_true] at t
    have dp := Nat.max_le.mp (show max (PyData.depth x) (PyData.depthAll (r ++ bs)) ≤ n from h.dp)
    have wz : wtx x + 2 + wtxAll (r ++ bs) ≤ M := h.wz
    obtain ⟨A, B, a, b, l⟩ := ih (M := wtxAll (r ++ bs)) ⟨t.2, dp.2, Nat.le_refl _⟩
    exact ⟨wtx x + 2 + A, B, .cons ⟨t.1, dp.1, Nat.le_refl _⟩ a, b, by omega⟩
theorem SzL.app {n A B : Nat} {as bs : List PyData} (a : SzL n A as) (b : SzL n B bs) : SzL n (A + B) (as ++ bs) := by
  induction as generalizing A with
  | nil => exact b.mono (Nat.le_refl _) (Nat.le_add_left _ _)
  | cons x r ih =>
    have t : (tmx x && tmxAll r) = true := a.tm
    rw [Bool.and_eq_true] at t
    have dp := Nat.max_le.mp (show max (PyData.depth x) (PyData.depthAll r) ≤ n from a.dp)
    have wz : wtx x + 2 + wtxAll r ≤ A := a.wz
    have q := ih (A := wtxAll r) ⟨t.2, dp.2, Nat.le_refl _⟩
    exact (SzL.cons (M := wtx x) ⟨t.1, dp.1, Nat.le_refl _⟩ q).mono (Nat.le_refl _) (by omega)
theorem SzL.rev {n M : Nat} {as : List PyData} (a : SzL n M as) : SzL n M as.reverse := by
  induction as generalizing M with
  | nil => exact a
  | cons x r ih =>
    have t : (tmx x && tmxAll r) = true := a.tm
    rw [Bool.and_eq_true] at t
    have dp := Nat.max_le.mp (show max (PyData.depth x) (PyData.depthAll r) ≤ n from a.dp)
    have wz : wtx x + 2 + wtxAll r ≤ M := a.wz
    rw [List.reverse_cons]
    have q := ih (M := wtxAll r) ⟨t.2, dp.2, Nat.le_refl _⟩
    exact (q.app (SzL.cons (M := wtx x) ⟨t.1, dp.1, Nat.le_refl _⟩ SzL.nil (M' := 0))).mono (Nat.le_refl _) (by omega)
theorem SzL.at {n M : Nat} {as bs : List PyData} {d : PyData} (h : SzL n M (as ++ d :: bs)) : ∃ A B C : Nat, SzL n A as ∧ SzX n B d ∧ SzL n C bs ∧ A + (B + 2 + C) ≤ M := by
  obtain ⟨A, R, a, r, l⟩ := h.split
  have t : (tmx d && tmxAll bs) = true := r.tm
  rw [Bool.and_eq_true] at t
  have dp := Nat.max_le.mp (show max (PyData.depth d) (PyData.depthAll bs) ≤ n from r.dp)
  have wz : wtx d + 2 + wtxAll bs ≤ R := r.wz
  exact ⟨A, wtx d, wtxAll bs, a, ⟨t.1, dp.1, Nat.le_refl _⟩, ⟨t.2, dp.2, Nat.le_refl _⟩, by omega⟩
section
variable {K : PySem.W.Frag} {H : Hp}
theorem DxAll.app {as bs : List V} {ds es : List PyData} (a : DxAll K H as ds) (b : DxAll K H bs es) : DxAll K H (as ++ bs) (ds ++ es) := by
  induction as generalizing ds with
  | nil =>
    cases a
    exact b
  | cons x r ih =>
    cases a with
    | cons h t => exact .cons h (ih t)
theorem DxAll.rev {as : List V} {ds : List PyData} (a : DxAll K H as ds) : DxAll K H as.reverse ds.reverse := by
  induction as generalizing ds with
  | nil =>
    cases a
    exact .nil
  | cons x r ih =>
    cases a with
    | cons h t =>
      rw [List.reverse_cons, List.reverse_cons]
      exact (ih t).app (.cons h .nil)
/-- an item, and what lies on its sides -/
theorem DxAll.at {as : List V} {ds : List PyData} (a : DxAll K H as ds) {i : Nat} {v : V} (h : as[i]? = some v) : ∃ (d : PyData) (xs ys : List PyData), ds = xs ++ d :: ys ∧ DxAll K H (as.take i) xs ∧ Dx K H v d ∧ DxAll K H (as.drop (i + 1)) ys := by
  induction as generalizing ds i with
  | nil => cases h
  | cons x r ih =>
    cases a with
    | @cons _ _ d es p t =>
      cases i with
      | zero =>
        cases h
        exact ⟨d, [], es, rfl, .nil, p, t⟩
      | succ i =>
        obtain ⟨e, xs, ys, rfl, h1, h2, h3⟩ := ih t h
        exact ⟨e, d :: xs, ys, rfl, .cons p h1, h2, h3⟩
end
end Vf

set_option Elab.async false
set_option linter.all false
set_option maxRecDepth 100000
set_option maxHeartbeats 4000000
/-! list(zip(t, u)) of two tuples: the zip's tuple that went out first is held by the list, so each turn makes a new one. -/
namespace Vf
open PySem PySem.Spec PyProof.Rows L2
theorem zip_len0 : typeLookup (.type "zip") "__len__" = pure none := by rw [typeLookup_type, builtinLookup_eq_fast]; kernel_rfl
theorem zip_hint0 : typeLookup (.type "zip") "__length_hint__" = pure none := by rw [typeLookup_type, builtinLookup_eq_fast]; kernel_rfl
section
variable {prog : Program} {w : World} {A : Around} {E : Value → Shared → Prop} {s : Shared}
/-- ahead of draw i, the tuple at T went out first -/
structure ZHd (h : Heap) (z TI TO i1 i2 a b : Addr) (xs ys : Array Value) (i : Nat) (T : Addr) : Prop where
  zp : ∃ f, IsZipHeld h z TI TO T f
  al : ∃ o, h.get? T = some o
  ti : IsPair h TI (.ref i1) (.ref i2)
  j1 : h.IsTupleIter i1 a i
  j2 : h.IsTupleIter i2 b i
  t1 : h.IsTuple a xs
  t2 : h.IsTuple b ys
theorem isTupE {h h' : Heap} {it a : Addr} {xs : Array Value} (x : h.IsTuple a xs) (k : Heap.SameBut it h h') (n : a ≠ it) : h'.IsTuple a xs := isTup_at x fun o e => k.extBut _ _ n e
theorem isTupIE {h h' : Heap} {it c a : Addr} {i : Nat} (x : h.IsTupleIter c a i) (k : Heap.SameBut it h h') (n : c ≠ it) : h'.IsTupleIter c a i := x.at fun o e => k.extBut _ _ n e
theorem zipT_item {z TI TO T i1 i2 a b : Addr} {i : Nat} {xs ys : Array Value} {x y : Value} {Q : Value → Shared → Prop} (D : ZipApart z TI TO i1 i2 a b) (Z : ZHd s.heap z TI TO i1 i2 a b xs ys i T) (hx : xs[i]? = some x) (hy : ys[i]? = some y)
    (na : a ≠ z ∧ a ≠ i1 ∧ a ≠ i2) (nb : b ≠ z ∧ b ≠ i1 ∧ b ≠ i2) (nT : T ≠ z ∧ T ≠ i1 ∧ T ≠ i2)
    (q : ∀ h', ZHd h' z TI TO i1 i2 a b xs ys (i + 1) T → IsPair h' s.heap.objs.size x y → h'.objs.size = s.heap.objs.size + 1 → (∀ c o, c ≠ z → c ≠ i1 → c ≠ i2 → s.heap.get? c = some o → h'.get? c = some o) → Q (.ref s.heap.objs.size) { s with heap := h' }) :
    wpAny (model prog w) A (Builtin.«zip.__next__» ⟨[.ref z], []⟩) (fun fin s' => ∃ v, fin = .done (.ret v) ∧ Q v s') E s := by
  obtain ⟨⟨f, hz⟩, ⟨oT, hT⟩, hTI, h1, h2, ht1, ht2⟩ := Z
  refine (show wpAny _ _ (field (.ref z) 2 >>= _) _ _ _ from wpAny_bind (wpAny_field hz rfl (x := .bool false) rfl ?_))
  refine (show wpAny _ _ (field (.ref z) 3 >>= _) _ _ _ from wpAny_bind (wpAny_field hz rfl (x := .ref TI) rfl ?_))
  refine wpAny_bind (wpAny_seqItems hTI rfl ?_)
  refine (show wpAny _ _ (Builtin.SmallTypes.ownedTupleIsFree (.ref z) >>= _) _ _ _ from wpAny_bind (wpAny_tupleHeld_zip hz hT fun h3 hz3 s3 => ?_))
  simp only [Bool.false_eq_true, if_false]
  rw [← Array.forIn_toList]
  simp only [List.forIn_cons, List.forIn_nil]
  refine wpAny_bind (wpAny_bind (wpAny_bind (wpAny_holding ?_)))
  refine (show wpAny _ _ (Builtin.SmallTypes.nextOf (.ref i1) >>= _) _ _ _ from wpAny_bind (next_tup_item (s := { s with heap := h3 }) (isTupIE h1 s3 D.i1z) (isTupE ht1 s3 na.1) hx fun h4 g4 s4 => wpAny_pure (wpAny_pure ?_)))
  refine wpAny_bind (wpAny_bind (wpAny_holding ?_))
  have g2 : h4.IsTupleIter i2 b i := isTupIE (isTupIE h2 s3 D.i2z) s4 (Ne.symm D.i12)
  refine (show wpAny _ _ (Builtin.SmallTypes.nextOf (.ref i2) >>= _) _ _ _ from wpAny_bind (next_tup_item (s := { s with heap := h4 }) g2 (isTupE (isTupE ht2 s3 nb.1) s4 nb.2.1) hy fun h5 g5 s5 => wpAny_pure (wpAny_pure (wpAny_pure ?_))))
  refine (show wpAny _ _ (newTuple [x, y] >>= _) _ _ _ from wpAny_bind (wpAny_newTuple ?_))
  have sz : h5.objs.size = s.heap.objs.size := by rw [s5.1, s4.1, s3.1]
  have hz5 : IsZipHeld h5 z TI TO T true := s5.extBut _ _ (Ne.symm D.i2z) (s4.extBut _ _ (Ne.symm D.i1z) hz3)
  have kp : ∀ c o, c ≠ z → c ≠ i1 → c ≠ i2 → s.heap.get? c = some o → h5.get? c = some o := fun c o c1 c2 c3 e => s5.extBut _ _ c3 (s4.extBut _ _ c2 (s3.extBut _ _ c1 e))
  have j1 : h5.IsTupleIter i1 a (i + 1) := isTupIE g4 s5 D.i12
  have pu : ∀ c o, h5.get? c = some o → (h5.push { cls := .type "tuple", data := .seq #[x, y] }).get? c = some o := fun c o e => Heap.get?_push_of_some _ e
  have new : IsPair (h5.push { cls := .type "tuple", data := .seq #[x, y] }) h5.objs.size x y := Heap.get?_push_size _ rfl
  have sz2 : (h5.push { cls := .type "tuple", data := .seq #[x, y] }).objs.size = h5.objs.size + 1 := Heap.size_push ..
  refine wpAny_pure ⟨_, rfl, (show Q (.ref h5.objs.size) _ from ?_)⟩
  rw [sz] at new sz2 ⊢
  refine q _ ⟨⟨true, pu _ _ hz5⟩, ⟨oT, pu _ _ (kp _ _ nT.1 nT.2.1 nT.2.2 hT)⟩, pu _ _ (kp _ _ D.TIz D.TIi1 D.TIi2 hTI), j1.at fun o e => pu _ _ e, g5.at fun o e => pu _ _ e,
    isTup_at ht1 fun o e => pu _ _ (kp _ _ na.1 na.2.1 na.2.2 e), isTup_at ht2 fun o e => pu _ _ (kp _ _ nb.1 nb.2.1 nb.2.2 e)⟩ new sz2 fun c o c1 c2 c3 e => pu _ _ (kp c o c1 c2 c3 e)
theorem zipT_end {z TI TO T i1 i2 a b : Addr} {i : Nat} {xs ys : Array Value} {Q : Fin → Shared → Prop} (hh : A.handled = none) (D : ZipApart z TI TO i1 i2 a b) (Z : ZHd s.heap z TI TO i1 i2 a b xs ys i T) (hx : xs[i]? = none) (na : a ≠ z)
    (q : ∀ h' e, (∀ c o, c ≠ z → c ≠ i1 → c ≠ i2 → s.heap.get? c = some o → h'.get? c = some o) → (∃ o, h'.get? e = some o ∧ o.cls = .type "StopIteration") → E (.ref e) { s with heap := h' }) :
    wpAny (model prog w) A (Builtin.«zip.__next__» ⟨[.ref z], []⟩) Q E s := by
  obtain ⟨⟨f, hz⟩, ⟨oT, hT⟩, hTI, h1, h2, ht1, ht2⟩ := Z
  refine (show wpAny _ _ (field (.ref z) 2 >>= _) _ _ _ from wpAny_bind (wpAny_field hz rfl (x := .bool false) rfl ?_))
  refine (show wpAny _ _ (field (.ref z) 3 >>= _) _ _ _ from wpAny_bind (wpAny_field hz rfl (x := .ref TI) rfl ?_))
  refine wpAny_bind (wpAny_seqItems hTI rfl ?_)
  refine (show wpAny _ _ (Builtin.SmallTypes.ownedTupleIsFree (.ref z) >>= _) _ _ _ from wpAny_bind (wpAny_tupleHeld_zip hz hT fun h3 hz3 s3 => ?_))
  simp only [Bool.false_eq_true, if_false]
  rw [← Array.forIn_toList]
  simp only [List.forIn_cons, List.forIn_nil]
  refine wpAny_bind (wpAny_bind (wpAny_bind (wpAny_holding ?_)))
  exact (show wpAny _ _ (Builtin.SmallTypes.nextOf (.ref i1) >>= _) _ _ _ from wpAny_bind (next_tup_end (s := { s with heap := h3 }) hh (isTupIE h1 s3 D.i1z) (isTupE ht1 s3 na) hx fun h4 e s4 he => q h4 e (fun c o c1 c2 _ x => s4 _ _ c2 (s3.extBut _ _ c1 x)) he))
theorem zipT_next {z TI TO T i1 i2 a b : Addr} {i : Nat} {xs ys : Array Value} {x y : Value} {Q : Option Value → Shared → Prop} (D : ZipApart z TI TO i1 i2 a b) (Z : ZHd s.heap z TI TO i1 i2 a b xs ys i T) (hx : xs[i]? = some x) (hy : ys[i]? = some y)
    (na : a ≠ z ∧ a ≠ i1 ∧ a ≠ i2) (nb : b ≠ z ∧ b ≠ i1 ∧ b ≠ i2) (nT : T ≠ z ∧ T ≠ i1 ∧ T ≠ i2)
    (q : ∀ h', ZHd h' z TI TO i1 i2 a b xs ys (i + 1) T → IsPair h' s.heap.objs.size x y → h'.objs.size = s.heap.objs.size + 1 → (∀ c o, c ≠ z → c ≠ i1 → c ≠ i2 → s.heap.get? c = some o → h'.get? c = some o) → Q (some (.ref s.heap.objs.size)) { s with heap := h' }) :
    wpAny (model prog w) A (pyNext (.ref z)) Q E s := by
  have ty : s.TypeIs (.ref z) "zip" := by
    obtain ⟨f, hz⟩ := Z.zp
    exact ⟨_, hz, rfl⟩
  unfold pyNext
  refine wpAny_bind (wpAny_attempt (wpAny_callSpecial?_slot (name := Str.ofString "__next__") ty F.slot_zip_next ?_))
  exact wpAny_call_entry F.slot_zip_next ty F.entry_zip_next (zipT_item D Z hx hy na nb nT fun h' q1 q2 q3 q4 => wpAny_pure (q h' q1 q2 q3 q4)) (F.args_zip_next_1 _)
theorem zipT_over {z TI TO T i1 i2 a b : Addr} {i : Nat} {xs ys : Array Value} {Q : Option Value → Shared → Prop} (hh : A.handled = none) (D : ZipApart z TI TO i1 i2 a b) (Z : ZHd s.heap z TI TO i1 i2 a b xs ys i T) (hx : xs[i]? = none) (na : a ≠ z)
    (q : ∀ h', (∀ c o, c ≠ z → c ≠ i1 → c ≠ i2 → s.heap.get? c = some o → h'.get? c = some o) → Q none { s with heap := h' }) : wpAny (model prog w) A (pyNext (.ref z)) Q E s := by
  have ty : s.TypeIs (.ref z) "zip" := by
    obtain ⟨f, hz⟩ := Z.zp
    exact ⟨_, hz, rfl⟩
  unfold pyNext
  refine wpAny_bind (wpAny_attempt (wpAny_callSpecial?_slot (name := Str.ofString "__next__") ty F.slot_zip_next ?_))
  refine wpAny_call_entry F.slot_zip_next ty F.entry_zip_next (zipT_end hh D Z hx na fun h' e k he => ?_) (F.args_zip_next_1 _)
  obtain ⟨o, ho, hc⟩ := he
  exact wpAny_bind (wpAny_isInstance (T := "StopIteration") (b := true) ⟨o, ho, hc⟩ isSubtype_stop (wpAny_pure (q _ k)))
end
/-- where what is walked lies, and where nothing of it does -/
structure ZAp (z TI TO i1 i2 a b S m : Addr) : Prop where
  D : ZipApart z TI TO i1 i2 a b
  na : a ≠ z ∧ a ≠ i1 ∧ a ≠ i2
  nb : b ≠ z ∧ b ≠ i1 ∧ b ≠ i2
  nS : z ≠ S ∧ TI ≠ S ∧ i1 ≠ S ∧ i2 ≠ S ∧ a ≠ S ∧ b ≠ S
  lt : z < m ∧ i1 < m ∧ i2 < m ∧ S < m
theorem ZHd.frame {h h' : Heap} {z TI TO i1 i2 a b S T m : Addr} {xs ys : Array Value} {i : Nat} (P : ZAp z TI TO i1 i2 a b S m) (Z : ZHd h z TI TO i1 i2 a b xs ys i T) (nT : T ≠ S) (k : ∀ c o, c ≠ S → h.get? c = some o → h'.get? c = some o) :
    ZHd h' z TI TO i1 i2 a b xs ys i T := by
  obtain ⟨⟨f, hz⟩, ⟨oT, hT⟩, hTI, h1, h2, ht1, ht2⟩ := Z
  obtain ⟨n1, n2, n3, n4, n5, n6⟩ := P.nS
  exact ⟨⟨f, k _ _ n1 hz⟩, ⟨oT, k _ _ nT hT⟩, k _ _ n2 hTI, h1.at fun o e => k _ _ n3 e, h2.at fun o e => k _ _ n4 e, isTup_at ht1 fun o e => k _ _ n5 e, isTup_at ht2 fun o e => k _ _ n6 e⟩
/-- the pairs made so far -/
def PrsAt (h : Heap) (m : Addr) (xs ys : Array Value) (i : Nat) : Prop := ∀ j, j < i → ∃ x y, xs[j]? = some x ∧ ys[j]? = some y ∧ IsPair h (m + j) x y
section
variable {prog : Program} {w : World} {A : Around} {s : Shared} {R : Result → Shared → Prop} {z TI TO i1 i2 a b S m : Addr} {xs ys : Array Value}
theorem loopZ (hh : A.handled = none) (P : ZAp z TI TO i1 i2 a b S m) (le : xs.size = ys.size) (hn : xs.size ≤ sizeLine) (res : Value) {h0 : Heap}
    (q : ∀ h' acc c, (∀ c o, c < m → c ≠ S → c ≠ z → c ≠ i1 → c ≠ i2 → h0.get? c = some o → h'.get? c = some o) → h'.get? S = some { cls := .type "list", dict := none, data := .seq acc c, slots := #[] } →
      acc.toList = (List.range xs.size).map (fun j => Value.ref (m + j)) → PrsAt h' m xs ys xs.size → R (.ok (.ret res)) { s with heap := h' }) :
    ∀ (k i : Nat) (h : Heap) (c : Nat) (acc : Array Value), xs.size - i = k → 0 < i → i ≤ xs.size → ZHd h z TI TO i1 i2 a b xs ys i m → h.objs.size = m + i →
      (∀ c o, c < m → c ≠ S → c ≠ z → c ≠ i1 → c ≠ i2 → h0.get? c = some o → h.get? c = some o) → h.get? S = some { cls := .type "list", dict := none, data := .seq acc c, slots := #[] } →
      acc.toList = (List.range i).map (fun j => Value.ref (m + j)) → PrsAt h m xs ys i →
      codeAny (model prog w) A (.builtin "list.extend.loop" ⟨[.ref S, .ref z, res], []⟩) R { s with heap := h } := by
  obtain ⟨lz, l1, l2, lS⟩ := P.lt
  have nm : m ≠ z ∧ m ≠ i1 ∧ m ≠ i2 := ⟨Ne.symm (Nat.ne_of_lt lz), Ne.symm (Nat.ne_of_lt l1), Ne.symm (Nat.ne_of_lt l2)⟩
  have ns : z ≠ S := P.nS.1
  have far : ∀ {c : Addr} (l : c < m) (j : Nat), m + j ≠ c := fun {c} l j e => Nat.not_lt.mpr (Nat.le_add_right m j) (by rw [e]; exact l)
  intro k
  induction k with
  | zero =>
    intro i h c acc hk h0' hi Z sz kp hS ha pr
    have ei : i = xs.size := by omega
    subst ei
    refine codeAny_builtin PySem.F.entry_extend_loop ?_
    rw [Around.under_plainId PySem.F.plain_extend_loop _]
    refine (show wpAny _ A.in1 (pyNext (.ref z) >>= _) _ _ _ from wpAny_bind (zipT_over (s := { s with heap := h }) hh P.D Z (by simp) P.na.1 fun h' kz => ?_))
    refine wpAny_pure (q h' acc c (fun c o c0 c1 c2 c3 c4 e => kz c o c2 c3 c4 (kp c o c0 c1 c2 c3 c4 e)) (kz S _ (Ne.symm P.nS.1) (Ne.symm P.nS.2.2.1) (Ne.symm P.nS.2.2.2.1) hS) ha fun j hj => ?_)
    obtain ⟨x, y, e1, e2, e3⟩ := pr j hj
    exact ⟨x, y, e1, e2, kz _ _ (far lz j) (far l1 j) (far l2 j) e3⟩
  | succ k ih =>
    intro i h c acc hk h0' hi Z sz kp hS ha pr
    have lt : i < xs.size := by omega
    have las : acc.size = i := by rw [← Array.length_toList, ha, List.length_map, List.length_range]
    have ex : xs[i]? = some xs[i] := Array.getElem?_eq_getElem lt
    have ey : ys[i]? = some (ys[i]'(by omega)) := Array.getElem?_eq_getElem (by omega)
    refine codeAny_builtin PySem.F.entry_extend_loop ?_
    rw [Around.under_plainId PySem.F.plain_extend_loop _]
    refine (show wpAny _ A.in1 (pyNext (.ref z) >>= _) _ _ _ from wpAny_bind (zipT_next (s := { s with heap := h }) P.D Z ex ey P.na P.nb nm fun h' Z' pr' sz' kz => ?_))
    dsimp only at pr' sz' kz
    have hS' := kz S _ (Ne.symm P.nS.1) (Ne.symm P.nS.2.2.1) (Ne.symm P.nS.2.2.2.1) hS
    rw [sz] at pr' sz'
    have up : ∀ b o, b ≠ S → h'.get? b = some o → (h'.update S (Obj.mapSeq (·.push (Value.ref h.objs.size)))).get? b = some o := fun b o hb e => (Heap.get?_update_other _ _ (Ne.symm hb)).trans e
    refine (show wpAny _ A.in1 (updateSeq S (·.push (Value.ref h.objs.size)) >>= _) _ _ _ from wpAny_bind ?_)
    refine wpAny_updateSeq hS' rfl (wpAny_pure ⟨plainId_quiet PySem.F.plain_extend_loop _, ih (i + 1) _ _ (acc.push (Value.ref h.objs.size)) (by omega) (Nat.succ_pos _) lt (Z'.frame P (far lS 0) up) ?_ (fun c o c0 c1 c2 c3 c4 e => up c o c1 (kz c o c2 c3 c4 (kp c o c0 c1 c2 c3 c4 e))) (Heap.get?_update_self _ hS' rfl) ?_ fun j hj => ?_⟩) (by rw [las]; omega) (by show (acc.push _).size ≤ sizeLine + 1; rw [Array.size_push, las]; omega)
    · rw [Heap.size_update, sz']
      omega
    · rw [Array.toList_push, ha, List.range_succ, List.map_append, sz]
      rfl
    · rcases Nat.lt_succ_iff_lt_or_eq.mp hj with hj | ej
      · obtain ⟨x, y, e1, e2, e3⟩ := pr j hj
        exact ⟨x, y, e1, e2, up _ _ (far lS j) (kz _ _ (far lz j) (far l1 j) (far l2 j) e3)⟩
      · rw [ej]
        exact ⟨_, _, ex, ey, up _ _ (far lS i) pr'⟩
/-- the whole loop, from the first draw -/
theorem loopZ0 (hh : A.handled = none) (P : ZAp z TI TO i1 i2 a b S m) (nTO : TO ≠ S) (le : xs.size = ys.size) (pos : 0 < xs.size) (hn : xs.size ≤ sizeLine) (res : Value) {h0 h : Heap} {c1 : Nat} {u v : Value}
    (hz : IsZip h z TI TO .none) (hTI : IsPair h TI (.ref i1) (.ref i2)) (hTO : IsPair h TO u v) (j1 : h.IsTupleIter i1 a 0) (j2 : h.IsTupleIter i2 b 0) (t1 : h.IsTuple a xs) (t2 : h.IsTuple b ys) (sz : h.objs.size = m) (aTO : a ≠ TO ∧ b ≠ TO)
    (kp : ∀ c o, c < m → c ≠ S → c ≠ z → c ≠ i1 → c ≠ i2 → c ≠ TO → h0.get? c = some o → h.get? c = some o) (hS : h.get? S = some { cls := .type "list", data := .seq #[] c1 })
    (q : ∀ h' acc c, (∀ c o, c < m → c ≠ S → c ≠ z → c ≠ i1 → c ≠ i2 → c ≠ TO → h0.get? c = some o → h'.get? c = some o) → h'.get? S = some { cls := .type "list", dict := none, data := .seq acc c, slots := #[] } →
      acc.toList = (List.range xs.size).map (fun j => Value.ref (m + j)) → PrsAt h' m xs ys xs.size → R (.ok (.ret res)) { s with heap := h' }) :
    codeAny (model prog w) A (.builtin "list.extend.loop" ⟨[.ref S, .ref z, res], []⟩) R { s with heap := h } := by
  obtain ⟨lz, l1, l2, lS⟩ := P.lt
  have far : ∀ {c : Addr} (l : c < m) (j : Nat), m + j ≠ c := fun {c} l j e => Nat.not_lt.mpr (Nat.le_add_right m j) (by rw [e]; exact l)
  have ex : xs[0]? = some xs[0] := Array.getElem?_eq_getElem pos
  have ey : ys[0]? = some (ys[0]'(by omega)) := Array.getElem?_eq_getElem (by omega)
  refine codeAny_builtin PySem.F.entry_extend_loop ?_
  rw [Around.under_plainId PySem.F.plain_extend_loop _]
  refine (show wpAny _ A.in1 (pyNext (.ref z) >>= _) _ _ _ from wpAny_bind (RZ.pyNext_zipT_item (s := { s with heap := h }) P.D hz hTI hTO j1 j2 t1 t2 ex ey fun h' hz' hTO' j1' j2' pr' sz' kz => ?_))
  dsimp only at hz' pr' sz' kz
  have hS' := kz S _ (Ne.symm P.nS.1) (Ne.symm nTO) (Ne.symm P.nS.2.2.1) (Ne.symm P.nS.2.2.2.1) hS
  rw [sz] at hz' pr' sz'
  have up : ∀ b o, b ≠ S → h'.get? b = some o → (h'.update S (Obj.mapSeq (·.push (Value.ref h.objs.size)))).get? b = some o := fun b o hb e => (Heap.get?_update_other _ _ (Ne.symm hb)).trans e
  refine (show wpAny _ A.in1 (updateSeq S (·.push (Value.ref h.objs.size)) >>= _) _ _ _ from wpAny_bind ?_)
  have Z : ZHd h' z TI TO i1 i2 a b xs ys 1 m := ⟨⟨false, hz'⟩, ⟨_, pr'⟩, kz _ _ P.D.TIz P.D.TITO P.D.TIi1 P.D.TIi2 hTI, j1', j2', isTup_at t1 fun o e => kz _ _ P.na.1 aTO.1 P.na.2.1 P.na.2.2 e, isTup_at t2 fun o e => kz _ _ P.nb.1 aTO.2 P.nb.2.1 P.nb.2.2 e⟩
  refine wpAny_updateSeq hS' rfl (wpAny_pure ⟨plainId_quiet PySem.F.plain_extend_loop _, loopZ (xs := xs) (ys := ys) (h0 := h') hh P le hn res (fun h2 acc c k2 => q h2 acc c fun c o c0 c1 c2 c3 c4 c5 e => k2 c o c0 c1 c2 c3 c4 (kz c o c2 c5 c3 c4 (kp c o c0 c1 c2 c3 c4 c5 e))) (xs.size - 1) 1 _ _ (#[].push (Value.ref h.objs.size)) rfl Nat.one_pos pos (Z.frame P (far lS 0) up) ?_ (fun c o c0 c1 _ _ _ e => up c o c1 e) (Heap.get?_update_self _ hS' rfl) ?_ fun j hj => ?_⟩) (by show 0 ≤ sizeLine; omega) (by show 1 ≤ sizeLine + 1; omega)
  · rw [Heap.size_update, sz']
  · rw [sz]
    rfl
  · obtain rfl : j = 0 := by omega
    exact ⟨_, _, ex, ey, up _ _ (far lS 0) pr'⟩
end
section
variable {prog : Program} {w : World} {A : Around} {E : Value → Shared → Prop} {s : Shared} {xs ys : Array Value} {a b : Addr}
/-- list(z), z just made -/
theorem call_list_zipT {z TI TO i1 i2 : Addr} {u v : Value} {Q : Value → Shared → Prop} (hh : A.handled = none) (D : ZipApart z TI TO i1 i2 a b) (na : a ≠ z ∧ a ≠ i1 ∧ a ≠ i2) (nb : b ≠ z ∧ b ≠ i1 ∧ b ≠ i2) (aTO : a ≠ TO ∧ b ≠ TO)
    (hz : IsZip s.heap z TI TO .none) (hTI : IsPair s.heap TI (.ref i1) (.ref i2)) (hTO : IsPair s.heap TO u v) (j1 : s.heap.IsTupleIter i1 a 0) (j2 : s.heap.IsTupleIter i2 b 0) (t1 : s.heap.IsTuple a xs) (t2 : s.heap.IsTuple b ys)
    (le : xs.size = ys.size) (pos : 0 < xs.size) (hn : xs.size ≤ sizeLine)
    (q : ∀ h' acc c, (∀ c o, c ≠ z → c ≠ i1 → c ≠ i2 → c ≠ TO → s.heap.get? c = some o → h'.get? c = some o) → h'.get? s.heap.objs.size = some { cls := .type "list", dict := none, data := .seq acc c, slots := #[] } →
      acc.toList = (List.range xs.size).map (fun j => Value.ref (s.heap.objs.size + 1 + j)) → PrsAt h' (s.heap.objs.size + 1) xs ys xs.size → Q (.ref s.heap.objs.size) { s with heap := h' }) :
    wpAny (model prog w) A (call (.type "list") [.ref z]) Q E s := by
  refine callType_codes (Q₁ := fun obj s₁ => obj = .ref s.heap.objs.size ∧ s₁ = { s with heap := s.heap.push { cls := .type "list", data := .seq #[] } }) F.called_list (F.typeCall_list_1 _) F.entry_list_init (code_list_new _ ⟨rfl, rfl⟩) fun obj s₁ h₁ => ?_
  obtain ⟨rfl, rfl⟩ := h₁
  have lt : ∀ {c o}, s.heap.get? c = some o → c < s.heap.objs.size := fun e => Heap.lt_size e
  have ltz := lt hz
  have ltTI := lt hTI
  have ltTO := lt hTO
  have lt1 : i1 < s.heap.objs.size := by obtain ⟨_, e, _⟩ := j1; exact lt e
  have lt2 : i2 < s.heap.objs.size := by obtain ⟨_, e, _⟩ := j2; exact lt e
  have lta : a < s.heap.objs.size := by obtain ⟨_, e, _⟩ := t1; exact lt e
  have ltb : b < s.heap.objs.size := by obtain ⟨_, e, _⟩ := t2; exact lt e
  have hS : (s.heap.push { cls := .type "list", data := .seq #[] }).get? s.heap.objs.size = some { cls := .type "list", data := .seq #[] } := Heap.get?_push_size _ rfl
  have pu : ∀ c o, s.heap.get? c = some o → (s.heap.push { cls := .type "list", data := .seq #[] }).get? c = some o := fun c o e => Heap.get?_push_of_some _ e
  have psz : (s.heap.push { cls := .type "list", data := .seq #[] }).objs.size = s.heap.objs.size + 1 := Heap.size_push ..
  have ne : ∀ {c : Addr}, c < s.heap.objs.size → c ≠ s.heap.objs.size := fun l => Nat.ne_of_lt l
  have up1 : ∀ {c : Addr}, c < s.heap.objs.size → c < s.heap.objs.size + 1 := fun l => Nat.lt_succ_of_lt l
  have P : ZAp z TI TO i1 i2 a b s.heap.objs.size (s.heap.objs.size + 1) := ⟨D, na, nb, ⟨ne ltz, ne ltTI, ne lt1, ne lt2, ne lta, ne ltb⟩, ⟨up1 ltz, up1 lt1, up1 lt2, Nat.lt_succ_self _⟩⟩
  have key : ∀ (h : Heap) (c1 : Nat), (∀ c o, c ≠ s.heap.objs.size → (s.heap.push { cls := .type "list", data := .seq #[] }).get? c = some o → h.get? c = some o) → h.objs.size = s.heap.objs.size + 1 → h.get? s.heap.objs.size = some { cls := .type "list", data := .seq #[] c1 } →
      codeAny (model prog w) A.in1 (.builtin "list.extend.loop" ⟨[.ref s.heap.objs.size, .ref z, .none], []⟩) (fun r s' => r = .ok (.ret .none) ∧ Q (.ref s.heap.objs.size) s') { s with heap := h } := fun h c1 k hsz hS1 =>
    loopZ0 (A := A.in1) (h0 := s.heap) hh P (ne ltTO) le pos hn .none (k _ _ (ne ltz) (pu _ _ hz)) (k _ _ (ne ltTI) (pu _ _ hTI)) (k _ _ (ne ltTO) (pu _ _ hTO)) (j1.at fun o e => k _ _ (ne lt1) (pu _ _ e)) (j2.at fun o e => k _ _ (ne lt2) (pu _ _ e))
      (isTup_at t1 fun o e => k _ _ (ne lta) (pu _ _ e)) (isTup_at t2 fun o e => k _ _ (ne ltb) (pu _ _ e)) hsz aTO (fun c o _ c1 _ _ _ _ e => k _ _ c1 (pu _ _ e)) hS1
      fun h' acc c kp hS' ha pr => ⟨rfl, q h' acc c (fun c o c2 c3 c4 c5 e => kp c o (up1 (lt e)) (ne (lt e)) c2 c3 c4 c5 e) hS' ha pr⟩
  refine ⟨⟨_, hS, rfl⟩, F.args_list_init_2 _ _, ?_⟩
  refine (show wpAny _ _ (do let old ← Builtin.List.listItems (.ref s.heap.objs.size); Builtin.List.listUpdate (.ref s.heap.objs.size) (fun _ => #[]); letGo old.toList.reverse; Builtin.List.listExtendWith (.ref s.heap.objs.size) (.ref z) .none) _ _ _ from wpAny_bind ?_)
  unfold Builtin.List.listItems
  refine wpAny_bind (wpAny_seqItems hS rfl (wpAny_pure ?_))
  refine (show wpAny _ _ (updateSeq s.heap.objs.size (fun _ => #[]) >>= fun _ => letGo (#[] : Array Value).toList.reverse >>= fun _ => Builtin.List.listExtendWith (.ref s.heap.objs.size) (.ref z) .none) _ _ _ from wpAny_bind (wpAny_updateSeq hS rfl ?_))
  have hS2 := Heap.get?_update_self (Obj.mapSeq (fun _ => (#[] : Array Value))) hS rfl
  have oth : ∀ c o, c ≠ s.heap.objs.size → (s.heap.push { cls := .type "list", data := .seq #[] }).get? c = some o → ((s.heap.push { cls := .type "list", data := .seq #[] }).update s.heap.objs.size (Obj.mapSeq (fun _ => (#[] : Array Value)))).get? c = some o := fun c o hb e => (Heap.get?_update_other _ _ (Ne.symm hb)).trans e
  refine wpAny_bind (wpAny_letGo ?_)
  generalize hg : (s.heap.push { cls := .type "list", data := .seq #[] }).update s.heap.objs.size (Obj.mapSeq (fun _ => (#[] : Array Value))) = g at hS2 oth
  have gsz : g.objs.size = s.heap.objs.size + 1 := by rw [← hg, Heap.size_update, psz]
  have gz : IsZip g z TI TO .none := oth _ _ (ne ltz) (pu _ _ hz)
  have ty : ({ s with heap := g } : Shared).TypeIs (.ref z) "zip" := ⟨_, gz, rfl⟩
  unfold Builtin.List.listExtendWith
  refine wpAny_bind (wpAny_typeOf ty ?_)
  have h1 : Builtin.List.listSameRef (.ref s.heap.objs.size) (.ref z) = false := by simp [Builtin.List.listSameRef, Ne.symm (ne ltz)]
  have h2 : (Value.type "zip" == Value.type "list") = false := by decide
  have h3 : (Value.type "zip" == Value.type "tuple") = false := by decide
  simp only [h1, h2, h3, Bool.or_false, Bool.false_eq_true, if_false]
  refine wpAny_bind (wpAny_pyIter_zip gz (wpAny_bind (wpAny_holding ?_)))
  unfold Builtin.List.listLengthHint
  refine wpAny_bind (wpAny_specialOf ty zip_len0 ?_)
  refine (show wpAny _ _ (specialOf (Value.ref z) (Str.ofString "__length_hint__") >>= _) _ _ _ from wpAny_bind (wpAny_specialOf ty zip_hint0 (wpAny_pure ?_)))
  refine wpAny_ite_true rfl (wpAny_bind (wpAny_rule ?_))
  refine wpAny_bind (show wpAny _ _ (updateSeq s.heap.objs.size (·.push .none) >>= fun _ => updateSeq s.heap.objs.size (·.pop)) _ _ _ from wpAny_bind (wpAny_updateSeq hS2 rfl ?_))
  have hS3 := Heap.get?_update_self (Obj.mapSeq (·.push Value.none)) hS2 rfl
  refine wpAny_updateSeq (hz := by seq_fits) hS3 rfl ?_
  have hS4 := Heap.get?_update_self (Obj.mapSeq (·.pop)) hS3 rfl
  refine wpAny_pure ⟨plainId_quiet F.plain_extend_loop _, codeAny_mono (key _ _ (fun c o hc e => (Heap.get?_update_other _ _ (Ne.symm hc)).trans ((Heap.get?_update_other _ _ (Ne.symm hc)).trans (oth c o hc e))) (by rw [Heap.size_update, Heap.size_update, gsz]) hS4) fun r s' hr => ?_⟩
  obtain ⟨rfl, hq⟩ := hr
  exact ⟨rfl, hq⟩
end
/-- many new objects laid and tracked at once -/
theorem inv_many {X : Cx} {pins : List (Addr × Obj)} {σ : L2.St} {H H2 : Hp} {s : Shared} {h2 : Heap} {t' : Nat} (I : L2.Inv X pins σ H s) (kp : ∀ b o, s.heap.get? b = some o → h2.get? b = some o)
    (old : ∀ b, b < s.heap.objs.size → H2 b = H b) (new : ∀ b u, s.heap.objs.size ≤ b → H2 b = some u → ObjOk X.prog X.w H2 h2 b u) : L2.Inv X pins σ H2 { s with heap := h2, toks := t' } := by
  have up : ∀ {b : Addr} {u : HO}, H b = some u → H2 b = some u := fun {b u} e => by
    by_cases l : b < s.heap.objs.size
    · rw [old b l]
      exact e
    · rw [I.hok.fresh (Nat.not_lt.mp l)] at e
      cases e
  refine I.un (t' := t') ⟨fun b o e _ _ _ => kp b o e, fun b o e _ _ _ => ⟨o.slots, kp b o e⟩, fun b o e n _ => by rw [old b (Heap.lt_size e)]; exact n, fun b o e _ => ⟨o, kp b o e⟩, fun b xs e => up e, fun b o u e => up e, fun b ps e => ⟨#[], by rw [up e]; simp⟩⟩ fun b u e => ?_
  by_cases l : b < s.heap.objs.size
  · rw [old b l] at e
    exact (I.hok b u e).stay (fun c v _ z => kp c v z) (fun c hc => up hc) (fun c xs hc => up hc)
  · exact new b u (Nat.not_lt.mp l) e
/-- list(zip(t, u)) -/
def tLz (K : PySem.W.Frag) (ta : TA) : TE := fun σ H Q => ta σ H fun vs H1 => ∃ (a b : Addr) (xs ys : List V), vs = [.ref a, .ref b] ∧ SqT K H1 a xs ∧ SqT K H1 b ys ∧ xs.length = ys.length ∧ 0 < xs.length ∧
  ∀ (p m : Addr) (H2 : Hp), H1 p = none → (∀ j, H1 (m + j) = none) → Same H1 H2 → H2 p = some (.lst ((List.range xs.length).map fun j => V.ref (m + j))) → (∀ (j : Nat) (x y : V), xs[j]? = some x → ys[j]? = some y → H2 (m + j) = some (.tup [x, y])) → Q (.ref p) H2
theorem pe_listZip {X : Cx} {e1 e2 : Expr} {ta : TA} {p p2 pos pos2 : Pos} (hc : X.calm = true) (hgl : Gl X "list") (hml : X.mg "list" = none) (hgz : Gl X "zip") (hmz : X.mg "zip" = none) (ha : PA X [e1, e2] ta)
    (hs : starEach [e1, e2] X.env = (false, eval e1 X.env) :: starEach [e2] X.env := by rfl) (hpl : (backTo pos2 (starEach [e2] X.env)).any (·.1) = false := by rfl)
    (hs1 : starEach [Expr.Call (.Name "zip" p2) [e1, e2] [] pos2] X.env = (false, eval (.Call (.Name "zip" p2) [e1, e2] [] pos2) X.env) :: starEach [] X.env := by rfl) (hpl1 : (backTo pos (starEach [] X.env)).any (·.1) = false := by rfl) :
    PE X (.Call (.Name "list" p) [.Call (.Name "zip" p2) [e1, e2] [] pos2] [] pos) (tLz X.K ta) := by
  refine ⟨fun pins s σ H Q I h => ?_⟩
  refine Call_ (ld_blt I hgl hml PyProof.Rows.boot_list (PyProof.Rows.callWith_type1 ?_ hs1 hpl1))
  rw [hs1]
  refine Calls.spliced_cons ?_
  refine Call_ (ld_blt I hgz hmz PyProof.Rows.boot_zip (PyProof.Rows.callWith_type1 (thn (ha.run pos2 pins s σ H _ I h) fun us s1 ⟨vs, H1, I1, r1, q1⟩ => ?_) hs hpl))
  obtain ⟨a, b, xs, ys, rfl, hx, hy, hl, hp, q⟩ := q1
  obtain ⟨u1, u2, rfl, e1, e2⟩ := vals2 r1
  cases e1
  cases e2
  obtain ⟨its, rv, t1, z1⟩ := I1.tuple hx
  obtain ⟨its2, rv2, t2, z2⟩ := I1.tuple hy
  have la : a < s1.heap.objs.size := by obtain ⟨_, e, _⟩ := t1; exact Heap.lt_size e
  have lb : b < s1.heap.objs.size := by obtain ⟨_, e, _⟩ := t2; exact Heap.lt_size e
  refine RZ.call_zipT (show s1.heap.IsTuple a its.toArray from t1) (show s1.heap.IsTuple b its2.toArray from t2) fun h' hz hTI hTO j1 j2 hsz hk => ?_
  refine Calls.spliced_nil ?_
  have hlen : its.toArray.size = xs.length := by rw [List.size_toArray]; exact rv.length.symm
  have hlen2 : its2.toArray.size = ys.length := by rw [List.size_toArray]; exact rv2.length.symm
  have nz : ∀ {c : Addr} (k : Nat), c < s1.heap.objs.size → c ≠ s1.heap.objs.size + k := fun k l => Nat.ne_of_lt (Nat.lt_of_lt_of_le l (Nat.le_add_right _ k))
  refine call_list_zipT (s := { s1 with heap := h' }) (I1.ok.hd hc) (PySem.W.ktu_apart s1.heap.objs.size a b la lb) ⟨nz 4 la, nz 0 la, nz 1 la⟩ ⟨nz 4 lb, nz 0 lb, nz 1 lb⟩ ⟨nz 3 la, nz 3 lb⟩ hz hTI hTO j1 j2
    (isTup_at (show s1.heap.IsTuple a its.toArray from t1) fun o e => hk _ _ e) (isTup_at (show s1.heap.IsTuple b its2.toArray from t2) fun o e => hk _ _ e) (by rw [hlen, hlen2, hl]) (by rw [hlen]; exact hp) (by rw [hlen]; exact z1) fun h2 acc c kp hS hacc pr => ?_
  dsimp only at hS hacc pr ⊢
  rw [hsz] at hS hacc pr ⊢
  rw [hlen] at hacc pr
  have keep : ∀ b o, s1.heap.get? b = some o → h2.get? b = some o := fun b o e => kp b o (nz 4 (Heap.lt_size e)) (nz 0 (Heap.lt_size e)) (nz 1 (Heap.lt_size e)) (nz 3 (Heap.lt_size e)) (hk b o e)
  have geV : ∀ j, j < xs.length → ∃ x y, xs[j]? = some x ∧ ys[j]? = some y := fun j l => ⟨xs[j], ys[j]'(by omega), List.getElem?_eq_getElem l, List.getElem?_eq_getElem (by omega)⟩
  let H2 : Hp := fun b => if b < s1.heap.objs.size then H1 b else if b = s1.heap.objs.size + 5 then some (.lst ((List.range xs.length).map fun j => V.ref (s1.heap.objs.size + 5 + 1 + j)))
    else if s1.heap.objs.size + 5 + 1 ≤ b ∧ b - (s1.heap.objs.size + 5 + 1) < xs.length then some (.tup [xs.getD (b - (s1.heap.objs.size + 5 + 1)) .non, ys.getD (b - (s1.heap.objs.size + 5 + 1)) .non]) else none
  have eP : H2 (s1.heap.objs.size + 5) = some (.lst ((List.range xs.length).map fun j => V.ref (s1.heap.objs.size + 5 + 1 + j))) := by
    show (if _ then _ else _) = _
    rw [if_neg (show ¬ (s1.heap.objs.size + 5 < s1.heap.objs.size) by omega), if_pos rfl]
  have eT : ∀ (j : Nat) (x y : V), xs[j]? = some x → ys[j]? = some y → H2 (s1.heap.objs.size + 5 + 1 + j) = some (.tup [x, y]) := fun j x y ex ey => by
    have l := (List.getElem?_eq_some_iff.mp ex).1
    show (if _ then _ else _) = _
    rw [if_neg (show ¬ (s1.heap.objs.size + 5 + 1 + j < s1.heap.objs.size) by omega), if_neg (show ¬ (s1.heap.objs.size + 5 + 1 + j = s1.heap.objs.size + 5) by omega), if_pos (show s1.heap.objs.size + 5 + 1 ≤ s1.heap.objs.size + 5 + 1 + j ∧ s1.heap.objs.size + 5 + 1 + j - (s1.heap.objs.size + 5 + 1) < xs.length by omega)]
    have e : s1.heap.objs.size + 5 + 1 + j - (s1.heap.objs.size + 5 + 1) = j := by omega
    rw [e, List.getD_eq_getElem?_getD, List.getD_eq_getElem?_getD, ex, ey]
    rfl
  have I2 : L2.Inv X pins σ H2 { s1 with heap := h2, toks := s1.toks } := by
    refine inv_many I1 keep (fun b l => if_pos l) fun b u l e => ?_
    have e' : (if b = s1.heap.objs.size + 5 then some (HO.lst ((List.range xs.length).map fun j => V.ref (s1.heap.objs.size + 5 + 1 + j)))
      else if s1.heap.objs.size + 5 + 1 ≤ b ∧ b - (s1.heap.objs.size + 5 + 1) < xs.length then some (.tup [xs.getD (b - (s1.heap.objs.size + 5 + 1)) .non, ys.getD (b - (s1.heap.objs.size + 5 + 1)) .non]) else none) = some u := by
      rw [← e]
      exact (if_neg (Nat.not_lt.mpr l)).symm
    split at e'
    · rename_i eb
      cases e'
      rw [eb]
      refine ⟨by rw [List.length_map, List.length_range]; exact z1, acc.toList, c, ?_, by rw [Array.toArray_toList]; exact hS⟩
      rw [hacc]
      have vs : ∀ l : List Nat, Vals (l.map fun j => V.ref (s1.heap.objs.size + 5 + 1 + j)) (l.map fun j => Value.ref (s1.heap.objs.size + 5 + 1 + j)) := fun l => by
        induction l with
        | nil => exact .nil
        | cons x r ih => exact .cons rfl ih
      exact vs _
    · split at e'
      · rename_i hb
        cases e'
        obtain ⟨j, rfl⟩ : ∃ j, b = s1.heap.objs.size + 5 + 1 + j := ⟨b - (s1.heap.objs.size + 5 + 1), by omega⟩
        have ej : s1.heap.objs.size + 5 + 1 + j - (s1.heap.objs.size + 5 + 1) = j := by omega
        rw [ej] at hb ⊢
        obtain ⟨x, y, ex, ey⟩ := geV j hb.2
        obtain ⟨u, v, g1, g2, g3⟩ := pr j hb.2
        obtain ⟨u', hu, ru⟩ := rv.get ex
        obtain ⟨v', hv, rw'⟩ := rv2.get ey
        have : u' = u := by
          have g1 : its[j]? = some u := by simpa using g1
          rw [hu] at g1
          exact Option.some.inj g1
        subst this
        have : v' = v := by
          have g2 : its2[j]? = some v := by simpa using g2
          rw [hv] at g2
          exact Option.some.inj g2
        subst this
        rw [List.getD_eq_getElem?_getD, List.getD_eq_getElem?_getD, ex, ey]
        exact ⟨by show 2 ≤ sizeLine; decide, [u', v'], .cons ru (.cons rw' .nil), ⟨_, g3, rfl, _, rfl⟩⟩
      · cases e'
  refine ⟨.ref (s1.heap.objs.size + 5), H2, I2, rfl, q _ (s1.heap.objs.size + 5 + 1) H2 (I1.hok.fresh (Nat.le_add_right _ _)) (fun j => I1.hok.fresh (by omega)) (fun b o e => ?_) eP eT⟩
  by_cases l : b < s1.heap.objs.size
  · exact (if_pos l).trans e
  · rw [I1.hok.fresh (Nat.not_lt.mp l)] at e
    cases e
end Vf
namespace Vf
open PySem PySem.Spec PyProof.Rows L2
/-! ### sorted, by texts -/
def ltS (a b : Str) : Bool := decide (a.cps.toList < b.cps.toList)
theorem swo_ltS (k : Value → Str) : SrtO.Swo fun v u => ltS (k v) (k u) := by
  refine ⟨fun x y h => ?_, fun x y z h1 h2 => ?_⟩
  · exact decide_eq_false (List.lt_asymm (of_decide_eq_true h))
  · have a := List.not_lt.mp (of_decide_eq_false h1)
    have b := List.not_lt.mp (of_decide_eq_false h2)
    exact decide_eq_false (List.not_lt.mpr (List.le_trans a b))
theorem vals_perm {us out : List Value} (p : us.Perm out) : ∀ {xs : List V}, Vals xs us → ∃ ys, ys.Perm xs ∧ Vals ys out := by
  induction p with
  | nil => exact fun h => ⟨_, List.Perm.refl _, h⟩
  | cons x _ ih =>
    intro xs h
    cases h with
    | cons a b =>
      obtain ⟨ys, q, v⟩ := ih b
      exact ⟨_ :: ys, q.cons _, .cons a v⟩
  | swap x y l =>
    intro xs h
    cases h with
    | cons a b =>
      cases b with
      | cons c d => exact ⟨_, List.Perm.swap _ _ _, .cons c (.cons a d)⟩
  | trans _ _ ih1 ih2 =>
    intro xs h
    obtain ⟨ys, q, v⟩ := ih1 h
    obtain ⟨zs, q2, v2⟩ := ih2 v
    exact ⟨zs, q2.trans q, v2⟩
/-- sorted of a list or a tuple, once its items compare -/
theorem sortedV {X : Cx} {pins : List (Addr × Obj)} {s : Shared} {σ : L2.St} {H : Hp} {Q : VK} {a : Addr} {xs : List V} {ltv : Value → Value → Bool} (I : L2.Inv X pins σ H s) (hq : SqL X.K H a xs ∨ SqT X.K H a xs) (O : SrtO.Swo ltv)
    (hS : ∀ (us : List Value) (h' : Heap) (b : Addr), Vals xs us → (∀ c o, s.heap.get? c = some o → c ≠ b ∧ h'.get? c = some o) → (∀ o, h'.get? b = some o → o.cls = .type "list") → 2 ≤ us.length → SrtO.SortableO X.prog X.w X.A.in1.in1 { s with heap := h' } b us ltv)
    (k : ∀ (us out : List Value) (ys : List V) (p : Addr), Vals xs us → Vals ys out → ys.Perm xs → SrtO.Srtd ltv out → out.Perm us → H p = none → Q (.ref p) (upd H p (.lst ys))) :
    wpAny (model X.prog X.w) X.A (call (.builtin "sorted") [.ref a]) (EP X pins σ Q) X.xe s := by
  obtain ⟨us, rv, T, o, n, hT, ho, hc, hd, hz⟩ : ∃ (us : List Value) (_ : Vals xs us) (T : String) (o : Obj) (n : Nat), (T = "list" ∨ T = "tuple") ∧ s.heap.get? a = some o ∧ o.cls = .type T ∧ o.data = .seq us.toArray n ∧ us.length ≤ sizeLine := by
    rcases hq with h | h
    · obtain ⟨us, rv, hl, hz⟩ := I.list h
      obtain ⟨o, n, e1, e2, _, e3⟩ := hl
      exact ⟨us, rv, "list", o, n, .inl rfl, e1, e2, e3, by rw [← rv.length]; exact hz⟩
    · obtain ⟨us, rv, hl, hz⟩ := I.tuple h
      obtain ⟨o, e1, e2, n, e3⟩ := hl
      exact ⟨us, rv, "tuple", o, n, .inr rfl, e1, e2, e3, by rw [← rv.length]; exact hz⟩
  refine PySem.Calls.call_function_entry kind_sorted plain_sorted entry_sorted (args_sorted1 _) ?_
  refine (show wpAny _ _ (Builtin.sorted { pos := [Value.ref a] }) _ _ _ from ?_)
  unfold Builtin.sorted
  refine wpAny_bind (wpAny_pure ?_)
  refine wpAny_bind (wpAny_collect_seq a hT ho hc hd (fun h' hh => ?_) (by rw [List.size_toArray]; exact hz))
  rw [List.toList_toArray]
  refine wpAny_bind (wpAny_newList ?_ hz)
  have hp := Heap.get?_push_size h' (o := { cls := .type "list", data := .seq us.toArray }) rfl
  have old : ∀ (b : Addr) (u : Obj), s.heap.get? b = some u → b ≠ h'.objs.size ∧ (h'.push { cls := .type "list", data := .seq us.toArray }).get? b = some u := fun b u hb => ⟨Nat.ne_of_lt (Heap.lt_size (hh b u hb)), Heap.get?_push_of_some _ (hh b u hb)⟩
  refine wpAny_bind (wpAny_holding (wpAny_call_entry slot_list_sort ⟨_, hp, rfl⟩ entry_list_sort ?_ (args_list_sort _)))
  refine SrtO.list_sort_ord O (vs := us) (n := 0) hp hz (fun h2 => hS us _ _ rv old (fun o e => by rw [hp] at e; cases e; rfl) h2) fun out h1 h2 => ?_
  obtain ⟨ys, yp, vy⟩ := vals_perm h2.perm.symm rv
  obtain ⟨e, he⟩ := sortedHeap_at (out := out.toArray) hp
  refine ⟨_, rfl, wpAny_pure ⟨_, rfl, ?_⟩⟩
  have I2 := I.kept (t' := s.toks) hh
  refine ⟨.ref h'.objs.size, _, I2.laid (a := h'.objs.size) (o := .lst ys) (fun b u hb => ?_) (Nat.le_refl _) ?_, rfl, k us out ys _ rv vy yp h1 h2.perm (I2.hok.fresh (Nat.le_refl _))⟩
  · have x1 := Heap.lt_size hb
    rw [sortedHeap_old (Nat.ne_of_lt x1) (Nat.lt_of_lt_of_eq (Nat.lt_succ_of_lt x1) (size_push' _ _).symm)]
    exact Heap.get?_push_of_some _ hb
  · refine ⟨?_, out, e, vy, he⟩
    rw [yp.length_eq, rv.length]
    exact hz
/-- the text of a value -/
def strV : Value → Str
  | .str x _ => x
  | _ => ""
theorem vals_strs : ∀ {zs : List Str} {us : List Value}, Vals (zs.map V.str) us → StrsAre us zs ∧ us.map strV = zs
  | [], _, h => by
    cases h
    exact ⟨.nil, rfl⟩
  | z :: r, _, h => by
    cases h with
    | cons a b =>
      obtain ⟨t, rfl⟩ := a
      obtain ⟨h1, h2⟩ := vals_strs b
      exact ⟨.cons z t h1, congrArg (z :: ·) h2⟩
/-- sorted of texts -/
theorem call_sortedS {X : Cx} : CallR X (.builtin "sorted") fun vs H Q => ∃ (a : Addr) (zs : List Str), vs = [.ref a] ∧ (SqL X.K H a (zs.map V.str) ∨ SqT X.K H a (zs.map V.str)) ∧
    ∀ (ys : List Str) (p : Addr), ys.Perm zs → ys.Pairwise (fun x y => ltS y x = false) → H p = none → Q (.ref p) (upd H p (.lst (ys.map V.str))) := by
  rintro pins s σ H vs us Q I r ⟨a, zs, rfl, hq, k⟩
  obtain ⟨u, rfl, ru⟩ := vals1 r
  cases ru
  refine sortedV I hq (swo_ltS strV) (fun us h' b rv old lb h2 => ?_) fun us out ys p rv vy yp hs hp hn => ?_
  · obtain ⟨sa, _⟩ := vals_strs rv
    have mem : ∀ {us : List Value} {zs : List Str}, StrsAre us zs → ∀ v ∈ us, ∃ x t, v = Value.str x t := by
      intro us zs h
      induction h with
      | nil => exact fun v hv => absurd hv (by simp)
      | cons y t _ ih =>
        intro v hv
        rcases List.mem_cons.mp hv with rfl | hv
        · exact ⟨y, t, rfl⟩
        · exact ih v hv
    refine fun h3 _ => ⟨oneType', fun Q E hq => ?_, fun p q hm hm' => ?_⟩
    · match us, sa, h2 with
      | v1 :: v2 :: rest, sa, _ =>
        rw [keyKind_strs sa]
        exact wpAny_pure hq
    · obtain ⟨x, t, e⟩ := mem sa _ hm
      obtain ⟨y, t', e'⟩ := mem sa _ hm'
      refine (show wpAny _ _ (keyLt' oneType' p.1 q.1) (fun r s' => s' = _ ∧ r = ltS (strV p.1) (strV q.1)) (fun _ _ => False) _ from ?_)
      rw [e, e', keyLt'_oneType]
      exact oneLt_str ⟨rfl, rfl⟩
  · obtain ⟨zs', rfl⟩ : ∃ zs' : List Str, ys = zs'.map V.str := by
      have all : ∀ y ∈ ys, ∃ z, y = V.str z := fun y hy => by
        obtain ⟨z, _, e⟩ := List.mem_map.mp (yp.mem_iff.mp hy)
        exact ⟨z, e.symm⟩
      clear yp vy
      induction ys with
      | nil => exact ⟨[], rfl⟩
      | cons y r ih =>
        obtain ⟨z, rfl⟩ := all y List.mem_cons_self
        obtain ⟨l, rfl⟩ := ih fun y hy => all y (List.mem_cons_of_mem _ hy)
        exact ⟨z :: l, rfl⟩
    obtain ⟨_, e⟩ := vals_strs vy
    refine k zs' p ?_ ?_ hn
    · have := yp.map fun v : V => match v with | .str z => z | _ => ""
      simpa [List.map_map, Function.comp_def] using this
    · rw [← e]
      exact List.pairwise_map.mpr (hs.imp fun {x y} h => h)
end Vf
namespace Vf
open PySem PySem.Spec PyProof.Rows L2
/-- a tuple of a text and something -/
def IsTS (h : Heap) (t : Addr) (x : Str) : Prop := ∃ o tk y n, h.get? t = some o ∧ o.cls = .type "tuple" ∧ o.data = .seq #[.str x tk, y] n
theorem IsTS.at {h h' : Heap} {t : Addr} {x : Str} (p : IsTS h t x) (k : ∀ o, h.get? t = some o → h'.get? t = some o) : IsTS h' t x := by
  obtain ⟨o, tk, y, n, e, r⟩ := p
  exact ⟨o, tk, y, n, k o e, r⟩
theorem firstsS {h : Heap} {kf : Addr → Str} : ∀ {ts : List Addr}, (∀ t ∈ ts, IsTS h t (kf t)) → ∃ fs : List Value, PySem.W.KatTups h (ts.map Value.ref) fs ∧ fs.length = ts.length ∧ ∀ f ∈ fs, ∃ x t, f = Value.str x t
  | [], _ => ⟨[], PySem.W.KatTups.nil, rfl, fun _ hm => by simp at hm⟩
  | t :: r, hp => by
    obtain ⟨fs, h1, h2, h3⟩ := firstsS (ts := r) fun v hm => hp v (List.mem_cons_of_mem _ hm)
    obtain ⟨o, tk, y, n, ho, hc, hd⟩ := hp t List.mem_cons_self
    refine ⟨.str (kf t) tk :: fs, PySem.W.KatTups.cons ho hc hd rfl h1, by rw [List.length_cons, List.length_cons, h2], fun f hm => ?_⟩
    rcases List.mem_cons.mp hm with rfl | hm
    · exact ⟨_, _, rfl⟩
    · exact h3 f hm
theorem cmp_ts {prog : Program} {w : World} {A : Around} {s : Shared} {a b : Addr} {x y : Str} (ha : IsTS s.heap a x) (hb : IsTS s.heap b y) (inj : x = y → a = b) :
    wpAny (model prog w) A (keyLt' (tuples' true) (.ref a) (.ref b)) (fun r s' => s' = s ∧ r = ltS x y) (fun _ _ => False) s := by
  obtain ⟨o, tk, u, n, ho, hc, hd⟩ := ha
  obtain ⟨o', tk', u', n', ho', hc', hd'⟩ := hb
  refine PySem.W.kat_lt ho hd ho' hd' ?_
  show PySem.W.KatLex prog w A true (decide (2 < 2)) _ [(.str x tk, .str y tk'), (u, u')] 0 s
  refine PySem.W.kat_cons (SeqAt.EqAt.str_str x tk y tk' prog w _ _ ?_)
  refine PySem.W.kat_go (fun e1 => ?_) (fun e1 => ?_)
  · have ex : x = y := by simpa using e1
    have eab := inj ex
    subst eab
    rw [ho] at ho'
    cases ho'
    rw [hd] at hd'
    cases hd'
    refine PySem.W.kat_yes (PySem.W.kat_cons (SeqAt.EqAt.same u prog w _ _ ?_))
    refine PySem.W.kat_go (fun e2 => ?_) (fun e2 => by cases e2)
    have e3 : ltS x x = false := decide_eq_false (List.lt_irrefl _)
    exact PySem.W.kat_yes (PySem.W.kat_nil ⟨rfl, e3.symm⟩)
  · exact PySem.W.kat_no (oneLt_str ⟨rfl, rfl⟩)
/-- sorted of pairs whose texts differ -/
theorem call_sortedP {X : Cx} : CallR X (.builtin "sorted") fun vs H Q => ∃ (a : Addr) (ts : List Addr) (kf : Addr → Str) (vf : Addr → V), vs = [.ref a] ∧ SqL X.K H a (ts.map V.ref) ∧ (∀ t ∈ ts, H t = some (.tup [.str (kf t), vf t])) ∧ (∀ t ∈ ts, ∀ u ∈ ts, kf t = kf u → t = u) ∧
    ∀ (ys : List Addr) (p : Addr), ys.Perm ts → ys.Pairwise (fun x y => ltS (kf y) (kf x) = false) → H p = none → Q (.ref p) (upd H p (.lst (ys.map V.ref))) := by
  rintro pins s σ H vs us Q I r ⟨a, ts, kf, vf, rfl, hq, ht, inj, k⟩
  obtain ⟨u, rfl, ru⟩ := vals1 r
  cases ru
  have refs : ∀ {l : List Addr} {us : List Value}, Vals (l.map V.ref) us → us = l.map Value.ref := by
    intro l
    induction l with
    | nil =>
      intro us h
      cases h
      rfl
    | cons x r ih =>
      intro us h
      cases h with
      | cons a b =>
        cases a
        rw [ih b] <;> rfl
  have tsS : ∀ t ∈ ts, IsTS s.heap t (kf t) := fun t hm => by
    obtain ⟨_, its, rv, o, e1, e2, n, e3⟩ := (show ObjOk X.prog X.w H s.heap t (.tup [.str (kf t), vf t]) from I.hok t _ (ht t hm))
    obtain ⟨u1, u2, rfl, r1, r2⟩ := vals2 rv
    obtain ⟨tk, rfl⟩ := r1
    exact ⟨o, tk, u2, n, e1, e2, e3⟩
  let kv : Value → Str := fun v => match v with
    | .ref t => kf t
    | _ => ""
  refine sortedV I (.inl hq) (swo_ltS kv) (fun us h' b rv old lb h2 => ?_) fun us out ys p rv vy yp hs hp hn => ?_
  · have eu := refs rv
    subst eu
    intro h3 keep
    have ts3 : ∀ t ∈ ts, IsTS h3 t (kf t) := fun t hm => (tsS t hm).at fun o e => keep t o (old t o e).1 (old t o e).2
    obtain ⟨fs, f1, f2, f3⟩ := firstsS ts3
    refine ⟨tuples' true, fun Q E hq => ?_, fun p q hm hm' => ?_⟩
    · refine PySem.W.kat_kind (T := .type "str") f1 (by rw [List.length_map] at h2; omega) (fun f hm => ?_) (by rfl) ?_
      · obtain ⟨x, t, rfl⟩ := f3 f hm
        exact PySem.W.Looks.now
      · have e : (Value.type "str" != Value.type "tuple") = true := by first | decide +kernel | rfl | decide
        rw [e]
        exact hq
    · obtain ⟨t1, m1, e1⟩ := List.mem_map.mp hm
      obtain ⟨t2, m2, e2⟩ := List.mem_map.mp hm'
      refine (show wpAny _ _ (keyLt' (tuples' true) p.1 q.1) (fun r s' => s' = _ ∧ r = ltS (kv p.1) (kv q.1)) (fun _ _ => False) _ from ?_)
      rw [← e1, ← e2]
      exact cmp_ts (s := { s with heap := h3 }) (ts3 t1 m1) (ts3 t2 m2) (inj t1 m1 t2 m2)
  · obtain ⟨zs, rfl⟩ : ∃ zs : List Addr, ys = zs.map V.ref := by
      have all : ∀ y ∈ ys, ∃ z, y = V.ref z := fun y hy => by
        obtain ⟨z, _, e⟩ := List.mem_map.mp (yp.mem_iff.mp hy)
        exact ⟨z, e.symm⟩
      clear yp vy
      induction ys with
      | nil => exact ⟨[], rfl⟩
      | cons y r ih =>
        obtain ⟨z, rfl⟩ := all y List.mem_cons_self
        obtain ⟨l, rfl⟩ := ih fun y hy => all y (List.mem_cons_of_mem _ hy)
        exact ⟨z :: l, rfl⟩
    have eo := refs vy
    subst eo
    refine k zs p ?_ ?_ hn
    · have := yp.map fun v : V => match v with | .ref z => z | _ => 0
      simpa [List.map_map, Function.comp_def] using this
    · have := List.pairwise_map.mp hs
      exact this
end Vf
namespace Vf
open PySem PySem.Spec PyProof.Rows L2
/-! ### any data, == and repr -/
theorem op_eqV {X : Cx} (hu : X.A.units + 64 < cLine) : OpR X (compareOp .Eq) fun x y H Q => ∃ d, Dx X.K H x d ∧ Dx X.K H y d ∧ d.depth ≤ 60 ∧ Q (.bl true) H := by
  rintro pins s σ H x y u v Q I rx ry ⟨d, hx, hy, dp, q⟩
  have atom : ∀ z : V, x = z → y = z → scal z z = true → wpAny (model X.prog X.w) X.A (compareOp .Eq u v) (EP X pins σ Q) X.xe s := fun z e1 e2 hz => by
    subst e1
    subst e2
    refine op_eq pins s σ H _ _ u v Q I rx ry ⟨hz, ?_⟩
    rw [decide_eq_true rfl]
    exact q
  cases hx with
  | non =>
    cases hy
    exact atom .non rfl rfl rfl
  | bl b =>
    cases hy
    exact atom (.bl b) rfl rfl rfl
  | int i =>
    cases hy
    exact atom (.int i) rfl rfl rfl
  | str z =>
    cases hy
    exact atom (.str z) rfl rfl rfl
  | lst a b =>
    obtain ⟨a', _, rfl, _⟩ := dx_lst hy rfl
    exact op_eqX hu pins s σ H _ _ u v Q I rx ry ⟨_, _, _, rfl, rfl, .lst a b, hy, dp, q⟩
  | tup a b =>
    obtain ⟨a', _, rfl, _⟩ := dx_tup hy rfl
    exact op_eqX hu pins s σ H _ _ u v Q I rx ry ⟨_, _, _, rfl, rfl, .tup a b, hy, dp, q⟩
  | dic a n b =>
    obtain ⟨a', _, rfl, _⟩ := dx_dic hy rfl
    exact op_eqX hu pins s σ H _ _ u v Q I rx ry ⟨_, _, _, rfl, rfl, .dic a n b, hy, dp, q⟩
theorem call_reprV {X : Cx} (hu : X.A.units + 65 < cLine) (gd : X.A.guards = some []) (sb : ∃ o, X.base.get? sysModules = some o ∧ o.cls = .type "dict") : CallR X (.builtin "repr") fun xs H Q => ∃ (x : V) (d : PyData), xs = [x] ∧ Dx X.K H x d ∧ OkX d ∧ Q (.str d.shown) H := by
  rintro pins s σ H xs us Q I r ⟨x, d, rfl, hx, ok, q⟩
  have rr := r
  obtain ⟨u, rfl, ru⟩ := vals1 r
  cases hx with
  | non =>
    cases ru
    exact PySem.P.repr_of_none ⟨.str _, H, I.tok _, ⟨_, rfl⟩, q⟩
  | bl b =>
    cases ru
    refine PySem.P.repr_of_bool ⟨.str _, H, I.tok _, ⟨_, rfl⟩, ?_⟩
    cases b <;> exact q
  | int i =>
    obtain ⟨t, rfl⟩ := ru
    exact PySem.P.repr_of_int (of_decide_eq_true (tmx_ok _ ok.tm)) ⟨.str _, H, I.tok _, ⟨_, rfl⟩, q⟩
  | str z =>
    obtain ⟨t, rfl⟩ := ru
    exact PySem.P.repr_of_str ⟨.str _, H, I.tok _, ⟨_, rfl⟩, q⟩ ok.show
  | lst a b => exact call_reprO hu gd sb pins s σ H _ _ Q I rr ⟨_, _, rfl, .lst a b, ok, q⟩
  | tup a b => exact call_reprO hu gd sb pins s σ H _ _ Q I rr ⟨_, _, rfl, .tup a b, ok, q⟩
  | dic a n b => exact call_reprO hu gd sb pins s σ H _ _ Q I rr ⟨_, _, rfl, .dic a n b, ok, q⟩
/-- two things alike, of any kind -/
def spAlikeV (K : PySem.W.Frag) : Sp := fun vs H Q _ => ∃ (x y : V) (d : PyData), vs = [x, y] ∧ Dx K H x d ∧ Dx K H y d ∧ OkX d ∧ ∀ H', Same H H' → Q (.bl true) H'
/-! ### zip of two tuples, walked -/
theorem walk_zipT {K : PySem.W.Frag} {a b : Addr} {xs ys : List V} {n : Nat} (hn : n = min xs.length ys.length) : Walk (RZ.ItzT K a b) n (fun H => SqT K H a xs ∧ SqT K H b ys) (YPair (fun i => xs[i]?) (fun i => ys[i]?)) := by
  refine ⟨fun i _ hi q => ?_, fun _ q => ⟨xs, ys, q.1, q.2, by omega⟩, fun i H v H' _ q y => ?_⟩
  · have h1 : i < xs.length := by omega
    have h2 : i < ys.length := by omega
    exact ⟨xs, ys, xs[i], ys[i], q.1, q.2, List.getElem?_eq_getElem h1, List.getElem?_eq_getElem h2⟩
  · obtain ⟨T, x, z, h1, h2, h3, h4, h5⟩ := y
    exact ⟨T, x, z, h1, h2, h3, h4 xs q.1, h5 ys q.2⟩
end Vf
namespace Vf
open PySem PySem.Spec PyProof.Rows L2
/-- t.index(x), texts: told with the part that is written -/
def rTix (K : PySem.W.Frag) : V → List V → Hp → VK → Prop := fun x xs H Q => ∃ (p : Addr) (ys : List Str) (z : Str) (j : Nat), x = .ref p ∧ xs = [.str z] ∧ SqT K H p (ys.map V.str) ∧ ys[j]? = some z ∧ (∀ m, m < j → ys[m]? ≠ some z) ∧ Q (.int (j : Nat)) H
theorem mt_tix {X : Cx} : MtR X "tuple.index" (rTix X.K) := mt_tup_index
end Vf

set_option linter.all false
set_option maxHeartbeats 4000000
namespace Vf
open PySem PySem.Spec PyProof.Rows L2
section
variable {prog : Program} {w : World} {K : Type} [DecidableEq K] {knd : KeyKind prog w K} {A : Around} {E : Value → Shared → Prop} {s : Shared}
theorem put_pairs {d : Addr} {kvs : List (K × Value)} {k : K} {key v : Value} {Q : Unit → Shared → Prop} (hkey : knd.is k key = true) (hm : s.heap.DictOf knd d kvs)
    (hQ : ∀ h', h'.DictOf knd d (stored kvs k v) → Heap.SameBut d s.heap h' → Q () { s with heap := h' })
    (hsz : kvs.length ≤ sizeLine := by size_fits) :
    wpAny (model prog w) A (dictPut d (knd.hash k) key v) Q E s := by
  obtain ⟨o, es, ep, ho, hc, hd, hk, hp, hn⟩ := hm
  have hes : es.size ≤ sizeLine := by have e1 := hp.length; have e2 : es.toList.length = es.size := by simp
                                      omega
  unfold dictPut
  refine wpAny_bind (wpAny_dictFind_of hkey ho hd hk ?_)
  have hidx : (es.findIdx? fun e => knd.is k e.key) = kvs.findIdx? fun kv => decide (kv.1 = k) := by
    rw [← hp.findIdx k]; obtain ⟨l⟩ := es; simp
  cases hi : es.findIdx? fun e => knd.is k e.key with
  | some i =>
    refine wpAny_updateDict ho hd (hQ _ ⟨_, _, ep, Heap.get?_update_self _ ho (Obj.isFreed_of_dict (Obj.data_mapDict hd _)),
      hc.mapDict _, Obj.data_mapDict hd _, hk.modify _ _, ?_, ?_⟩ (Heap.SameBut.update ..))
    · rw [stored, if_pos (any_of_findIdx_some (hidx ▸ hi))]
      have hl : (es.toList.findIdx? fun e => knd.is k e.key) = some i := by rw [← hi]; obtain ⟨l⟩ := es; simp
      have := hp.modify hn hl v
      obtain ⟨l⟩ := es
      simpa using this
    · rw [stored, if_pos (any_of_findIdx_some (hidx ▸ hi)), keys_map_store]; exact hn
  | none =>
    have hnot : k ∉ kvs.map (·.1) := not_mem_of_findIdx_none (hidx ▸ hi)
    have hany : ¬ (kvs.any fun kv => decide (kv.1 = k)) = true := by
      rw [List.any_eq_true]; rintro ⟨kv, hkv, he⟩
      exact hnot (List.mem_map.mpr ⟨kv, hkv, of_decide_eq_true he⟩)
    refine wpAny_updateDictKeys (hz := hes) ho hd (hQ _ ⟨_, _, ep + 1, Heap.get?_update_self _ ho (Obj.isFreed_of_dict (Obj.data_mapDictKeys hd _)),
      hc.mapDictKeys _, Obj.data_mapDictKeys hd _, hk.push hkey _, ?_, ?_⟩ (Heap.SameBut.update ..))
    · rw [stored, if_neg hany]
      have := hp.append hkey (knd.hash k) v
      obtain ⟨l⟩ := es
      simpa using this
    · rw [stored, if_neg hany, List.map_append, List.nodup_append]
      refine ⟨hn, by simp, ?_⟩
      intro a ha b hb
      simp only [List.map_cons, List.map_nil, List.mem_singleton] at hb
      subst hb
      exact fun e => hnot (e ▸ ha)
end
section
variable {prog : Program} {w : World} {A : Around} {E : Value → Shared → Prop} {s : Shared}
theorem merge_map {d o : Addr} {kvs more : List (Key × Value)} {Q : Unit → Shared → Prop} (hdo : d ≠ o) (hoS : (o == sysModules) = false)
    (hd : s.heap.DictOf (mixKind prog w) d kvs) (ho : s.heap.DictOf (mixKind prog w) o more)
    (hQ : ∀ h', h'.DictOf (mixKind prog w) d (merged kvs more) → h'.DictOf (mixKind prog w) o more → Heap.SameBut d s.heap h' → Q () { s with heap := h' })
    (hsz : kvs.length + more.length ≤ sizeLine) :
    wpAny (model prog w) A (mergeMapping d (.ref o) false) Q E s := by
  obtain ⟨od, esd, epd, hod, hcd, hdd, hkd, hpd, hnd⟩ := id hd
  obtain ⟨oo, eso, epo, hoo, hco, hdo', hko, hpo, hno⟩ := id ho
  unfold mergeMapping
  refine wpAny_bind (wpAny_isInstance ho.typeIs (U := "dict") (b := true) (by kernel_rfl) ?_)
  show wpAny _ _ (_ >>= _) _ _ _
  refine wpAny_bind (wpAny_specialOf ho.typeIs (r := some (.builtin "dict.__iter__")) (by rw [typeLookup_type, builtinLookup_eq_fast]; kernel_rfl) ?_)
  dsimp only
  refine wpAny_bind (wpAny_pure ?_)
  rw [show (some (Value.builtin "dict.__iter__") == some (Value.builtin "dict.__iter__")) = true by kernel_rfl]
  dsimp only
  rw [hoS, if_neg Bool.false_ne_true]
  refine wpAny_bind (wpAny_dictEntries hod hdd ?_)
  have hlen : more.length = eso.size := by rw [← hpo.length]; simp
  have loop : wpAny (model prog w) A (do
      let l ← dictEntries o
      let epoch ← dictEpoch o
      forIn (List.range l.size) PUnit.unit fun i (_ : PUnit) => (do
          let l' ← dictEntries o
          match l'[i]? with
            | some e => do
              holding [e.key, e.val]
                (if false = true then do
                    let f ← dictFind d e.key e.hash
                    if f.isSome = true then do
                        rule "dict.merge.duplicate-key"
                        let x ← newExc (Value.type "KeyError") [e.key]
                        raiseNew x
                        dictPut d e.hash e.key e.val
                      else dictPut d e.hash e.key e.val
                  else dictPut d e.hash e.key e.val)
              let ep' ← dictEpoch o
              if (ep' != epoch) = true then do
                  (unsupported "dict.changed-during-merge" : Sem PUnit)
                  pure (ForInStep.yield PUnit.unit)
                else pure (ForInStep.yield PUnit.unit)
            | _ => do
              (unsupported "dict.changed-during-merge" : Sem PUnit)
              pure (ForInStep.yield PUnit.unit) : Sem (ForInStep PUnit))
      pure ()) Q E s := by
    refine wpAny_bind (wpAny_dictEntries hoo hdo' ?_)
    refine wpAny_bind (wpAny_dictEpoch hoo hdo' ?_)
    refine wpAny_bind ?_
    rw [List.range_eq_range']
    refine wpAny_forIn_list _
      (fun rest _ s' => ∃ h' i, s' = { s with heap := h' } ∧ rest = List.range' i (eso.size - i) ∧ i ≤ eso.size ∧ h'.DictOf (mixKind prog w) d (merged kvs (more.take i)) ∧ h'.get? o = some oo ∧ Heap.SameBut d s.heap h')
      _ ?_ ?_ _ _ ⟨s.heap, 0, rfl, by simp, Nat.zero_le _, by simpa [merged] using hd, hoo, Heap.SameBut.refl _ _⟩
    · rintro x rest b s' ⟨h', i, rfl, hr, hi, hd', hoo', hs'⟩
      have hlt : i < eso.size := by
        rcases Nat.lt_or_ge i eso.size with h | h
        · exact h
        · rw [Nat.sub_eq_zero_of_le h] at hr; simp at hr
      obtain ⟨rfl, hrest⟩ : x = i ∧ rest = List.range' (i + 1) (eso.size - (i + 1)) := by
        have e : eso.size - i = (eso.size - (i + 1)) + 1 := by omega
        rw [e, List.range'_succ] at hr
        injection hr with h1 h2
        exact ⟨h1, h2⟩
      refine wpAny_bind (wpAny_dictEntries hoo' hdo' ?_)
      rw [Array.getElem?_eq_getElem hlt]
      obtain ⟨kv, hkv⟩ : ∃ kv, more[x]? = some kv := ⟨more[x]'(by rw [hlen]; exact hlt), List.getElem?_eq_getElem _⟩
      obtain ⟨k, v⟩ := kv
      obtain ⟨hkey, hval⟩ := hpo.get? (e := eso[x]) (by simp [hlt]) hkv
      obtain ⟨k', hkey', hhash⟩ := hko eso[x] (Array.getElem_mem hlt)
      obtain rfl : k' = k := (mixKind prog w).inj _ _ _ hkey' hkey
      dsimp only
      rw [if_neg Bool.false_ne_true]
      rw [hhash, hval]
      have hmx : (merged kvs (more.take x)).length ≤ sizeLine := by
        have e1 := merged_length_le kvs (more.take x)
        have e2 : (more.take x).length ≤ more.length := by rw [List.length_take]; omega
        omega
      refine wpAny_bind (wpAny_holding (put_pairs (hsz := hmx) hkey hd' fun h'' hd'' hs'' => ?_))
      have hoo'' : h''.get? o = some oo := (hs''.2 o (Ne.symm hdo)).trans hoo'
      refine wpAny_bind (wpAny_dictEpoch hoo'' hdo' ?_)
      rw [if_neg (by simp)]
      exact wpAny_pure ⟨h'', x + 1, rfl, hrest, hlt, by rw [merged_take_succ kvs more x (k', v) hkv]; exact hd'', hoo'', hs'.trans hs''⟩
    · rintro b s' ⟨h', i, rfl, hr, hi, hd', hoo', hs'⟩
      have hin : i = eso.size := by
        rcases Nat.lt_or_ge i eso.size with h | h
        · have e : eso.size - i = (eso.size - (i + 1)) + 1 := by omega
          rw [e, List.range'_succ] at hr; exact nomatch hr
        · exact Nat.le_antisymm hi h
      refine wpAny_pure (hQ h' ?_ ⟨oo, eso, epo, hoo', hco, hdo', hko, hpo, hno⟩ hs')
      rw [hin, ← hlen, List.take_length] at hd'; exact hd'
  split
  · refine wpAny_bind (wpAny_dictEntries hoo hdo' ?_)
    refine wpAny_bind ?_
    rw [← Array.forIn_toList]
    refine wpAny_forIn_list _ (fun rest _ s' => s' = s ∧ ∀ e ∈ rest, e ∈ eso) _ ?_ ?_ _ _ ⟨rfl, fun e he => Array.mem_toList_iff.mp he⟩
    · rintro e rest b s' ⟨rfl, hm⟩
      obtain ⟨k', hkey', hhash⟩ := hko e (hm e List.mem_cons_self)
      have hr : ∀ e2 ∈ rest, e2 ∈ eso := fun e2 h2 => hm e2 (List.mem_cons_of_mem _ h2)
      have hkey' : keyIs k' e.key = true := hkey'
      rcases keyIs_shape hkey' with ⟨i, t, e1, e2⟩ | ⟨x, t, e1, e2⟩
      · rw [e2]
        exact wpAny_pure ⟨rfl, hr⟩
      · rw [e2]
        exact wpAny_pure ⟨rfl, hr⟩
    · rintro b s' ⟨rfl, _⟩
      exact loop
  · exact loop
end
section
variable {prog : Program} {w : World} {A : Around} {E : Value → Shared → Prop} {s : Shared}
theorem disp2 {m1 m2 : Sem Value} {Q : Value → Shared → Prop}
    (h : wpAny (model prog w) A m1 (fun x s1 => wpAny (model prog w) A (mergeMapping s.heap.objs.size x false) (fun _ s2 => wpAny (model prog w) A m2 (fun y s3 => wpAny (model prog w) A (mergeMapping s.heap.objs.size y false) (fun _ s4 => Q (.ref s.heap.objs.size) s4) (fun _ _ => False) s3) E s2) (fun _ _ => False) s1) E { s with heap := s.heap.push { cls := .type "dict", data := .dict #[] } }) :
    wpAny (model prog w) A (dictDisplay [(none, m1), (none, m2)]) Q E s := by
  unfold dictDisplay
  simp only [List.forIn_cons, List.forIn_nil, List.isEmpty_nil, if_true, pure_bind, bind_assoc]
  refine wpAny_bind (wpAny_alloc ?_)
  refine wpAny_bind (wpAny_holding (wpAny_mono h (fun x s1 h1 => ?_) fun _ _ e => e))
  refine wpAny_bind (wpAny_onRaise (wpAny_tryCatch (wpAny_onRaise (wpAny_holding (wpAny_mono h1 (fun _ s2 h2 => ?_) fun _ _ e => e.elim)))))
  refine wpAny_bind (wpAny_holding (wpAny_mono h2 (fun y s3 h3 => ?_) fun _ _ e => e))
  refine wpAny_bind (wpAny_onRaise (wpAny_tryCatch (wpAny_onRaise (wpAny_holding (wpAny_mono h3 (fun _ s4 h4 => ?_) fun _ _ e => e.elim)))))
  exact wpAny_pure h4
end
/-- {**a, **b} -/
def tMrg2 (t1 t2 : TE) : TE := fun σ H Q => ∀ p, H p = none → t1 σ (upd H p (.dK [])) fun x H1 => H1 p = some (.dK []) ∧ ∃ (a : Addr) (kvs : List (Key × V)), x = .ref a ∧ a ≠ p ∧ Rd H1 a (.dK kvs) ∧ kvs.length ≤ 1000 ∧
  t2 σ (upd H1 p (.dK (mergeK [] kvs))) fun y H2 => H2 p = some (.dK (mergeK [] kvs)) ∧ ∃ (b : Addr) (kvs2 : List (Key × V)), y = .ref b ∧ b ≠ p ∧ Rd H2 b (.dK kvs2) ∧ kvs2.length ≤ 1000 ∧ Q (.ref p) (upd H2 p (.dK (mergeK (mergeK [] kvs) kvs2)))
theorem pe_mrg2 {X : Cx} {pos : Pos} {e1 e2 : Expr} {t1 t2 : TE} (h1 : PE X e1 t1) (h2 : PE X e2 t2) : PE X (.Dict [none, none] [e1, e2] pos) (tMrg2 t1 t2) := by
  refine ⟨fun pins s σ H Q I q => ?_⟩
  have hn := I.hok.fresh (Nat.le_refl s.heap.objs.size)
  have I1 := I.laid (a := s.heap.objs.size) (o := .dK []) (h' := s.heap.push { cls := .type "dict", data := .dict #[] }) (t' := s.toks) (fun _ _ q => Heap.get?_push_of_some _ q) (Nat.le_refl _) (dk_empty s.heap I.big)
  rw [arm_eval_Dict]
  refine wpAny_bind (wpAny_standAt ?_)
  refine disp2 ?_
  refine wpAny_bind (thn (h1.run pins _ σ _ _ I1 (q _ hn)) fun u s1 ⟨x, H1, J1, rx, q1, a, kvs, ex, na, ra, l1, k⟩ => ?_)
  subst ex
  refine wpAny_bind (wpAny_standAt (wpAny_pure ?_))
  cases rx
  obtain ⟨z, lo, vs, rel, dd⟩ := dk_rd J1.hok ra
  obtain ⟨z0, hd0, vs0, r0, dd0⟩ := dk_of J1.hok q1
  cases r0
  refine merge_map (Ne.symm na) lo dd0 dd (fun h' d1 d2 hs => ?_) (by rw [List.length_nil, Nat.zero_add, ← rel.length]; exact z)
  have hz1 : (mergeK [] kvs).length ≤ 1000 := by
    have := length_mergeK kvs []
    rw [List.length_nil] at this
    omega
  have he1 : ∃ q, h'.get? s.heap.objs.size = some q := let ⟨q, _, _, hq, _⟩ := d1; ⟨q, hq⟩
  have J2 := d_write (t' := s1.toks) J1 (by rw [q1]; exact True.intro) hs he1 (dk_new (Nat.le_trans hz1 (by rw [sizeLine_eq]; decide)) hd0 (rel.merge .nil) d1)
  refine wpAny_bind (thn (h2.run pins _ σ _ _ J2 k) fun u2 s3 ⟨y, H2, J3, ry, q2, b, kvs2, ey, nb, rb, l2, k2⟩ => ?_)
  subst ey
  refine wpAny_bind (wpAny_standAt (wpAny_pure ?_))
  cases ry
  obtain ⟨z3, lo3, vs3, rel3, dd3⟩ := dk_rd J3.hok rb
  obtain ⟨z4, hd4, vs4, r4, dd4⟩ := dk_of J3.hok q2
  refine merge_map (Ne.symm nb) lo3 dd4 dd3 (fun h'' d1' d2' hs' => ?_) (by rw [← rel3.length, ← r4.length, sizeLine_eq]; omega)
  have he2 : ∃ q, h''.get? s.heap.objs.size = some q := let ⟨q, _, _, hq, _⟩ := d1'; ⟨q, hq⟩
  have hz2 : (mergeK (mergeK [] kvs) kvs2).length ≤ sizeLine := by
    have := length_mergeK kvs2 (mergeK [] kvs)
    rw [sizeLine_eq]
    omega
  exact ⟨.ref s.heap.objs.size, _, d_write (t' := s3.toks) J3 (by rw [q2]; exact True.intro) hs' he2 (dk_new hz2 hd4 (rel3.merge r4) d1'), rfl, k2⟩
/-- str of a whole number or of a text -/
theorem call_strA {X : Cx} : CallR X (.type "str") fun xs H Q => (∃ i : Int, xs = [.int i] ∧ i.natAbs.log2 < 1920 ∧ Q (.str (toString i)) H) ∨ ∃ a : Str, xs = [.str a] ∧ Q (.str a) H := fun pins s σ H xs us Q I r h =>
  h.elim (fun h => call_str_int pins s σ H xs us Q I r h) fun h => SkE.call_str_str pins s σ H xs us Q I r h
end Vf

set_option Elab.async false
set_option linter.all false
set_option maxHeartbeats 4000000
/-! e.replace(y, z) of written texts, where e itself makes a text (so that a token is there) -/
namespace Vf
open PySem PySem.Spec PyProof.Rows L2
def PE1 (X : Cx) (e : Expr) (te : TE) : Prop := ∀ (pins : List (Addr × Obj)) (s : Shared) (σ : L2.St) (H : Hp) (Q : VK), L2.Inv X pins σ H s → te σ H Q → wpAny (model X.prog X.w) X.A (eval e X.env) (fun u s1 => 1 ≤ s1.toks ∧ EP X pins σ Q u s1) X.xe s
section
variable {X : Cx} {o e : Expr} {to te : TE} {apos pos : Pos}
theorem pe1_m1c {id : String} {name : Str} {y : Str} {j : Nat} {c0 : Pos} {r : V → List V → Hp → VK → Prop} (slot : Slot "str" name id) (ty : typeOf (.builtin id) = pure (.type "method_descriptor")) (rule : MtR X id r) (ho : PE X o to)
    (hs : starEach [.Constant (.str y) j c0] X.env = [(false, eval (.Constant (.str y) j c0) X.env)] := by rfl) (hbase : attributeBase o name X.env (eval o X.env) = eval o X.env := by rfl) (hline : (apos.endLine == pos.line) = true := by rfl) :
    PE1 X (.Call (.Attribute o name apos) [.Constant (.str y) j c0] [] pos) (tM1 r to (tC (.str y))) := by
  intro pins s σ H Q I h
  refine PySem.Call_method1 hbase hs hline (thn (ho.run pins s σ H _ I h) fun v s1 ⟨x, H1, I1, r1, q1⟩ => ?_)
  obtain ⟨⟨a, rfl⟩, q1⟩ := q1
  obtain ⟨t, rfl⟩ := _root_.id r1
  refine ⟨"str", _, PySem.F.plainAttrs_str, slot, ty, typeIs_str _ _ _, (fun _ e => nomatch e), Calls.callWith_builtin rfl (Calls.evalArgs_plain (Calls.spliced_cons ?_))⟩
  refine Calls.Constant_str (Calls.spliced_nil ?_)
  exact wpAny_mono (wpAny_toks_of (n := 1) (by show 1 ≤ s1.toks + 1; omega) (rule pins _ σ H1 _ [.str y] _ [.str y s1.toks] Q (I1.tok _) r1 (.cons ⟨_, rfl⟩ .nil) q1)) (fun _ _ z => z) fun _ _ z => z.2
theorem pe1_ix {a b : Expr} {ta tb : TE} {r : R2} (hr : IxR X r) (ha : PE1 X a ta) (hb : PE X b tb) (hs : PlainIx b) : PE1 X (.Subscript a b pos) (tOp r ta tb) := by
  intro pins s σ H Q I h
  refine Subscript_ (thn (ha pins s σ H _ I h) fun v s1 ⟨k1, x, H1, I1, rx, q⟩ => ?_)
  refine wpAny_mono (wpAny_toks_of k1 (hb.run pins s1 σ H1 _ I1 q)) (fun u s2 ⟨k2, y, H2, I2, ry, q2⟩ => ?_) fun _ _ z => z.2
  exact wpAny_mono (wpAny_toks_of k2 (hr a b pins s2 σ H2 x y v u Q I2 rx ry q2 (hs _ _))) (fun _ _ z => z) fun _ _ z => z.2
theorem pe_repl1 {y z : Str} {j k : Nat} {c0 c1 : Pos} (ho : PE1 X o to) (hyz : (y == z) = false := by decide)
    (hst : starEach [.Constant (.str y) j c0, .Constant (.str z) k c1] X.env = [(false, eval (.Constant (.str y) j c0) X.env), (false, eval (.Constant (.str z) k c1) X.env)] := by rfl)
    (hbase : attributeBase o "replace" X.env (eval o X.env) = eval o X.env := by rfl) (hline : (apos.endLine == pos.line) = true := by rfl) :
    PE X (.Call (.Attribute o "replace" apos) [.Constant (.str y) j c0, .Constant (.str z) k c1] [] pos) (CwR.tReplC to y z) := by
  refine ⟨fun pins s σ H Q I h => ?_⟩
  refine PySem.Call_method2 hbase hst hline (thn (ho pins s σ H _ I h) fun v s1 q => ?_)
  obtain ⟨hk, v', H1, I1, r1, x, e1, hb, q⟩ := q
  subst e1
  obtain ⟨tx, e2⟩ := r1
  subst e2
  refine ⟨"str", _, PySem.F.plainAttrs_str, PySem.F.slot_str_replace, PySem.F.type_str_replace, typeIs_str _ _ _, (fun _ e => nomatch e), Calls.callWith_builtin rfl (Calls.evalArgs_plain (Calls.spliced_cons ?_))⟩
  refine Calls.Constant_str (Calls.spliced_cons (Calls.Constant_str (Calls.spliced_nil ?_)))
  exact PySem.SC.replace (by show s1.toks ≠ 0; omega) (by show s1.toks + 1 ≠ 0; omega) (by show s1.toks ≠ s1.toks + 1; omega) hyz hb fun t' k => ⟨.str (Txt.replace x y z), H1, I1.tok k, ⟨t', rfl⟩, q⟩
end
end Vf

set_option Elab.async false
set_option linter.all false
set_option maxRecDepth 100000
set_option maxHeartbeats 4000000
/-! try with two clauses that have names; k not in a written dict; replace by a drawn text. -/
namespace Vf
open PySem PySem.Spec PyProof.Rows L2
/-- k not in d, d a dict that the top has written -/
theorem op_notIn_kdw {X : Cx} : OpR X (compareOp .NotIn) fun x y H Q => ∃ d kvs k, x = kV k ∧ y = .ref d ∧ KD X.K X.w d kvs ∧ Q (.bl (!(valV kvs k).isSome)) H := by
  rintro pins s σ H x y v u Q I rx ry ⟨d, kvs, k, rfl, rfl, D, q⟩
  cases ry
  obtain ⟨g, hm, hg⟩ := D.map (P := X.prog) I.kIn
  obtain ⟨es, n, hl, low, _⟩ := D
  refine wpAny_notIn_of (kV_is rx) low hm ⟨_, H, I.tok _, ?_, q⟩
  rw [(hg k).isSome_eq]
  rfl
/-- wished of an exception of the body: it is the first clause's, or the second one's -/
def wHd2 (K : PySem.W.Frag) (c : Value) (i : Nat) (ts : Addr → Value → Option Addr → TS) (c2 : Value) (i2 : Nat) (ts2 : Addr → Value → Option Addr → TS) (D : Ends) : WX :=
  fun z d τ G => (PySem.W.exmOne K z c = some true ∧ ∀ a, G a = none → ts a z d (clearE i D) (τ.set i (some (.ref a))) G) ∨
    (PySem.W.exmOne K z c = some false ∧ PySem.W.exmOne K z c2 = some true ∧ ∀ a, G a = none → ts2 a z d (clearE i2 D) (τ.set i2 (some (.ref a))) G)
section
variable {X : Cx} {x n x2 n2 : Str} {c c2 : Value} {i i2 : Nat} {body suite suite2 : List Stmt} {st st2 : Stmt} {np pos q np2 q2 : Pos} {more : List ExceptHandler}
  {tb : WX → TS} {ts ts2 : Addr → Value → Option Addr → TS} {D : Ends} {pins : List (Addr × Obj)} {s : Shared} {e : Value} {xo : Value → Shared → Prop}
theorem hd_catch2 (hs : X.stack = X.env :: X.outer) (hf : X.env.frame = some X.env.locals) (nd : X.N.Nodup) (hi : X.N[i]? = some n) (loc : X.env.kindOf n = some .local) (hc : Names X x c)
    (hi2 : X.N[i2]? = some n2) (loc2 : X.env.kindOf n2 = some .local) (hc2 : Names X x2 c2) (ok : X.Ok)
    (hsu : ∀ (a : Addr) (oe : Obj) (z : Value) (d : Option Addr) (pn : List (Addr × Obj)), Zc z d oe → (∃ vs, oe.data = .fields vs) → PSs (X.suite a ((a, oe) :: pn)) (st :: suite) (ts a z d))
    (hsu2 : ∀ (a : Addr) (oe : Obj) (z : Value) (d : Option Addr) (pn : List (Addr × Obj)), Zc z d oe → (∃ vs, oe.data = .fields vs) → PSs (X.suite a ((a, oe) :: pn)) (st2 :: suite2) (ts2 a z d))
    (air : XE (X.tr (X.pn ++ pins) xo) (wHd2 X.K c i ts c2 i2 ts2 D) e s) :
    wpAny (model X.prog X.w) X.A (noteFrame e X.env) (fun _ t => wpAny (model X.prog X.w) X.A (setFlight e none)
      (fun _ u => wpAny (model X.prog X.w) X.A (handleBy e X.env (.ExceptHandler (some (.Name x np)) (some n) (st :: suite) q :: .ExceptHandler (some (.Name x2 np2)) (some n2) (st2 :: suite2) q2 :: more)) (SP X pins D) X.xe u) X.xe t) X.xe s := by
  obtain ⟨a, B, s0, pn, τ, G, z, d, rfl, J0, new, up, sky, na, os, bare, wish⟩ := air
  have J : Inv X pins τ G s0 := J0.ofTry ok
  have frames : X.A.frames = some (X.env :: X.outer) := ok.frames.trans (congrArg some hs)
  refine Sky.land (B := B) Zc.steady frames hf (by rw [← hs]; exact sky) fun h1 fl1 up1 => ?_
  have J1 : Inv X pins τ G { s with heap := h1 } := J.landed new fl1.1 (up.trans up1) os bare
  obtain ⟨o1, v1, g1, z1, d1⟩ := fl1.there
  have nf := no_frame fl1.2.2.1 g1 d1
  have nl : a ≠ X.env.locals := fun eq => nf (List.mem_filterMap.mpr ⟨X.env, List.mem_cons_self, hf.trans (congrArg some eq.symm)⟩)
  have nfs : a ∉ X.fs := fun m => by
    obtain ⟨en, m1, m2⟩ := List.mem_filterMap.mp m
    exact nf (List.mem_filterMap.mpr ⟨en, List.mem_cons_of_mem _ m1, m2⟩)
  have lt : PySem.W.Looks (model X.prog X.w) h1 (typeOf (.ref a)) z := fun _ _ _ _ k w => wpAny_typeOf_ref (k _ _ g1) (by rw [z1.1]; exact w)
  refine wpAny_handleBy_cons (codeAny_handlers_test (hd_name hc (J1.suite g1 d1 na nl nfs) ?_)) (fun no => by cases no)
  rcases wish with ⟨me, go⟩ | ⟨no, me, go⟩
  · refine (PySem.W.exm_one J1.kIn lt me).here (codeAny_handlers_suite_as (HandSPX.lands_againZ fl1 fun h2 fl2 up2 => ?_))
    obtain ⟨o2, v2, g2, z2, d2⟩ := fl2.there
    have J2 : Inv X pins τ G { s with heap := h2 } := J.landed new fl2.1 ((up.trans up1).trans up2) os bare
    exact hd_suite nd hi loc (hsu a o2 z d (X.pn ++ pins) z2 ⟨_, d2⟩) J2 (fun fl t w => w) g2 d2 na nl nfs (go a na)
  · refine (PySem.W.exm_one J1.kIn lt no).here ?_
    show wpAny _ X.A (handleBy (.ref a) X.env (.ExceptHandler (some (.Name x2 np2)) (some n2) (st2 :: suite2) q2 :: more)) _ _ _
    refine wpAny_handleBy_cons (codeAny_handlers_test (hd_name hc2 (J1.suite g1 d1 na nl nfs) ?_)) (fun no => by cases no)
    refine (PySem.W.exm_one J1.kIn lt me).here (codeAny_handlers_suite_as (HandSPX.lands_againZ fl1 fun h2 fl2 up2 => ?_))
    obtain ⟨o2, v2, g2, z2, d2⟩ := fl2.there
    have J2 : Inv X pins τ G { s with heap := h2 } := J.landed new fl2.1 ((up.trans up1).trans up2) os bare
    exact hd_suite nd hi2 loc2 (hsu2 a o2 z d (X.pn ++ pins) z2 ⟨_, d2⟩) J2 (fun fl t w => w) g2 d2 na nl nfs (go a na)
/-- try: body, except x as n: suite, except x2 as n2: suite2, and more clauses that nothing comes to -/
theorem ps_try_hd2 (hs : X.stack = X.env :: X.outer) (hf : X.env.frame = some X.env.locals) (nd : X.N.Nodup) (hi : X.N[i]? = some n) (loc : X.env.kindOf n = some .local) (hc : Names X x c)
    (hi2 : X.N[i2]? = some n2) (loc2 : X.env.kindOf n2 = some .local) (hc2 : Names X x2 c2)
    (hb : ∀ (W : WX) (pn : List (Addr × Obj)) (xe : Value → Shared → Prop), Takes (X.tr pn xe) W → PSs (X.tr pn xe) body (tb W))
    (hsu : ∀ (a : Addr) (oe : Obj) (z : Value) (d : Option Addr) (pn : List (Addr × Obj)), Zc z d oe → (∃ vs, oe.data = .fields vs) → PSs (X.suite a ((a, oe) :: pn)) (st :: suite) (ts a z d))
    (hsu2 : ∀ (a : Addr) (oe : Obj) (z : Value) (d : Option Addr) (pn : List (Addr × Obj)), Zc z d oe → (∃ vs, oe.data = .fields vs) → PSs (X.suite a ((a, oe) :: pn)) (st2 :: suite2) (ts2 a z d)) :
    PS X (.Try body (.ExceptHandler (some (.Name x np)) (some n) (st :: suite) q :: .ExceptHandler (some (.Name x2 np2)) (some n2) (st2 :: suite2) q2 :: more) [] [] pos) (fun D τ G => tb (wHd2 X.K c i ts c2 i2 ts2 D) D τ G) := by
  refine ⟨fun pins s τ G D I h => wpAny_Try_except ?_⟩
  have ok := I.ok
  have run := (hb (wHd2 X.K c i ts c2 i2 ts2 D) (X.pn ++ pins) _ fun u t air => hd_catch2 (np := np) (q := q) (np2 := np2) (q2 := q2) (more := more) hs hf nd hi loc hc hi2 loc2 hc2 ok hsu hsu2 air).run [] s τ G D (I.toTry _) h
  refine wpAny_mono run (fun fl t w => ?_) fun _ _ w => w
  cases fl with
  | ret v =>
    obtain ⟨v', τ', G', J, r, w⟩ := w
    exact ⟨v', τ', G', J.ofTry ok, r, w⟩
  | next =>
    obtain ⟨τ', G', J, w⟩ := w
    exact wpAny_execs_nil ⟨τ', G', J.ofTry ok, w⟩
  | brk =>
    obtain ⟨τ', G', J, w⟩ := w
    exact ⟨τ', G', J.ofTry ok, w⟩
  | cont =>
    obtain ⟨τ', G', J, w⟩ := w
    exact ⟨τ', G', J.ofTry ok, w⟩
end

/-! ### a law's end that knows more of the heap it begins at -/
/-- R holds wherever what is no list, no tuple and no table stands as in h -/
def Tells (h : Heap) (R : Heap → Prop) : Prop := ∀ h' : Heap, (∀ (b : Addr) (o : Obj), h.get? b = some o → (∀ xs n, o.data ≠ .seq xs n) → o.data ≠ .fields #[] → h'.get? b = some o) → R h'
/-- sys.modules stands, and no reader has made a thing -/
structure Calm2 (h : Heap) : Prop where
  sb : ∃ o, h.get? sysModules = some o ∧ o.cls = .type "dict"
  nb : ∃ (o : Obj) (es : Array DictEntry) (n : Nat), h.get? cStatics = some o ∧ o.data = .dict es n ∧ nsFind es sharingNotToldKey = none
theorem Calm2.booked {h : Heap} (x : Calm2 h) (l : h.NoLimit) : NoneBooked h := by
  obtain ⟨o, es, n, e, d, f⟩ := x.nb
  obtain ⟨mc, ⟨o', es', ep', e', d', sk, hm⟩, _⟩ := l
  rw [e] at e'
  cases e'
  rw [d] at d'
  cases d'
  exact ⟨mc, ⟨o, es, n, e, d, sk, hm⟩, by rw [← hm]; exact f⟩
/-! ### replace by a text that is drawn of two written ones -/
theorem booked_keeps {h h' : Heap} (x : NoneBooked h) (hk : ∀ b o, h.get? b = some o → h'.get? b = some o) : NoneBooked h' :=
  let ⟨mc, a, b⟩ := x; ⟨mc, a.keeps hk, b⟩
/-- d[k] of a dict with whole numbers and texts as keys: a token is there behind it -/
def tDGetK (td ty : TE) : TE := fun σ H Q => td σ H fun x H1 => ty σ H1 fun y H2 => ∃ (a : Addr) (kvs : List (Key × V)) (k : Key) (v : V), x = .ref a ∧ Rd H2 a (.dK kvs) ∧ y = kV k ∧ valV kvs k = some v ∧ Q v H2
section
variable {X : Cx} {o i e : Expr} {td ty te to : TE} {pos apos p : Pos}
theorem pe1_dgetK (ho : PE X o td) (hi : PE X i ty) (hs : NoSl i) : PE1 X (.Subscript o i pos) (tDGetK td ty) := by
  intro pins s σ H Q I h
  refine subD_of PySem.F.slot_dict_getitem.lookup hs (thn (ho.run pins s σ H _ I h) fun u s1 ⟨x, H1, I1, rx, q1⟩ => thn (hi.run pins s1 σ H1 _ I1 q1) fun iv s2 ⟨y, H2, I2, ry, a, kvs, k, v, ex, hd, ey, l, q2⟩ => ?_)
  subst ex
  obtain rfl : u = Value.ref a := rx
  subst ey
  obtain ⟨z, low, vs, rel, dd⟩ := dk_rd I2.hok hd
  obtain ⟨w', hw, rw'⟩ := RelO.some_of (v := v) (o := valueAt vs k) (by rw [← l]; exact rel.val k)
  exact ⟨dd.typeIs, wpAny_getItem_of (kV_is ry) dd.mapOf hw ⟨by show 1 ≤ s2.toks + 1; omega, v, H2, I2.tok _, rw', q2⟩⟩
/-- f(e), a token there behind e -/
theorem pe1_c {x : Str} {sp : Sp} {dvs : List V} {k j : Nat} (c : C8.Cal X.prog X.w X.K X.mg X.base k x sp dvs) (hr : Room j X.A) (hk : k ≤ j) (hg : Gl X x) (ha : PE1 X e te)
    (hdb : (x == ("__debug__" : Str)) = false := by decide) (he : starEach (e :: []) X.env = (false, eval e X.env) :: starEach [] X.env := by rfl) (hpl : (backTo pos (starEach [] X.env)).any (·.1) = false := by rfl) :
    PE1 X (.Call (.Name x p) [e] [] pos) (tCall sp dvs E0 (tCons te tNil)) := by
  obtain ⟨f, fd, ps, ds, F, hm, kp, b, d⟩ := c.ex
  intro pins s σ H Q I h
  refine wpAny_Call_Name_kw (ld_glob I hg hm ?_ hdb)
  refine PySem.W.callWith_K (h₀ := X.base) I.ok.mod.kin kp ?_ he hpl
  rw [he]
  show wpAny _ _ (spliced ((false, eval e X.env) :: backTo pos (starEach [] X.env))) _ _ s
  refine Calls.spliced_cons (thn (ha pins s σ H _ I h) fun u s1 ⟨k1, x1, H1, I1, r1, q1⟩ => Calls.spliced_nil ?_)
  refine ⟨I1.kIn, ?_⟩
  exact wpAny_mono (wpAny_toks_of k1 (run_fn F (hr.mono hk) b d pass0 I1 (.cons r1 .nil) q1)) (fun _ _ z => z) fun _ _ z => z.2
end
/-- one of a list whose object is known: it is one of its items -/
def OneRaw (P : Program) (w : World) (K : PySem.W.Frag) (mg : Str → Option Value) (base : Heap) (x : Str) (k : Nat) : Prop :=
  ∃ f, mg x = some (.ref f) ∧ PySem.W.keepIn K (.ref f) = true ∧ ∀ (A : Around) (outer : List Env) (s : Shared) (H : Hp) (g : Bg) (c e : Int) (l : Addr) (o : Obj) (its : Array Value) (n : Nat) (xs : List V) (Q : Hp → Prop),
    Room k A → Env0 P w K mg base A outer s H → Bag H g c e → H l = some (.frz o (.lst xs)) → o.cls = .type "list" → o.data = .seq its n → 0 < its.size → its.size < 1000 → l ≠ g.b → (∀ H', Drawn g H H' c e → Q H') →
    codeAny (model P w) A (.call (.ref f) ⟨[.ref g.b, .ref l], []⟩) (fun r s' => match r with | .ok (.ret u) => u ∈ its.toList ∧ CE outer P w H s (fun _ H' => Q H') u s' | _ => False) s
/-- e.replace(y, one(b, [z1, z2])) -/
def tReplOne (to : TE) (ib : Nat) (y z1 z2 : Str) : TE := fun σ H Q => to σ H fun v H1 => ∃ (x : Str) (g : Bg) (c e : Int), v = .str x ∧ σ[ib]? = some (some (.ref g.b)) ∧ Bag H1 g c e ∧
  x.length + (x.length + 1) * z1.length ≤ 16777216 ∧ x.length + (x.length + 1) * z2.length ≤ 16777216 ∧ ∀ (z : Str) (H2 : Hp), (z = z1 ∨ z = z2) → Drawn g H1 H2 c e → Q (.str (Txt.replace x y z)) H2
section
variable {X : Cx} {o : Expr} {to : TE} {apos pos p pb pl pc : Pos} {f bx : Str} {y z1 z2 : Str} {j j1 j2 ib k : Nat} {c0 c1 c2 : Pos}
theorem pe_replOne (nb : Calm2 X.base) (R : OneRaw X.prog X.w X.K X.mg X.base f k) (hr : Room k X.A) (hg : Gl X f) (ho : PE1 X o to) (hN : X.N[ib]? = some bx) (hv : Vis X.env.scope bx)
    (hdb : (f == ("__debug__" : Str)) = false := by decide) (hd : (bx == ("__debug__" : Str)) = false := by decide) (hcd : (bx == ("__classdict__" : Str)) = false := by decide)
    (hst : starEach [.Constant (.str y) j c0, .Call (.Name f p) [.Name bx pb, .List [.Constant (.str z1) j1 c1, .Constant (.str z2) j2 c2] pl] [] pc] X.env =
      [(false, eval (.Constant (.str y) j c0) X.env), (false, eval (.Call (.Name f p) [.Name bx pb, .List [.Constant (.str z1) j1 c1, .Constant (.str z2) j2 c2] pl] [] pc) X.env)] := by rfl)
    (hbase : attributeBase o "replace" X.env (eval o X.env) = eval o X.env := by rfl) (hline : (apos.endLine == pos.line) = true := by rfl) :
    PE X (.Call (.Attribute o "replace" apos) [.Constant (.str y) j c0, .Call (.Name f p) [.Name bx pb, .List [.Constant (.str z1) j1 c1, .Constant (.str z2) j2 c2] pl] [] pc] [] pos) (tReplOne to ib y z1 z2) := by
  obtain ⟨fa, hm, kp, run⟩ := R
  refine ⟨fun pins s σ H Q I h => ?_⟩
  refine PySem.Call_method2 hbase hst hline (thn (ho pins s σ H _ I h) fun v s1 q => ?_)
  obtain ⟨hk, v', H1, I1, r1, x, g, c, e, e1, hb, B, l1, l2, q⟩ := q
  subst e1
  obtain ⟨tx, e2⟩ := r1
  subst e2
  refine ⟨"str", _, PySem.F.plainAttrs_str, PySem.F.slot_str_replace, PySem.F.type_str_replace, typeIs_str _ _ _, (fun _ e => nomatch e), Calls.callWith_builtin rfl (Calls.evalArgs_plain (Calls.spliced_cons ?_))⟩
  refine Calls.Constant_str (Calls.spliced_cons ?_)
  have I2 : Inv X pins σ H1 { s1 with toks := s1.toks + 1 } := I1.tok _
  refine wpAny_Call_Name_kw (ld_glob I2 hg hm ?_ hdb)
  refine PySem.W.callWith_K (h₀ := X.base) I.ok.mod.kin kp ?_ rfl rfl
  show wpAny _ _ (spliced ((false, eval (.Name bx pb) X.env) :: backTo pc (starEach [.List [.Constant (.str z1) j1 c1, .Constant (.str z2) j2 c2] pl] X.env))) _ _ _
  refine Calls.spliced_cons (raw_name hN hv I2 hb (fun u r => ?_) hd hcd)
  obtain rfl : u = Value.ref g.b := r
  show wpAny _ _ (spliced ((false, eval (.List [.Constant (.str z1) j1 c1, .Constant (.str z2) j2 c2] pl) X.env) :: backTo pc (starEach [] X.env))) _ _ _
  refine Calls.spliced_cons (wpAny_List_spliced ?_)
  show wpAny _ _ (spliced ((false, eval (.Constant (.str z1) j1 c1) X.env) :: backTo pl (starEach [.Constant (.str z2) j2 c2] X.env))) _ _ _
  refine Calls.spliced_cons (Calls.Constant_str ?_)
  show wpAny _ _ (spliced ((false, eval (.Constant (.str z2) j2 c2) X.env) :: backTo pl (starEach [] X.env))) _ _ _
  refine Calls.spliced_cons (Calls.Constant_str (Calls.spliced_nil ?_))
  have h2 : (2 : Nat) ≤ sizeLine := by decide
  refine ⟨h2, Calls.spliced_nil ?_⟩
  let l : Addr := s1.heap.objs.size
  have nl : H1 l = none := I1.hok.fresh (Nat.le_refl _)
  let O : Obj := { cls := .type "list", data := .seq #[.str z1 (s1.toks + 1), .str z2 (s1.toks + 1 + 1)] 0 }
  have I3 : Inv X pins σ (upd H1 l (.frz O (.lst [.str z1, .str z2]))) { s1 with heap := s1.heap.push O, toks := s1.toks + 1 + 1 + 1 } :=
    I1.laid (t' := s1.toks + 1 + 1 + 1) (fun b u e => Heap.get?_push_of_some _ e) (Nat.le_refl _) ⟨Heap.get?_push_size _ rfl, h2, [.str z1 (s1.toks + 1), .str z2 (s1.toks + 1 + 1)], 0, .cons ⟨_, rfl⟩ (.cons ⟨_, rfl⟩ .nil), Heap.get?_push_size _ rfl⟩
  have D0 : Drawn g H1 (upd H1 l (.frz O (.lst [.str z1, .str z2]))) c e := (Drawn.of B).new nl
  refine ⟨I3.kIn, wpAny_call (codeAny_mono (run X.A X.stack _ _ g c e l O _ 0 [.str z1, .str z2] (fun H2 => Drawn g H1 H2 c e) hr I3.env0 D0.bag upd_same rfl rfl (by show 0 < 2; decide) (by show 2 < 1000; decide) (B.ne_new nl) fun H2 D2 => D0.trans D2) fun r s' hq => ?_)⟩
  cases r with
  | error e => exact False.elim hq
  | ok fl =>
    cases fl with
    | next => exact False.elim hq
    | brk => exact False.elim hq
    | cont => exact False.elim hq
    | ret u =>
      obtain ⟨mem, ce⟩ := hq
      obtain ⟨v2, H2, J, rv, D2⟩ := I3.after ce
      have hnb : NoneBooked s'.heap := booked_keeps (nb.booked I.ok.mod.nolimit) J.bk
      have mem : u = Value.str z1 (s1.toks + 1) ∨ u = Value.str z2 (s1.toks + 1 + 1) := by simpa using mem
      refine Calls.spliced_nil ?_
      rcases mem with rfl | rfl
      · exact PySem.SC.replaceA (by show s1.toks ≠ 0; omega) (by show s1.toks + 1 ≠ 0; omega) (by show s1.toks ≠ s1.toks + 1; omega) l1 (fun t' k => ⟨.str (Txt.replace x y z1), H2, J.tok k, ⟨t', rfl⟩, q z1 H2 (.inl rfl) D2⟩) hnb
      · exact PySem.SC.replaceA (by show s1.toks ≠ 0; omega) (by show s1.toks + 1 + 1 ≠ 0; omega) (by show s1.toks ≠ s1.toks + 1 + 1; omega) l2 (fun t' k => ⟨.str (Txt.replace x y z2), H2, J.tok k, ⟨t', rfl⟩, q z2 H2 (.inr rfl) D2⟩) hnb
end

abbrev Calm3 (h : Heap) : Prop := (∃ (o : Obj) (es : Array DictEntry) (n : Nat), h.get? sysModules = some o ∧ o.cls = .type "dict" ∧ o.data = .dict es n) ∧
  ∃ (o : Obj) (es : Array DictEntry) (n : Nat), h.get? cStatics = some o ∧ o.data = .dict es n ∧ nsFind es sharingNotToldKey = none
theorem calm_tells {h : Heap} (x : Calm3 h) : Tells h Calm2 := fun h' k => by
  obtain ⟨⟨o, es, n, e, c, d⟩, o2, es2, n2, e2, d2, f⟩ := x
  refine ⟨⟨o, k _ _ e (fun xs m z => by rw [d] at z; cases z) (fun z => by rw [d] at z; cases z), c⟩, ⟨o2, es2, n2, k _ _ e2 (fun xs m z => by rw [d2] at z; cases z) (fun z => by rw [d2] at z; cases z), d2, f⟩⟩
/-- a hook that also looks at sys.modules and at what readers have made -/
def calmHook (k : PySem.W.Hook) : PySem.W.Hook where
  α := k.α × Option (Value × Bool) × Option Bool
  obs := fun s => (k.obs s, (s.heap.get? sysModules).map (fun o => (o.cls, match o.data with | .dict _ _ => true | _ => false)), (s.heap.get? cStatics).map fun o => match o.data with | .dict es _ => (nsFind es sharingNotToldKey).isNone | _ => false)
  val := fun w => (k.val w, some (.type "dict", true), some true)
  says := fun w h => k.says w h ∧ Calm3 h
  of := fun w s x => by
    refine ⟨k.of w s (Prod.mk.inj x).1, ?_, ?_⟩
    · have y := (Prod.mk.inj (Prod.mk.inj x).2).1
      cases e : s.heap.get? sysModules with
      | none =>
        rw [e] at y
        cases y
      | some o =>
        rw [e] at y
        have y1 := (Prod.mk.inj (Option.some.inj y)).1
        have y2 := (Prod.mk.inj (Option.some.inj y)).2
        cases d : o.data with
        | dict es n => exact ⟨o, es, n, rfl, y1, d⟩
        | _ =>
          rw [d] at y2
          cases y2
    · have y := (Prod.mk.inj (Prod.mk.inj x).2).2
      cases e : s.heap.get? cStatics with
      | none =>
        rw [e] at y
        cases y
      | some o =>
        rw [e] at y
        have y := Option.some.inj y
        dsimp only at y
        cases d : o.data with
        | dict es n =>
          rw [d] at y
          exact ⟨o, es, n, rfl, d, Option.isNone_iff_eq_none.mp y⟩
        | _ =>
          rw [d] at y
          cases y
  keeps := fun w h h' x k2 => ⟨k.keeps w h h' x.1 k2, by
    obtain ⟨⟨o, es, n, e, r⟩, o2, es2, n2, e2, r2⟩ := x.2
    exact ⟨⟨o, es, n, k2 _ _ e, r⟩, o2, es2, n2, k2 _ _ e2, r2⟩⟩
open LamX (CodeO TabS Tabs ExtN TabB)
section
variable {P : Program} {w : World} {K : PySem.W.Frag}
  {mg mb : Str → Option Value} {k : Nat} {fa a : Addr} {fd : FuncData}
  {x : Str} {sp : Sp} {s₁ : Shared} {vs : List Value} {ns : List Int} {L : List (Addr × Addr)}
theorem law_goesA {R : Heap → Prop} (hS : Tells s₁.heap R) (KX : K.In s₁.heap)
    (hns : s₁.heap.Ns mainGlobals mg) (hb : s₁.heap.Ns builtinsNs mb)
    (hbb : ∀ y : Str, y ≠ "__name__" → mb y = bootBuiltins y)
    (hlim : s₁.heap.NoLimit) (hgen : s₁.gens = #[])
    (hT : ∀ p ∈ L, s₁.heap.get? p.2 = some tabE ∧ K.lookup p.2 = none ∧ PySem.W.CodeHd s₁.heap p.1 p.2)
    (hbm : ∃ (bm : Addr) (ob : Obj), mg "__builtins__" = some (.ref bm) ∧ bm ≠ builtinsNs ∧ s₁.heap.get? bm = some ob ∧ ob.cls = .type "module" ∧ ob.dict = some builtinsNs ∧ ob.data = .plain)
    (ha : s₁.heap.get? a =
      some { cls := .type "list", data := .seq vs.toArray })
    (hr : Room k callerA)
    (F : ∀ base : Heap, K.In base → base.Ns mainGlobals mg → R base → (∀ p ∈ L, TabB base mg p.1 p.2) →
      FnG P w K mg base k fa fd [x] sp)
    (bind : ∀ (s : Shared) (u : Value),
      BindsTo s fd ⟨[u], []⟩ [(x, u)])
    (H : Hp) (hHT : ∀ p ∈ L, H p.2 = some (.tbl #[])) (hO : ∀ b, H b = none ∨ (∃ p ∈ L, b = p.2) ∨ ∃ o xs, H b = some (.frz o (.lst xs))) (ok : HOk P w H s₁.heap)
    (alone : ∀ b, H b ≠ none → b = a ∨ ∃ p ∈ L, b = p.2)
    (notK : H a ≠ none → K.lookup a = none)
    (hs : sp [.ref a] H (fun v _ => v = .bl true) fun _ _ _ => False) :
    codeAny (model P w) callerA (.call (.ref fa) ⟨[.ref a], []⟩)
      (LawEnd s₁) s₁ := by
  have free : ∀ {b : Addr} {o : Obj}, s₁.heap.get? b = some o → (∀ xs n, o.data ≠ .seq xs n) → o.data ≠ .fields #[] → H b = none := by
    intro b o e d1 d2
    cases q : H b with
    | none => rfl
    | some u =>
      rcases alone b (by rw [q]; exact Option.some_ne_none u) with z | ⟨p, hp, z⟩
      · rw [z, ha] at e
        cases e
        exact absurd rfl (d1 _ _)
      · rw [z, (hT p hp).1] at e
        cases e
        exact absurd rfl d2
  have ns' : ∀ {b : Addr} {m : Str → Option Value},
      s₁.heap.Ns b m → (hidT s₁.heap H).Ns b m := by
    rintro b m ⟨o, es, ep, e, d, r⟩
    refine ⟨o, es, ep, hidT_get e (free e (fun xs n z => ?_) fun z => ?_), d, r⟩
    · rw [d] at z
      cases z
    · rw [d] at z
      cases z
  have kin : K.In (hidT s₁.heap H) := by
    intro b o e
    refine hidT_get (KX b o e) ?_
    cases q : H b with
    | none => rfl
    | some u =>
      rcases alone b (by rw [q]; exact Option.some_ne_none u) with z | ⟨p, hp, z⟩
      · have z2 := notK (by rw [← z, q]; exact Option.some_ne_none u)
        rw [z, z2] at e
        cases e
      · rw [z, (hT p hp).2.1] at e
        cases e
  have lim' : (hidT s₁.heap H).NoLimit := by
    obtain ⟨mc, h1, h2⟩ := hlim
    exact ⟨mc, ns' h1, h2⟩
  have M : Mod K mg (hidT s₁.heap H) :=
    ⟨kin, ns' hns, ⟨mb, ns' hb, hbb⟩, lim'⟩
  have TB : ∀ p ∈ L, TabB (hidT s₁.heap H) mg p.1 p.2 := fun p hp => by
    obtain ⟨eT, nT, C⟩ := hT p hp
    have notMain : mainGlobals ≠ p.2 := fun z => by
      obtain ⟨o, es, ep, e, d, _⟩ := hns
      rw [z, eT] at e
      cases e
      cases d
    refine ⟨?_, ?_, notMain⟩
    · obtain ⟨o, us, fl, tf, fg, tg, inF, tx, tt, e, r1, r2, r3, rest⟩ := C
      refine ⟨o, us, fl, tf, fg, tg, inF, tx, tt, hidT_get e (free e (fun xs n z => ?_) fun z => ?_), r1, r2, r3, rest⟩
      · rw [r2] at z
        cases z
      · rw [r2] at z
        cases z
        simp at r3
    · obtain ⟨bm, ob, m1, m2, m3, m4, m5, m6⟩ := hbm
      refine ⟨bm, ob, m1, m2, fun z => ?_, fun z => ?_, hidT_get m3 (free m3 (fun xs n z => ?_) fun z => ?_), m4, m5, m6⟩
      · obtain ⟨o, es, ep, e, d, _⟩ := hns
        rw [z, e] at m3
        cases m3
        rw [m6] at d
        cases d
      · rw [z, eT] at m3
        cases m3
        cases m6
      · rw [m6] at z
        cases z
      · rw [m6] at z
        cases z
  have sb : R (hidT s₁.heap H) := hS _ fun b o e d1 d2 => hidT_get e (free e d1 d2)
  have none_in : ∀ b : Addr, b ∉ ([] : List Addr) := fun b => by simp
  have env : Env0 P w K mg (hidT s₁.heap H) callerA [] s₁ H :=
    ⟨rfl, M, fun b o e => of_hidT e, Nat.le_of_eq (hidT_size _ _),
      trivial, fun b z => absurd z (none_in b), ok, .of_eq hgen⟩
  refine codeAny_mono ((F _ kin (ns' hns) sb TB).go callerA [] s₁ H
    ⟨[.ref a], []⟩ [.ref a] [.ref a] _ _ hr rfl env
    (bind s₁ (.ref a)) (.cons rfl .nil) hs) ?_
  intro r s' h
  cases r with
  | error e => exact (h : False).elim
  | ok fl =>
    cases fl with
    | next => exact (h : False).elim
    | brk => exact (h : False).elim
    | cont => exact (h : False).elim
    | ret u =>
      obtain ⟨v, H', os, bare, un, ok', rv, q⟩ := h
      obtain rfl : v = .bl true := q
      obtain rfl : u = Value.bool true := rv
      have same : ∀ b o, (∀ p ∈ L, b ≠ p.2) → s₁.heap.get? b = some o → s'.heap.get? b = some o := by
        intro b o nb e
        cases q : H b with
        | none => exact un.keep b o e q (none_in b) (none_in b)
        | some u =>
          rcases hO b with z | ⟨p, hp, z⟩ | ⟨ob, xs, z⟩
          · rw [q] at z
            cases z
          · exact absurd z (nb p hp)
          · obtain ⟨e1, _⟩ := ok b _ z
            obtain ⟨e2, _⟩ := ok' b _ (un.frzs b ob _ z)
            rw [e] at e1
            cases e1
            exact e2
      have grown : ∀ p ∈ L, ∃ more, s'.heap.get? p.2 = some { cls := .none, data := .fields (#[] ++ more) } := fun p hp => by
        obtain ⟨more, z⟩ := un.tbls p.2 #[] (hHT p hp)
        exact ⟨more, ok' p.2 _ z⟩
      refine ⟨rfl, ⟨fun b o e => ?_, fun b o e => ?_⟩, os, bare⟩
      · by_cases nb : ∀ p ∈ L, b ≠ p.2
        · exact .inl (same b o nb e)
        · obtain ⟨p, hz⟩ := Classical.not_forall.mp nb
          obtain ⟨hp, e2⟩ := Classical.not_imp.mp hz
          obtain rfl := Classical.not_not.mp e2
          obtain ⟨more, g⟩ := grown p hp
          rw [(hT p hp).1] at e
          cases e
          exact .inr (.inl ⟨((hT p hp).2.2.tab (hT p hp).1).isCodeTable, rfl, #[], more, rfl, g⟩)
      · by_cases nb : ∀ p ∈ L, b ≠ p.2
        · exact ⟨o, same b o nb e⟩
        · obtain ⟨p, hz⟩ := Classical.not_forall.mp nb
          obtain ⟨hp, e2⟩ := Classical.not_imp.mp hz
          obtain rfl := Classical.not_not.mp e2
          obtain ⟨more, g⟩ := grown p hp
          exact ⟨_, g⟩

theorem law_goesA2 {R : Heap → Prop} (hS : Tells s₁.heap R) (KX : K.In s₁.heap)
    (hns : s₁.heap.Ns mainGlobals mg) (hb : s₁.heap.Ns builtinsNs mb)
    (hbb : ∀ y : Str, y ≠ "__name__" → mb y = bootBuiltins y)
    (hlim : s₁.heap.NoLimit) (hgen : s₁.gens = #[])
    (hT : ∀ p ∈ L, s₁.heap.get? p.2 = some tabE ∧ K.lookup p.2 = none ∧ PySem.W.CodeHd s₁.heap p.1 p.2)
    (hbm : ∃ (bm : Addr) (ob : Obj), mg "__builtins__" = some (.ref bm) ∧ bm ≠ builtinsNs ∧ s₁.heap.get? bm = some ob ∧ ob.cls = .type "module" ∧ ob.dict = some builtinsNs ∧ ob.data = .plain)
    (ha : s₁.heap.get? a =
      some { cls := .type "list", data := .seq vs.toArray })
    (hi : IntsAre vs ns) (hl : ns.length ≤ sizeLine)
    (hr : Room k callerA)
    (F : ∀ base : Heap, K.In base → base.Ns mainGlobals mg → R base → (∀ p ∈ L, TabB base mg p.1 p.2) →
      FnG P w K mg base k fa fd [x] sp)
    (bind : ∀ (s : Shared) (u : Value),
      BindsTo s fd ⟨[u], []⟩ [(x, u)])
    (hs : ∀ H : Hp, (∀ p ∈ L, H p.2 = some (.tbl #[])) → SqL K H a (ns.map V.int) →
      sp [.ref a] H (fun v _ => v = .bl true) fun _ _ _ => False) :
    codeAny (model P w) callerA (.call (.ref fa) ⟨[.ref a], []⟩)
      (LawEnd s₁) s₁ := by
  have rv := vals_ints hi
  have aT : a ∉ L.map (·.2) := fun z => by
    obtain ⟨p, hp, e⟩ := List.mem_map.mp z
    have e2 := (hT p hp).1
    rw [e, ha] at e2
    cases e2
  have into : ∀ {p : Addr × Addr}, p ∈ L → p.2 ∈ L.map (·.2) := fun hp => List.mem_map.mpr ⟨_, hp, rfl⟩
  have out : ∀ {b : Addr}, b ∈ L.map (·.2) → ∃ p ∈ L, b = p.2 := fun h => by
    obtain ⟨p, hp, e⟩ := List.mem_map.mp h
    exact ⟨p, hp, e.symm⟩
  cases hk : K.lookup a with
  | some o =>
    have e := KX a o hk
    rw [ha] at e
    cases e
    refine law_goesA hS KX hns hb hbb hlim hgen hT hbm ha hr F bind
      (fun b => if b ∈ L.map (·.2) then some (.tbl #[]) else none) (fun p hp => if_pos (into hp)) (fun b => ?_) (fun b u z => ?_)
      (fun b z => ?_) (fun z => absurd (if_neg aT) z) (hs _ (fun p hp => if_pos (into hp)) ?_)
    · by_cases q : b ∈ L.map (·.2)
      · exact .inr (.inl (out q))
      · exact .inl (if_neg q)
    · by_cases q : b ∈ L.map (·.2)
      · have z' := (if_pos q).symm.trans z
        cases z'
        obtain ⟨p, hp, rfl⟩ := out q
        exact (hT p hp).1
      · have z' := (if_neg q).symm.trans z
        cases z'
    · by_cases q : b ∈ L.map (·.2)
      · exact .inr (out q)
      · exact absurd (if_neg q) z
    refine .inr ⟨_, vs.toArray, _, hk, rfl, rfl, rfl, ?_, by simpa using rv⟩
    rw [List.size_toArray, hi.length]
    exact hl
  | none =>
    have e1 : ∀ p ∈ L, ∀ {u v : Option HO}, (if p.2 = a then u else if p.2 ∈ L.map (·.2) then v else none) = v := fun p hp {u v} => by
      rw [if_neg (fun z => aT (by rw [← z]; exact into hp)), if_pos (into hp)]
    refine law_goesA hS KX hns hb hbb hlim hgen hT hbm ha hr F bind
      (fun b => if b = a then some (.frz { cls := .type "list", data := .seq vs.toArray } (.lst (ns.map V.int))) else if b ∈ L.map (·.2) then some (.tbl #[]) else none) (fun p hp => e1 p hp) (fun b => ?_)
      (fun b u z => ?_) (fun b z => ?_) (fun _ => hk)
      (hs _ (fun p hp => e1 p hp) (.inl (.inr ⟨_, if_pos rfl⟩)))
    · by_cases q : b = a
      · exact .inr (.inr ⟨_, _, if_pos q⟩)
      · by_cases q2 : b ∈ L.map (·.2)
        · exact .inr (.inl (out q2))
        · exact .inl ((if_neg q).trans (if_neg q2))
    · by_cases q : b = a
      · have z' := (if_pos q).symm.trans z
        cases z'
        subst q
        exact ⟨ha, by rw [List.length_map]; exact hl, vs, _, rv, ha⟩
      · by_cases q2 : b ∈ L.map (·.2)
        · have z' := ((if_neg q).trans (if_pos q2)).symm.trans z
          cases z'
          obtain ⟨p, hp, rfl⟩ := out q2
          exact (hT p hp).1
        · have z' := ((if_neg q).trans (if_neg q2)).symm.trans z
          cases z'
    · by_cases q : b = a
      · exact .inl q
      · by_cases q2 : b ∈ L.map (·.2)
        · exact .inr (out q2)
        · exact absurd ((if_neg q).trans (if_neg q2)) z
end

/-- the goal that the head leaves -/
theorem walk_ofA {l : PySem.W.OpenLaw} {n k : Nat} {q : Program}
    {loose : List Str} {XP : (Str → Option Value) → Heap → Prop}
    {R : Heap → Prop} {YP : World → Heap → Prop} {d : DefRec}
    {K : Params → PySem.W.Frag} {sp : World → Sp} {x : Str} {Ts : List Addr}
    (hn : l.most = some n) (hn2 : n ≤ sizeLine)
    (hdf : d.params.defaults = []) (hr : Room k callerA)
    (hY : ∀ (w : World) (h : Heap), YP w h → ((K w.params).In h ∧ ∀ T ∈ Ts, h.get? T = some tabE) ∧ Tells h R)
    (F : ∀ (w : World) (mg : Str → Option Value) (fa : Addr) (h : Heap),
      (K w.params).In h → h.Ns mainGlobals mg →
      mg d.name = some (.ref fa) →
      ∃ (fd : FuncData) (L : List (Addr × Addr)), (∀ p ∈ L, PySem.W.codeHdIn (K w.params) p.1 p.2 = true ∧ (K w.params).lookup p.2 = none) ∧ L.map (·.2) = Ts ∧
        (∀ (s : Shared) (u : Value), BindsTo s fd ⟨[u], []⟩ [(x, u)]) ∧
        ∀ base : Heap, (K w.params).In base → base.Ns mainGlobals mg → R base → (∀ p ∈ L, TabB base mg p.1 p.2) →
          FnG l.prog w (K w.params) mg base k fa fd [x] (sp w))
    (hsp : ∀ (w : World) (H : Hp) (a : Addr) (ns : List Int),
      ns.length ≤ n → (∀ T ∈ Ts, H T = some (.tbl #[])) → SqL (K w.params) H a (ns.map V.int) →
      sp w [.ref a] H (fun v _ => v = .bl true) fun _ _ _ => False) :
    PySem.W.WalkO q loose XP YP l.row.toRowW d []
      (fun f vs => PySem.call f vs) := by
  refine Att.attach_call hn hdf ?_
  intro w s₀ s₁ mg mb fa o pm cd doc a vs ns G Y ho hd hcd hmg hobj hints hlen hg
  obtain ⟨⟨KX, hT⟩, hS⟩ := hY w _ Y
  obtain ⟨fd, L, hC, hL, hb, hF⟩ := F w mg fa _ KX G.T.g hmg
  refine law_goesA2 hS KX G.T.g G.T.b G.T.builtins G.T.nolimit hg (L := L) (fun p hp => ⟨hT p.2 (hL ▸ List.mem_map.mpr ⟨p, hp, rfl⟩), (hC p hp).2, PySem.W.codeHd_of_K KX (hC p hp).1⟩) G.T.bmain hobj
    hints (Nat.le_trans hlen hn2) hr hF hb
    (fun H hO hS => hsp w H a ns hlen (fun T hT => ?_) hS)
  rw [← hL] at hT
  obtain ⟨p, hp, rfl⟩ := List.mem_map.mp hT
  exact hO p hp
/-- an error of another class is not what a clause names -/
theorem exm_no {K : PySem.W.Frag} {S C : Addr} (sub : PySem.W.subIn K (.ref C) (.type "BaseException") = some true) (is : PySem.W.isClsIn K C = true) (ty : PySem.W.typeIn K (.ref C) = some (.type "type")) (own : PySem.W.subIn K (.ref S) (.ref C) = some false) :
    PySem.W.exmOne K (.ref S) (.ref C) = some false := by
  have is' : (PySem.W.clsIn K C).isSome = true := is
  unfold PySem.W.exmOne PySem.W.kitCls
  simp only [sub, is', ty, own, beq_self_eq_true, Bool.and_self, if_true]
end Vf

set_option Elab.async false
set_option linter.all false
set_option maxRecDepth 100000
set_option maxHeartbeats 4000000
namespace Vf
open PySem PySem.Spec PyProof.Rows L2
section
variable {X : Cx}
/-! ### rpartition -/
theorem mt_rpartV : MtR X "str.rpartition" (fun x xs H Q => ∃ a b, x = .str a ∧ xs = [.str b] ∧ (b.length == 0) = false ∧ a.length ≤ sizeLine ∧
    ∀ p, H p = none → Q (.ref p) (upd H p (.tup [.str (Txt.rpartition a b).1, .str (Txt.rpartition a b).2.1, .str (Txt.rpartition a b).2.2]))) := by
  intro pins s σ H x xs v us Q I rx rs ⟨a, b, e1, e2, hb, hz, h⟩
  subst e1
  subst e2
  obtain ⟨t, rfl⟩ := rx
  obtain ⟨u1, rfl, r1⟩ := vals1 rs
  obtain ⟨u, rfl⟩ := r1
  refine call_meets F.slot_str_rpartition (typeIs_str _ _ _) F.entry_str_rpartition (F.args_str_rpartition_2 _ _) (meets_str_rpartition a b t u hb hz) ?_
  unfold Txt.rpartition at h
  revert h
  cases Builtin.Str.lastOccurrence a b 0 a.length with
  | none => intro h; exact laid_parts I h
  | some i => intro h; exact laid_parts I h
theorem pe_rpart {o e : Expr} {to te : TE} {apos pos : Pos} (ho : PE X o to) (he : PE X e te) (hs : starEach [e] X.env = [(false, eval e X.env)] := by rfl) (hbase : attributeBase o "rpartition" X.env (eval o X.env) = eval o X.env := by rfl) (hline : (apos.endLine == pos.line) = true := by rfl) :
    PE X (.Call (.Attribute o "rpartition" apos) [e] [] pos) (tM1 (fun x xs H Q => ∃ a b, x = .str a ∧ xs = [.str b] ∧ (b.length == 0) = false ∧ a.length ≤ sizeLine ∧
    ∀ p, H p = none → Q (.ref p) (upd H p (.tup [.str (Txt.rpartition a b).1, .str (Txt.rpartition a b).2.1, .str (Txt.rpartition a b).2.2]))) to te) :=
  pe_m1 F.slot_str_rpartition F.type_str_rpartition mt_rpartV ho he hs hbase hline
/-! ### d.update(e) -/
theorem mt_updV : MtR X "dict.update" (fun x xs H Q => ∃ (a b : Addr) (kvs more : List (Key × V)), x = .ref a ∧ xs = [.ref b] ∧ a ≠ b ∧ H a = some (.dK kvs) ∧ Rd H b (.dK more) ∧ kvs.length + more.length ≤ 1000 ∧ Q .non (upd H a (.dK (mergeK kvs more)))) := by
  intro pins s σ H x xs v us Q I rx rs ⟨a, b, kvs, more, e1, e2, ne, ha, hb, hl, q⟩
  subst e1
  subst e2
  cases rx
  obtain ⟨u1, rfl, r1⟩ := vals1 rs
  cases r1
  obtain ⟨z, hd, vs, rel, dd⟩ := dk_of I.hok ha
  obtain ⟨z2, lo, vs2, rel2, dd2⟩ := dk_rd I.hok hb
  have l1 := rel.length
  have l2 := rel2.length
  have big : (1000 : Nat) ≤ sizeLine := by rw [sizeLine_eq]; decide
  refine call_meetsIn PySem.F.slot_dict_update dd.typeIs PySem.F.entry_dict_update (PySem.F.args_dict_update_2 _ _) (meets_dict_update (mixKind X.prog X.w) a b ne lo) ⟨vs, vs2, dd, dd2, by omega, fun h' d1 d2 hs => ?_⟩
  have he : ∃ q, h'.get? a = some q := let ⟨q, _, _, hq, _⟩ := d1; ⟨q, hq⟩
  have hz1 : (mergeK kvs more).length ≤ sizeLine := by
    have := length_mergeK more kvs
    omega
  exact ⟨.non, _, d_write (t' := s.toks) I (by rw [ha]; exact True.intro) hs he (dk_new hz1 hd (rel2.merge rel) d1), rfl, q⟩
/-! ### d.items() -/
theorem mt_itemsK : MtR X "dict.items" (fun x xs H Q => ∃ (a : Addr) (kvs : List (Key × V)), x = .ref a ∧ xs = [] ∧ H a = some (.dK kvs) ∧ ∀ p, H p = none → Q (.ref p) (upd H p (DX.itemsO p a))) := by
  intro pins s σ H x xs v us Q I rx rxs ⟨a, kvs, e1, e2, ha, q⟩
  subst e1
  subst e2
  cases rx
  cases rxs
  obtain ⟨z, hd, vs, rel, o, es, ep, ho, hx, hdat, _⟩ := dk_of I.hok ha
  refine DT.callItems (es := es) (ep := ep) hd ⟨o, ho, hx, hdat⟩ ?_
  have hf : H s.heap.objs.size = none := I.hok.fresh (Nat.le_refl _)
  exact ⟨.ref s.heap.objs.size, upd H s.heap.objs.size (DX.itemsO s.heap.objs.size a), I.laid (t' := s.toks) (fun b u e => Heap.get?_push_of_some _ e) (Nat.le_refl _) (DX.itemsO_ok (Heap.get?_push_size _ rfl)), rfl, q _ hf⟩
/-! ### sorted(d.items()) of a dict of texts -/
theorem pget1 {α β : Type} {F : α → β → Prop} : ∀ {l : List α} {m : List β} {j : Nat} {x : α}, Paired F l m → l[j]? = some x → ∃ y, m[j]? = some y ∧ F x y
  | _, _, 0, _, .cons h _, e => by
    simp at e
    subst e
    exact ⟨_, rfl, h⟩
  | _, _, j + 1, _, .cons _ t, e => by
    obtain ⟨y, a, b⟩ := pget1 t (j := j) (by simpa using e)
    exact ⟨y, by simpa using a, b⟩
theorem refs_of {l : List Addr} : ∀ {us : List Value}, Vals (l.map V.ref) us → us = l.map Value.ref := by
  induction l with
  | nil =>
    intro us h
    cases h
    rfl
  | cons x r ih =>
    intro us h
    cases h with
    | cons a b =>
      cases a
      rw [ih b] <;> rfl
theorem call_sortedIt (hcalm : X.calm = true) : CallR X (.builtin "sorted") fun xs H Q => ∃ (p a : Addr) (val : Str → V) (ns : List Str), xs = [.ref p] ∧ H p = some (DX.itemsO p a) ∧ H a = some (.dK (ns.map fun n => ((.inr n : Key), val n))) ∧ ns.Nodup ∧
    ∀ (ys : List Str) (ps : List Addr) (q : Addr) (H' : Hp), ys.Perm ns → ys.Pairwise (fun x y => ltS y x = false) → (∀ b o, H b = some o → H' b = some o) → H q = none → H' q = some (.lst (ps.map V.ref)) → Paired (fun p n => H' p = some (.tup [.str n, val n])) ps ys → Q (.ref q) H' := by
  rintro pins s σ H xs us Q I hv ⟨p, a, val, ns, rfl, hp, ha, nd, k⟩
  obtain ⟨u, rfl, hu⟩ := vals1 hv
  cases hu
  have view : s.heap.IsItemsView p a := (show ObjOk X.prog X.w H s.heap p (DX.itemsO p a) from I.hok p _ hp).1
  obtain ⟨z, hd, vs, rel, o, es, ep, ho, hx, hdat, hkk, hpp, hnn⟩ := dk_of I.hok ha
  have l1 : ns.length = vs.length := by
    have := rel.length
    rw [List.length_map] at this
    exact this
  have l2 : es.size = vs.length := by
    rw [← hpp.length]
    simp
  have nz : ns.length ≤ sizeLine := by
    rw [List.length_map] at z
    exact z
  have hh : X.A.handled = none := I.ok.hd hcalm
  refine DT.sortedI (es := es) (ep := ep) hh view ⟨o, ho, hx, hdat⟩ (by omega) fun h' tk as hk hlt hl hG => ?_
  have lak : as.length = ns.length := by omega
  have asnd : as.Nodup := List.Pairwise.imp (fun h => Nat.ne_of_lt h) hG.rise
  -- the pairs that were made
  have pr : ∀ (j : Nat) (b : Addr), as[j]? = some b → ∃ (n : Str) (tk : Tok) (y : Value), ns[j]? = some n ∧ RelV (val n) y ∧ h'.get? b = some { cls := .type "tuple", data := .seq #[Value.str n tk, y] } := by
    intro j b hj
    obtain ⟨en, he, hg⟩ := hG.pairs j b hj
    have lj : j < ns.length := by
      rw [← lak]
      exact (List.getElem?_eq_some_iff.mp hj).1
    have hn : ns[j]? = some ns[j] := List.getElem?_eq_getElem lj
    have hm : (ns.map fun n => ((.inr n : Key), val n))[j]? = some (.inr ns[j], val ns[j]) := by rw [List.getElem?_map, hn] <;> rfl
    obtain ⟨q, hq, e1, e2⟩ := pget1 rel hm
    obtain ⟨qk, qv⟩ := q
    obtain ⟨a1, a2⟩ := hpp.get? (e := en) (by rw [Array.getElem?_toList]; exact he) hq
    have e1 : (.inr ns[j] : Key) = qk := e1
    subst e1
    rcases keyIs_shape (show keyIs (.inr ns[j]) en.key = true from a1) with ⟨i, t, e, _⟩ | ⟨x, t, e, e3⟩
    · cases e
    · cases e
      rw [e3, a2] at hg
      exact ⟨_, t, qv, hn, e2, hg⟩
  have hob : (h'.push { cls := .type "list", data := .seq (as.map Value.ref).toArray }).get? h'.objs.size = some (seqObj "list" (as.map Value.ref).toArray 0) := Heap.get?_push_size _ rfl
  have kb : ∀ b o, s.heap.get? b = some o → (h'.push { cls := .type "list", data := .seq (as.map Value.ref).toArray }).get? b = some o := fun b o e => Heap.get?_push_of_some _ (hk b o e)
  have ne0 : ∀ b o, h'.get? b = some o → b ≠ h'.objs.size := fun b o e => Nat.ne_of_lt (Heap.lt_size e)
  generalize hh2 : h'.push { cls := .type "list", data := .seq (as.map Value.ref).toArray } = h2 at hob kb ⊢
  have ka : ∀ b o, h'.get? b = some o → h2.get? b = some o := fun b o e => by rw [← hh2]; exact Heap.get?_push_of_some _ e
  let kf : Addr → Str := fun b => ns.getD (as.idxOf b) ""
  have kfj : ∀ (j : Nat) (b : Addr), as[j]? = some b → as.idxOf b = j := fun j b hj => by
    have lj := (List.getElem?_eq_some_iff.mp hj).1
    have hb : as[j] = b := (List.getElem?_eq_some_iff.mp hj).2
    rw [← hb]
    exact asnd.idxOf_getElem j lj
  have kfn : ∀ (j : Nat) (b : Addr) (n : Str), as[j]? = some b → ns[j]? = some n → kf b = n := fun j b n hj hn => by
    show ns.getD (as.idxOf b) "" = n
    rw [kfj j b hj, List.getD_eq_getElem?_getD, hn] <;> rfl
  have mem : ∀ b ∈ as, ∃ j n, as[j]? = some b ∧ ns[j]? = some n ∧ kf b = n := fun b hb => by
    obtain ⟨j, hj⟩ := List.mem_iff_getElem?.mp hb
    obtain ⟨n, _, _, hn, _⟩ := pr j b hj
    exact ⟨j, n, hj, hn, kfn j b n hj hn⟩
  have tsS : ∀ b ∈ as, IsTS h2 b (kf b) := fun b hb => by
    obtain ⟨j, hj⟩ := List.mem_iff_getElem?.mp hb
    obtain ⟨n, tk, y, hn, _, hg⟩ := pr j b hj
    rw [kfn j b n hj hn]
    exact ⟨_, tk, y, 0, ka _ _ hg, rfl, rfl⟩
  have inj : ∀ b ∈ as, ∀ c ∈ as, kf b = kf c → b = c := fun b hb c hc e => by
    obtain ⟨j, n, h1, h2, h3⟩ := mem b hb
    obtain ⟨j', n', h1', h2', h3'⟩ := mem c hc
    have : n = n' := by rw [← h3, ← h3', e]
    subst this
    have ej : j = j' := (List.getElem?_inj (List.getElem?_eq_some_iff.mp h2).1 nd).mp (h2.trans h2'.symm)
    subst ej
    rw [h1] at h1'
    exact Option.some.inj h1'
  let kv : Value → Str := fun v => match v with
    | .ref t => kf t
    | _ => ""
  have lz : (as.map Value.ref).length ≤ sizeLine := by
    rw [List.length_map, lak]
    exact nz
  refine wpAny_call_entry slot_list_sort ⟨_, hob, rfl⟩ entry_list_sort ?_ (args_list_sort _)
  refine SrtO.list_sort_ord (swo_ltS kv) (vs := as.map Value.ref) (n := 0) hob lz (fun h2' => ?_) fun out h1 h3 => ?_
  · intro h3 keep
    have ts3 : ∀ t ∈ as, IsTS h3 t (kf t) := fun t hm => (tsS t hm).at fun o e => by
      obtain ⟨j, n, g1, g2, _⟩ := mem t hm
      obtain ⟨_, _, _, _, _, hg⟩ := pr j t g1
      exact keep t o (ne0 _ _ hg) e
    obtain ⟨fs, f1, f2, f3⟩ := firstsS ts3
    refine ⟨tuples' true, fun Q E hq => ?_, fun p q hm hm' => ?_⟩
    · refine PySem.W.kat_kind (T := .type "str") f1 (by rw [List.length_map] at h2'; omega) (fun f hm => ?_) (by rfl) ?_
      · obtain ⟨x, t, rfl⟩ := f3 f hm
        exact PySem.W.Looks.now
      · have e : (Value.type "str" != Value.type "tuple") = true := by first | decide +kernel | rfl | decide
        rw [e]
        exact hq
    · obtain ⟨t1, m1, e1⟩ := List.mem_map.mp hm
      obtain ⟨t2, m2, e2⟩ := List.mem_map.mp hm'
      refine (show wpAny _ _ (keyLt' (tuples' true) p.1 q.1) (fun r s' => s' = _ ∧ r = ltS (kv p.1) (kv q.1)) (fun _ _ => False) _ from ?_)
      rw [← e1, ← e2]
      exact cmp_ts (s := { s with heap := h3, toks := tk }) (ts3 t1 m1) (ts3 t2 m2) (inj t1 m1 t2 m2)
  · refine ⟨.none, rfl, ?_⟩
    obtain ⟨ts, tp, et⟩ : ∃ ts : List Addr, ts.Perm as ∧ out = ts.map Value.ref := by
      have all : ∀ y ∈ out, ∃ z, y = Value.ref z := fun y hy => by
        obtain ⟨z, _, e⟩ := List.mem_map.mp (h3.perm.mem_iff.mp hy)
        exact ⟨z, e.symm⟩
      have pm := h3.perm
      have go : ∀ l : List Value, (∀ y ∈ l, ∃ z, y = Value.ref z) → ∃ ts : List Addr, l = ts.map Value.ref := fun l => by
        induction l with
        | nil => exact fun _ => ⟨[], rfl⟩
        | cons y r ih =>
          intro h
          obtain ⟨z, rfl⟩ := h y List.mem_cons_self
          obtain ⟨l, rfl⟩ := ih fun y hy => h y (List.mem_cons_of_mem _ hy)
          exact ⟨z :: l, rfl⟩
      obtain ⟨ts, rfl⟩ := go out all
      refine ⟨ts, ?_, rfl⟩
      have := pm.map fun v : Value => match v with | .ref z => z | _ => 0
      simpa [List.map_map, Function.comp_def] using this
    subst et
    have hs : ts.Pairwise (fun x y => ltS (kf y) (kf x) = false) := List.pairwise_map.mp h1
    have tnd : ts.Nodup := tp.nodup_iff.mpr asnd
    have kF : ∀ b o, b ≠ h'.objs.size → h2.get? b = some o → (sortedHeap h2 h'.objs.size (as.map Value.ref) (ts.map Value.ref).toArray).get? b = some o := fun b o hb e => (PyProof.Rows.sortedHeap_old hb (Heap.lt_size e)).trans e
    have kS : ∀ b o, s.heap.get? b = some o → (sortedHeap h2 h'.objs.size (as.map Value.ref) (ts.map Value.ref).toArray).get? b = some o := fun b o e => kF b o (ne0 _ _ (hk b o e)) (kb b o e)
    obtain ⟨eF, heF⟩ := PyProof.Rows.sortedHeap_at (vs := as.map Value.ref) (out := (ts.map Value.ref).toArray) hob
    have I1 : Inv X pins σ H { s with heap := sortedHeap h2 h'.objs.size (as.map Value.ref) (ts.map Value.ref).toArray, toks := tk } := I.kept (t' := tk) kS
    have hn0 : H h'.objs.size = none := I.hok.fresh (Nat.le_of_lt hlt)
    have hlen : (ts.map V.ref).length ≤ sizeLine := by
      rw [List.length_map, tp.length_eq, lak]
      exact nz
    have rv : Vals (ts.map V.ref) (ts.map Value.ref) := vals_maps (fun z : Addr => V.ref z) (fun z => Value.ref z) ts fun _ _ => rfl
    have I2 : Inv X pins σ (upd H h'.objs.size (.lst (ts.map V.ref))) { s with heap := sortedHeap h2 h'.objs.size (as.map Value.ref) (ts.map Value.ref).toArray, toks := tk } :=
      I1.take (h' := sortedHeap h2 h'.objs.size (as.map Value.ref) (ts.map Value.ref).toArray) (t' := tk) (fun b ob _ e => e) (I.fpOk (Nat.le_of_lt hlt) hn0) ⟨hlen, ts.map Value.ref, eF, rv, heF⟩
    obtain ⟨H2, I3, g, qt⟩ := DX.takeT (P := fun b vs => vs = [.str (kf b), val (kf b)]) I as _ I2 asnd fun b hb => by
      obtain ⟨j, hj⟩ := List.mem_iff_getElem?.mp hb
      obtain ⟨n, tk', y, hn, ry, hg⟩ := pr j b hj
      have hbl : s.heap.objs.size ≤ b := Nat.le_of_lt (hG.above b hb)
      rw [kfn j b n hj hn]
      refine ⟨hbl, ?_, _, rfl, fun H3 => ⟨(by rw [sizeLine_eq]; show 2 ≤ 16777216; omega), [Value.str n tk', y], .cons ⟨tk', rfl⟩ (.cons ry .nil), ⟨_, kF _ _ (ne0 _ _ hg) (ka _ _ hg), rfl, 0, rfl⟩⟩⟩
      rw [upd_ne (ne0 _ _ hg)]
      exact I.hok.fresh hbl
    have gr : ∀ b o, H b = some o → H2 b = some o := fun b o e => g b o (by rw [upd_ne (ne_of_none e hn0)]; exact e)
    have yp : (ts.map kf).Perm ns := by
      have : as.map kf = ns := by
        refine List.ext_getElem? fun j => ?_
        rw [List.getElem?_map]
        cases hj : as[j]? with
        | none =>
          have : ns[j]? = none := by
            rw [List.getElem?_eq_none_iff] at hj ⊢
            omega
          rw [this] <;> rfl
        | some b =>
          obtain ⟨n, _, _, hn, _⟩ := pr j b hj
          rw [hn]
          show some (kf b) = some n
          rw [kfn j b n hj hn]
      rw [← this]
      exact tp.map kf
    refine ⟨.ref h'.objs.size, H2, I3, rfl, k (ts.map kf) ts _ H2 yp ?_ gr hn0 (g _ _ upd_same) ?_⟩
    · exact List.pairwise_map.mpr hs
    · have go : ∀ l : List Addr, (∀ b ∈ l, b ∈ as) → Paired (fun p n => H2 p = some (.tup [.str n, val n])) l (l.map kf) := fun l => by
        induction l with
        | nil => exact fun _ => .nil
        | cons b r ih =>
          intro h
          refine .cons ?_ (ih fun c hc => h c (List.mem_cons_of_mem _ hc))
          obtain ⟨vs, e, hH⟩ := qt b (h b List.mem_cons_self)
          rw [hH, e]
      exact go ts fun b hb => tp.mem_iff.mp hb
end
/-! ### sorted(d, key=len) -/
def tSortLen (t : TE) : TE := fun σ H Q => tCons t tNil σ H fun xs H1 => ∃ (a : Addr) (kvs : List (Key × V)) (ns : List Str), xs = [.ref a] ∧ Rd H1 a (.dK kvs) ∧ kvs.map (·.1) = ns.map Sum.inr ∧ (∀ n ∈ ns, n.length ≤ 1000) ∧
  ∀ (p : Addr), H1 p = none → Q (.ref p) (upd H1 p (.lst ((ns.mergeSort fun a b : Str => decide ((a.length : Int) ≤ b.length)).map V.str)))
theorem strs_is {vs : List Value} {ns : List Str} (h : PySem.W.EachIs (fun v x => ∃ t, v = Value.str x t) vs ns) : Vals (ns.map V.str) vs := by
  induction h with
  | nil => exact .nil
  | cons a b ih => exact .cons a ih
theorem pe_sortedLen {X : Cx} {e : Expr} {t : TE} {p p2 p3 pos : Pos} (hcalm : X.calm = true) (hu : X.A.units + 64 < cLine) (gs : Gl X "sorted") (ms : X.mg "sorted" = none) (gl : Gl X "len") (ml : X.mg "len" = none) (ha : PA X [e] (tCons t tNil))
    (hhe : backTo pos (starEach [e] X.env) = (false, eval e X.env) :: backTo pos (starEach [] X.env) := by rfl) (hpl : (backTo pos (starEach [e] X.env)).any (·.1) = false := by rfl)
    (hall : (backToKw pos (keywordEach [⟨some "key", .Name "len" p2, p3⟩] X.env)).all (·.1.isSome) = true := by rfl) (hnone : (backToKw pos (keywordEach [⟨some "key", .Name "len" p2, p3⟩] X.env)).any (·.1.isNone) = false := by rfl)
    (hks : (backToKw pos (keywordEach [⟨some "key", .Name "len" p2, p3⟩] X.env)).filterMap (·.1) = [("key" : Str)] := by rfl) :
    PE X (.Call (.Name "sorted" p) [e] [⟨some "key", .Name "len" p2, p3⟩] pos) (tSortLen t) := by
  refine ⟨fun pins s σ H Q I h => ?_⟩
  refine wpAny_Call_Name_kw (ld_blt (u := .builtin "sorted") I gs ms (by rfl) ?_ (by decide +kernel))
  refine PyProof.Rows.callWith_kw (thn (ha.run pos pins s σ H _ I h) fun us s1 ⟨vs, H1, I1, r1, q1⟩ => ?_) hhe hpl hall hnone
  show wpAny _ _ (evalAll [(do let v ← eval (.Name "len" p2) X.env; standAt pos; pure v)]) _ _ s1
  refine wpAny_evalAll_cons (wpAny_bind (ld_blt (u := .builtin "len") I1 gl ml (by rfl) (wpAny_bind (wpAny_standAt (wpAny_pure (wpAny_evalAll_nil ?_)))) (by decide +kernel)))
  rw [hks]
  obtain ⟨a, kvs, ns, rfl, hR, hk, hlen, q⟩ := q1
  obtain ⟨u, rfl, hu1⟩ := vals1 r1
  cases hu1
  obtain ⟨hn, hd, vs, hKV, hD⟩ := dk_rd I1.hok hR
  obtain ⟨ep, hA⟩ := hD.dictAt
  have lv : vs.length = kvs.length := by
    have := congrArg List.length hKV.keys
    rw [List.length_map, List.length_map] at this
    exact this.symm
  refine call_function_entry_kw kind_sorted plain_sorted entry_sorted (ksk_s1 _ _) ?_
  unfold Builtin.sorted
  refine wpAny_bind (m := checkCount "sorted" 1 1 _) (wpAny_pure ?_)
  refine wpAny_bind (PySem.W.kdu_collect (PySem.W.kdl_dict hd) (I1.ok.hd hcalm) hA (by rw [lv]; exact hn) fun h' tk acc hh hit => ?_)
  have la : acc.size = vs.length := hit.1
  have lk : ns.length = vs.length := by
    have := congrArg List.length hk
    rw [List.length_map, List.length_map] at this
    omega
  have la2 : acc.toList.length = ns.length := by rw [Array.length_toList, la, lk]
  have each : PySem.W.EachIs (fun v x => ∃ t, v = Value.str x t) acc.toList ns := by
    have go : ∀ (l : List Value) (m : List Str), l.length = m.length → (∀ j v x, l[j]? = some v → m[j]? = some x → ∃ t, v = Value.str x t) → PySem.W.EachIs (fun v x => ∃ t, v = Value.str x t) l m := fun l => by
      induction l with
      | nil =>
        intro m hl _
        cases m with
        | nil => exact .nil
        | cons _ _ => simp at hl
      | cons v r ih =>
        intro m hl hx
        cases m with
        | nil => simp at hl
        | cons x m => exact .cons (hx 0 v x rfl rfl) (ih m (by simpa using hl) fun j v x h1 h2 => hx (j + 1) v x (by simpa using h1) (by simpa using h2))
    refine go _ _ la2 fun j v x h1 h2 => ?_
    rw [Array.getElem?_toList] at h1
    obtain ⟨key, y, g1, g2⟩ := hit.2 j v h1
    have e1 : (vs.map (·.1))[j]? = some key := by rw [List.getElem?_map, g1] <;> rfl
    rw [← hKV.keys, hk, List.getElem?_map, h2] at e1
    cases e1
    rcases keyIs_shape (show keyIs (Sum.inr x) v = true from g2) with ⟨i', t, e, _⟩ | ⟨_, t, e, e3⟩
    · cases e
    · cases e
      exact ⟨t, e3⟩
  have lz : acc.toList.length ≤ sizeLine := by
    rw [Array.length_toList, la, lv]
    exact hn
  refine wpAny_bind (wpAny_newList ?_ lz)
  have hp := Heap.get?_push_size h' (o := { cls := .type "list", data := .seq acc.toList.toArray }) rfl
  refine wpAny_bind (wpAny_holding ?_)
  refine PySem.W.list_sort_key_data (b := false) (β := Str) (fun x => .int x.length) hp each (PySem.W.AllAlike.of fun _ _ => rfl) (PySem.W.Sortable.others fun x => ⟨(fun z => nomatch z), fun xs z => nomatch z⟩) (by rw [← la2]; exact lz) (fun x _ => ?_) (ksk_l1 _ _) (ksk_t4 _ _) (fun v x hx mx h3 tk3 kp => ?_) fun out c h3 tk3 kp ho hl2 eo => ?_
  · have hd : (PyData.int (x.length : Nat)).depth = 0 := rfl
    rw [hd]
    show X.A.units + 1 + 1 + 0 < cLine
    omega
  · obtain ⟨t, rfl⟩ := hx
    have lx := hlen x mx
    refine PySem.P.len_str (by omega) ?_
    exact ⟨h3, _, rfl, fun _ _ e => e, .int _ _⟩
  · have e0 := PySem.W.dataLe_int (β := Str) fun x : Str => (x.length : Int)
    rw [e0] at eo
    refine wpAny_pure ⟨_, rfl, ?_⟩
    have vo := strs_is eo
    have I2 := I1.kept (t' := tk) hh
    refine ⟨.ref h'.objs.size, _, I2.laid (h' := h3) (t' := tk3) (a := h'.objs.size) (o := .lst ((ns.mergeSort fun a b : Str => decide ((a.length : Int) ≤ b.length)).map V.str)) (fun b u hb => kp b u (Nat.ne_of_lt (Heap.lt_size hb)) (Heap.get?_push_of_some _ hb)) (Nat.le_refl _) ⟨?_, out, c, vo, ho⟩, rfl, q _ (I2.hok.fresh (Nat.le_refl _))⟩
    rw [List.length_map, (List.mergeSort_perm _ _).length_eq, lk, lv]
    exact hn
end Vf

set_option Elab.async false
set_option linter.all false
set_option maxRecDepth 100000
set_option maxHeartbeats 4000000
/-! list(zip(l, t)) of a list and a tuple -/
namespace Vf
open PySem PySem.Spec PyProof.Rows L2
theorem isLst_at {h h' : Heap} {a : Addr} {xs : Array Value} (x : h.IsList a xs) (k : ∀ o, h.get? a = some o → h'.get? a = some o) : h'.IsList a xs := x.at k
theorem isLstE {h h' : Heap} {it a : Addr} {xs : Array Value} (x : h.IsList a xs) (k : Heap.SameBut it h h') (n : a ≠ it) : h'.IsList a xs := isLst_at x fun o e => k.extBut _ _ n e
theorem isLstIE {h h' : Heap} {it c a : Addr} {i : Nat} (x : h.IsListIter c a i) (k : Heap.SameBut it h h') (n : c ≠ it) : h'.IsListIter c a i := x.at fun o e => k.extBut _ _ n e
section
variable {prog : Program} {w : World} {A : Around} {E : Value → Shared → Prop} {s : Shared}
/-- ahead of draw i, the tuple at T went out first -/
structure ZHl (h : Heap) (z TI TO i1 i2 a b : Addr) (xs ys : Array Value) (i : Nat) (T : Addr) : Prop where
  zp : ∃ f, IsZipHeld h z TI TO T f
  al : ∃ o, h.get? T = some o
  ti : IsPair h TI (.ref i1) (.ref i2)
  j1 : h.IsListIter i1 a i
  j2 : h.IsTupleIter i2 b i
  t1 : h.IsList a xs
  t2 : h.IsTuple b ys
theorem zipM_item {z TI TO T i1 i2 a b : Addr} {i : Nat} {xs ys : Array Value} {x y : Value} {Q : Value → Shared → Prop} (D : ZipApart z TI TO i1 i2 a b) (Z : ZHl s.heap z TI TO i1 i2 a b xs ys i T) (hx : xs[i]? = some x) (hy : ys[i]? = some y)
    (na : a ≠ z ∧ a ≠ i1 ∧ a ≠ i2) (nb : b ≠ z ∧ b ≠ i1 ∧ b ≠ i2) (nT : T ≠ z ∧ T ≠ i1 ∧ T ≠ i2)
    (q : ∀ h', ZHl h' z TI TO i1 i2 a b xs ys (i + 1) T → IsPair h' s.heap.objs.size x y → h'.objs.size = s.heap.objs.size + 1 → (∀ c o, c ≠ z → c ≠ i1 → c ≠ i2 → s.heap.get? c = some o → h'.get? c = some o) → Q (.ref s.heap.objs.size) { s with heap := h' }) :
    wpAny (model prog w) A (Builtin.«zip.__next__» ⟨[.ref z], []⟩) (fun fin s' => ∃ v, fin = .done (.ret v) ∧ Q v s') E s := by
  obtain ⟨⟨f, hz⟩, ⟨oT, hT⟩, hTI, h1, h2, ht1, ht2⟩ := Z
  refine (show wpAny _ _ (field (.ref z) 2 >>= _) _ _ _ from wpAny_bind (wpAny_field hz rfl (x := .bool false) rfl ?_))
  refine (show wpAny _ _ (field (.ref z) 3 >>= _) _ _ _ from wpAny_bind (wpAny_field hz rfl (x := .ref TI) rfl ?_))
  refine wpAny_bind (wpAny_seqItems hTI rfl ?_)
  refine (show wpAny _ _ (Builtin.SmallTypes.ownedTupleIsFree (.ref z) >>= _) _ _ _ from wpAny_bind (wpAny_tupleHeld_zip hz hT fun h3 hz3 s3 => ?_))
  simp only [Bool.false_eq_true, if_false]
  rw [← Array.forIn_toList]
  simp only [List.forIn_cons, List.forIn_nil]
  refine wpAny_bind (wpAny_bind (wpAny_bind (wpAny_holding ?_)))
  refine (show wpAny _ _ (Builtin.SmallTypes.nextOf (.ref i1) >>= _) _ _ _ from wpAny_bind (wpAny_nextOf_list_item (s := { s with heap := h3 }) (isLstIE h1 s3 D.i1z) (isLstE ht1 s3 na.1) hx fun h4 g4 s4 => wpAny_pure (wpAny_pure ?_)))
  refine wpAny_bind (wpAny_bind (wpAny_holding ?_))
  have g2 : h4.IsTupleIter i2 b i := isTupIE (isTupIE h2 s3 D.i2z) s4 (Ne.symm D.i12)
  refine (show wpAny _ _ (Builtin.SmallTypes.nextOf (.ref i2) >>= _) _ _ _ from wpAny_bind (next_tup_item (s := { s with heap := h4 }) g2 (isTupE (isTupE ht2 s3 nb.1) s4 nb.2.1) hy fun h5 g5 s5 => wpAny_pure (wpAny_pure (wpAny_pure ?_))))
  refine (show wpAny _ _ (newTuple [x, y] >>= _) _ _ _ from wpAny_bind (wpAny_newTuple ?_))
  have sz : h5.objs.size = s.heap.objs.size := by rw [s5.1, s4.1, s3.1]
  have hz5 : IsZipHeld h5 z TI TO T true := s5.extBut _ _ (Ne.symm D.i2z) (s4.extBut _ _ (Ne.symm D.i1z) hz3)
  have kp : ∀ c o, c ≠ z → c ≠ i1 → c ≠ i2 → s.heap.get? c = some o → h5.get? c = some o := fun c o c1 c2 c3 e => s5.extBut _ _ c3 (s4.extBut _ _ c2 (s3.extBut _ _ c1 e))
  have j1 : h5.IsListIter i1 a (i + 1) := isLstIE g4 s5 D.i12
  have pu : ∀ c o, h5.get? c = some o → (h5.push { cls := .type "tuple", data := .seq #[x, y] }).get? c = some o := fun c o e => Heap.get?_push_of_some _ e
  have new : IsPair (h5.push { cls := .type "tuple", data := .seq #[x, y] }) h5.objs.size x y := Heap.get?_push_size _ rfl
  have sz2 : (h5.push { cls := .type "tuple", data := .seq #[x, y] }).objs.size = h5.objs.size + 1 := Heap.size_push ..
  refine wpAny_pure ⟨_, rfl, (show Q (.ref h5.objs.size) _ from ?_)⟩
  rw [sz] at new sz2 ⊢
  refine q _ ⟨⟨true, pu _ _ hz5⟩, ⟨oT, pu _ _ (kp _ _ nT.1 nT.2.1 nT.2.2 hT)⟩, pu _ _ (kp _ _ D.TIz D.TIi1 D.TIi2 hTI), j1.at fun o e => pu _ _ e, g5.at fun o e => pu _ _ e,
    isLst_at ht1 fun o e => pu _ _ (kp _ _ na.1 na.2.1 na.2.2 e), isTup_at ht2 fun o e => pu _ _ (kp _ _ nb.1 nb.2.1 nb.2.2 e)⟩ new sz2 fun c o c1 c2 c3 e => pu _ _ (kp c o c1 c2 c3 e)
theorem zipM_end {z TI TO T i1 i2 a b : Addr} {i : Nat} {xs ys : Array Value} {Q : Fin → Shared → Prop} (hh : A.handled = none) (D : ZipApart z TI TO i1 i2 a b) (Z : ZHl s.heap z TI TO i1 i2 a b xs ys i T) (hx : xs[i]? = none) (na : a ≠ z)
    (q : ∀ h' e, (∀ c o, c ≠ z → c ≠ i1 → c ≠ i2 → s.heap.get? c = some o → h'.get? c = some o) → (∃ o, h'.get? e = some o ∧ o.cls = .type "StopIteration") → E (.ref e) { s with heap := h' }) :
    wpAny (model prog w) A (Builtin.«zip.__next__» ⟨[.ref z], []⟩) Q E s := by
  obtain ⟨⟨f, hz⟩, ⟨oT, hT⟩, hTI, h1, h2, ht1, ht2⟩ := Z
  refine (show wpAny _ _ (field (.ref z) 2 >>= _) _ _ _ from wpAny_bind (wpAny_field hz rfl (x := .bool false) rfl ?_))
  refine (show wpAny _ _ (field (.ref z) 3 >>= _) _ _ _ from wpAny_bind (wpAny_field hz rfl (x := .ref TI) rfl ?_))
  refine wpAny_bind (wpAny_seqItems hTI rfl ?_)
  refine (show wpAny _ _ (Builtin.SmallTypes.ownedTupleIsFree (.ref z) >>= _) _ _ _ from wpAny_bind (wpAny_tupleHeld_zip hz hT fun h3 hz3 s3 => ?_))
  simp only [Bool.false_eq_true, if_false]
  rw [← Array.forIn_toList]
  simp only [List.forIn_cons, List.forIn_nil]
  refine wpAny_bind (wpAny_bind (wpAny_bind (wpAny_holding ?_)))
  exact (show wpAny _ _ (Builtin.SmallTypes.nextOf (.ref i1) >>= _) _ _ _ from wpAny_bind (wpAny_nextOf_list_end (s := { s with heap := h3 }) hh (isLstIE h1 s3 D.i1z) (isLstE ht1 s3 na) hx fun h4 e s4 he => q h4 e (fun c o c1 c2 _ x => s4 _ _ c2 (s3.extBut _ _ c1 x)) he))
theorem zipM_next {z TI TO T i1 i2 a b : Addr} {i : Nat} {xs ys : Array Value} {x y : Value} {Q : Option Value → Shared → Prop} (D : ZipApart z TI TO i1 i2 a b) (Z : ZHl s.heap z TI TO i1 i2 a b xs ys i T) (hx : xs[i]? = some x) (hy : ys[i]? = some y)
    (na : a ≠ z ∧ a ≠ i1 ∧ a ≠ i2) (nb : b ≠ z ∧ b ≠ i1 ∧ b ≠ i2) (nT : T ≠ z ∧ T ≠ i1 ∧ T ≠ i2)
    (q : ∀ h', ZHl h' z TI TO i1 i2 a b xs ys (i + 1) T → IsPair h' s.heap.objs.size x y → h'.objs.size = s.heap.objs.size + 1 → (∀ c o, c ≠ z → c ≠ i1 → c ≠ i2 → s.heap.get? c = some o → h'.get? c = some o) → Q (some (.ref s.heap.objs.size)) { s with heap := h' }) :
    wpAny (model prog w) A (pyNext (.ref z)) Q E s := by
  have ty : s.TypeIs (.ref z) "zip" := by
    obtain ⟨f, hz⟩ := Z.zp
    exact ⟨_, hz, rfl⟩
  unfold pyNext
  refine wpAny_bind (wpAny_attempt (wpAny_callSpecial?_slot (name := Str.ofString "__next__") ty F.slot_zip_next ?_))
  exact wpAny_call_entry F.slot_zip_next ty F.entry_zip_next (zipM_item D Z hx hy na nb nT fun h' q1 q2 q3 q4 => wpAny_pure (q h' q1 q2 q3 q4)) (F.args_zip_next_1 _)
theorem zipM_over {z TI TO T i1 i2 a b : Addr} {i : Nat} {xs ys : Array Value} {Q : Option Value → Shared → Prop} (hh : A.handled = none) (D : ZipApart z TI TO i1 i2 a b) (Z : ZHl s.heap z TI TO i1 i2 a b xs ys i T) (hx : xs[i]? = none) (na : a ≠ z)
    (q : ∀ h', (∀ c o, c ≠ z → c ≠ i1 → c ≠ i2 → s.heap.get? c = some o → h'.get? c = some o) → Q none { s with heap := h' }) : wpAny (model prog w) A (pyNext (.ref z)) Q E s := by
  have ty : s.TypeIs (.ref z) "zip" := by
    obtain ⟨f, hz⟩ := Z.zp
    exact ⟨_, hz, rfl⟩
  unfold pyNext
  refine wpAny_bind (wpAny_attempt (wpAny_callSpecial?_slot (name := Str.ofString "__next__") ty F.slot_zip_next ?_))
  refine wpAny_call_entry F.slot_zip_next ty F.entry_zip_next (zipM_end hh D Z hx na fun h' e k he => ?_) (F.args_zip_next_1 _)
  obtain ⟨o, ho, hc⟩ := he
  exact wpAny_bind (wpAny_isInstance (T := "StopIteration") (b := true) ⟨o, ho, hc⟩ isSubtype_stop (wpAny_pure (q _ k)))
end
theorem ZHl.frame {h h' : Heap} {z TI TO i1 i2 a b S T m : Addr} {xs ys : Array Value} {i : Nat} (P : ZAp z TI TO i1 i2 a b S m) (Z : ZHl h z TI TO i1 i2 a b xs ys i T) (nT : T ≠ S) (k : ∀ c o, c ≠ S → h.get? c = some o → h'.get? c = some o) :
    ZHl h' z TI TO i1 i2 a b xs ys i T := by
  obtain ⟨⟨f, hz⟩, ⟨oT, hT⟩, hTI, h1, h2, ht1, ht2⟩ := Z
  obtain ⟨n1, n2, n3, n4, n5, n6⟩ := P.nS
  exact ⟨⟨f, k _ _ n1 hz⟩, ⟨oT, k _ _ nT hT⟩, k _ _ n2 hTI, h1.at fun o e => k _ _ n3 e, h2.at fun o e => k _ _ n4 e, isLst_at ht1 fun o e => k _ _ n5 e, isTup_at ht2 fun o e => k _ _ n6 e⟩
section
variable {prog : Program} {w : World} {A : Around} {s : Shared} {R : Result → Shared → Prop} {z TI TO i1 i2 a b S m : Addr} {xs ys : Array Value}
theorem loopM (hh : A.handled = none) (P : ZAp z TI TO i1 i2 a b S m) (le : xs.size = ys.size) (hn : xs.size ≤ sizeLine) (res : Value) {h0 : Heap}
    (q : ∀ h' acc c, (∀ c o, c < m → c ≠ S → c ≠ z → c ≠ i1 → c ≠ i2 → h0.get? c = some o → h'.get? c = some o) → h'.get? S = some { cls := .type "list", dict := none, data := .seq acc c, slots := #[] } →
      acc.toList = (List.range xs.size).map (fun j => Value.ref (m + j)) → PrsAt h' m xs ys xs.size → R (.ok (.ret res)) { s with heap := h' }) :
    ∀ (k i : Nat) (h : Heap) (c : Nat) (acc : Array Value), xs.size - i = k → 0 < i → i ≤ xs.size → ZHl h z TI TO i1 i2 a b xs ys i m → h.objs.size = m + i →
      (∀ c o, c < m → c ≠ S → c ≠ z → c ≠ i1 → c ≠ i2 → h0.get? c = some o → h.get? c = some o) → h.get? S = some { cls := .type "list", dict := none, data := .seq acc c, slots := #[] } →
      acc.toList = (List.range i).map (fun j => Value.ref (m + j)) → PrsAt h m xs ys i →
      codeAny (model prog w) A (.builtin "list.extend.loop" ⟨[.ref S, .ref z, res], []⟩) R { s with heap := h } := by
  obtain ⟨lz, l1, l2, lS⟩ := P.lt
  have nm : m ≠ z ∧ m ≠ i1 ∧ m ≠ i2 := ⟨Ne.symm (Nat.ne_of_lt lz), Ne.symm (Nat.ne_of_lt l1), Ne.symm (Nat.ne_of_lt l2)⟩
  have ns : z ≠ S := P.nS.1
  have far : ∀ {c : Addr} (l : c < m) (j : Nat), m + j ≠ c := fun {c} l j e => Nat.not_lt.mpr (Nat.le_add_right m j) (by rw [e]; exact l)
  intro k
  induction k with
  | zero =>
    intro i h c acc hk h0' hi Z sz kp hS ha pr
    have ei : i = xs.size := by omega
    subst ei
    refine codeAny_builtin PySem.F.entry_extend_loop ?_
    rw [Around.under_plainId PySem.F.plain_extend_loop _]
    refine (show wpAny _ A.in1 (pyNext (.ref z) >>= _) _ _ _ from wpAny_bind (zipM_over (s := { s with heap := h }) hh P.D Z (by simp) P.na.1 fun h' kz => ?_))
    refine wpAny_pure (q h' acc c (fun c o c0 c1 c2 c3 c4 e => kz c o c2 c3 c4 (kp c o c0 c1 c2 c3 c4 e)) (kz S _ (Ne.symm P.nS.1) (Ne.symm P.nS.2.2.1) (Ne.symm P.nS.2.2.2.1) hS) ha fun j hj => ?_)
    obtain ⟨x, y, e1, e2, e3⟩ := pr j hj
    exact ⟨x, y, e1, e2, kz _ _ (far lz j) (far l1 j) (far l2 j) e3⟩
  | succ k ih =>
    intro i h c acc hk h0' hi Z sz kp hS ha pr
    have lt : i < xs.size := by omega
    have las : acc.size = i := by rw [← Array.length_toList, ha, List.length_map, List.length_range]
    have ex : xs[i]? = some xs[i] := Array.getElem?_eq_getElem lt
    have ey : ys[i]? = some (ys[i]'(by omega)) := Array.getElem?_eq_getElem (by omega)
    refine codeAny_builtin PySem.F.entry_extend_loop ?_
    rw [Around.under_plainId PySem.F.plain_extend_loop _]
    refine (show wpAny _ A.in1 (pyNext (.ref z) >>= _) _ _ _ from wpAny_bind (zipM_next (s := { s with heap := h }) P.D Z ex ey P.na P.nb nm fun h' Z' pr' sz' kz => ?_))
    dsimp only at pr' sz' kz
    have hS' := kz S _ (Ne.symm P.nS.1) (Ne.symm P.nS.2.2.1) (Ne.symm P.nS.2.2.2.1) hS
    rw [sz] at pr' sz'
    have up : ∀ b o, b ≠ S → h'.get? b = some o → (h'.update S (Obj.mapSeq (·.push (Value.ref h.objs.size)))).get? b = some o := fun b o hb e => (Heap.get?_update_other _ _ (Ne.symm hb)).trans e
    refine (show wpAny _ A.in1 (updateSeq S (·.push (Value.ref h.objs.size)) >>= _) _ _ _ from wpAny_bind ?_)
    refine wpAny_updateSeq hS' rfl (wpAny_pure ⟨plainId_quiet PySem.F.plain_extend_loop _, ih (i + 1) _ _ (acc.push (Value.ref h.objs.size)) (by omega) (Nat.succ_pos _) lt (Z'.frame P (far lS 0) up) ?_ (fun c o c0 c1 c2 c3 c4 e => up c o c1 (kz c o c2 c3 c4 (kp c o c0 c1 c2 c3 c4 e))) (Heap.get?_update_self _ hS' rfl) ?_ fun j hj => ?_⟩) (by rw [las]; omega) (by show (acc.push _).size ≤ sizeLine + 1; rw [Array.size_push, las]; omega)
    · rw [Heap.size_update, sz']
      omega
    · rw [Array.toList_push, ha, List.range_succ, List.map_append, sz]
      rfl
    · rcases Nat.lt_succ_iff_lt_or_eq.mp hj with hj | ej
      · obtain ⟨x, y, e1, e2, e3⟩ := pr j hj
        exact ⟨x, y, e1, e2, up _ _ (far lS j) (kz _ _ (far lz j) (far l1 j) (far l2 j) e3)⟩
      · rw [ej]
        exact ⟨_, _, ex, ey, up _ _ (far lS i) pr'⟩
/-- the first that a zip of a list and a tuple gives -/
theorem zipM_first {prog : Program} {w : World} {A : Around} {E : Value → Shared → Prop} {s : Shared} {z TI TO i1 i2 a b : Addr} {xs ys : Array Value} {x y u v : Value} {Q : Option Value → Shared → Prop} (hh : A.handled = none) (D : ZipApart z TI TO i1 i2 a b) (na : a ≠ z ∧ a ≠ i1 ∧ a ≠ i2) (nb : b ≠ z ∧ b ≠ i1 ∧ b ≠ i2) (aTO : a ≠ TO ∧ b ≠ TO)
    (hz : IsZip s.heap z TI TO .none) (hTI : IsPair s.heap TI (.ref i1) (.ref i2)) (hTO : IsPair s.heap TO u v) (j1 : s.heap.IsListIter i1 a 0) (j2 : s.heap.IsTupleIter i2 b 0) (t1 : s.heap.IsList a xs) (t2 : s.heap.IsTuple b ys) (ex : xs[0]? = some x) (ey : ys[0]? = some y)
    (q : ∀ h' tk, IsZip h' z TI TO (rawInt s.heap.objs.size) → h'.IsListIter i1 a 1 → h'.IsTupleIter i2 b 1 → IsPair h' s.heap.objs.size x y → h'.objs.size = s.heap.objs.size + 1 →
      (∀ c o, c ≠ z → c ≠ TO → c ≠ i1 → c ≠ i2 → s.heap.get? c = some o → h'.get? c = some o) → Q (some (.ref s.heap.objs.size)) { s with heap := h', toks := tk }) : wpAny (model prog w) A (pyNext (.ref z)) Q E s := by
  have S : ZipSep2 z TI TO i1 i2 [i1, a] [i2, b] := ⟨D.TIz, D.TOz, D.TITO, D.TIi1, by simp, by simp [Ne.symm D.i1z, Ne.symm na.1], by simp [D.TOi1, Ne.symm aTO.1], D.TIi2, by simp, by simp [Ne.symm D.i2z, Ne.symm nb.1], by simp [D.TOi2, Ne.symm aTO.2], by simp [D.i12, Ne.symm nb.2.1], by simp [Ne.symm D.i12, Ne.symm na.2.2]⟩
  have hh1 : A.in1.handled = none := hh
  refine wpAny_pyNext_zipD2_item (i := 0) S (Draws.list hh1 i1 a na.2.1 xs) (Draws.tuple hh1 i2 b nb.2.2 ys) hz hTI hTO ⟨j1, t1⟩ ⟨j2, t2⟩ (Array.getElem?_eq_some_iff.mp ex).1 (Array.getElem?_eq_some_iff.mp ey).1 fun x1 x2 h' tk y1 y2 b1 b2 d1 d2 b5 b6 hk => ?_
  have e1 : x1 = x := Option.some.inj (y1.symm.trans ex)
  have e2 : x2 = y := Option.some.inj (y2.symm.trans ey)
  rw [e1, e2] at b5
  exact q h' tk b1 d1.1 d2.1 b5 b6 hk
theorem loopM0 (hh : A.handled = none) (P : ZAp z TI TO i1 i2 a b S m) (nTO : TO ≠ S) (le : xs.size = ys.size) (pos : 0 < xs.size) (hn : xs.size ≤ sizeLine) (res : Value) {h0 h : Heap} {c1 : Nat} {u v : Value}
    (hz : IsZip h z TI TO .none) (hTI : IsPair h TI (.ref i1) (.ref i2)) (hTO : IsPair h TO u v) (j1 : h.IsListIter i1 a 0) (j2 : h.IsTupleIter i2 b 0) (t1 : h.IsList a xs) (t2 : h.IsTuple b ys) (sz : h.objs.size = m) (aTO : a ≠ TO ∧ b ≠ TO)
    (kp : ∀ c o, c < m → c ≠ S → c ≠ z → c ≠ i1 → c ≠ i2 → c ≠ TO → h0.get? c = some o → h.get? c = some o) (hS : h.get? S = some { cls := .type "list", data := .seq #[] c1 })
    (q : ∀ h' tk acc c, (∀ c o, c < m → c ≠ S → c ≠ z → c ≠ i1 → c ≠ i2 → c ≠ TO → h0.get? c = some o → h'.get? c = some o) → h'.get? S = some { cls := .type "list", dict := none, data := .seq acc c, slots := #[] } →
      acc.toList = (List.range xs.size).map (fun j => Value.ref (m + j)) → PrsAt h' m xs ys xs.size → R (.ok (.ret res)) { s with heap := h', toks := tk }) :
    codeAny (model prog w) A (.builtin "list.extend.loop" ⟨[.ref S, .ref z, res], []⟩) R { s with heap := h } := by
  obtain ⟨lz, l1, l2, lS⟩ := P.lt
  have far : ∀ {c : Addr} (l : c < m) (j : Nat), m + j ≠ c := fun {c} l j e => Nat.not_lt.mpr (Nat.le_add_right m j) (by rw [e]; exact l)
  have ex : xs[0]? = some xs[0] := Array.getElem?_eq_getElem pos
  have ey : ys[0]? = some (ys[0]'(by omega)) := Array.getElem?_eq_getElem (by omega)
  refine codeAny_builtin PySem.F.entry_extend_loop ?_
  rw [Around.under_plainId PySem.F.plain_extend_loop _]
  refine (show wpAny _ A.in1 (pyNext (.ref z) >>= _) _ _ _ from wpAny_bind (zipM_first (s := { s with heap := h }) hh P.D P.na P.nb aTO hz hTI hTO j1 j2 t1 t2 ex ey fun h' tk hz' j1' j2' pr' sz' kz => ?_))
  dsimp only at hz' pr' sz' kz
  have hS' := kz S _ (Ne.symm P.nS.1) (Ne.symm nTO) (Ne.symm P.nS.2.2.1) (Ne.symm P.nS.2.2.2.1) hS
  rw [sz] at hz' pr' sz'
  have up : ∀ b o, b ≠ S → h'.get? b = some o → (h'.update S (Obj.mapSeq (·.push (Value.ref h.objs.size)))).get? b = some o := fun b o hb e => (Heap.get?_update_other _ _ (Ne.symm hb)).trans e
  refine (show wpAny _ A.in1 (updateSeq S (·.push (Value.ref h.objs.size)) >>= _) _ _ _ from wpAny_bind ?_)
  have Z : ZHl h' z TI TO i1 i2 a b xs ys 1 m := ⟨⟨false, hz'⟩, ⟨_, pr'⟩, kz _ _ P.D.TIz P.D.TITO P.D.TIi1 P.D.TIi2 hTI, j1', j2', isLst_at t1 fun o e => kz _ _ P.na.1 aTO.1 P.na.2.1 P.na.2.2 e, isTup_at t2 fun o e => kz _ _ P.nb.1 aTO.2 P.nb.2.1 P.nb.2.2 e⟩
  refine wpAny_updateSeq hS' rfl (wpAny_pure ⟨plainId_quiet PySem.F.plain_extend_loop _, loopM (s := { s with toks := tk }) (xs := xs) (ys := ys) (h0 := h') hh P le hn res (fun h2 acc c k2 => q h2 tk acc c fun c o c0 c1 c2 c3 c4 c5 e => k2 c o c0 c1 c2 c3 c4 (kz c o c2 c5 c3 c4 (kp c o c0 c1 c2 c3 c4 c5 e))) (xs.size - 1) 1 _ _ (#[].push (Value.ref h.objs.size)) rfl Nat.one_pos pos (Z.frame P (far lS 0) up) ?_ (fun c o c0 c1 _ _ _ e => up c o c1 e) (Heap.get?_update_self _ hS' rfl) ?_ fun j hj => ?_⟩) (by show 0 ≤ sizeLine; omega) (by show 1 ≤ sizeLine + 1; omega)
  · rw [Heap.size_update, sz']
  · rw [sz]
    rfl
  · obtain rfl : j = 0 := by omega
    exact ⟨_, _, ex, ey, up _ _ (far lS 0) pr'⟩
end
section
variable {prog : Program} {w : World} {A : Around} {E : Value → Shared → Prop} {s : Shared} {xs ys : Array Value} {a b : Addr}
/-- list(z), z just made -/
theorem call_list_zipM {z TI TO i1 i2 : Addr} {u v : Value} {Q : Value → Shared → Prop} (hh : A.handled = none) (D : ZipApart z TI TO i1 i2 a b) (na : a ≠ z ∧ a ≠ i1 ∧ a ≠ i2) (nb : b ≠ z ∧ b ≠ i1 ∧ b ≠ i2) (aTO : a ≠ TO ∧ b ≠ TO)
    (hz : IsZip s.heap z TI TO .none) (hTI : IsPair s.heap TI (.ref i1) (.ref i2)) (hTO : IsPair s.heap TO u v) (j1 : s.heap.IsListIter i1 a 0) (j2 : s.heap.IsTupleIter i2 b 0) (t1 : s.heap.IsList a xs) (t2 : s.heap.IsTuple b ys)
    (le : xs.size = ys.size) (pos : 0 < xs.size) (hn : xs.size ≤ sizeLine)
    (q : ∀ h' tk acc c, (∀ c o, c ≠ z → c ≠ i1 → c ≠ i2 → c ≠ TO → s.heap.get? c = some o → h'.get? c = some o) → h'.get? s.heap.objs.size = some { cls := .type "list", dict := none, data := .seq acc c, slots := #[] } →
      acc.toList = (List.range xs.size).map (fun j => Value.ref (s.heap.objs.size + 1 + j)) → PrsAt h' (s.heap.objs.size + 1) xs ys xs.size → Q (.ref s.heap.objs.size) { s with heap := h', toks := tk }) :
    wpAny (model prog w) A (call (.type "list") [.ref z]) Q E s := by
  refine callType_codes (Q₁ := fun obj s₁ => obj = .ref s.heap.objs.size ∧ s₁ = { s with heap := s.heap.push { cls := .type "list", data := .seq #[] } }) F.called_list (F.typeCall_list_1 _) F.entry_list_init (code_list_new _ ⟨rfl, rfl⟩) fun obj s₁ h₁ => ?_
  obtain ⟨rfl, rfl⟩ := h₁
  have lt : ∀ {c o}, s.heap.get? c = some o → c < s.heap.objs.size := fun e => Heap.lt_size e
  have ltz := lt hz
  have ltTI := lt hTI
  have ltTO := lt hTO
  have lt1 : i1 < s.heap.objs.size := by obtain ⟨_, e, _⟩ := j1; exact lt e
  have lt2 : i2 < s.heap.objs.size := by obtain ⟨_, e, _⟩ := j2; exact lt e
  have lta : a < s.heap.objs.size := by obtain ⟨_, e, _⟩ := t1; exact lt e
  have ltb : b < s.heap.objs.size := by obtain ⟨_, e, _⟩ := t2; exact lt e
  have hS : (s.heap.push { cls := .type "list", data := .seq #[] }).get? s.heap.objs.size = some { cls := .type "list", data := .seq #[] } := Heap.get?_push_size _ rfl
  have pu : ∀ c o, s.heap.get? c = some o → (s.heap.push { cls := .type "list", data := .seq #[] }).get? c = some o := fun c o e => Heap.get?_push_of_some _ e
  have psz : (s.heap.push { cls := .type "list", data := .seq #[] }).objs.size = s.heap.objs.size + 1 := Heap.size_push ..
  have ne : ∀ {c : Addr}, c < s.heap.objs.size → c ≠ s.heap.objs.size := fun l => Nat.ne_of_lt l
  have up1 : ∀ {c : Addr}, c < s.heap.objs.size → c < s.heap.objs.size + 1 := fun l => Nat.lt_succ_of_lt l
  have P : ZAp z TI TO i1 i2 a b s.heap.objs.size (s.heap.objs.size + 1) := ⟨D, na, nb, ⟨ne ltz, ne ltTI, ne lt1, ne lt2, ne lta, ne ltb⟩, ⟨up1 ltz, up1 lt1, up1 lt2, Nat.lt_succ_self _⟩⟩
  have key : ∀ (h : Heap) (c1 : Nat), (∀ c o, c ≠ s.heap.objs.size → (s.heap.push { cls := .type "list", data := .seq #[] }).get? c = some o → h.get? c = some o) → h.objs.size = s.heap.objs.size + 1 → h.get? s.heap.objs.size = some { cls := .type "list", data := .seq #[] c1 } →
      codeAny (model prog w) A.in1 (.builtin "list.extend.loop" ⟨[.ref s.heap.objs.size, .ref z, .none], []⟩) (fun r s' => r = .ok (.ret .none) ∧ Q (.ref s.heap.objs.size) s') { s with heap := h } := fun h c1 k hsz hS1 =>
    loopM0 (A := A.in1) (h0 := s.heap) hh P (ne ltTO) le pos hn .none (k _ _ (ne ltz) (pu _ _ hz)) (k _ _ (ne ltTI) (pu _ _ hTI)) (k _ _ (ne ltTO) (pu _ _ hTO)) (j1.at fun o e => k _ _ (ne lt1) (pu _ _ e)) (j2.at fun o e => k _ _ (ne lt2) (pu _ _ e))
      (isLst_at t1 fun o e => k _ _ (ne lta) (pu _ _ e)) (isTup_at t2 fun o e => k _ _ (ne ltb) (pu _ _ e)) hsz aTO (fun c o _ c1 _ _ _ _ e => k _ _ c1 (pu _ _ e)) hS1
      fun h' tk acc c kp hS' ha pr => ⟨rfl, q h' tk acc c (fun c o c2 c3 c4 c5 e => kp c o (up1 (lt e)) (ne (lt e)) c2 c3 c4 c5 e) hS' ha pr⟩
  refine ⟨⟨_, hS, rfl⟩, F.args_list_init_2 _ _, ?_⟩
  refine (show wpAny _ _ (do let old ← Builtin.List.listItems (.ref s.heap.objs.size); Builtin.List.listUpdate (.ref s.heap.objs.size) (fun _ => #[]); letGo old.toList.reverse; Builtin.List.listExtendWith (.ref s.heap.objs.size) (.ref z) .none) _ _ _ from wpAny_bind ?_)
  unfold Builtin.List.listItems
  refine wpAny_bind (wpAny_seqItems hS rfl (wpAny_pure ?_))
  refine (show wpAny _ _ (updateSeq s.heap.objs.size (fun _ => #[]) >>= fun _ => letGo (#[] : Array Value).toList.reverse >>= fun _ => Builtin.List.listExtendWith (.ref s.heap.objs.size) (.ref z) .none) _ _ _ from wpAny_bind (wpAny_updateSeq hS rfl ?_))
  have hS2 := Heap.get?_update_self (Obj.mapSeq (fun _ => (#[] : Array Value))) hS rfl
  have oth : ∀ c o, c ≠ s.heap.objs.size → (s.heap.push { cls := .type "list", data := .seq #[] }).get? c = some o → ((s.heap.push { cls := .type "list", data := .seq #[] }).update s.heap.objs.size (Obj.mapSeq (fun _ => (#[] : Array Value)))).get? c = some o := fun c o hb e => (Heap.get?_update_other _ _ (Ne.symm hb)).trans e
  refine wpAny_bind (wpAny_letGo ?_)
  generalize hg : (s.heap.push { cls := .type "list", data := .seq #[] }).update s.heap.objs.size (Obj.mapSeq (fun _ => (#[] : Array Value))) = g at hS2 oth
  have gsz : g.objs.size = s.heap.objs.size + 1 := by rw [← hg, Heap.size_update, psz]
  have gz : IsZip g z TI TO .none := oth _ _ (ne ltz) (pu _ _ hz)
  have ty : ({ s with heap := g } : Shared).TypeIs (.ref z) "zip" := ⟨_, gz, rfl⟩
  unfold Builtin.List.listExtendWith
  refine wpAny_bind (wpAny_typeOf ty ?_)
  have h1 : Builtin.List.listSameRef (.ref s.heap.objs.size) (.ref z) = false := by simp [Builtin.List.listSameRef, Ne.symm (ne ltz)]
  have h2 : (Value.type "zip" == Value.type "list") = false := by decide
  have h3 : (Value.type "zip" == Value.type "tuple") = false := by decide
  simp only [h1, h2, h3, Bool.or_false, Bool.false_eq_true, if_false]
  refine wpAny_bind (wpAny_pyIter_zip gz (wpAny_bind (wpAny_holding ?_)))
  unfold Builtin.List.listLengthHint
  refine wpAny_bind (wpAny_specialOf ty zip_len0 ?_)
  refine (show wpAny _ _ (specialOf (Value.ref z) (Str.ofString "__length_hint__") >>= _) _ _ _ from wpAny_bind (wpAny_specialOf ty zip_hint0 (wpAny_pure ?_)))
  refine wpAny_ite_true rfl (wpAny_bind (wpAny_rule ?_))
  refine wpAny_bind (show wpAny _ _ (updateSeq s.heap.objs.size (·.push .none) >>= fun _ => updateSeq s.heap.objs.size (·.pop)) _ _ _ from wpAny_bind (wpAny_updateSeq hS2 rfl ?_))
  have hS3 := Heap.get?_update_self (Obj.mapSeq (·.push Value.none)) hS2 rfl
  refine wpAny_updateSeq (hz := by seq_fits) hS3 rfl ?_
  have hS4 := Heap.get?_update_self (Obj.mapSeq (·.pop)) hS3 rfl
  refine wpAny_pure ⟨plainId_quiet F.plain_extend_loop _, codeAny_mono (key _ _ (fun c o hc e => (Heap.get?_update_other _ _ (Ne.symm hc)).trans ((Heap.get?_update_other _ _ (Ne.symm hc)).trans (oth c o hc e))) (by rw [Heap.size_update, Heap.size_update, gsz]) hS4) fun r s' hr => ?_⟩
  obtain ⟨rfl, hq⟩ := hr
  exact ⟨rfl, hq⟩
end
/-- list(zip(t, u)) -/
def tLzM (K : PySem.W.Frag) (ta : TA) : TE := fun σ H Q => ta σ H fun vs H1 => ∃ (a b : Addr) (xs ys : List V), vs = [.ref a, .ref b] ∧ SqL K H1 a xs ∧ SqT K H1 b ys ∧ xs.length = ys.length ∧ 0 < xs.length ∧
  ∀ (p m : Addr) (H2 : Hp), H1 p = none → (∀ j, H1 (m + j) = none) → Same H1 H2 → H2 p = some (.lst ((List.range xs.length).map fun j => V.ref (m + j))) → (∀ (j : Nat) (x y : V), xs[j]? = some x → ys[j]? = some y → H2 (m + j) = some (.tup [x, y])) → Q (.ref p) H2
theorem pe_listZipM {X : Cx} {e1 e2 : Expr} {ta : TA} {p p2 pos pos2 : Pos} (hc : X.calm = true) (hgl : Gl X "list") (hml : X.mg "list" = none) (hgz : Gl X "zip") (hmz : X.mg "zip" = none) (ha : PA X [e1, e2] ta)
    (hs : starEach [e1, e2] X.env = (false, eval e1 X.env) :: starEach [e2] X.env := by rfl) (hpl : (backTo pos2 (starEach [e2] X.env)).any (·.1) = false := by rfl)
    (hs1 : starEach [Expr.Call (.Name "zip" p2) [e1, e2] [] pos2] X.env = (false, eval (.Call (.Name "zip" p2) [e1, e2] [] pos2) X.env) :: starEach [] X.env := by rfl) (hpl1 : (backTo pos (starEach [] X.env)).any (·.1) = false := by rfl) :
    PE X (.Call (.Name "list" p) [.Call (.Name "zip" p2) [e1, e2] [] pos2] [] pos) (tLzM X.K ta) := by
  refine ⟨fun pins s σ H Q I h => ?_⟩
  refine Call_ (ld_blt I hgl hml PyProof.Rows.boot_list (PyProof.Rows.callWith_type1 ?_ hs1 hpl1))
  rw [hs1]
  refine Calls.spliced_cons ?_
  refine Call_ (ld_blt I hgz hmz PyProof.Rows.boot_zip (PyProof.Rows.callWith_type1 (thn (ha.run pos2 pins s σ H _ I h) fun us s1 ⟨vs, H1, I1, r1, q1⟩ => ?_) hs hpl))
  obtain ⟨a, b, xs, ys, rfl, hx, hy, hl, hp, q⟩ := q1
  obtain ⟨u1, u2, rfl, e1, e2⟩ := vals2 r1
  cases e1
  cases e2
  obtain ⟨its, rv, t1, z1⟩ := I1.list hx
  have t1 := t1.isList
  obtain ⟨its2, rv2, t2, z2⟩ := I1.tuple hy
  have la : a < s1.heap.objs.size := by obtain ⟨_, e, _⟩ := t1; exact Heap.lt_size e
  have lb : b < s1.heap.objs.size := by obtain ⟨_, e, _⟩ := t2; exact Heap.lt_size e
  refine zip_begins2 (begins_list a its.toArray) (begins_tuple b its2.toArray) t1 (show s1.heap.IsTuple b its2.toArray from t2) fun h' hz hTI hTO g1 g2 hsz hk => ?_
  refine Calls.spliced_nil ?_
  have hlen : its.toArray.size = xs.length := by rw [List.size_toArray]; exact rv.length.symm
  have hlen2 : its2.toArray.size = ys.length := by rw [List.size_toArray]; exact rv2.length.symm
  have nz : ∀ {c : Addr} (k : Nat), c < s1.heap.objs.size → c ≠ s1.heap.objs.size + k := fun k l => Nat.ne_of_lt (Nat.lt_of_lt_of_le l (Nat.le_add_right _ k))
  refine call_list_zipM (s := { s1 with heap := h' }) (I1.ok.hd hc) (PySem.W.ktu_apart s1.heap.objs.size a b la lb) ⟨nz 4 la, nz 0 la, nz 1 la⟩ ⟨nz 4 lb, nz 0 lb, nz 1 lb⟩ ⟨nz 3 la, nz 3 lb⟩ hz hTI hTO ⟨_, g1, rfl, rfl⟩ ⟨_, g2, rfl, rfl⟩
    (isLst_at t1 fun o e => hk _ _ e) (isTup_at (show s1.heap.IsTuple b its2.toArray from t2) fun o e => hk _ _ e) (by rw [hlen, hlen2, hl]) (by rw [hlen]; exact hp) (by rw [hlen]; exact z1) fun h2 tk acc c kp hS hacc pr => ?_
  dsimp only at hS hacc pr ⊢
  rw [hsz] at hS hacc pr ⊢
  rw [hlen] at hacc pr
  have keep : ∀ b o, s1.heap.get? b = some o → h2.get? b = some o := fun b o e => kp b o (nz 4 (Heap.lt_size e)) (nz 0 (Heap.lt_size e)) (nz 1 (Heap.lt_size e)) (nz 3 (Heap.lt_size e)) (hk b o e)
  have geV : ∀ j, j < xs.length → ∃ x y, xs[j]? = some x ∧ ys[j]? = some y := fun j l => ⟨xs[j], ys[j]'(by omega), List.getElem?_eq_getElem l, List.getElem?_eq_getElem (by omega)⟩
  let H2 : Hp := fun b => if b < s1.heap.objs.size then H1 b else if b = s1.heap.objs.size + 5 then some (.lst ((List.range xs.length).map fun j => V.ref (s1.heap.objs.size + 5 + 1 + j)))
    else if s1.heap.objs.size + 5 + 1 ≤ b ∧ b - (s1.heap.objs.size + 5 + 1) < xs.length then some (.tup [xs.getD (b - (s1.heap.objs.size + 5 + 1)) .non, ys.getD (b - (s1.heap.objs.size + 5 + 1)) .non]) else none
  have eP : H2 (s1.heap.objs.size + 5) = some (.lst ((List.range xs.length).map fun j => V.ref (s1.heap.objs.size + 5 + 1 + j))) := by
    show (if _ then _ else _) = _
    rw [if_neg (show ¬ (s1.heap.objs.size + 5 < s1.heap.objs.size) by omega), if_pos rfl]
  have eT : ∀ (j : Nat) (x y : V), xs[j]? = some x → ys[j]? = some y → H2 (s1.heap.objs.size + 5 + 1 + j) = some (.tup [x, y]) := fun j x y ex ey => by
    have l := (List.getElem?_eq_some_iff.mp ex).1
    show (if _ then _ else _) = _
    rw [if_neg (show ¬ (s1.heap.objs.size + 5 + 1 + j < s1.heap.objs.size) by omega), if_neg (show ¬ (s1.heap.objs.size + 5 + 1 + j = s1.heap.objs.size + 5) by omega), if_pos (show s1.heap.objs.size + 5 + 1 ≤ s1.heap.objs.size + 5 + 1 + j ∧ s1.heap.objs.size + 5 + 1 + j - (s1.heap.objs.size + 5 + 1) < xs.length by omega)]
    have e : s1.heap.objs.size + 5 + 1 + j - (s1.heap.objs.size + 5 + 1) = j := by omega
    rw [e, List.getD_eq_getElem?_getD, List.getD_eq_getElem?_getD, ex, ey]
    rfl
  have I2 : L2.Inv X pins σ H2 { s1 with heap := h2, toks := tk } := by
    refine inv_many I1 keep (fun b l => if_pos l) fun b u l e => ?_
    have e' : (if b = s1.heap.objs.size + 5 then some (HO.lst ((List.range xs.length).map fun j => V.ref (s1.heap.objs.size + 5 + 1 + j)))
      else if s1.heap.objs.size + 5 + 1 ≤ b ∧ b - (s1.heap.objs.size + 5 + 1) < xs.length then some (.tup [xs.getD (b - (s1.heap.objs.size + 5 + 1)) .non, ys.getD (b - (s1.heap.objs.size + 5 + 1)) .non]) else none) = some u := by
      rw [← e]
      exact (if_neg (Nat.not_lt.mpr l)).symm
    split at e'
    · rename_i eb
      cases e'
      rw [eb]
      refine ⟨by rw [List.length_map, List.length_range]; exact z1, acc.toList, c, ?_, by rw [Array.toArray_toList]; exact hS⟩
      rw [hacc]
      have vs : ∀ l : List Nat, Vals (l.map fun j => V.ref (s1.heap.objs.size + 5 + 1 + j)) (l.map fun j => Value.ref (s1.heap.objs.size + 5 + 1 + j)) := fun l => by
        induction l with
        | nil => exact .nil
        | cons x r ih => exact .cons rfl ih
      exact vs _
    · split at e'
      · rename_i hb
        cases e'
        obtain ⟨j, rfl⟩ : ∃ j, b = s1.heap.objs.size + 5 + 1 + j := ⟨b - (s1.heap.objs.size + 5 + 1), by omega⟩
        have ej : s1.heap.objs.size + 5 + 1 + j - (s1.heap.objs.size + 5 + 1) = j := by omega
        rw [ej] at hb ⊢
        obtain ⟨x, y, ex, ey⟩ := geV j hb.2
        obtain ⟨u, v, g1, g2, g3⟩ := pr j hb.2
        obtain ⟨u', hu, ru⟩ := rv.get ex
        obtain ⟨v', hv, rw'⟩ := rv2.get ey
        have : u' = u := by
          have g1 : its[j]? = some u := by simpa using g1
          rw [hu] at g1
          exact Option.some.inj g1
        subst this
        have : v' = v := by
          have g2 : its2[j]? = some v := by simpa using g2
          rw [hv] at g2
          exact Option.some.inj g2
        subst this
        rw [List.getD_eq_getElem?_getD, List.getD_eq_getElem?_getD, ex, ey]
        exact ⟨by show 2 ≤ sizeLine; decide, [u', v'], .cons ru (.cons rw' .nil), ⟨_, g3, rfl, _, rfl⟩⟩
      · cases e'
  refine ⟨.ref (s1.heap.objs.size + 5), H2, I2, rfl, q _ (s1.heap.objs.size + 5 + 1) H2 (I1.hok.fresh (Nat.le_add_right _ _)) (fun j => I1.hok.fresh (by omega)) (fun b o e => ?_) eP eT⟩
  by_cases l : b < s1.heap.objs.size
  · exact (if_pos l).trans e
  · rw [I1.hok.fresh (Nat.not_lt.mp l)] at e
    cases e
end Vf

set_option Elab.async false
set_option linter.all false
set_option maxRecDepth 100000
set_option maxHeartbeats 4000000
/-! dicts whose keys are tuples of any depth: the dict's own object is told whole, its keys' tuples are told by the heap -/
namespace Vf
open PySem PySem.Spec PyProof.Rows L2
mutual
/-- a value that is such a key -/
inductive NkV (K : PySem.W.Frag) (H : Hp) : NestedKey → V → Prop
  | int (i : Int) : NkV K H (.num i) (.int i)
  | str (x : Str) : NkV K H (.text x) (.str x)
  | tup {a : Addr} {xs : List V} {ks : List NestedKey} : SqT K H a xs → NkVs K H ks xs → NkV K H (.tup ks) (.ref a)
inductive NkVs (K : PySem.W.Frag) (H : Hp) : List NestedKey → List V → Prop
  | nil : NkVs K H [] []
  | cons {k : NestedKey} {v : V} {ks : List NestedKey} {vs : List V} : NkV K H k v → NkVs K H ks vs → NkVs K H (k :: ks) (v :: vs)
end
mutual
theorem NkV.is {X : Cx} {pins : List (Addr × Obj)} {s : Shared} {σ : L2.St} {H : Hp} (I : L2.Inv X pins σ H s) : ∀ {k : NestedKey} {v : V} {u : Value}, NkV X.K H k v → RelV v u → NestedIs s.heap k u
  | _, _, _, .int i, r => by
    obtain ⟨t, rfl⟩ := r
    exact .int i t
  | _, _, _, .str x, r => by
    obtain ⟨t, rfl⟩ := r
    exact .text x t
  | _, _, _, .tup h hs, r => by
    cases r
    obtain ⟨its, rv, ht, _⟩ := I.tuple h
    obtain ⟨o, ho, hc, n, hd⟩ := ht
    exact .tup ho hc hd (by rw [List.toList_toArray]; exact NkVs.is I hs rv)
theorem NkVs.is {X : Cx} {pins : List (Addr × Obj)} {s : Shared} {σ : L2.St} {H : Hp} (I : L2.Inv X pins σ H s) : ∀ {ks : List NestedKey} {vs : List V} {us : List Value}, NkVs X.K H ks vs → Vals vs us → NestedAll s.heap ks us
  | _, _, _, .nil, r => by
    cases r
    exact .nil
  | _, _, _, .cons h hs, r => by
    cases r with
    | cons a b => exact .cons (NkV.is I h a) (NkVs.is I hs b)
end
mutual
theorem NkV.same {K : PySem.W.Frag} {H H' : Hp} (s : Same H H') : ∀ {k : NestedKey} {v : V}, NkV K H k v → NkV K H' k v
  | _, _, .int i => .int i
  | _, _, .str x => .str x
  | _, _, .tup h hs => .tup (sameT s h) (NkVs.same s hs)
theorem NkVs.same {K : PySem.W.Frag} {H H' : Hp} (s : Same H H') : ∀ {ks : List NestedKey} {vs : List V}, NkVs K H ks vs → NkVs K H' ks vs
  | _, _, .nil => .nil
  | _, _, .cons h hs => .cons (NkV.same s h) (NkVs.same s hs)
end
abbrev NdRel : List (NestedKey × Addr × V) → List (NestedKey × Addr × Value) → Prop := Paired fun x y => x.1 = y.1 ∧ x.2.1 = y.2.1 ∧ RelV x.2.2 y.2.2
def NdAt (P : Program) (w : World) (h : Heap) (d : Addr) (xs : List (NestedKey × Addr × V)) : Prop :=
  (d == sysModules) = false ∧ xs.length ≤ sizeLine ∧ ∃ (o : Obj) (es : Array DictEntry) (ep : Nat) (ys : List (NestedKey × Addr × Value)), h.get? d = some o ∧ o.ExactDict ∧ o.data = .dict es ep ∧ es.toList = ys.map (entryOfKey (nestedKind P w)) ∧ NdRel xs ys
def ndO (P : Program) (w : World) (d : Addr) (xs : List (NestedKey × Addr × V)) : HO := .ext fun h => NdAt P w h d xs
theorem ndO_ok {P : Program} {w : World} {H : Hp} {h : Heap} {d : Addr} {xs : List (NestedKey × Addr × V)} (n : NdAt P w h d xs) : ObjOk P w H h d (ndO P w d xs) := by
  refine ⟨n, ?_, fun h1 h2 x k => ?_⟩
  · obtain ⟨_, _, o, _, _, _, e, _⟩ := n
    exact ⟨o, e⟩
  · obtain ⟨a, b, o, es, ep, ys, e, r⟩ := x
    exact ⟨a, b, o, es, ep, ys, k o e, r⟩
structure NdIn (K : PySem.W.Frag) (P : Program) (w : World) (H : Hp) (d : Addr) (xs : List (NestedKey × Addr × V)) : Prop where
  at' : H d = some (ndO P w d xs) ∨ (xs = [] ∧ H d = some (.dK []))
  keys : ∀ x ∈ xs, NkV K H x.1 (.ref x.2.1) ∧ x.1.depth ≤ 8
  nd : (xs.map (·.1)).Nodup
def ndGet (xs : List (NestedKey × Addr × V)) (k : NestedKey) : Option (Addr × V) := (xs.find? fun x => decide (x.1 = k)).map (·.2)
theorem nd_get {xs : List (NestedKey × Addr × V)} {ys : List (NestedKey × Addr × Value)} (r : NdRel xs ys) (k : NestedKey) : (ndGet xs k = none ∧ atKey ys k = none) ∨ ∃ a v u, ndGet xs k = some (a, v) ∧ atKey ys k = some (a, u) ∧ RelV v u := by
  induction r with
  | nil => exact .inl ⟨rfl, rfl⟩
  | @cons x y xs ys h _ ih =>
    obtain ⟨e1, e2, e3⟩ := h
    unfold ndGet atKey at ih ⊢
    by_cases z : x.1 = k
    · have z2 : y.1 = k := e1 ▸ z
      refine .inr ⟨x.2.1, x.2.2, y.2.2, ?_, ?_, e3⟩
      · rw [List.find?_cons_of_pos (by simp [z])]
        rfl
      · rw [List.find?_cons_of_pos (by simp [z2]), e2]
        rfl
    · have z2 : ¬ y.1 = k := fun q => z (e1.trans q)
      rw [List.find?_cons_of_neg (by simp [z]), List.find?_cons_of_neg (by simp [z2])]
      exact ih
section
variable {X : Cx} {pins : List (Addr × Obj)} {s : Shared} {σ : L2.St} {H : Hp}
theorem NdRel.keys {xs : List (NestedKey × Addr × V)} {ys : List (NestedKey × Addr × Value)} (r : NdRel xs ys) : ys.map (·.1) = xs.map (·.1) := by
  induction r with
  | nil => rfl
  | cons h _ ih => rw [List.map_cons, List.map_cons, ih, h.1]
theorem NdIn.dict {d : Addr} {xs : List (NestedKey × Addr × V)} (I : L2.Inv X pins σ H s) (N : NdIn X.K X.prog X.w H d xs) : ∃ ys : List (NestedKey × Addr × Value), NdRel xs ys ∧ (d == sysModules) = false ∧ xs.length ≤ sizeLine ∧ s.heap.DictOfH (nestedKind X.prog X.w) d ys := by
  have main : NdAt X.prog X.w s.heap d xs := by
    rcases N.at' with h | ⟨rfl, h⟩
    · exact (show ObjOk X.prog X.w H s.heap d (ndO X.prog X.w d xs) from I.hok d _ h).1
    · obtain ⟨z, hd, vs, rel, o, es, ep, ho, hx, hdat, _, hpp, _⟩ := dk_of I.hok h
      cases rel
      refine ⟨hd, Nat.zero_le _, o, es, ep, [], ho, hx, hdat, ?_, .nil⟩
      cases hpp' : es.toList with
      | nil => rfl
      | cons e r =>
        have := hpp.length
        rw [hpp'] at this
        simp at this
  obtain ⟨hd, hz, o, es, ep, ys, ho, hx, hdat, he, rel⟩ := main
  refine ⟨ys, rel, hd, hz, o, es, ep, ho, hx, hdat, he, fun y hy => ?_, ?_⟩
  · obtain ⟨j, hj⟩ := List.mem_iff_getElem?.mp hy
    obtain ⟨x, hx', e1, e2, _⟩ := DX.pget rel hj
    obtain ⟨k1, k2⟩ := N.keys x (List.mem_of_getElem? hx')
    rw [← e1, ← e2]
    exact ⟨NkV.is I k1 rfl, k2⟩
  · rw [rel.keys]
    exact N.nd
theorem nd_is (I : L2.Inv X pins σ H s) {k : NestedKey} {b : Addr} (h : NkV X.K H k (.ref b)) (l : k.depth ≤ 8) : (nestedKind X.prog X.w).is s.heap k b := ⟨NkV.is I h rfl, l⟩
theorem nd_mut {d : Addr} {xs : List (NestedKey × Addr × V)} {P : Program} {w : World} {K : PySem.W.Frag} (N : NdIn K P w H d xs) : Mut (H d) := by
  rcases N.at' with h | ⟨_, h⟩
  · rw [h]
    exact True.intro
  · rw [h]
    exact True.intro
/-- the dict's own object behind a write -/
theorem nd_new {h' : Heap} {d : Addr} {xs : List (NestedKey × Addr × V)} {ys : List (NestedKey × Addr × Value)} (hd : (d == sysModules) = false) (hz : xs.length ≤ sizeLine) (r : NdRel xs ys) (D : h'.DictOfH (nestedKind X.prog X.w) d ys) : ObjOk X.prog X.w (upd H d (ndO X.prog X.w d xs)) h' d (ndO X.prog X.w d xs) := by
  obtain ⟨o, es, ep, ho, hx, hdat, he, _⟩ := D
  exact ndO_ok ⟨hd, hz, o, es, ep, ys, ho, hx, hdat, he, r⟩
def ndPut (xs : List (NestedKey × Addr × V)) (k : NestedKey) (b : Addr) (v : V) : List (NestedKey × Addr × V) :=
  if (ndGet xs k).isSome then xs.map (fun x => if x.1 = k then (x.1, x.2.1, v) else x) else xs ++ [(k, b, v)]
theorem nd_put {xs : List (NestedKey × Addr × V)} {ys : List (NestedKey × Addr × Value)} (r : NdRel xs ys) (k : NestedKey) (b : Addr) {v : V} {u : Value} (rv : RelV v u) : NdRel (ndPut xs k b v) (storedH ys k b u) := by
  unfold ndPut storedH
  rcases nd_get r k with ⟨e1, e2⟩ | ⟨a, v', u', e1, e2, _⟩
  · rw [e1, e2]
    exact Paired.snoc r ⟨rfl, rfl, rv⟩
  · rw [e1, e2]
    show NdRel (xs.map _) (ys.map _)
    clear e1 e2
    induction r with
    | nil => exact .nil
    | @cons x y xs ys h _ ih =>
      refine .cons ?_ ih
      obtain ⟨h1, h2, h3⟩ := h
      show (fun (x : NestedKey × Addr × V) (y : NestedKey × Addr × Value) => x.1 = y.1 ∧ x.2.1 = y.2.1 ∧ RelV x.2.2 y.2.2) (if x.1 = k then (x.1, x.2.1, v) else x) (if y.1 = k then (y.1, y.2.1, u) else y)
      by_cases z : x.1 = k
      · rw [if_pos z, if_pos (h1 ▸ z)]
        exact ⟨h1, h2, rv⟩
      · rw [if_neg z, if_neg (fun q => z (h1.trans q))]
        exact ⟨h1, h2, h3⟩
theorem ndPut_len (xs : List (NestedKey × Addr × V)) (k : NestedKey) (b : Addr) (v : V) : (ndPut xs k b v).length ≤ xs.length + 1 := by
  unfold ndPut
  split
  · rw [List.length_map]
    exact Nat.le_succ _
  · rw [List.length_append]
    exact Nat.le_refl _
/-- d.setdefault(k, v) -/
theorem mt_setdN (hu : X.A.units + 20 < cLine) : MtR X "dict.setdefault" (fun x xs H Q => ∃ (d b : Addr) (ks : List (NestedKey × Addr × V)) (k : NestedKey) (v : V), x = .ref d ∧ xs = [.ref b, v] ∧ NdIn X.K X.prog X.w H d ks ∧ NkV X.K H k (.ref b) ∧ k.depth ≤ 8 ∧ ks.length ≤ 1000 ∧
    (∀ a v', ndGet ks k = some (a, v') → Q v' H) ∧ (ndGet ks k = none → Q v (upd H d (ndO X.prog X.w d (ks ++ [(k, b, v)]))))) := by
  intro pins s σ H x xs v us Q I rx rs ⟨d, b, ks, k, dv, e1, e2, N, nk, l8, lz, q1, q2⟩
  subst e1
  subst e2
  cases rx
  obtain ⟨u1, u2, rfl, r1, r2⟩ := vals2 rs
  cases r1
  obtain ⟨ys, rel, hd, hz, D⟩ := N.dict I
  have ly : ys.length = ks.length := by
    have := congrArg List.length rel.keys
    rw [List.length_map, List.length_map] at this
    exact this
  have big : (1000 : Nat) < sizeLine := by rw [sizeLine_eq]; decide
  refine call_setdefault_heap (hsz := by omega) (show X.A.units + 1 + 8 < cLine by omega) (nd_is I nk l8) hd D (fun p hp => ?_) fun hn h' D' hs => ?_
  · rcases nd_get rel k with ⟨_, e⟩ | ⟨a, v', u', e1, e, rv⟩
    · rw [e] at hp
      cases hp
    · rw [e] at hp
      cases hp
      exact ⟨v', H, I.tok _, rv, q1 a v' e1⟩
  · rcases nd_get rel k with ⟨e1, _⟩ | ⟨a, v', u', _, e, _⟩
    · have he : ∃ q, h'.get? d = some q := let ⟨q, _, _, hq, _⟩ := D'; ⟨q, hq⟩
      have rel' : NdRel (ks ++ [(k, b, dv)]) (storedH ys k b u2) := by
        rw [storedH_new hn]
        exact Paired.snoc rel ⟨rfl, rfl, r2⟩
      have hz' : (ks ++ [(k, b, dv)]).length ≤ sizeLine := by
        rw [List.length_append]
        show ks.length + 1 ≤ _
        omega
      exact ⟨dv, _, d_write (t' := s.toks + (nestedKind X.prog X.w).draws k) I (nd_mut N) hs he (nd_new hd hz' rel' D'), r2, q2 e1⟩
    · rw [e] at hn
      cases hn
/-- d.get(k, v) -/
theorem mt_getN (hu : X.A.units + 20 < cLine) : MtR X "dict.get" (fun x xs H Q => ∃ (d b : Addr) (ks : List (NestedKey × Addr × V)) (k : NestedKey) (v : V), x = .ref d ∧ xs = [.ref b, v] ∧ NdIn X.K X.prog X.w H d ks ∧ NkV X.K H k (.ref b) ∧ k.depth ≤ 8 ∧
    Q (((ndGet ks k).map (·.2)).getD v) H) := by
  intro pins s σ H x xs v us Q I rx rs ⟨d, b, ks, k, dv, e1, e2, N, nk, l8, q⟩
  subst e1
  subst e2
  cases rx
  obtain ⟨u1, u2, rfl, r1, r2⟩ := vals2 rs
  cases r1
  obtain ⟨ys, rel, hd, hz, D⟩ := N.dict I
  refine call_meetsIn F.slot_dict_get D.typeIs F.entry_dict_get (F.args_dict_get_3 _ _ _) (meetsH_dict_get_default (nestedKind X.prog X.w) d b hd u2) ⟨(show X.A.units + 1 + 8 < cLine by omega), k, ys, nd_is I nk l8, D, ?_⟩
  rcases nd_get rel k with ⟨e1, e⟩ | ⟨a, v', u', e1, e, rv⟩
  · rw [e]
    rw [e1] at q
    exact ⟨dv, H, I.tok _, r2, q⟩
  · rw [e]
    rw [e1] at q
    exact ⟨v', H, I.tok _, rv, q⟩
/-- d[k] = v -/
def sPutN (K : PySem.W.Frag) (P : Program) (w : World) (td ty tv : TE) : TS := fun D σ H => tv σ H fun v H1 => td σ H1 fun x H2 => ty σ H2 fun y H3 => ∃ (d b : Addr) (ks : List (NestedKey × Addr × V)) (k : NestedKey), x = .ref d ∧ y = .ref b ∧ NdIn K P w H3 d ks ∧ NkV K H3 k (.ref b) ∧ k.depth ≤ 8 ∧ ks.length ≤ 1000 ∧
  D.nx σ (upd H3 d (ndO P w d (ndPut ks k b v)))
theorem ps_putN {o i value : Expr} {pos pos' : Pos} {td ty tv : TE} (hu : X.A.units + 20 < cLine) (ho : PE X o td) (hi : PE X i ty) (hv : PE X value tv) (hs : swapsWith value (some (.Subscript o i pos')) pos.line X.env = pure false) :
    PS X (.Assign [.Subscript o i pos'] value pos) (sPutN X.K X.prog X.w td ty tv) := by
  refine ⟨fun pins s σ H D I h => ?_⟩
  refine wpAny_Assign_Subscript (thn (hv.run pins s σ H _ I h) fun r s1 ⟨v, H1, I1, rv, q1⟩ => thn (ho.run pins s1 σ H1 _ I1 q1) fun u s2 ⟨x, H2, I2, rx, q2⟩ => thn (hi.run pins s2 σ H2 _ I2 q2) fun iv s3 ⟨y, H3, I3, ry, d, b, ks, k, ex, ey, N, nk, l8, lz, q3⟩ => ?_) hs
  subst ex
  subst ey
  obtain rfl : u = Value.ref d := rx
  obtain rfl : iv = Value.ref b := ry
  obtain ⟨ys, rel, hd, hz, DD⟩ := N.dict I3
  have ly : ys.length = ks.length := by
    have := congrArg List.length rel.keys
    rw [List.length_map, List.length_map] at this
    exact this
  have big : (1001 : Nat) < sizeLine := by rw [sizeLine_eq]; decide
  refine wpAny_setItem_heap (hsz := by omega) (show X.A.units + 1 + 8 < cLine by omega) (nd_is I3 nk l8) DD fun h' D' hs' => ?_
  have he : ∃ q, h'.get? d = some q := let ⟨q, _, _, hq, _⟩ := D'; ⟨q, hq⟩
  have hl := ndPut_len ks k b v
  exact ⟨σ, _, d_write (t' := s3.toks + (nestedKind X.prog X.w).draws k) I3 (nd_mut N) hs' he (nd_new hd (by omega) (nd_put rel k b rv) D'), q3⟩
end
/-! ### the values of such a dict, walked -/
def ItN (P : Program) (w : World) (d : Addr) (o : Obj) (xs : List (NestedKey × Addr × V)) : It :=
  ⟨fun i H => H d = some (.frz o (ndO P w d xs)) ∧ i < xs.length, fun i H x H' => H' = H ∧ ∃ e, xs[i]? = some e ∧ x = e.2.2, fun i H => H d = some (.frz o (ndO P w d xs)) ∧ xs.length ≤ i⟩
theorem frzN {X : Cx} {pins : List (Addr × Obj)} {s : Shared} {σ : L2.St} {H : Hp} {d : Addr} {o : Obj} {xs : List (NestedKey × Addr × V)} (I : L2.Inv X pins σ H s) (h : H d = some (.frz o (ndO X.prog X.w d xs))) :
    (d == sysModules) = false ∧ s.heap.get? d = some o ∧ ∃ (es : Array DictEntry) (ep : Nat), o.data = .dict es ep ∧ s.heap.DictRaw d es ep ∧ es.size = xs.length ∧ ∀ (i : Nat) (e : NestedKey × Addr × V), xs[i]? = some e → ∃ en, es[i]? = some en ∧ RelV e.2.2 en.val := by
  have ok : s.heap.get? d = some o ∧ ObjOk X.prog X.w H s.heap d (ndO X.prog X.w d xs) := I.hok d _ h
  obtain ⟨g, ⟨hd, hz, o', es, ep, ys, ho, hx, hdat, he, rel⟩, _⟩ := ok
  rw [g] at ho
  cases ho
  have ly : ys.length = xs.length := by
    have := congrArg List.length rel.keys
    rw [List.length_map, List.length_map] at this
    exact this
  refine ⟨hd, g, es, ep, hdat, ⟨o, g, hx, hdat⟩, by rw [size_of_entries he, ly], fun i e hi => ?_⟩
  obtain ⟨y, hy, _, _, rv⟩ := pget1 rel hi
  have q := entry_at he i
  rw [hy] at q
  exact ⟨_, q, rv⟩
theorem turn_valsN {P : Program} {w : World} {K : PySem.W.Frag} {tg : Expr} {d : Addr} {o : Obj} {es : Array DictEntry} {ep : Nat} {xs : List (NestedKey × Addr × V)} (it : Addr) (hod : o.data = .dict es ep) : Turn P w K tg (ItN P w d o xs) [it] it (fun i h => h.IsValIter it d i xs.length ep) where
  mem := by simp
  obj := fun i h st b hb => by
    have e : b = it := by simpa using hb
    subst e
    obtain ⟨oi, e, c, dd⟩ := st
    exact ⟨oi, e, fun v z => by rw [dd] at z; cases z⟩
  keep := fun i h h' st k => st.at fun oi e => k it (by simp) oi e
  item := by
    intro X hP hw hK hc i pins s σ H E I hf st hg
    subst hP hw hK
    obtain ⟨hd, hi⟩ := hg
    obtain ⟨f0, f1, f2, f3, f4, f5⟩ := hf it (by simp)
    obtain ⟨hs, hgd, es', ep', hdt, raw, hsz, ent⟩ := frzN I hd
    obtain ⟨rfl, rfl⟩ := dict_ep hod hdt
    obtain ⟨en, he, rv⟩ := ent i _ (List.getElem?_eq_getElem hi)
    have hi2 : i < es'.size := by omega
    rw [← hsz] at st
    refine wpAny_pyNext_values_item_raw st raw hi2 fun h' st' sb => ?_
    have I1 : Inv X pins σ H { s with heap := h' } := I.turned (t' := s.toks) (fun b ob hb e => (sb.2 b hb).trans e) f0 f1 f3 f4 f5
    obtain ⟨oi, e, c, dd⟩ := id st'
    have ev : es'[i].val = en.val := by
      have : es'[i] = en := by
        rw [Array.getElem?_eq_getElem hi2] at he
        exact Option.some.inj he
      rw [this]
    refine ⟨es'[i].val, rfl, go_of (s := { s with heap := h' }) e c dd (by decide) ⟨xs[i].2.2, H, I1, by rw [ev]; exact rv, ⟨rfl, _, List.getElem?_eq_getElem hi, rfl⟩, ?_, fun b hb => (hf b hb).1⟩⟩
    rw [← hsz]
    exact st'
  done := by
    intro X hP hw hK hc i pins s σ H E I hf st hg
    subst hP hw hK
    obtain ⟨hd, hi⟩ := hg
    obtain ⟨f0, f1, f2, f3, f4, f5⟩ := hf it (by simp)
    obtain ⟨hs, hgd, es', ep', hdt, raw, hsz, ent⟩ := frzN I hd
    obtain ⟨rfl, rfl⟩ := dict_ep hod hdt
    rw [← hsz] at st
    exact wpAny_pyNext_values_end_raw (I.ok.hd hc) st raw (by omega) fun h' eb => ⟨rfl, I.turned (t' := s.toks) (fun b ob hb e => eb b ob hb e) f0 f1 f3 f4 f5⟩
  self := fun A i s Q E st h => wpAny_pyIter_valiter st h
def iValsN (P : Program) (w : World) (td : TE) : TI := fun σ H R => td σ H fun x H1 => ∃ (d : Addr) (o : Obj) (xs : List (NestedKey × Addr × V)), x = .ref d ∧ H1 d = some (.frz o (ndO P w d xs)) ∧ R (ItN P w d o xs) H1
theorem pi_valuesN {X : Cx} {tg e : Expr} {td : TE} {apos cpos : Pos} (he : PE X e td) (hbase : attributeBase e "values" X.env (eval e X.env) = eval e X.env := by rfl) (hline : (apos.endLine == cpos.line) = true := by rfl) : PI X tg (.Call (.Attribute e "values" apos) [] [] cpos) (iValsN X.prog X.w td) := by
  refine ⟨fun pins s σ H R I h => ?_⟩
  refine wpAny_Call_method (T := "dict") (id := "dict.values") hbase rfl hline F.plainAttrs_dict F.slot_dict_values F.type_dict_values (thn (he.run pins s σ H _ I h) fun u s1 ⟨x, H1, I1, rx, d, o, xs, ex, hd, q⟩ => ?_)
  subst ex
  obtain rfl : u = Value.ref d := rx
  obtain ⟨hs, hgd, es, ep, hdt, raw, hsz, ent⟩ := frzN I1 hd
  have nod : ∀ b, Value.ref d = .ref b → ∃ ob, s1.heap.get? b = some ob ∧ ob.dict = none := fun b e => by
    cases e
    obtain ⟨o', e1, e2, _⟩ := raw
    exact ⟨o', e1, e2.2.1⟩
  refine ⟨raw.typeIs, nod, ?_⟩
  have I2 : Inv X pins σ H1 { s1 with heap := s1.heap.push { cls := .type "dict_values", data := .fields #[.ref d] } } := I1.kept (t' := s1.toks) fun b ob q => Heap.get?_push_of_some _ q
  have fin : wpAny (model X.prog X.w) X.A (pyIter (.ref s1.heap.objs.size)) (PIE X pins σ tg R) X.xe { s1 with heap := s1.heap.push { cls := .type "dict_values", data := .fields #[.ref d] } } := by
    refine wpAny_pyIter_values_raw (d := d) ⟨_, Heap.get?_push_size _ rfl, rfl, rfl⟩ (raw.push _) (pi_one (tk := s1.toks) I2 _ (turn_valsN _ hdt) ⟨_, Heap.get?_push_size _ rfl, rfl, ?_⟩ q)
    rw [hsz] <;> rfl
  show wpAny _ _ (callWith cpos (.builtin "dict.values") [.ref d] [] []) _ X.xe s1
  exact method_meetsIn F.slot_dict_values F.entry_dict_values rfl (PySem.evalArgs_none ⟨rfl, raw.typeIs, F.args_dict_values_1 _, _, meets_dict_values_raw d hs, ⟨es, ep, raw⟩, fin⟩)
theorem walk_valuesN {P : Program} {w : World} {d : Addr} {o : Obj} {xs : List (NestedKey × Addr × V)} : Walk (ItN P w d o xs) xs.length (fun H => H d = some (.frz o (ndO P w d xs))) (fun i H x H' => H' = H ∧ ∃ e, xs[i]? = some e ∧ x = e.2.2) :=
  ⟨fun _ _ hi q => ⟨q, hi⟩, fun _ q => ⟨q, Nat.le_refl _⟩, fun _ _ _ _ _ _ y => y⟩
/-! ### sorted(d.values()), the values tuples of texts -/
def valuesO (p d : Addr) : HO := .ext fun h => h.IsValuesView p d
theorem valuesO_ok {P : Program} {w : World} {H : Hp} {h : Heap} {p d : Addr} (e : h.get? p = some { cls := .type "dict_values", data := .fields #[.ref d] }) : ObjOk P w H h p (valuesO p d) :=
  ⟨⟨_, e, rfl, rfl⟩, ⟨_, e⟩, fun h1 h2 x k => let ⟨o, ho, r⟩ := x; ⟨o, k o ho, r⟩⟩
theorem mt_valuesN {X : Cx} : MtR X "dict.values" (fun x xs H Q => ∃ (d : Addr) (ks : List (NestedKey × Addr × V)), x = .ref d ∧ xs = [] ∧ NdIn X.K X.prog X.w H d ks ∧ ∀ p, H p = none → Q (.ref p) (upd H p (valuesO p d))) := by
  intro pins s σ H x xs v us Q I rx rxs ⟨d, ks, e1, e2, N, q⟩
  subst e1
  subst e2
  cases rx
  cases rxs
  obtain ⟨ys, rel, hd, hz, D⟩ := N.dict I
  have ty := D.typeIs
  obtain ⟨o, es, ep, ho, hx, hdat, _⟩ := D
  refine call_meetsIn F.slot_dict_values ty F.entry_dict_values (F.args_dict_values_1 _) (meets_dict_values_raw d hd) ⟨⟨es, ep, o, ho, hx, hdat⟩, ?_⟩
  have hf : H s.heap.objs.size = none := I.hok.fresh (Nat.le_refl _)
  exact ⟨.ref s.heap.objs.size, upd H s.heap.objs.size (valuesO s.heap.objs.size d), I.laid (t' := s.toks) (fun b u e => Heap.get?_push_of_some _ e) (Nat.le_refl _) (valuesO_ok (Heap.get?_push_size _ rfl)), rfl, q _ hf⟩
theorem alike_strs : ∀ xs ys : List Str, PySem.W.alikeAll (xs.map .str) (ys.map .str) = true
  | [], [] => rfl
  | [], _ :: _ => rfl
  | _ :: _, [] => rfl
  | x :: xs, y :: ys => by
    show (PySem.W.alike (.str x) (.str y) && PySem.W.alikeAll (xs.map .str) (ys.map .str)) = true
    rw [alike_strs xs ys]
    rfl
/-- a tuple of texts, one at least -/
def TxT (K : PySem.W.Frag) (H : Hp) (v : V) (d : PyData) : Prop := ∃ (t : Addr) (x : Str) (ws : List Str), v = .ref t ∧ SqT K H t ((x :: ws).map V.str) ∧ d = .tuple ((x :: ws).map .str)
theorem reads_strs {h : Heap} : ∀ {ws : List Str} {us : List Value}, Vals (ws.map V.str) us → ReadsAll h us (ws.map .str) []
  | [], _, r => by
    cases r
    exact .nil
  | x :: ws, _, r => by
    cases r with
    | cons a b =>
      obtain ⟨t, rfl⟩ := a
      exact .cons (.str x t) (reads_strs b)
theorem call_sortedVN {X : Cx} (hcalm : X.calm = true) (hu : X.A.units + 70 < cLine) : CallR X (.builtin "sorted") (fun vs H Q => ∃ (p d : Addr) (ks : List (NestedKey × Addr × V)) (ds : List PyData), vs = [.ref p] ∧ H p = some (valuesO p d) ∧ NdIn X.K X.prog X.w H d ks ∧ Paired (TxT X.K H) (ks.map fun e => e.2.2) ds ∧
    ∀ (ys : List V) (q : Addr), Paired (TxT X.K H) ys (srtD ds) → H q = none → Q (.ref q) (upd H q (.lst ys))) := by
  rintro pins s σ H vs us Q I r ⟨p, d, ks, ds, rfl, hp, N, hds, k⟩
  obtain ⟨u, rfl, ru⟩ := vals1 r
  obtain rfl : u = Value.ref p := ru
  have view : s.heap.IsValuesView p d := (show ObjOk X.prog X.w H s.heap p (valuesO p d) from I.hok p _ hp).1
  obtain ⟨ys, rel, hd, hz, D⟩ := N.dict I
  have ly : ys.length = ks.length := by
    have := congrArg List.length rel.keys
    rw [List.length_map, List.length_map] at this
    exact this
  obtain ⟨o, es, ep, ho, hx, hdat, he, _⟩ := D
  have les : es.size = ks.length := by rw [size_of_entries he, ly]
  have lds : ds.length = ks.length := by
    have := Paired.length hds
    rw [List.length_map] at this
    exact this.symm
  refine PySem.Calls.call_function_entry kind_sorted plain_sorted entry_sorted (args_sorted1 _) ?_
  show wpAny _ _ (Builtin.sorted { pos := [Value.ref p] }) _ _ _
  unfold Builtin.sorted
  refine wpAny_bind (wpAny_pure ?_)
  refine wpAny_bind (PySem.W.kdu_collect (KdlSrc.rawValues (r := p) (d := d) (es := es) (ep := ep)) (I.ok.hd hcalm) ⟨view, ⟨o, ho, hx, hdat⟩⟩ (by omega) fun h' tk acc hh hit => ?_)
  have la : acc.toList.length = ks.length := by rw [Array.length_toList, hit.1, les]
  have va : Vals (ks.map fun e => e.2.2) acc.toList := by
    have go : ∀ (l : List Value) (m : List V), l.length = m.length → (∀ j v x, l[j]? = some v → m[j]? = some x → RelV x v) → Vals m l := fun l => by
      induction l with
      | nil =>
        intro m hl _
        cases m with
        | nil => exact .nil
        | cons _ _ => simp at hl
      | cons v r ih =>
        intro m hl hx
        cases m with
        | nil => simp at hl
        | cons x m => exact .cons (hx 0 v x rfl rfl) (ih m (by simpa using hl) fun j v x h1 h2 => hx (j + 1) v x (by simpa using h1) (by simpa using h2))
    refine go _ _ (by rw [la, List.length_map]) fun j v x h1 h2 => ?_
    rw [Array.getElem?_toList] at h1
    obtain ⟨hj, e⟩ := hit.2 j v h1
    rw [List.getElem?_map] at h2
    obtain ⟨e0, h3, rfl⟩ := Option.map_eq_some_iff.mp h2
    obtain ⟨y, hy, _, _, rv⟩ := pget1 rel h3
    have q := entry_at he j
    rw [hy, Array.getElem?_eq_getElem hj] at q
    have q : es[j] = entryOfKey (nestedKind X.prog X.w) y := Option.some.inj q
    rw [e, q]
    exact rv
  have lz : acc.toList.length ≤ sizeLine := by omega
  refine wpAny_bind (wpAny_newList ?_ lz)
  have hpp := Heap.get?_push_size h' (o := { cls := .type "list", data := .seq acc.toList.toArray }) rfl
  have e := each_of_vals va hds
  have eid : ds.map id = ds := List.map_id ds
  refine wpAny_bind (wpAny_holding ?_)
  refine PySem.W.list_sort_data (enc := id) (bs := ds) hpp e ?_ ?_ ?_ (by omega) (fun b hb => ?_) fun out lo eo => ?_
  · refine e.mono fun u d ⟨x, rx, t, z, ws, hx, hs, hd⟩ => ?_
    subst hx
    subst hd
    cases rx
    obtain ⟨its, rv, ht, _⟩ := I.tuple hs
    obtain ⟨o2, ho2, hc2, n2, hd2⟩ := ht
    refine ⟨[], .tuple (Heap.get?_push_of_some _ (hh _ _ ho2)) hc2 hd2 ?_, by simp⟩
    rw [List.toList_toArray]
    exact reads_strs rv
  · rw [eid]
    intro d1 h1 d2 h2
    have form : ∀ d ∈ ds, ∃ ws : List Str, d = .tuple (ws.map .str) := fun d hd => by
      obtain ⟨j, hj⟩ := List.mem_iff_getElem?.mp hd
      obtain ⟨v, _, t, x, ws, _, _, e⟩ := DX.pget hds hj
      exact ⟨_, e⟩
    obtain ⟨w1, rfl⟩ := form d1 h1
    obtain ⟨w2, rfl⟩ := form d2 h2
    exact alike_strs w1 w2
  · rw [eid]
    refine .inl fun d hd => ?_
    obtain ⟨j, hj⟩ := List.mem_iff_getElem?.mp hd
    obtain ⟨v, _, t, x, ws, _, _, e⟩ := DX.pget hds hj
    exact ⟨_, _, e⟩
  · obtain ⟨j, hj⟩ := List.mem_iff_getElem?.mp hb
    obtain ⟨v, _, t, x, ws, _, _, e⟩ := DX.pget hds hj
    have z : ∀ l : List Str, PyData.depthAll (l.map .str) = 0 := fun l => by
      induction l with
      | nil => rfl
      | cons x r ih =>
        show max 0 (PyData.depthAll (r.map .str)) = 0
        rw [ih] <;> rfl
    have dz : (id b).depth = 1 := by
      rw [e]
      show PyData.depthAll ((x :: ws).map .str) + 1 = 1
      rw [z]
    rw [dz]
    show X.A.units + 1 + 1 + 1 < cLine
    omega
  · obtain ⟨zs, vz, pz⟩ := vals_of_each eo
    obtain ⟨ep', he'⟩ := sortedHeap_at (out := List.toArray out) hpp
    refine wpAny_pure ⟨_, rfl, ?_⟩
    have I2 := I.kept (t' := tk) hh
    refine ⟨.ref h'.objs.size, _, I2.laid (a := h'.objs.size) (o := .lst zs) (fun b u hb => ?_) (Nat.le_refl _) ⟨?_, out, ep', vz, he'⟩, rfl, k zs _ pz (I2.hok.fresh (Nat.le_refl _))⟩
    · have x1 := Heap.lt_size hb
      rw [sortedHeap_old (Nat.ne_of_lt x1) (Nat.lt_of_lt_of_eq (Nat.lt_succ_of_lt x1) (size_push' _ _).symm)]
      exact Heap.get?_push_of_some _ hb
    · have := vz.length
      omega
end Vf

set_option Elab.async false
set_option linter.all false
set_option maxRecDepth 100000
set_option maxHeartbeats 4000000
/-! sets of texts: made of a list, sorted -/
namespace Vf
open PySem PySem.Spec PyProof.Rows L2
/-- the text of a set's entry -/
def enT (e : Int × Value) : Str := strV e.2
def EnOk (w : World) (e : Int × Value) : Prop := ∃ (x : Str) (tk : Tok), e = (hashStr w x, Value.str x tk)
/-- the set of texts at a, its members in some order -/
structure TSetA (w : World) (h : Heap) (a : Addr) (xs : List Str) (es : Array (Int × Value)) (t : SetTable) : Prop where
  ob : ∃ o ep, h.get? a = some o ∧ o.ExactSet ∧ o.data = .set es ep t
  ok : ∀ e ∈ es.toList, EnOk w e
  mem : (es.toList.map enT).Perm xs
  nd : xs.Nodup
  few : es.size < scanBound
  fits : t.fits es.size = true
  ris : Ris t.place.toList
  led : w.params.followText "set-order" = true ∨ t.led = true
def TSet (w : World) (h : Heap) (a : Addr) (xs : List Str) : Prop := ∃ es t, TSetA w h a xs es t
theorem TSet.at {w : World} {h h' : Heap} {a : Addr} {xs : List Str} (R : TSet w h a xs) (k : ∀ o, h.get? a = some o → h'.get? a = some o) : TSet w h' a xs := by
  obtain ⟨es, t, ⟨o, ep, ho, hx, hd⟩, r1, r2, r3, r4, r5, r6, r7⟩ := R
  exact ⟨es, t, ⟨o, ep, k o ho, hx, hd⟩, r1, r2, r3, r4, r5, r6, r7⟩
theorem enT_of {w : World} {e : Int × Value} (g : EnOk w e) (P : Program) (k : Str) : (strKind P w).is k e.2 = true ↔ enT e = k := by
  obtain ⟨x, tk, rfl⟩ := g
  show ((x == k) = true) ↔ x = k
  exact beq_iff_eq
section
variable {P : Program} {w : World} {A : Around} {E : Value → Shared → Prop} {s : Shared} {a : Addr} {xs : List Str}
theorem TSetA.elems {h : Heap} {es : Array (Int × Value)} {t : SetTable} (R : TSetA w h a xs es t) : ElemsOf (strKind P w) es.toList := fun e he => by
  obtain ⟨x, tk, rfl⟩ := R.ok e he
  exact ⟨⟨x, strKind_is P w x tk, rfl⟩, rfl⟩
/-- behind the table's new place -/
theorem tset_tail {g : Bool → Sem Unit} (hg : ∀ (b : Bool) (s₁ : Shared) (Q' : Unit → Shared → Prop), Q' () s₁ → wpAny (model P w) A (g b) Q' E s₁)
    {o : Obj} {es es1 : Array (Int × Value)} {ep : Nat} {t t2 : SetTable} (ho : s.heap.get? a = some o) (hex : o.ExactSet) (hd : o.data = .set es ep t)
    (ok1 : ∀ e ∈ es1.toList, EnOk w e) (m1 : (es1.toList.map enT).Perm xs) (nd : xs.Nodup) (hb1 : es1.size < scanBound) (hf2 : t2.fits es1.size = true) (hr : Ris t2.place.toList) (hl : w.params.followText "set-order" = true ∨ t2.led = true) {wasDummy : Bool} {R : Option Bool → Shared → Prop}
    (hR : ∀ h', Heap.SameBut a s.heap h' → TSet w h' a xs → R (some true) { s with heap := h' }) :
    wpAny (model P w) A (do
        storeSet a es1 t2
        if (!wasDummy && t2.tooFull) = true then do
            g (relayAll t2 es1 (SetTable.grown es1.size)).2.2
            storeSet a (relayAll t2 es1 (SetTable.grown es1.size)).1 (relayAll t2 es1 (SetTable.grown es1.size)).2.1
            pure (some true)
          else pure (some true)) R E s := by
  have at1 := store_at (es' := es1) (t' := t2) ho hd
  have same1 := Heap.SameBut.update s.heap a (Obj.putSet es1 t2)
  refine wpAny_bind (wpAny_storeSet_of ho hd ?_ (fits_of_scanBound hb1))
  split
  · have p3 := relayAll_perm t2 es1 (SetTable.grown es1.size)
    have f3 := relayAll_fits t2 es1 (SetTable.grown es1.size)
    have r3 := relayAll_ris t2 es1 (SetTable.grown es1.size)
    have l3 := relayAll_led t2 es1 (SetTable.grown es1.size)
    generalize relayAll t2 es1 (SetTable.grown es1.size) = Z at p3 f3 r3 l3 ⊢
    obtain ⟨es2, t3, gave⟩ := Z
    dsimp only at p3 f3 r3 l3 ⊢
    have z2 : es2.size = es1.size := by
      have := p3.length_eq
      rwa [Array.length_toList, Array.length_toList] at this
    refine wpAny_bind (hg _ _ _ (wpAny_bind (wpAny_storeSet_of at1 rfl ?_ (fits_of_scanBound (by rw [z2]; exact hb1)))))
    have at2 := store_at (es' := es2) (t' := t3) at1 rfl
    refine wpAny_pure (hR _ (same1.trans (Heap.SameBut.update _ a _)) ⟨es2, t3, ⟨_, _, at2, hex, rfl⟩, fun e he => ok1 e (p3.mem_iff.mp he), (p3.map enT).trans m1, nd, by rw [z2]; exact hb1, f3, r3, ?_⟩)
    rw [l3]
    exact hl
  · exact wpAny_pure (hR _ same1 ⟨es1, t2, ⟨_, _, at1, hex, rfl⟩, ok1, m1, nd, hb1, hf2, hr, hl⟩)
/-- one more text -/
def insT (xs : List Str) (k : Str) : List Str := if k ∈ xs then xs else k :: xs
def setT (zs : List Str) : List Str := zs.foldl insT []
theorem setT_snoc (zs : List Str) (z : Str) : setT (zs ++ [z]) = insT (setT zs) z := by
  unfold setT
  rw [List.foldl_append] <;> rfl
theorem insT_len (xs : List Str) (k : Str) : (insT xs k).length ≤ xs.length + 1 := by
  unfold insT
  split
  · omega
  · exact Nat.le_refl _
theorem foldT_len : ∀ (zs xs : List Str), (zs.foldl insT xs).length ≤ xs.length + zs.length
  | [], xs => Nat.le_refl _
  | z :: zs, xs => by
    have h1 := foldT_len zs (insT xs z)
    have h2 := insT_len xs z
    show (zs.foldl insT (insT xs z)).length ≤ xs.length + (zs.length + 1)
    omega
theorem setT_len (zs : List Str) : (setT zs).length ≤ zs.length := by
  have := foldT_len zs []
  simpa [setT] using this
theorem foldT_mem : ∀ (zs xs : List Str) (x : Str), x ∈ zs.foldl insT xs ↔ x ∈ xs ∨ x ∈ zs
  | [], xs, x => by simp
  | z :: zs, xs, x => by
    show x ∈ zs.foldl insT (insT xs z) ↔ _
    rw [foldT_mem zs (insT xs z) x, List.mem_cons]
    have e : x ∈ insT xs z ↔ x ∈ xs ∨ x = z := by
      unfold insT
      split
      · rename_i h
        exact ⟨.inl, fun q => q.elim id fun e => e ▸ h⟩
      · rw [List.mem_cons]
        exact Or.comm
    rw [e, or_assoc]
theorem setT_mem (zs : List Str) (x : Str) : x ∈ setT zs ↔ x ∈ zs := by
  unfold setT
  rw [foldT_mem]
  simp
theorem foldT_nd : ∀ (zs xs : List Str), xs.Nodup → (zs.foldl insT xs).Nodup
  | [], xs, h => h
  | z :: zs, xs, h => foldT_nd zs _ (by
    unfold insT
    split
    · exact h
    · rename_i q
      exact List.nodup_cons.mpr ⟨q, h⟩)
theorem setT_nd (zs : List Str) : (setT zs).Nodup := foldT_nd zs [] List.nodup_nil
theorem tset_add {k : Str} {tk : Tok} {Q : Bool → Shared → Prop} (R : TSet w s.heap a xs) (room : xs.length + 1 < scanBound)
    (hQ : ∀ (b : Bool) h', Heap.SameBut a s.heap h' → TSet w h' a (insT xs k) → Q b { s with heap := h' }) :
    wpAny (model P w) A (setAddHashed a (.str k tk) ((strKind P w).hash k)) Q E s := by
  obtain ⟨es, t, R⟩ := R
  have hel := R.elems (P := P)
  obtain ⟨⟨o, ep, ho, hx, hd⟩, ok, mem, nd, few, fits, ris, led⟩ := R
  have len : es.size = xs.length := by
    have := mem.length_eq
    rwa [List.length_map, Array.length_toList] at this
  have self : (strKind P w).is k (.str k tk) = true := strKind_is P w k tk
  have sc : (Value.str k tk).scannable = true := rfl
  have inx : k ∈ xs ↔ ∃ e ∈ es.toList, (strKind P w).is k e.2 = true := by
    rw [← mem.mem_iff, List.mem_map]
    exact ⟨fun ⟨e, he, q⟩ => ⟨e, he, (enT_of (ok e he) P k).2 q⟩, fun ⟨e, he, q⟩ => ⟨e, he, (enT_of (ok e he) P k).1 q⟩⟩
  unfold setAddHashed setAddHashedIn
  refine wpAny_holding (wpAny_bind (wpAny_setState_of ho hd fits ?_))
  dsimp only
  rw [byScan_of sc few hel, if_pos rfl]
  unfold setAddByScan
  refine wpAny_bind (wpAny_bind (wpAny_rule (wpAny_bind (wpAny_setScan_of self ho hd fits hel ?_))))
  have kept := hQ false s.heap (Heap.SameBut.refl a s.heap)
  have more := hQ true
  unfold insT at kept more
  cases hfi : List.findIdx? (fun e => (strKind P w).is k e.2) es.toList with
  | some j =>
    obtain ⟨hj, pj, _⟩ := List.findIdx?_eq_some_iff_getElem.mp hfi
    have ink : k ∈ xs := inx.2 ⟨_, List.getElem_mem hj, pj⟩
    rw [if_pos ink] at kept
    exact wpAny_pure (wpAny_pure (kept ⟨es, t, ⟨o, ep, ho, hx, hd⟩, ok, mem, nd, few, fits, ris, led⟩))
  | none =>
    have out : k ∉ xs := fun z => by
      obtain ⟨e, he, q⟩ := inx.1 z
      have := List.findIdx?_eq_none_iff.mp hfi e he
      rw [q] at this
      cases this
    rw [if_neg out] at more
    dsimp only
    have gaveOk : ∀ (b : Bool) (s₁ : Shared) (Q' : Unit → Shared → Prop), Q' () s₁ → wpAny (model P w) A (match b with | true => rule "set.scan.the-table-gave-way" | false => pure ()) Q' E s₁ := fun b s₁ Q' q => by
      cases b
      · exact wpAny_pure q
      · exact wpAny_rule q
    have p1 := layNew_perm t es ((strKind P w).hash k) (.str k tk)
    have f1 := layNew_fits t es ((strKind P w).hash k) (.str k tk)
    have r1 := layNew_ris t es ((strKind P w).hash k) (.str k tk) ris
    have l1 := layNew_led t es ((strKind P w).hash k) (.str k tk)
    generalize layNew t es ((strKind P w).hash k) (.str k tk) = Z at p1 f1 r1 l1 ⊢
    obtain ⟨es1, t1, wasDummy, gave⟩ := Z
    dsimp only at p1 f1 r1 l1 ⊢
    rw [Array.toList_push] at p1
    have pc : es1.toList.Perm (((strKind P w).hash k, Value.str k tk) :: es.toList) := p1.trans (List.perm_append_singleton _ _)
    have ok1 : ∀ e ∈ es1.toList, EnOk w e := fun e he => by
      rcases List.mem_cons.mp (pc.mem_iff.mp he) with rfl | z
      · exact ⟨k, tk, rfl⟩
      · exact ok e z
    have m1 : (es1.toList.map enT).Perm (k :: xs) := (pc.map enT).trans (mem.cons k)
    have nd1 : (k :: xs).Nodup := List.nodup_cons.mpr ⟨out, nd⟩
    have few1 : es1.size < scanBound := by
      have := m1.length_eq
      rw [List.length_map, Array.length_toList, List.length_cons] at this
      omega
    have led1 : w.params.followText "set-order" = true ∨ t1.led = true := by
      rw [l1]
      exact led
    refine wpAny_bind (gaveOk _ _ _ ?_)
    split
    · refine wpAny_bind ?_
      rw [hashByValue_scannable 8 sc]
      refine wpAny_pure (tset_tail gaveOk ho hx hd ok1 m1 nd1 few1 ?_ ?_ ?_ fun h' sb r => ?_)
      · split
        · first | exact SetTable.fits_plain_off f1 | exact f1
        · first | exact f1 | exact SetTable.fits_plain_off f1
      · split <;> exact r1
      · split <;> exact led1
      · exact wpAny_pure (more h' sb r)
    · refine wpAny_bind (wpAny_pure ?_)
      rw [if_pos rfl]
      exact tset_tail gaveOk ho hx hd ok1 m1 nd1 few1 f1 r1 led1 fun h' sb r => wpAny_pure (more h' sb r)

/-- set.update's loop over texts -/
theorem tset_loop {I : Addr} {fp wr : List Addr} {G : Array GenState → Array GenState → Prop} {n : Nat} {Pv : Nat → Value → Prop} {St : Nat → Shared → Prop} {R : Result → Shared → Prop}
    (W : WalksS P w A.in1 I fp wr G n Pv St) {S : Addr} (out : S ∉ fp) {zs : List Str} (hn : zs.length = n) (few : zs.length + 1 < scanBound) (hv : ∀ i v, Pv i v → ∃ z t, zs[i]? = some z ∧ v = Value.str z t) :
    ∀ (left i : Nat) (s : Shared), i + left = n → St i s → TSet w s.heap S (setT (zs.take i)) →
      (∀ s', Moved (S :: wr) G s s' → TSet w s'.heap S (setT zs) → R (.ok (.ret .none)) s') → codeAny (model P w) A (.builtin "set.update.loop" ⟨[.ref S, .ref I], []⟩) R s := by
  have away : S ∉ wr := fun h => out (W.sub _ h)
  have wide : ∀ b ∈ wr, b ∈ S :: wr := fun b => List.mem_cons_of_mem S
  intro left
  induction left with
  | zero =>
    intro i s hi hst T hR
    obtain rfl : i = n := hi
    refine codeAny_builtin PyProof.Rows.F.entry_set_update_loop (?_ : wpAny _ _ _ _ _ _)
    rw [Around.under_plainId PyProof.Rows.F.plain_set_update_loop ⟨[.ref S, .ref I], []⟩]
    refine wpAny_bind (m := pyNext (.ref I)) (W.done s _ _ hst fun s' hm => ?_)
    rw [← hn, List.take_length] at T
    exact wpAny_pure (hR s' (hm.mono wide) (T.at fun o => hm.heap S o away))
  | succ left ih =>
    intro i s hi hst T hR
    refine codeAny_builtin PyProof.Rows.F.entry_set_update_loop (?_ : wpAny _ _ _ _ _ _)
    rw [Around.under_plainId PyProof.Rows.F.plain_set_update_loop ⟨[.ref S, .ref I], []⟩]
    refine wpAny_bind (m := pyNext (.ref I)) (W.item i s _ _ (by omega) hst fun v s1 hp hst1 hm => ?_)
    obtain ⟨z, t, hz, rfl⟩ := hv i v hp
    have T1 : TSet w s1.heap S (setT (zs.take i)) := T.at fun o => hm.heap S o away
    have next : setT (zs.take (i + 1)) = insT (setT (zs.take i)) z := by
      rw [← setT_snoc, List.take_add_one, hz] <;> rfl
    refine wpAny_bind (m := holding [Value.str z t] (setAdd S (.str z t))) (wpAny_holding ?_)
    unfold setAdd
    refine wpAny_holding (wpAny_bind ((PySem.strKind P w).pyHash (k := z) (strKind_is P w z t) ?_))
    refine tset_add (s := { s1 with toks := s1.toks + 1 }) T1 ?_ fun b h2 same T2 => ?_
    · have l1 := setT_len (zs.take i)
      have l2 : (zs.take i).length ≤ zs.length := by
        rw [List.length_take]
        omega
      omega
    have keep : ∀ c o, c ≠ S → s1.heap.get? c = some o → h2.get? c = some o := fun c o hc e => (same.2 c hc).trans e
    rw [← next] at T2
    refine wpAny_pure ⟨plainId_quiet PyProof.Rows.F.plain_set_update_loop _, ih (i + 1) _ (by omega) (W.frame _ s1 _ _ hst1 (Nat.le_succ _) fun c hc o => keep c o fun e => out (e ▸ hc)) T2 fun s3 hm3 T3 => hR s3 ?_ T3⟩
    exact Moved.trans W.gtrans ((hm.mono wide).then_heap (Nat.le_succ _) fun c o hc => keep c o fun e => hc (e ▸ List.mem_cons_self)) hm3

/-- set() just made -/
abbrev set0 (w : World) : Obj := { cls := .type "set", dict := none, data := .set #[] 0 (.fresh 0 0 (!w.params.followText "set-order")) }
theorem tset_none {h : Heap} {d : Addr} (e : h.get? d = some (set0 w)) : TSet w h d [] := by
  refine ⟨#[], _, ⟨_, 0, e, ⟨rfl, rfl, rfl⟩, rfl⟩, fun x hx => absurd hx (by simp), .nil, .nil, by decide, rfl, .nil, ?_⟩
  show w.params.followText "set-order" = true ∨ (!w.params.followText "set-order") = true
  cases w.params.followText "set-order"
  · exact .inr rfl
  · exact .inl rfl
set_option maxRecDepth 100000 in
set_option maxHeartbeats 3200000 in
theorem call_setL {l : Addr} {its : Array Value} {zs : List Str} {Q : Value → Shared → Prop} (hh : A.handled = none) (hl : s.heap.IsList l its) (rv : Vals (zs.map V.str) its.toList) (few : zs.length + 1 < scanBound)
    (k : ∀ (h' : Heap) (tk : Nat), TSet w h' s.heap.objs.size (setT zs) → (∀ b o, s.heap.get? b = some o → h'.get? b = some o) → Q (.ref s.heap.objs.size) { s with heap := h', toks := tk }) :
    wpAny (model P w) A (call (.type "set") [.ref l]) Q E s := by
  have len : zs.length = its.size := by
    have := rv.length
    rwa [List.length_map, Array.length_toList] at this
  have made := PySem.F.called_set.made
  have sub := PySem.F.called_set.sub
  obtain ⟨c, tl, mro⟩ := PySem.F.called_set.mro
  refine wpAny_call (codeAny_of_tree (?_ : wpAny _ _ (callAny (.type "set") _) _ _ _))
  refine wpAny_pure ⟨Code.quiet_builtin _ (by decide +kernel), codeAny_builtin PySem.F.entry_type_call ?_⟩
  rw [Around.under_plain (weight_type_call_type "set" [.ref l] []) rfl]
  have not := PySem.F.called_set.notType
  have can := PySem.F.called_set.canCreate
  have tc := PySem.F.typeCall_set_1 (.ref l)
  repeat (any_goals (first | assumption | wp_step))
  refine codeAny_mono (code_set_led1 (.ref l) (E := E) (Q₁ := fun v s1 => v = .ref s.heap.objs.size ∧ s1 = { s with heap := s.heap.push (set0 w) }) ⟨rfl, rfl⟩) fun r s1 hr => ?_
  match r, hr with
  | .error e, hr => exact hr
  | .ok (.ret v), hr =>
    obtain ⟨rfl, rfl⟩ := hr
    have at0 : (s.heap.push (set0 w)).get? s.heap.objs.size = some (set0 w) := Heap.get?_push_size _ rfl
    have ty : Shared.TypeIs { s with heap := s.heap.push (set0 w) } (.ref s.heap.objs.size) "set" := ⟨_, at0, rfl⟩
    have look := PySem.F.called_set.init.lookup
    have bnd := PySem.F.called_set.init.bind (.ref s.heap.objs.size)
    repeat (any_goals (first | assumption | wp_step))
    refine codeAny_mono (codeAny_call_builtin (R := wants (fun r s2 => r = .none ∧ ∃ h' tk, s2 = { s with heap := h', toks := tk } ∧ TSet w h' s.heap.objs.size (setT zs) ∧ ∀ b o, s.heap.get? b = some o → h'.get? b = some o) E) PySem.F.called_set.init.plain PySem.F.entry_set_init (check_set_init_1 ty ?_)) fun r2 s2 hr2 => ?_
    · obtain ⟨⟨ocls, odict, odata, oslots⟩, hol, hcl, nl, hdl⟩ := hl
      dsimp only at hcl hdl
      subst hcl hdl
      have at1 : (s.heap.push (set0 w)).get? l = some { cls := .type "list", dict := odict, data := .seq its nl, slots := oslots } := Heap.get?_push_of_some _ hol
      have n1 := PySem.F.sub_list_set
      have n2 := PySem.F.sub_list_frozenset
      have n3 : (Value.type "list" == Value.type "dict") = false := by decide
      have isl : (s.heap.push (set0 w)).IsList l its := ⟨_, at1, rfl, nl, rfl⟩
      have lt : l < s.heap.objs.size := Heap.lt_size hol
      unfold Builtin.«set.__init__» noKeywords Builtin.Frozenset.updateFrom
      generalize hit : pyIter = it
      wp_walk
      subst hit
      refine wpAny_pyIter_list isl (wpAny_bind (wpAny_runValue ?_))
      have hh3 : A.in1.in1.in1.handled = none := by simp [hh]
      have sz : (s.heap.push (set0 w)).objs.size = s.heap.objs.size + 1 := size_push' _ _
      have ne : l ≠ (s.heap.push (set0 w)).objs.size := by
        rw [sz]
        exact Nat.ne_of_lt (Nat.lt_succ_of_lt lt)
      refine tset_loop ((Walks.list hh3 _ l ne its).toS) (S := s.heap.objs.size) (fun hm => ?_) len few (fun i v hv => ?_) its.size 0 _ (by omega) ⟨⟨_, Heap.get?_push_size _ rfl, rfl, rfl⟩, isl.push _⟩ (tset_none (Heap.get?_push_of_some _ at0)) fun s' hm T => ?_
      · rw [sz] at hm
        rcases List.mem_cons.mp hm with e | e
        · exact Nat.lt_irrefl _ (Nat.lt_of_lt_of_eq (Nat.lt_succ_self _) e.symm)
        · exact Nat.lt_irrefl _ (Nat.lt_of_le_of_lt (Nat.le_of_eq (List.mem_singleton.mp e)) lt)
      · have hv' : its.toList[i]? = some v := by rw [Array.getElem?_toList]; exact hv
        obtain ⟨x, hx, rx⟩ : ∃ x, zs[i]? = some x ∧ RelV (.str x) v := by
          have go : ∀ (zs : List Str) (us : List Value) (i : Nat), Vals (zs.map V.str) us → us[i]? = some v → ∃ x, zs[i]? = some x ∧ RelV (.str x) v := fun zs => by
            induction zs with
            | nil =>
              intro us i r h
              cases r
              simp at h
            | cons z zs ih =>
              intro us i r h
              cases r with
              | cons a b =>
                cases i with
                | zero =>
                  cases h
                  exact ⟨z, rfl, a⟩
                | succ i => exact ih _ i b h
          exact go zs _ i rv hv'
        obtain ⟨t, rfl⟩ := rx
        exact ⟨x, t, hx, rfl⟩
      · obtain ⟨h', g2, d2, tk, o2⟩ := s'
        obtain rfl : g2 = s.gens := hm.gens
        obtain rfl : d2 = s.drawn := hm.drawn
        obtain rfl : o2 = s.os := hm.os
        refine (wpAny_pure ?_ : wpAny _ _ _ _ _ _)
        refine (show wpAny _ _ (ret Value.none) _ _ _ from ?_)
        refine wpAny_pure ⟨rfl, h', tk, rfl, T, fun b o e => ?_⟩
        have lb := Heap.lt_size e
        refine hm.heap b o (fun z => ?_) (Heap.get?_push_of_some _ (Heap.get?_push_of_some _ e))
        rw [sz] at z
        rcases List.mem_cons.mp z with z | z
        · exact absurd lb (by rw [z]; exact Nat.lt_irrefl _)
        · exact absurd lb (by rw [List.mem_singleton.mp z]; exact Nat.not_lt_of_le (Nat.le_succ _))
    · match r2, hr2 with
      | .error e, hr2 => exact hr2
      | .ok (.ret v), hr2 =>
        obtain ⟨rfl, h', tk, rfl, T, old⟩ := hr2
        repeat (any_goals (first | assumption | wp_step))
        exact k h' tk T old
end
end Vf

set_option Elab.async false
set_option linter.all false
set_option maxRecDepth 100000
set_option maxHeartbeats 4000000
/-! set(xs) and sorted(set(xs)) of texts, as calls -/
namespace Vf
open PySem PySem.Spec PyProof.Rows L2
def setO (w : World) (a : Addr) (xs : List Str) : HO := .ext fun h => TSet w h a xs
theorem setO_ok {P : Program} {w : World} {H : Hp} {h : Heap} {a : Addr} {xs : List Str} (T : TSet w h a xs) : ObjOk P w H h a (setO w a xs) := by
  refine ⟨T, ?_, fun h1 h2 x k => TSet.at x k⟩
  obtain ⟨es, t, ⟨o, ep, e, _⟩, _⟩ := T
  exact ⟨o, e⟩
theorem call_setTx {X : Cx} (hc : X.calm = true) : CallR X (.type "set") fun vs H Q => ∃ (a : Addr) (zs : List Str), vs = [.ref a] ∧ SqL X.K H a (zs.map V.str) ∧ zs.length + 1 < scanBound ∧
    ∀ p : Addr, H p = none → Q (.ref p) (upd H p (setO X.w p (setT zs))) := by
  rintro pins s σ H vs us Q I r ⟨a, zs, rfl, hq, few, k⟩
  obtain ⟨u, rfl, ru⟩ := vals1 r
  obtain rfl : u = Value.ref a := ru
  obtain ⟨its, rv, pl, hz⟩ := I.list hq
  refine call_setL (P := X.prog) (w := X.w) (I.ok.hd hc) pl.isList (zs := zs) (by simpa using rv) few fun h' tk T old => ?_
  exact ⟨.ref s.heap.objs.size, _, I.laid (a := s.heap.objs.size) (o := setO X.w s.heap.objs.size (setT zs)) (fun b u hb => old b u hb) (Nat.le_refl _) (setO_ok T), rfl, k _ (I.hok.fresh (Nat.le_refl _))⟩
theorem each_str {es : List (Int × Value)} {w : World} (ok : ∀ e ∈ es, EnOk w e) : ∀ {out : List Value}, out.Perm (es.map (·.2)) → ∀ v ∈ out, ∃ x t, v = Value.str x t := fun pm v hv => by
  obtain ⟨e, he, rfl⟩ := List.mem_map.mp (pm.mem_iff.mp hv)
  obtain ⟨x, t, rfl⟩ := ok e he
  exact ⟨x, t, rfl⟩
theorem strs_back : ∀ {us : List Value}, (∀ v ∈ us, ∃ x t, v = Value.str x t) → StrsAre us (us.map strV) ∧ Vals ((us.map strV).map V.str) us
  | [], _ => ⟨.nil, .nil⟩
  | v :: us, h => by
    obtain ⟨x, t, rfl⟩ := h v List.mem_cons_self
    obtain ⟨a, b⟩ := strs_back fun u hu => h u (List.mem_cons_of_mem _ hu)
    exact ⟨.cons x t a, .cons ⟨t, rfl⟩ b⟩
/-- sorted(set of texts) -/
theorem call_sortedTx {X : Cx} (hc : X.calm = true) : CallR X (.builtin "sorted") fun vs H Q => ∃ (a : Addr) (xs : List Str), vs = [.ref a] ∧ H a = some (setO X.w a xs) ∧
    ∀ (ys : List Str) (p : Addr), ys.Perm xs → ys.Pairwise (fun x y => ltS y x = false) → H p = none → Q (.ref p) (upd H p (.lst (ys.map V.str))) := by
  rintro pins s σ H vs us Q I r ⟨a, xs, rfl, ha, k⟩
  obtain ⟨u, rfl, ru⟩ := vals1 r
  obtain rfl : u = Value.ref a := ru
  obtain ⟨es, t, ⟨o, ep, ho, hx, hd⟩, ok, mem, nd, few, fits, ris, led⟩ := (show ObjOk X.prog X.w H s.heap a (setO X.w a xs) from I.hok a _ ha).1
  refine PySem.Calls.call_function_entry kind_sorted plain_sorted entry_sorted (args_sorted1 _) ?_
  refine (show wpAny _ _ (Builtin.sorted { pos := [Value.ref a] }) _ _ _ from ?_)
  unfold Builtin.sorted
  refine wpAny_bind (wpAny_pure ?_)
  refine wpAny_bind (collect_set (A := X.A.in1) (I.ok.hd hc) ⟨o, ho, hx.1, hd⟩ fits few ris led fun s1 us old1 z1 g1 o1 pm => ?_)
  have each := each_str ok pm
  obtain ⟨sa, rv⟩ := strs_back each
  have lz : us.length ≤ sizeLine := by
    rw [pm.length_eq, List.length_map, Array.length_toList]
    exact fits_of_scanBound few
  refine wpAny_bind (wpAny_newList ?_ lz)
  have hp := Heap.get?_push_size s1.heap (o := { cls := .type "list", data := .seq us.toArray }) rfl
  refine wpAny_bind (wpAny_holding (wpAny_call_entry slot_list_sort ⟨_, hp, rfl⟩ entry_list_sort ?_ (args_list_sort _)))
  refine SrtO.list_sort_ord (swo_ltS strV) (vs := us) (n := 0) hp lz (fun h2 h3 _ => ⟨oneType', fun Q E hq => ?_, fun p q hm hm' => ?_⟩) fun out h1 h2 => ?_
  · match us, sa, h2 with
    | v1 :: v2 :: rest, sa, _ =>
      rw [keyKind_strs sa]
      exact wpAny_pure hq
  · obtain ⟨x, t, e⟩ := each _ hm
    obtain ⟨y, t', e'⟩ := each _ hm'
    refine (show wpAny _ _ (keyLt' oneType' p.1 q.1) (fun r s' => s' = _ ∧ r = ltS (strV p.1) (strV q.1)) (fun _ _ => False) _ from ?_)
    rw [e, e', keyLt'_oneType]
    exact oneLt_str ⟨rfl, rfl⟩
  · obtain ⟨e, he⟩ := sortedHeap_at (out := out.toArray) hp
    obtain ⟨_, vy⟩ := strs_back fun v hv => each v (h2.perm.mem_iff.mp hv)
    refine ⟨_, rfl, wpAny_pure ⟨_, rfl, ?_⟩⟩
    obtain ⟨hp1, gn1, dr1, tk1, os1⟩ := s1
    obtain rfl : os1 = s.os := o1
    have fresh := I.hok.fresh z1
    have far : ∀ (b : Addr) (u : Obj), s.heap.get? b = some u → (sortedHeap (hp1.push { cls := .type "list", data := .seq us.toArray }) hp1.objs.size us out.toArray).get? b = some u := fun b u hb => by
      have x1 := Heap.lt_size (old1 b u hb)
      rw [sortedHeap_old (Nat.ne_of_lt x1) (Nat.lt_of_lt_of_eq (Nat.lt_succ_of_lt x1) (size_push' _ _).symm)]
      exact Heap.get?_push_of_some _ (old1 b u hb)
    have J : L2.Inv X pins σ (upd H hp1.objs.size (.lst ((out.map strV).map V.str))) { s with heap := sortedHeap (hp1.push { cls := .type "list", data := .seq us.toArray }) hp1.objs.size us out.toArray, gens := gn1, drawn := dr1, toks := tk1 } := by
      refine I.call (ch := []) (Un.laid far z1 fresh) (I.hok.laid far z1 ⟨?_, out, e, vy, he⟩) (by rw [show gn1 = s.gens from g1]; exact I.bare) (fun _ z => nomatch z)
      rw [List.length_map, List.length_map, h2.perm.length_eq]
      exact lz
    refine ⟨.ref hp1.objs.size, _, J, rfl, k _ _ ?_ ?_ fresh⟩
    · refine ((h2.perm.trans pm).map strV).trans ?_
      rw [List.map_map]
      exact mem
    · exact List.pairwise_map.mpr (h1.imp fun {x y} h => h)
end Vf

set_option Elab.async false
set_option linter.all false
set_option maxRecDepth 100000
set_option maxHeartbeats 4000000
/-! a method of a dict whose keys are nested tuples -/
namespace Vf
open PySem PySem.Spec PyProof.Rows L2
def NdTy (K : PySem.W.Frag) (P : Program) (w : World) (H : Hp) (x : V) : Prop := ∃ (d : Addr) (ks : List (NestedKey × Addr × V)), x = .ref d ∧ NdIn K P w H d ks
section
variable {X : Cx} {o e : Expr} {es : List Expr} {to : TE} {t : TA} {name id : String} {r : V → List V → Hp → VK → Prop} {apos cpos : Pos}
theorem nd_ty {pins : List (Addr × Obj)} {s : Shared} {σ : L2.St} {H : Hp} {x : V} {v : Value} (I : L2.Inv X pins σ H s) (rx : RelV x v) (h : NdTy X.K X.prog X.w H x) : s.TypeIs v "dict" ∧ ∀ b, v = .ref b → ∃ ob, s.heap.get? b = some ob ∧ ob.dict = none := by
  obtain ⟨d, ks, rfl, N⟩ := h
  obtain rfl : v = Value.ref d := rx
  obtain ⟨ys, _, _, _, D⟩ := N.dict I
  refine ⟨D.typeIs, fun b e => ?_⟩
  cases e
  obtain ⟨o, es, ep, ho, hx, _⟩ := D
  exact ⟨o, ho, hx.2.1⟩
def tNM (K : PySem.W.Frag) (P : Program) (w : World) (r : V → List V → Hp → VK → Prop) (to : TE) (t : TA) : TE := fun σ H Q => to σ H fun x H1 => NdTy K P w H1 x ∧ t σ H1 fun xs H2 => r x xs H2 Q
theorem pe_nm (slot : Slot "dict" name id) (hty : typeOf (.builtin id) = pure (.type "method_descriptor")) (hm : MtR X id r) (ho : PE X o to) (ha : PA X (e :: es) t)
    (hb : attributeBase o name X.env (eval o X.env) = eval o X.env := by rfl)
    (hf : ((backTo cpos (starEach (e :: es) X.env)).all (fun x => !x.1) && (backToKw cpos (keywordEach [] X.env)).all (fun x => x.1.isSome) && decide ((e :: es).length + ([] : List Keyword).length + (if ([] : List Keyword).isEmpty then 0 else 1) < 30)) = true := by rfl)
    (hl : (apos.endLine == cpos.line) = true := by rfl) (hst : starEach (e :: es) X.env = (false, eval e X.env) :: starEach es X.env := by rfl) (hp : (backTo cpos (starEach es X.env)).any (·.1) = false := by rfl) :
    PE X (.Call (.Attribute o name apos) (e :: es) [] cpos) (tNM X.K X.prog X.w r to t) := by
  refine ⟨fun pins s σ H Q I h => wpAny_Call_method_late hb hf hl rfl (thn (ho.run pins s σ H _ I h) fun v s1 ⟨x, H1, I1, r1, ty, q1⟩ => ?_)⟩
  obtain ⟨h1, h2⟩ := nd_ty I1 r1 ty
  refine ⟨"dict", id, PySem.F.plainAttrs_dict, slot, hty, h1, h2, ?_⟩
  have args := ha.run cpos pins s1 σ H1 _ I1 q1
  rw [hst] at args ⊢
  refine Calls.callWith_builtin (show (false || (backTo cpos (starEach es X.env)).any (·.1)) = false by rw [hp] <;> rfl) (Calls.evalArgs_plain (thn args fun us s2 ⟨vs, H2, I2, r2, q2⟩ => ?_))
  exact hm pins s2 σ H2 x vs v us Q I2 r1 r2 q2
def tNM0 (K : PySem.W.Frag) (P : Program) (w : World) (r : V → List V → Hp → VK → Prop) (to : TE) : TE := fun σ H Q => to σ H fun x H1 => NdTy K P w H1 x ∧ r x [] H1 Q
theorem pe_nm0 (slot : Slot "dict" name id) (hty : typeOf (.builtin id) = pure (.type "method_descriptor")) (hm : MtR X id r) (ho : PE X o to)
    (hb : attributeBase o name X.env (eval o X.env) = eval o X.env := by rfl) (hl : (apos.endLine == cpos.line) = true := by rfl) : PE X (.Call (.Attribute o name apos) [] [] cpos) (tNM0 X.K X.prog X.w r to) := by
  refine ⟨fun pins s σ H Q I h => wpAny_Call_method0_late hb hl (thn (ho.run pins s σ H _ I h) fun v s1 ⟨x, H1, I1, r1, ty, q1⟩ => ?_)⟩
  obtain ⟨h1, h2⟩ := nd_ty I1 r1 ty
  exact ⟨"dict", id, PySem.F.plainAttrs_dict, slot, hty, h1, h2, Calls.callWith_builtin rfl (PySem.evalArgs_none (hm pins s1 σ H1 x [] v [] _ I1 r1 .nil q1))⟩
end
end Vf

set_option Elab.async false
set_option linter.all false
set_option maxRecDepth 100000
set_option maxHeartbeats 4000000
/-! dicts with None among their keys -/
namespace Vf
open PySem PySem.Spec PyProof.Rows L2
def okV : Option Key → V
  | none => .non
  | some k => kV k
def NoAt (P : Program) (w : World) (h : Heap) (d : Addr) (xs : List (Option Key × V)) : Prop :=
  (d == sysModules) = false ∧ xs.length ≤ sizeLine ∧ ∃ ys : List (Option Key × Value), KV xs ys ∧ h.DictOf (noneKind P w) d ys
def noO (P : Program) (w : World) (d : Addr) (xs : List (Option Key × V)) : HO := .ext fun h => NoAt P w h d xs
theorem noO_ok {P : Program} {w : World} {H : Hp} {h : Heap} {d : Addr} {xs : List (Option Key × V)} (n : NoAt P w h d xs) : ObjOk P w H h d (noO P w d xs) := by
  refine ⟨n, ?_, fun h1 h2 x k => ?_⟩
  · obtain ⟨_, _, _, _, o, _, _, e, _⟩ := n
    exact ⟨o, e⟩
  · obtain ⟨a, b, ys, r, o, es, ep, e, z⟩ := x
    exact ⟨a, b, ys, r, o, es, ep, k o e, z⟩
theorem pairs_some {P : Program} {w : World} {es : List DictEntry} {vs : List (Key × Value)} (h : Pairs (mixKind P w) es vs) : Pairs (noneKind P w) es (vs.map fun q => (some q.1, q.2)) := by
  induction h with
  | nil => exact .nil
  | cons a b _ ih => exact .cons a b ih
theorem dict_some {P : Program} {w : World} {h : Heap} {a : Addr} {vs : List (Key × Value)} (d : h.DictOf (mixKind P w) a vs) : h.DictOf (noneKind P w) a (vs.map fun q => (some q.1, q.2)) := by
  obtain ⟨o, es, ep, ho, hx, hdt, hk, hp, hn⟩ := d
  refine ⟨o, es, ep, ho, hx, hdt, fun e he => ?_, pairs_some hp, ?_⟩
  · obtain ⟨k, h1, h2⟩ := hk e he
    exact ⟨some k, h1, h2⟩
  · rw [List.map_map]
    have e : (vs.map fun q => (some q.1 : Option Key)) = (vs.map (·.1)).map some := by rw [List.map_map]; rfl
    show (vs.map fun q => (some q.1 : Option Key)).Nodup
    rw [e]
    exact List.Pairwise.map _ (fun a b n e => n (Option.some.inj e)) hn
def liftK (kvs : List (Key × V)) : List (Option Key × V) := kvs.map fun q => (some q.1, q.2)
theorem kv_some {kvs : List (Key × V)} {vs : List (Key × Value)} (r : KV kvs vs) : KV (liftK kvs) (vs.map fun q => (some q.1, q.2)) := by
  unfold KV at r ⊢
  unfold liftK
  induction r with
  | nil => exact .nil
  | cons a _ ih => exact .cons ⟨congrArg some a.1, a.2⟩ ih
/-- such a dict stands in the heap, locked or not -/
def NoR (P : Program) (w : World) (H : Hp) (d : Addr) (xs : List (Option Key × V)) : Prop := Rd H d (noO P w d xs) ∨ ∃ kvs, Rd H d (.dK kvs) ∧ xs = liftK kvs
theorem NoR.dict {X : Cx} {pins : List (Addr × Obj)} {s : Shared} {σ : L2.St} {H : Hp} {d : Addr} {xs : List (Option Key × V)} (I : L2.Inv X pins σ H s) (N : NoR X.prog X.w H d xs) :
    (d == sysModules) = false ∧ xs.length ≤ sizeLine ∧ ∃ ys : List (Option Key × Value), KV xs ys ∧ s.heap.DictOf (noneKind X.prog X.w) d ys := by
  rcases N with h | ⟨kvs, h, rfl⟩
  · exact (show ObjOk X.prog X.w H s.heap d (noO X.prog X.w d xs) from rd_of I.hok h).1
  · obtain ⟨z, hd, vs, rel, D⟩ := dk_rd I.hok h
    exact ⟨hd, by unfold liftK; rw [List.length_map]; exact z, _, kv_some rel, dict_some D⟩
/-! ### dict(a list of pairs) -/
def mergeN (kvs more : List (Option Key × V)) : List (Option Key × V) := more.foldl (fun acc kv => putK acc kv.1 kv.2) kvs
theorem kvN_merge : ∀ {more : List (Option Key × V)} {rs : List (Option Key × Value)} {kvs : List (Option Key × V)} {vs : List (Option Key × Value)}, KV more rs → KV kvs vs → KV (mergeN kvs more) (merged vs rs) := by
  intro more rs kvs vs r
  unfold KV at r
  induction r generalizing kvs vs with
  | nil => intro q; exact q
  | @cons p q ps qs h t ih =>
    intro r0
    have e : KV (putK kvs p.1 p.2) (stored vs q.1 q.2) := by
      have := r0.put p.1 h.2
      rw [← h.1]; exact this
    exact ih e
theorem mergeN_len : ∀ (more kvs : List (Option Key × V)), (mergeN kvs more).length ≤ kvs.length + more.length
  | [], kvs => Nat.le_refl _
  | p :: r, kvs => by
    have h1 := mergeN_len r (putK kvs p.1 p.2)
    have h2 := length_putK kvs p.1 p.2
    show (mergeN (putK kvs p.1 p.2) r).length ≤ _
    rw [List.length_cons]
    omega
theorem okV_is {k : Option Key} {u : Value} (h : RelV (okV k) u) : nkIs k u = true := by
  cases k with
  | none =>
    cases (show u = Value.none from h)
    rfl
  | some k =>
    cases k with
    | inl i =>
      obtain ⟨t, e⟩ := (show ∃ t, u = Value.int i t from h)
      subst e
      exact keyIs_int i t
    | inr x =>
      obtain ⟨t, e⟩ := (show ∃ t, u = Value.str x t from h)
      subst e
      exact keyIs_str x t
theorem nk_rel {k : Option Key} {u : Value} (h : nkIs k u = true) : RelV (okV k) u := by
  cases k with
  | none => exact nk_none h
  | some k => exact relV_key h
section
variable {X : Cx} {pins : List (Addr × Obj)} {s : Shared} {σ : L2.St} {H : Hp}
theorem pairs_ofN (I : L2.Inv X pins σ H s) : ∀ {ps : List Addr} {kvs : List (Option Key × V)}, Paired (fun p kv => SqT X.K H p [okV kv.1, kv.2]) ps kvs →
    ∃ (prs : List (Value × Value)) (ys : List (Option Key × Value)), KV kvs ys ∧ prs.length = ps.length ∧ ys.length = ps.length ∧
      ∀ (j : Nat) (u v : Value), prs[j]? = some (u, v) → ∃ (t : Addr) (k : Option Key), ps[j]? = some t ∧ ys[j]? = some (k, v) ∧ PySem.PairAt s.heap t u v ∧ nkIs k u = true
  | _, _, .nil => ⟨[], [], .nil, rfl, rfl, fun j u v e => by simp at e⟩
  | _, _, .cons (a := p) (b := kv) h t => by
    obtain ⟨prs, ys, r, l1, l2, hp⟩ := pairs_ofN I t
    obtain ⟨its, rv, ⟨o, h1, h2, n, h3⟩, _⟩ := I.tuple h
    obtain ⟨u, y, ei, ru, ry⟩ := vals2 rv
    subst ei
    refine ⟨(u, y) :: prs, (kv.1, y) :: ys, .cons ⟨rfl, ry⟩ r, by rw [List.length_cons, List.length_cons, l1], by rw [List.length_cons, List.length_cons, l2], fun j u' v' e => ?_⟩
    cases j with
    | zero =>
      have e' : (u, y) = (u', v') := Option.some.inj e
      cases e'
      exact ⟨p, kv.1, rfl, rfl, .inl ⟨o, h1, h2, n, h3⟩, okV_is ru⟩
    | succ j =>
      obtain ⟨t', k', e1, e2, e3, e4⟩ := hp j u' v' (by simpa using e)
      exact ⟨t', k', by simpa using e1, by simpa using e2, e3, e4⟩
end
theorem call_dictN {X : Cx} (hcalm : X.calm = true) : CallR X (.type "dict") (fun xs H Q => ∃ (a : Addr) (ps : List Addr) (kvs : List (Option Key × V)), xs = [.ref a] ∧ SqL X.K H a (ps.map V.ref) ∧ Paired (fun p kv => SqT X.K H p [okV kv.1, kv.2]) ps kvs ∧
    ∀ p, H p = none → Q (.ref p) (upd H p (noO X.prog X.w p (mergeN [] kvs)))) := by
  intro pins s σ H xs us Q I r q
  obtain ⟨a, ps, kvs, ex, hq, hp, q⟩ := q
  subst ex
  obtain ⟨u, eu, rx⟩ := vals1 r
  subst eu
  cases rx
  obtain ⟨its, rv, pl, hz⟩ := I.list hq
  have ei := refs_at rv
  subst ei
  rw [List.length_map] at hz
  obtain ⟨prs, ys, rel, l1, l2, hpr⟩ := pairs_ofN I hp
  obtain ⟨o, n, ho, hc, hd, hdat⟩ := pl
  have hlen : (mergeN [] kvs).length ≤ sizeLine := by
    refine Nat.le_trans (mergeN_len kvs []) ?_
    rw [List.length_nil, Nat.zero_add, Paired.length rel, l2]
    exact hz
  have hm : (s.heap.objs.size == sysModules) = false := beq_eq_false_iff_ne.mpr (Nat.ne_of_gt I.big)
  refine PySem.call_dict_pairs (knd := noneKind X.prog X.w) (kvs := ys) (PySem.PairArg.list a (ps.map Value.ref).toArray (fun j => ps.getD j 0) prs) (I.ok.hd hcalm) ⟨⟨o, n, ho, hc, hd, hdat⟩, by rw [List.size_toArray, List.length_map, l1], fun j k v e => ?_⟩ ⟨by rw [l2, l1], fun i key v e => ?_⟩ (by rw [l1]; exact hz) fun h' tk D keep => ?_
  · obtain ⟨t, k', e1, _, e3, _⟩ := hpr j k v e
    have et : ps.getD j 0 = t := by rw [List.getD_eq_getElem?_getD, e1]; rfl
    refine ⟨?_, by show PySem.PairAt s.heap (ps.getD j 0) k v; rw [et]; exact e3⟩
    show (ps.map Value.ref).toArray[j]? = some (Value.ref (ps.getD j 0))
    rw [et, List.getElem?_toArray, List.getElem?_map, e1]
    rfl
  · obtain ⟨t, k', _, e2, _, e4⟩ := hpr i key v e
    exact ⟨k', e2, e4⟩
  · exact ⟨.ref s.heap.objs.size, upd H s.heap.objs.size (noO X.prog X.w s.heap.objs.size (mergeN [] kvs)), I.laid (t' := tk) (fun b o e => keep b o (by simp) e) (Nat.le_refl _) (noO_ok ⟨hm, hlen, _, kvN_merge rel .nil, D⟩), rfl, q _ (I.hok.fresh (Nat.le_refl _))⟩
/-! ### repr -/
def okD : Option Key → PyData
  | none => .none
  | some k => keyD k
def noD (ks : List (Option Key × V)) (ds : List PyData) : PyData := .dict ((ks.map fun q => okD q.1).zip ds)
theorem no_keys_read {P : Program} {w : World} {h : Heap} : ∀ {es : List DictEntry} {ys : List (Option Key × Value)} {xs : List (Option Key × V)}, Pairs (noneKind P w) es ys → KV xs ys →
    ReadsAll h (es.map (·.key)) (xs.map fun q => okD q.1) [] ∧ Vals (xs.map (·.2)) (es.map (·.val))
  | _, _, _, .nil, hk => by
    cases hk
    exact ⟨.nil, .nil⟩
  | _, _, _, .cons (e := e) (kv := kv) h1 h2 h3, hk => by
    cases hk with
    | cons q r =>
      obtain ⟨i1, i2⟩ := no_keys_read (h := h) h3 r
      refine ⟨?_, .cons (by show L2.RelV _ e.val; rw [h2]; exact q.2) i2⟩
      have h1 : nkIs kv.1 e.key = true := h1
      rw [← q.1] at h1
      have one : ∀ k : Option Key, nkIs k e.key = true → Reads h e.key (okD k) [] := fun k hk => by
        cases k with
        | none =>
          rw [nk_none hk]
          exact .none
        | some k =>
          rcases keyIs_shape hk with ⟨i, t, e1, e2⟩ | ⟨x, t, e1, e2⟩
          · rw [e1, e2]
            exact .int i t
          · rw [e1, e2]
            exact .str x t
      exact .cons (one _ h1) i1
theorem NoR.reads {X : Cx} {pins : List (Addr × Obj)} {s : Shared} {σ : L2.St} {H : Hp} {a : Addr} {ks : List (Option Key × V)} {ds : List PyData} (I : L2.Inv X pins σ H s) (N : NoR X.prog X.w H a ks) (D : DxAll X.K H (ks.map (·.2)) ds) :
    ∃ as, Reads s.heap (.ref a) (noD ks ds) as ∧ ((∃ o, X.base.get? sysModules = some o ∧ o.cls = .type "dict") → sysModules ∉ as) := by
  obtain ⟨hs, _, ys, hKV, o, es, ep, h1, h2, h3, _, hp, _⟩ := N.dict I
  obtain ⟨r1, r2⟩ := no_keys_read (h := s.heap) hp hKV
  obtain ⟨as, ha, hn⟩ := DxAll.reads I D r2
  have l := D.len
  rw [List.length_map] at l
  obtain ⟨z1, z2⟩ := zip_fst (a := ks.map fun q => okD q.1) (b := ds) (by rw [List.length_map]; exact l)
  refine ⟨_, .dict h1 h2.1 h3 (by rw [z1]; exact r1) (by rw [z2]; exact ha), fun hb hm => ?_⟩
  rcases List.mem_append.mp hm with q | q
  · have := List.mem_singleton.mp q
    rw [← this] at hs
    simp at hs
  · exact hn hb q
theorem call_reprN {X : Cx} (hu : X.A.units + 65 < cLine) (gd : X.A.guards = some []) (sb : ∃ o, X.base.get? sysModules = some o ∧ o.cls = .type "dict") : CallR X (.builtin "repr") fun xs H Q =>
    (∃ (x : V) (d : PyData), xs = [x] ∧ Dx X.K H x d ∧ OkX d ∧ Q (.str d.shown) H) ∨ ∃ (a : Addr) (ks : List (Option Key × V)) (ds : List PyData), xs = [.ref a] ∧ NoR X.prog X.w H a ks ∧ DxAll X.K H (ks.map (·.2)) ds ∧ OkX (noD ks ds) ∧ Q (.str (noD ks ds).shown) H := by
  rintro pins s σ H xs us Q I r (h | ⟨a, ks, ds, rfl, N, D, ok, q⟩)
  · exact call_reprV hu gd sb pins s σ H xs us Q I r h
  · obtain ⟨u, rfl, ru⟩ := vals1 r
    cases ru
    obtain ⟨as, ha, hn⟩ := N.reads I D
    exact repr_of_reads' ha (tmx_ok _ ok.tm) (fun _ => hn sb) gd (by have := ok.dp; omega) (fun b o h => h) (fun h' u tk hh => ⟨.str _, H, I.kept hh, ⟨u, rfl⟩, q⟩) ok.show
/-! ### isinstance(x, dict) -/
def rIsiN (K : PySem.W.Frag) (P : Program) (w : World) : List V → Hp → VK → Prop := fun xs H Q => rIsi K xs H Q ∨ ∃ (a : Addr) (ks : List (Option Key × V)), xs = [.ref a, .ty "dict"] ∧ NoR P w H a ks ∧ Q (.bl true) H
theorem call_isiN {X : Cx} : CallR X (.builtin "isinstance") (rIsiN X.K X.prog X.w) := by
  rintro pins s σ H xs us Q I r (h | ⟨a, ks, rfl, N, q⟩)
  · exact call_isi pins s σ H xs us Q I r h
  · obtain ⟨u1, u2, rfl, r1, r2⟩ := vals2 r
    cases (show u1 = Value.ref a from r1)
    cases (show u2 = Value.type "dict" from r2)
    obtain ⟨_, _, _, _, o, es, ep, h1, h2, _⟩ := N.dict I
    exact PySem.W.kia_one PySem.W.kitx_dict I.kIn (⟨o, h1, h2.1⟩) (by rfl) (fun z => nomatch z) fun tk => ⟨.bl true, H, I.tok tk, rfl, q⟩
/-! ### d[k] -/
def tDGetN (P : Program) (w : World) (td ty : TE) : TE := fun σ H Q => td σ H fun x H1 => ty σ H1 fun y H2 => ∃ (a : Addr) (v : V) (xs : List (Option Key × V)) (k : Option Key), x = .ref a ∧ NoR P w H2 a xs ∧ y = okV k ∧ valV xs k = some v ∧ Q v H2
theorem pe_dgetN {X : Cx} {o i : Expr} {pos : Pos} {td ty : TE} (ho : PE X o td) (hi : PE X i ty) (hs : NoSl i) : PE X (.Subscript o i pos) (tDGetN X.prog X.w td ty) := by
  refine ⟨fun pins s σ H Q I h => ?_⟩
  refine subD_of PySem.F.slot_dict_getitem.lookup hs (thn (ho.run pins s σ H _ I h) fun u s1 ⟨x, H1, I1, rx, q1⟩ => thn (hi.run pins s1 σ H1 _ I1 q1) fun iv s2 ⟨y, H2, I2, ry, a, v, xs, k, ex, N, ey, hv, q2⟩ => ?_)
  subst ex
  subst ey
  obtain rfl : u = Value.ref a := rx
  obtain ⟨_, _, ys, rel, D⟩ := N.dict I2
  obtain ⟨w', hw, rw'⟩ := RelO.some_of (v := v) (o := valueAt ys k) (by rw [← hv]; exact rel.val k)
  exact ⟨D.typeIs, wpAny_getItem_of (okV_is ry) D.mapOf hw ⟨v, H2, I2.tok _, rw', q2⟩⟩
/-! ### for k in d -/
def NoF (P : Program) (w : World) (H : Hp) (d : Addr) (o : Obj) (xs : List (Option Key × V)) : Prop := H d = some (.frz o (noO P w d xs)) ∨ ∃ kvs, H d = some (.frz o (.dK kvs)) ∧ xs = liftK kvs
theorem NoF.r {P : Program} {w : World} {H : Hp} {d : Addr} {o : Obj} {xs : List (Option Key × V)} (h : NoF P w H d o xs) : NoR P w H d xs := by
  rcases h with h | ⟨kvs, h, e⟩
  · exact .inl (.inr ⟨o, h⟩)
  · exact .inr ⟨kvs, .inr ⟨o, h⟩, e⟩
theorem pairs_at {P : Program} {w : World} : ∀ {es : List DictEntry} {ys : List (Option Key × Value)} {xs : List (Option Key × V)}, Pairs (noneKind P w) es ys → KV xs ys → es.length = xs.length ∧ ∀ (i : Nat) (e : Option Key × V), xs[i]? = some e → ∃ en, es[i]? = some en ∧ nkIs e.1 en.key = true
  | _, _, _, .nil, hk => by
    cases hk
    exact ⟨rfl, fun i e h => by simp at h⟩
  | _, _, _, .cons (e := en) (kv := kv) h1 _ h3, hk => by
    cases hk with
    | cons q r =>
      obtain ⟨l, ih⟩ := pairs_at h3 r
      refine ⟨by rw [List.length_cons, List.length_cons, l], fun i e h => ?_⟩
      cases i with
      | zero =>
        cases h
        exact ⟨en, rfl, by rw [q.1]; exact h1⟩
      | succ i =>
        obtain ⟨en', a, b⟩ := ih i e (by simpa using h)
        exact ⟨en', by simpa using a, b⟩
theorem frzNo {X : Cx} {pins : List (Addr × Obj)} {s : Shared} {σ : L2.St} {H : Hp} {d : Addr} {o : Obj} {xs : List (Option Key × V)} (I : L2.Inv X pins σ H s) (h : NoF X.prog X.w H d o xs) :
    (d == sysModules) = false ∧ s.heap.get? d = some o ∧ o.ExactDict ∧ ∃ (es : Array DictEntry) (ep : Nat), o.data = .dict es ep ∧ es.size = xs.length ∧ ∀ (i : Nat) (e : Option Key × V), xs[i]? = some e → ∃ en, es[i]? = some en ∧ nkIs e.1 en.key = true := by
  have g : s.heap.get? d = some o := by
    rcases h with h | ⟨kvs, h, _⟩
    · exact (show s.heap.get? d = some o ∧ ObjOk X.prog X.w H s.heap d _ from I.hok d _ h).1
    · exact (show s.heap.get? d = some o ∧ ObjOk X.prog X.w H s.heap d _ from I.hok d _ h).1
  obtain ⟨hd, hz, ys, rel, o', es, ep, ho, hx, hdat, _, hp, _⟩ := h.r.dict I
  rw [g] at ho
  cases ho
  obtain ⟨l, at'⟩ := pairs_at hp rel
  rw [Array.length_toList] at l
  exact ⟨hd, g, hx, es, ep, hdat, l, fun i e h => let ⟨en, a, b⟩ := at' i e h; ⟨en, by rw [Array.getElem?_toList] at a; exact a, b⟩⟩
def ItNo (P : Program) (w : World) (d : Addr) (o : Obj) (xs : List (Option Key × V)) : It :=
  ⟨fun i H => NoF P w H d o xs ∧ i < xs.length, fun i H x H' => H' = H ∧ ∃ e, xs[i]? = some e ∧ x = okV e.1, fun i H => NoF P w H d o xs ∧ xs.length ≤ i⟩
theorem turn_keysNo {P : Program} {w : World} {K : PySem.W.Frag} {tg : Expr} {d : Addr} {o : Obj} {es : Array DictEntry} {ep : Nat} {xs : List (Option Key × V)} (it : Addr) (hod : o.data = .dict es ep) : Turn P w K tg (ItNo P w d o xs) [it] it (fun i h => h.IsKeyIter it d i xs.length ep) where
  mem := by simp
  obj := fun i h st b hb => by
    have e : b = it := by simpa using hb
    subst e
    obtain ⟨oi, e, c, dd⟩ := st
    exact ⟨oi, e, fun v z => by rw [dd] at z; cases z⟩
  keep := fun i h h' st k => st.at fun oi e => k it (by simp) oi e
  item := by
    intro X hP hw hK hc i pins s σ H E I hf st hg
    subst hP hw hK
    obtain ⟨hd, hi⟩ := hg
    obtain ⟨f0, f1, f2, f3, f4, f5⟩ := hf it (by simp)
    obtain ⟨hs, hgd, hx, es', ep', hdt, hsz, ent⟩ := frzNo I hd
    obtain ⟨rfl, rfl⟩ := dict_ep hod hdt
    obtain ⟨en, hen, hkey⟩ := ent i _ (List.getElem?_eq_getElem hi)
    refine next_key_item st hgd hdt hsz hen fun h' st' sb => ?_
    have I1 : Inv X pins σ H { s with heap := h' } := I.turned (t' := s.toks) (fun b ob hb e => (sb.2 b hb).trans e) f0 f1 f3 f4 f5
    obtain ⟨oi, e, c, dd⟩ := id st'
    exact ⟨en.key, rfl, go_of (s := { s with heap := h' }) e c dd (by decide) ⟨okV xs[i].1, H, I1, nk_rel hkey, ⟨rfl, _, List.getElem?_eq_getElem hi, rfl⟩, st', fun b hb => (hf b hb).1⟩⟩
  done := by
    intro X hP hw hK hc i pins s σ H E I hf st hg
    subst hP hw hK
    obtain ⟨hd, hi⟩ := hg
    obtain ⟨f0, f1, f2, f3, f4, f5⟩ := hf it (by simp)
    obtain ⟨hs, hgd, hx, es', ep', hdt, hsz, ent⟩ := frzNo I hd
    obtain ⟨rfl, rfl⟩ := dict_ep hod hdt
    exact next_key_end (I.ok.hd hc) st hgd hdt hsz hi fun h' eb => ⟨rfl, I.turned (t' := s.toks) (fun b ob hb e => eb b ob hb e) f0 f1 f3 f4 f5⟩
  self := fun A i s Q E st h => by
    refine wpAny_pyIter_slot st.typeIs F.slot_dict_keyiterator_iter (wpAny_call_entry F.slot_dict_keyiterator_iter st.typeIs F.entry_dict_keyiterator_iter ?_ (F.args_dict_keyiterator_iter_1 _))
    show wpAny _ _ (ret (.ref it)) _ _ s
    exact wpAny_pure ⟨_, rfl, "dict_keyiterator", _, st.typeIs, F.slot_dict_keyiterator_next.lookup, h⟩
def iKeysNo (P : Program) (w : World) (td : TE) : TI := fun σ H R => td σ H fun x H1 => ∃ (d : Addr) (o : Obj) (xs : List (Option Key × V)), x = .ref d ∧ NoF P w H1 d o xs ∧ R (ItNo P w d o xs) H1
theorem pi_keysNo {X : Cx} {tg e : Expr} {td : TE} (he : PE X e td) : PI X tg e (iKeysNo X.prog X.w td) := by
  refine ⟨fun pins s σ H R I h => ?_⟩
  refine thn (he.run pins s σ H _ I h) fun u s1 ⟨x, H1, I1, rx, d, o, xs, ex, hd, q⟩ => ?_
  subst ex
  obtain rfl : u = Value.ref d := rx
  obtain ⟨hs, hgd, hx, es, ep, hdt, hsz, ent⟩ := frzNo I1 hd
  refine iter_keys hs hgd hx hdt (pi_one (tk := s1.toks) I1 _ (turn_keysNo _ hdt) ⟨_, Heap.get?_push_size _ rfl, rfl, ?_⟩ q)
  rw [hsz] <;> rfl
theorem walk_keysNo {P : Program} {w : World} {d : Addr} {o : Obj} {xs : List (Option Key × V)} : Walk (ItNo P w d o xs) xs.length (fun H => NoF P w H d o xs) (fun i H x H' => H' = H ∧ ∃ e, xs[i]? = some e ∧ x = okV e.1) :=
  ⟨fun _ _ hi q => ⟨q, hi⟩, fun _ q => ⟨q, Nat.le_refl _⟩, fun _ _ _ _ _ _ y => y⟩
end Vf

set_option Elab.async false
set_option linter.all false
set_option maxRecDepth 100000
set_option maxHeartbeats 4000000
/-! zip of three tuples of one length -/
namespace Vf
open PySem PySem.Spec PyProof.Rows L2
def ItzQ (K : PySem.W.Frag) (a b c : Addr) : It :=
  ⟨fun i H => ∃ (xs ys zs : List V) (x y z : V), SqT K H a xs ∧ SqT K H b ys ∧ SqT K H c zs ∧ xs[i]? = some x ∧ ys[i]? = some y ∧ zs[i]? = some z,
    fun i H v H' => ∃ T x y z, v = .ref T ∧ H T = none ∧ H' = upd H T (.tup [x, y, z]) ∧ (∀ xs, SqT K H a xs → xs[i]? = some x) ∧ (∀ ys, SqT K H b ys → ys[i]? = some y) ∧ ∀ zs, SqT K H c zs → zs[i]? = some z,
    fun i H => ∃ xs ys zs : List V, SqT K H a xs ∧ SqT K H b ys ∧ SqT K H c zs ∧ xs.length = i ∧ ys.length = i ∧ zs.length = i⟩
/-- what lies apart while it goes on -/
structure Apart3 (z TI TO i1 i2 i3 a b c : Addr) : Prop where
  S : ZipSep3 z TI TO i1 i2 i3 [i1, a] [i2, b] [i3, c]
  a1 : a ≠ i1
  b2 : b ≠ i2
  c3 : c ≠ i3
theorem apart3 (I a b c : Nat) (h1 : a < I) (h2 : b < I) (h3 : c < I) : Apart3 (I + 5) (I + 3) (I + 4) I (I + 1) (I + 2) a b c := by
  have n1 : ∀ {x y : Nat}, x ≠ y → ((x : Nat) : Addr) ≠ y := fun h => h
  refine ⟨?_, n1 (by omega), n1 (by omega), n1 (by omega)⟩
  have nm : ∀ {x u v : Nat}, x ≠ u → x ≠ v → (x : Addr) ∉ ([u, v] : List Addr) := fun h1 h2 h => by
    rcases List.mem_cons.mp h with h | h
    · exact h1 h
    · exact h2 (List.mem_singleton.mp h)
  exact {
    TIz := n1 (by omega), TOz := n1 (by omega), TITO := n1 (by omega), TIi1 := n1 (by omega), mem1 := List.mem_cons_self, zf1 := nm (by omega) (by omega), Tf1 := nm (by omega) (by omega)
    TIi2 := n1 (by omega), mem2 := List.mem_cons_self, zf2 := nm (by omega) (by omega), Tf2 := nm (by omega) (by omega)
    TIi3 := n1 (by omega), mem3 := List.mem_cons_self, zf3 := nm (by omega) (by omega), Tf3 := nm (by omega) (by omega)
    sep1_2 := nm (by omega) (by omega), sep1_3 := nm (by omega) (by omega), sep2_1 := nm (by omega) (by omega), sep2_3 := nm (by omega) (by omega), sep3_1 := nm (by omega) (by omega), sep3_2 := nm (by omega) (by omega) }
theorem turn_zipQ {P : Program} {w : World} {K : PySem.W.Frag} {elts : List Expr} {kk : Nat} {tpos : Pos} {a b c z TI TO i1 i2 i3 : Addr} (D : Apart3 z TI TO i1 i2 i3 a b c) :
    Turn P w K (.Tuple elts kk tpos) (ItzQ K a b c) [z, TI, TO, i1, i2, i3] z (fun i h => IsZip h z TI TO .none ∧ IsTupOf3 h TI (.ref i1) (.ref i2) (.ref i3) ∧ (∃ x y u, IsTupOf3 h TO x y u) ∧ h.IsTupleIter i1 a i ∧ h.IsTupleIter i2 b i ∧ h.IsTupleIter i3 c i) where
  mem := by simp
  obj := fun i h st e he => by
    obtain ⟨hz, hTI, ⟨x, y, u, hTO⟩, ⟨o1, e1, _, d1⟩, ⟨o2, e2, _, d2⟩, ⟨o3, e3, _, d3⟩⟩ := st
    have e' : e = z ∨ e = TI ∨ e = TO ∨ e = i1 ∨ e = i2 ∨ e = i3 := by simpa using he
    rcases e' with q | q | q | q | q | q
    · rw [q]; exact ⟨_, hz, fun v q => nomatch q⟩
    · rw [q]; exact ⟨_, hTI, fun v q => nomatch q⟩
    · rw [q]; exact ⟨_, hTO, fun v q => nomatch q⟩
    · rw [q]; exact ⟨o1, e1, fun v q => by rw [d1] at q; cases q⟩
    · rw [q]; exact ⟨o2, e2, fun v q => by rw [d2] at q; cases q⟩
    · rw [q]; exact ⟨o3, e3, fun v q => by rw [d3] at q; cases q⟩
  keep := fun i h h' st k => by
    obtain ⟨hz, hTI, ⟨x, y, u, hTO⟩, h1, h2, h3⟩ := st
    exact ⟨k z (by simp) _ hz, k TI (by simp) _ hTI, ⟨x, y, u, k TO (by simp) _ hTO⟩, h1.at fun o q => k i1 (by simp) o q, h2.at fun o q => k i2 (by simp) o q, h3.at fun o q => k i3 (by simp) o q⟩
  item := by
    intro X hP hw hK hc i pins s σ H E I hf st hg
    subst hP hw hK
    obtain ⟨hz, hTI, ⟨x0, y0, u0, hTO⟩, h1, h2, h3⟩ := st
    obtain ⟨xs, ys, zs, x, y, t, hqx, hqy, hqz, hx, hy, ht⟩ := hg
    obtain ⟨its, rv, p, _⟩ := I.tuple hqx
    obtain ⟨its2, rv2, p2, _⟩ := I.tuple hqy
    obtain ⟨its3, rv3, p3, _⟩ := I.tuple hqz
    obtain ⟨u, hu, ru⟩ := rv.get hx
    obtain ⟨u2, hu2, ru2⟩ := rv2.get hy
    obtain ⟨u3, hu3, ru3⟩ := rv3.get ht
    have hh : X.A.in1.handled = none := I.ok.hd hc
    have hzl : z < s.heap.objs.size := Heap.lt_size hz
    have g1 : its.toArray[i]? = some u := by simpa using hu
    have g2 : its2.toArray[i]? = some u2 := by simpa using hu2
    have g3 : its3.toArray[i]? = some u3 := by simpa using hu3
    have lt : ∀ {arr : Array Value} {v : Value}, arr[i]? = some v → i < arr.size := fun h => (Array.getElem?_eq_some_iff.mp h).1
    refine wpAny_pyNext_zipD3_item D.S (Draws.tuple hh i1 a D.a1 its.toArray) (Draws.tuple hh i2 b D.b2 its2.toArray) (Draws.tuple hh i3 c D.c3 its3.toArray) hz hTI hTO ⟨h1, p⟩ ⟨h2, p2⟩ ⟨h3, p3⟩ (lt g1) (lt g2) (lt g3) fun x1 x2 x3 h' tk y1 y2 y3 z' TO' h1' h2' h3' hT hsz hk => ?_
    have y1 : its.toArray[i]? = some x1 := y1
    have y2 : its2.toArray[i]? = some x2 := y2
    have y3 : its3.toArray[i]? = some x3 := y3
    rw [g1] at y1
    rw [g2] at y2
    rw [g3] at y3
    cases y1
    cases y2
    cases y3
    refine ⟨_, rfl, wpAny_letOwnedTupleGo_zip (s := { s with heap := h', toks := tk }) z' fun h'' z'' sb => ?_⟩
    have hT2 : h''.get? s.heap.objs.size = some { cls := .type "tuple", data := .seq #[u, u2, u3] } := (sb.2 _ (Nat.ne_of_gt hzl)).trans hT
    have new : ObjOk X.prog X.w (upd H s.heap.objs.size (.tup [x, y, t])) h'' s.heap.objs.size (.tup [x, y, t]) :=
      ⟨by show 3 ≤ sizeLine; decide, [u, u2, u3], .cons ru (.cons ru2 (.cons ru3 .nil)), ⟨_, hT2, rfl, _, rfl⟩⟩
    have I1 : Inv X pins σ (upd H s.heap.objs.size (.tup [x, y, t])) { s with heap := h'', toks := tk } :=
      I.turnedNew (t' := tk) (ch := [z, TI, TO, i1, i2, i3]) (fun e o hb q => (sb.2 e (fun q' => hb (by simp [q']))).trans (hk e o (fun q' => hb (by simp [q'])) (fun q' => hb (by simp [q'])) (fun q' => hb (by simp [q'])) (fun q' => hb (by simp [q'])) (fun q' => hb (by simp [q'])) q)) hf (Nat.le_refl _) new
    refine ⟨.ref s.heap.objs.size, _, I1, rfl, ⟨_, x, y, t, rfl, I.hok.fresh (Nat.le_refl _), rfl, fun l hl => by rw [I.tuple_inj hl hqx]; exact hx, fun l hl => by rw [I.tuple_inj hl hqy]; exact hy, fun l hl => by rw [I.tuple_inj hl hqz]; exact ht⟩, ⟨z'', ?_, ⟨u, u2, u3, ?_⟩, ?_, ?_, ?_⟩, fun e hcm => ?_⟩
    · exact (sb.2 _ D.S.TIz).trans (hk _ _ D.S.TIz D.S.TITO D.S.TIi1 D.S.TIi2 D.S.TIi3 hTI)
    · exact (sb.2 _ D.S.TOz).trans TO'
    · exact h1'.1.at fun o q => (sb.2 _ (Ne.symm D.S.zi1)).trans q
    · exact h2'.1.at fun o q => (sb.2 _ (Ne.symm D.S.zi2)).trans q
    · exact h3'.1.at fun o q => (sb.2 _ (Ne.symm D.S.zi3)).trans q
    · have hlt : e < s.heap.objs.size := by
        have e' : e = z ∨ e = TI ∨ e = TO ∨ e = i1 ∨ e = i2 ∨ e = i3 := by simpa using hcm
        rcases e' with q | q | q | q | q | q
        · rw [q]; exact hzl
        · rw [q]; exact Heap.lt_size hTI
        · rw [q]; exact Heap.lt_size hTO
        · rw [q]; obtain ⟨_, e1, _⟩ := h1; exact Heap.lt_size e1
        · rw [q]; obtain ⟨_, e2, _⟩ := h2; exact Heap.lt_size e2
        · rw [q]; obtain ⟨_, e3, _⟩ := h3; exact Heap.lt_size e3
      rw [upd_ne (Nat.ne_of_lt hlt)]
      exact (hf e hcm).1
  done := by
    intro X hP hw hK hc i pins s σ H E I hf st hg
    subst hP hw hK
    obtain ⟨hz, hTI, ⟨x0, y0, u0, hTO⟩, h1, h2, h3⟩ := st
    obtain ⟨xs, ys, zs, hqx, hqy, hqz, e1, e2, e3⟩ := hg
    obtain ⟨its, rv, p, _⟩ := I.tuple hqx
    obtain ⟨its2, rv2, p2, _⟩ := I.tuple hqy
    obtain ⟨its3, rv3, p3, _⟩ := I.tuple hqz
    have l1 := rv.length
    have l2 := rv2.length
    have l3 := rv3.length
    have hh : X.A.in1.handled = none := I.ok.hd hc
    have q1 : i = its.toArray.size := by rw [List.size_toArray]; omega
    have q2 : i = its2.toArray.size := by rw [List.size_toArray]; omega
    have q3 : i = its3.toArray.size := by rw [List.size_toArray]; omega
    exact wpAny_pyNext_zipD3_end D.S (Draws.tuple hh i1 a D.a1 its.toArray) (Draws.tuple hh i2 b D.b2 its2.toArray) (Draws.tuple hh i3 c D.c3 its3.toArray) hz hTI hTO ⟨h1, p⟩ ⟨h2, p2⟩ ⟨h3, p3⟩ (Nat.le_of_eq q1) (Nat.le_of_eq q2) (Nat.le_of_eq q3) (.inl q1) fun h' tk hk => ⟨rfl, I.turnedL (t' := tk) (ch := [z, TI, TO, i1, i2, i3]) (fun e o hb q =>
      hk e o (fun q' => hb (by simp [q'])) (fun q' => hb (by simp [q'])) (fun q' => hb (by simp [q'])) (fun q' => hb (by simp [q'])) (fun q' => hb (by simp [q'])) q) hf⟩
  self := fun A i s Q E st h => wpAny_pyIter_zip st.1 h
def iZipQ (K : PySem.W.Frag) (ta : TA) : TI := fun σ H R => ta σ H fun vs H1 => ∃ (a b c : Addr) (xs ys zs : List V), vs = [.ref a, .ref b, .ref c] ∧ SqT K H1 a xs ∧ SqT K H1 b ys ∧ SqT K H1 c zs ∧ R (ItzQ K a b c) H1
theorem pi_zipQ {X : Cx} {e e2 e3 : Expr} {ta : TA} {p pos tpos : Pos} {elts : List Expr} {kk : Nat} (hg : Gl X "zip") (hm : X.mg "zip" = none) (ha : PA X [e, e2, e3] ta)
    (hs : starEach [e, e2, e3] X.env = (false, eval e X.env) :: starEach [e2, e3] X.env := by rfl) (hpl : (backTo pos (starEach [e2, e3] X.env)).any (·.1) = false := by rfl) :
    PI X (.Tuple elts kk tpos) (.Call (.Name "zip" p) [e, e2, e3] [] pos) (iZipQ X.K ta) := by
  refine ⟨fun pins s σ H R I h => ?_⟩
  refine Call_ (ld_blt I hg hm PyProof.Rows.boot_zip (PyProof.Rows.callWith_type1 (thn (ha.run pos pins s σ H _ I h) fun us s1 ⟨vs, H1, I1, r1, q1⟩ => ?_) hs hpl))
  obtain ⟨a, b, c, xs, ys, zs, ex, hqx, hqy, hqz, q⟩ := q1
  subst ex
  cases r1 with
  | cons r rr =>
    cases rr with
    | cons r' rr =>
      cases rr with
      | cons r'' rr =>
        cases rr
        cases r
        cases r'
        cases r''
        have fresh6 : ∀ c, c ∈ [s1.heap.objs.size + 5, s1.heap.objs.size + 3, s1.heap.objs.size + 4, s1.heap.objs.size, s1.heap.objs.size + 1, s1.heap.objs.size + 2] → FpOk X pins H1 c := fun c hcm => by
          have e' : c = s1.heap.objs.size + 5 ∨ c = s1.heap.objs.size + 3 ∨ c = s1.heap.objs.size + 4 ∨ c = s1.heap.objs.size ∨ c = s1.heap.objs.size + 1 ∨ c = s1.heap.objs.size + 2 := by simpa using hcm
          have hle : s1.heap.objs.size ≤ c := by
            rcases e' with z | z | z | z | z | z
            · rw [z]; exact Nat.le_add_right _ _
            · rw [z]; exact Nat.le_add_right _ _
            · rw [z]; exact Nat.le_add_right _ _
            · rw [z]; exact Nat.le_refl _
            · rw [z]; exact Nat.le_add_right _ _
            · rw [z]; exact Nat.le_add_right _ _
          exact I1.fpOk hle (I1.hok.fresh hle)
        obtain ⟨its, rv, p1, _⟩ := I1.tuple hqx
        obtain ⟨its2, rv2, p2, _⟩ := I1.tuple hqy
        obtain ⟨its3, rv3, p3, _⟩ := I1.tuple hqz
        obtain ⟨o1, ho1, _⟩ := id p1
        obtain ⟨o2, ho2, _⟩ := id p2
        obtain ⟨o3, ho3, _⟩ := id p3
        refine zip_begins3 (begins_tuple a its.toArray) (begins_tuple b its2.toArray) (begins_tuple c its3.toArray) p1 p2 p3 fun h' hz hTI hTO h1 h2 h3 hsz hk => wpAny_pyIter_zip hz ?_
        have I2 : Inv X pins σ H1 { s1 with heap := h' } := I1.kept (t' := s1.toks) hk
        exact ⟨s1.heap.objs.size + 5, [s1.heap.objs.size + 5, s1.heap.objs.size + 3, s1.heap.objs.size + 4, s1.heap.objs.size, s1.heap.objs.size + 1, s1.heap.objs.size + 2], _, _, H1, rfl, I2, turn_zipQ (apart3 s1.heap.objs.size a b c (Heap.lt_size ho1) (Heap.lt_size ho2) (Heap.lt_size ho3)), ⟨hz, hTI, ⟨_, _, _, hTO⟩, ⟨_, h1, rfl, rfl⟩, ⟨_, h2, rfl, rfl⟩, ⟨_, h3, rfl, rfl⟩⟩, fresh6, q⟩
theorem walk_zipQ {K : PySem.W.Frag} {a b c : Addr} {xs ys zs : List V} {n : Nat} (h1 : xs.length = n) (h2 : ys.length = n) (h3 : zs.length = n) : Walk (ItzQ K a b c) n (fun H => SqT K H a xs ∧ SqT K H b ys ∧ SqT K H c zs)
    (fun i H v H' => ∃ T x y z, v = .ref T ∧ H T = none ∧ H' = upd H T (.tup [x, y, z]) ∧ xs[i]? = some x ∧ ys[i]? = some y ∧ zs[i]? = some z) :=
  ⟨fun i H hi q => ⟨xs, ys, zs, _, _, _, q.1, q.2.1, q.2.2, List.getElem?_eq_getElem (by omega), List.getElem?_eq_getElem (by omega), List.getElem?_eq_getElem (by omega)⟩,
    fun H q => ⟨xs, ys, zs, q.1, q.2.1, q.2.2, h1, h2, h3⟩,
    fun i H v H' _ q ⟨T, x, y, z, e1, e2, e3, a1, a2, a3⟩ => ⟨T, x, y, z, e1, e2, e3, a1 _ q.1, a2 _ q.2.1, a3 _ q.2.2⟩⟩
end Vf

set_option Elab.async false
set_option linter.all false
set_option maxRecDepth 100000
set_option maxHeartbeats 4000000
/-! dicts of data, alike whatever the order of their keys -/
namespace Vf
open PySem PySem.Spec PyProof.Rows L2
section
variable {X : Cx} {pins : List (Addr × Obj)} {s : Shared} {σ : L2.St} {H : Hp}
/-- a value that is like itself: plain data -/
def SelfD (K : PySem.W.Frag) (H : Hp) (v : V) : Prop := ∃ d, Dp K H v d ∧ SeqAt.shaped d = true ∧ PyData.eqv d d = true
theorem hits_d {A : Around} (I : L2.Inv X pins σ H s) (hu : A.in1.units + 64 < cLine) {vb : List (Key × Value)} {ls : List (Key × V)} (rb : KV ls vb) : ∀ {ks : List (Key × V)} {va : List (Key × Value)}, KV ks va → (∀ p ∈ ks, valV ls p.1 = some p.2 ∧ SelfD X.K H p.2) → PySem.W.KeqHits A.in1 s vb va true := by
  intro ks va ra
  unfold KV at ra
  induction ra with
  | nil => exact fun _ => .nil
  | @cons p q ps qs h t ih =>
    intro hp
    obtain ⟨hv, d, hd, sh, eq⟩ := hp p List.mem_cons_self
    obtain ⟨u', hu', ru'⟩ := RelO.some_of (v := p.2) (o := valueAt vb p.1) (by rw [← hv]; exact rb.val p.1)
    obtain ⟨as, r1⟩ := Dp.reads I d p.2 q.2 hd h.2
    obtain ⟨bs, r2⟩ := Dp.reads I d p.2 u' hd ru'
    have at' := PySem.W.keq_at (A := A) r1 r2 sh sh hu
    have := PySem.W.KeqHits.hit (k := q.1) (v := q.2) (by rw [← h.1]; exact hu') at' (ih fun x hx => hp x (List.mem_cons_of_mem _ hx))
    rw [eq] at this
    exact this
/-- d == e for two dicts with the same values -/
theorem op_eqK (hu : X.A.units + 65 < cLine) : OpR X (compareOp .Eq) fun x y H Q => ∃ (a b : Addr) (ks ls : List (Key × V)), x = .ref a ∧ y = .ref b ∧ H a = some (.dK ks) ∧ H b = some (.dK ls) ∧ ks.length = ls.length ∧ (∀ p ∈ ks, valV ls p.1 = some p.2 ∧ SelfD X.K H p.2) ∧ Q (.bl true) H := by
  intro pins s σ H x y v u Q I rx ry h
  obtain ⟨a, b, ks, ls, rfl, rfl, ea, eb, hlen, hp, q⟩ := h
  obtain rfl : v = Value.ref a := rx
  obtain rfl : u = Value.ref b := ry
  obtain ⟨_, ya, va, ra, da⟩ := dk_of I.hok ea
  obtain ⟨_, yb, vb, rb, db⟩ := dk_of I.hok eb
  have hl : va.length = vb.length := by rw [← ra.length, ← rb.length]; exact hlen
  exact PySem.W.keq_eq (knd := mixKind X.prog X.w) (r := true) ya yb da db (by omega) (fun _ => hits_d I (by show X.A.units + 1 + 64 < cLine; omega) rb ra hp) ⟨.bl _, H, I, rfl, by rw [hl]; simpa using q⟩
end
end Vf

set_option Elab.async false
set_option linter.all false
set_option maxRecDepth 100000
set_option maxHeartbeats 4000000
namespace Lw
open PySem PySem.Spec PyProof.Rows L2 Vf
open C8 (Cal pe_c pe_gc CalAt)
def topS (i : Nat) : Stmt := PySem.Challenge.pw_leastlaid_k23_layers_over_styles.main.body.getD i (.Pass ⟨0, 0, 0, 0⟩)
abbrev s_p_is_integer : Stmt := topS 1
theorem sc_p_is_integer : FnScope ["thing"] ["thing"] (defScope s_p_is_integer) := ⟨rfl, rfl, rfl, by decide +kernel, rfl, by decide +kernel, by decide +kernel⟩
abbrev s_p_is_rank : Stmt := topS 4
theorem sc_p_is_rank : FnScope ["thing", "word"] ["thing"] (defScope s_p_is_rank) := ⟨rfl, rfl, rfl, by decide +kernel, rfl, by decide +kernel, by decide +kernel⟩
abbrev s_p_can_be : Stmt := topS 9
theorem sc_p_can_be : FnScope ["name", "thing", "low", "high"] ["name", "thing"] (defScope s_p_can_be) := ⟨rfl, rfl, rfl, by decide +kernel, rfl, by decide +kernel, by decide +kernel⟩
abbrev s_p_named : Stmt := topS 10
theorem sc_p_named : FnScope ["style", "name"] ["style"] (defScope s_p_named) := ⟨rfl, rfl, rfl, by decide +kernel, rfl, by decide +kernel, by decide +kernel⟩
abbrev s_p_style_of : Stmt := topS 11
theorem sc_p_style_of : FnScope ["named", "name"] ["named"] (defScope s_p_style_of) := ⟨rfl, rfl, rfl, by decide +kernel, rfl, by decide +kernel, by decide +kernel⟩
abbrev s_p_is_layer : Stmt := topS 13
theorem sc_p_is_layer : FnScope ["thing", "name"] ["thing"] (defScope s_p_is_layer) := ⟨rfl, rfl, rfl, by decide +kernel, rfl, by decide +kernel, by decide +kernel⟩
abbrev s_p_ascending : Stmt := topS 14
theorem sc_p_ascending : FnScope ["layer", "name"] ["layer"] (defScope s_p_ascending) := ⟨rfl, rfl, rfl, by decide +kernel, rfl, by decide +kernel, by decide +kernel⟩
abbrev s_p_laid : Stmt := topS 15
theorem sc_p_laid : FnScope ["style", "layer"] ["style", "layer"] (defScope s_p_laid) := ⟨rfl, rfl, rfl, by decide +kernel, rfl, by decide +kernel, by decide +kernel⟩
abbrev s_p_over : Stmt := topS 16
theorem sc_p_over : FnScope ["below", "above"] ["below", "above"] (defScope s_p_over) := ⟨rfl, rfl, rfl, by decide +kernel, rfl, by decide +kernel, by decide +kernel⟩
abbrev s_p_layer_between : Stmt := topS 17
theorem sc_p_layer_between : FnScope ["one", "other", "old", "new", "name"] ["one", "other"] (defScope s_p_layer_between) := ⟨rfl, rfl, rfl, by decide +kernel, rfl, by decide +kernel, by decide +kernel⟩
abbrev s_l_bag : Stmt := topS 19
theorem sc_l_bag : FnScope ["_law_script", "_law_cell"] ["_law_script"] (defScope s_l_bag) := ⟨rfl, rfl, rfl, by decide +kernel, rfl, by decide +kernel, by decide +kernel⟩
abbrev s_l_take : Stmt := topS 20
theorem sc_l_take : FnScope ["_law_bag_here", "_law_many", "_law_cell", "_law_stirred", "_law_value", "_law_begin", "_law_second"] ["_law_bag_here", "_law_many"] (defScope s_l_take) := ⟨rfl, rfl, rfl, by decide +kernel, rfl, by decide +kernel, by decide +kernel⟩
abbrev s_l_one : Stmt := topS 21
theorem sc_l_one : FnScope ["_law_bag_here", "_law_things"] ["_law_bag_here", "_law_things"] (defScope s_l_one) := ⟨rfl, rfl, rfl, by decide +kernel, rfl, by decide +kernel, by decide +kernel⟩
abbrev s_l_mixed : Stmt := topS 22
theorem sc_l_mixed : FnScope ["_law_bag_here", "_law_things", "_law_found", "_law_thing"] ["_law_bag_here", "_law_things"] (defScope s_l_mixed) := ⟨rfl, rfl, rfl, by decide +kernel, rfl, by decide +kernel, by decide +kernel⟩
abbrev s_l_alike : Stmt := topS 23
theorem sc_l_alike : FnScope ["_law_found", "_law_due"] ["_law_found", "_law_due"] (defScope s_l_alike) := ⟨rfl, rfl, rfl, by decide +kernel, rfl, by decide +kernel, by decide +kernel⟩
abbrev s_l_integer : Stmt := topS 24
theorem sc_l_integer : FnScope ["_law_thing"] ["_law_thing"] (defScope s_l_integer) := ⟨rfl, rfl, rfl, by decide +kernel, rfl, by decide +kernel, by decide +kernel⟩
abbrev s_l_style : Stmt := topS 25
theorem sc_l_style : FnScope ["_law_bag_here", "_law_ranks", "_law_rank", "_law_words"] ["_law_bag_here"] (defScope s_l_style) := ⟨rfl, rfl, rfl, by decide +kernel, rfl, by decide +kernel, by decide +kernel⟩
abbrev s_l_style_words : Stmt := topS 26
theorem sc_l_style_words : FnScope [] [] (defScope s_l_style_words) := ⟨rfl, rfl, rfl, by decide +kernel, rfl, by decide +kernel, by decide +kernel⟩
abbrev s_l_is_value : Stmt := topS 27
theorem sc_l_is_value : FnScope ["_law_word", "_law_value", "_law_bounds", "_law_some", "_law_one_here"] ["_law_word", "_law_value"] (defScope s_l_is_value) := ⟨rfl, rfl, rfl, by decide +kernel, rfl, by decide +kernel, by decide +kernel⟩
abbrev s_l_is_layer : Stmt := topS 28
theorem sc_l_is_layer : FnScope ["_law_thing", "_law_key"] ["_law_thing"] (defScope s_l_is_layer) := ⟨rfl, rfl, rfl, by decide +kernel, rfl, by decide +kernel, by decide +kernel⟩
abbrev s_l_laid : Stmt := topS 29
theorem sc_l_laid : FnScope ["_law_style_here", "_law_layer_here", "_law_word", "_law_value"] ["_law_style_here", "_law_layer_here"] (defScope s_l_laid) := ⟨rfl, rfl, rfl, by decide +kernel, rfl, by decide +kernel, by decide +kernel⟩
abbrev s_l_layer : Stmt := topS 30
theorem sc_l_layer : FnScope ["_law_bag_here", "_law_items"] ["_law_bag_here"] (defScope s_l_layer) := ⟨rfl, rfl, rfl, by decide +kernel, rfl, by decide +kernel, by decide +kernel⟩
abbrev s_l_odd_values : Stmt := topS 31
theorem sc_l_odd_values : FnScope ["_law_found"] [] (defScope s_l_odd_values) := ⟨rfl, rfl, rfl, by decide +kernel, rfl, by decide +kernel, by decide +kernel⟩
abbrev s_p_law : Stmt := topS 32
theorem sc_p_law : FnScope ["_law_script", "_law_bag_here", "_law_turn", "_law_style_here", "_law_other", "_law_layers", "_law_said", "_law_due", "_law_both", "_law_layer_here", "_law_told", "_law_less", "_law_least", "_law_odd", "_law_thing", "_law_kept", "_law_value", "_law_k", "_law_word", "_law_old", "_law_new", "_law_key"] ["_law_script"] (defScope s_p_law) := ⟨rfl, rfl, rfl, by decide +kernel, rfl, by decide +kernel, by decide +kernel⟩
def tp_PARTS : List Str := ["over", "lines", "broken"]
def tp_NAMES : List Str := ["width", "step", "blanks", "rank", "operators", "lists"]
structure Txt (K : PySem.W.Frag) (mg : Str → Option Value) (w : World) : Prop where
  d_p_is_integer : DefIn K mg "is_integer" s_p_is_integer ["thing"]
  d_p_is_rank : DefIn K mg "is_rank" s_p_is_rank ["thing"]
  d_p_can_be : DefIn K mg "can_be" s_p_can_be ["name", "thing"]
  d_p_named : DefIn K mg "named" s_p_named ["style"]
  d_p_style_of : DefIn K mg "style_of" s_p_style_of ["named"]
  d_p_is_layer : DefIn K mg "is_layer" s_p_is_layer ["thing"]
  d_p_ascending : DefIn K mg "_ascending" s_p_ascending ["layer"]
  d_p_laid : DefIn K mg "laid" s_p_laid ["style", "layer"]
  d_p_over : DefIn K mg "over" s_p_over ["below", "above"]
  d_p_layer_between : DefIn K mg "layer_between" s_p_layer_between ["one", "other"]
  d_l_bag : DefIn K mg "_law_bag" s_l_bag ["_law_script"]
  d_l_take : DefIn K mg "_law_take" s_l_take ["_law_bag_here", "_law_many"]
  d_l_one : DefIn K mg "_law_one" s_l_one ["_law_bag_here", "_law_things"]
  d_l_mixed : DefIn K mg "_law_mixed" s_l_mixed ["_law_bag_here", "_law_things"]
  d_l_alike : DefIn K mg "_law_alike" s_l_alike ["_law_found", "_law_due"]
  d_l_integer : DefIn K mg "_law_integer" s_l_integer ["_law_thing"]
  d_l_style : DefIn K mg "_law_style" s_l_style ["_law_bag_here"]
  d_l_style_words : DefIn K mg "_law_style_words" s_l_style_words []
  d_l_is_value : DefIn K mg "_law_is_value" s_l_is_value ["_law_word", "_law_value"]
  d_l_is_layer : DefIn K mg "_law_is_layer" s_l_is_layer ["_law_thing"]
  d_l_laid : DefIn K mg "_law_laid" s_l_laid ["_law_style_here", "_law_layer_here"]
  d_l_layer : DefIn K mg "_law_layer" s_l_layer ["_law_bag_here"]
  d_l_odd_values : DefIn K mg "_law_odd_values" s_l_odd_values []
  d_p_law : DefIn K mg "law" s_p_law ["_law_script"]
  n_abs : mg "abs" = none
  n_int : mg "int" = none
  n_len : mg "len" = none
  n_range : mg "range" = none
  n_repr : mg "repr" = none
  n_isinstance : mg "isinstance" = none
  n_list : mg "list" = none
  n_enumerate : mg "enumerate" = none
  n_str : mg "str" = none
  n_tuple : mg "tuple" = none
  n_bool : mg "bool" = none
  n_all : mg "all" = none
  n_zip : mg "zip" = none
  n_sorted : mg "sorted" = none
  n_dict : mg "dict" = none
  ti_NAMES : ∃ a o, mg "NAMES" = some (.ref a) ∧ K.lookup a = some o ∧ o.cls = .type "tuple" ∧ o.dict = none ∧ ∀ H : Hp, SqT K H a (tp_NAMES.map V.str)
  k_BOUNDS : ∃ d b0 b1 b2, mg "BOUNDS" = some (.ref d) ∧ KD K w d [(.inr "width", .ref b0), (.inr "step", .ref b1), (.inr "blanks", .ref b2)] ∧ (∀ H : Hp, SqT K H b0 [V.int 8, V.int 120]) ∧ (∀ H : Hp, SqT K H b1 [V.int 0, V.int 8]) ∧ (∀ H : Hp, SqT K H b2 [V.int 0, V.int 3])
  k_WORDS : ∃ d b0 b1, mg "WORDS" = some (.ref d) ∧ KD K w d [(.inr "operators", .ref b0), (.inr "lists", .ref b1)] ∧ (∀ H : Hp, SqT K H b0 [V.str "ahead", V.str "behind"]) ∧ (∀ H : Hp, SqT K H b1 [V.str "fill", V.str "rows"])
  t_PARTS : ∃ a, mg "PARTS" = some (.ref a) ∧ ∀ H : Hp, SqT K H a (tp_PARTS.map V.str)
  t_NAMES : ∃ a, mg "NAMES" = some (.ref a) ∧ ∀ H : Hp, SqT K H a (tp_NAMES.map V.str)
section
variable {P : Program} {w : World} {K : PySem.W.Frag} {mg : Str → Option Value} {base : Heap}

/-! the side of an operation; one step of a reading -/
local macro_rules | `(tactic| walk_at "side") => `(tactic| first
  | (show CMul _ _; first | exact Or.inr (by decide) | exact Or.inl (by decide) | (refine Or.inl ⟨?_, ?_⟩ <;> omega) | (refine Or.inr ⟨?_, ?_⟩ <;> omega))
  | (show CDivN _ _; refine ⟨?_, ?_⟩ <;> omega)
  | (show CPow _ _; exact ⟨by decide, by decide, by decide⟩)
  | (show (0 : Int) < _; first | decide | assumption | omega))
local macro_rules | `(tactic| walk_at "rd1") => `(tactic| first
  | refine ⟨_, _, rfl, rfl, (by walk_at "side"), ?_⟩
  | refine ⟨_, rfl, ?_⟩
  | refine ⟨_, _, rfl, rfl, ?_⟩
  | refine ⟨rfl, ?_⟩
  | refine .inl ⟨_, rfl, ?_⟩
  | refine ⟨_, _, _, _, rfl, rfl, SqL.of (by first | assumption | exact upd_same), atI_nat (j := _) rfl, ?_⟩
  | refine ⟨_, _, _, _, rfl, rfl, (by first | assumption | exact upd_same), rfl, ?_⟩)
local macro_rules | `(tactic| walk_at "rd") => `(tactic| repeat (walk_at "rd1"))

theorem ltS_eq (a b : Str) : ltCps a.cps.toList b.cps.toList = ltS a b := ltCps_eq _ _
theorem ltS_trans {x y z : Str} (h1 : ltS y x = false) (h2 : ltS z y = false) : ltS z x = false := by
  unfold ltS at *
  have a := List.not_lt.mp (of_decide_eq_false h1)
  have b := List.not_lt.mp (of_decide_eq_false h2)
  exact decide_eq_false (List.not_lt.mpr (List.le_trans a b))
theorem rising_pw : ∀ (ys : List Str) (p : Str), risingS p ys = true → (∀ y ∈ ys, ltS y p = false) ∧ ys.Pairwise (fun x y => ltS y x = false)
  | [], _, _ => ⟨fun _ h => (nomatch h), List.Pairwise.nil⟩
  | x :: r, p, h => by
    have h : (!ltCps x.cps.toList p.cps.toList && risingS x r) = true := h
    obtain ⟨h1, h2⟩ := Bool.and_eq_true_iff.mp h
    have h1 : ltS x p = false := by
      rw [← ltS_eq]
      simpa using h1
    obtain ⟨i1, i2⟩ := rising_pw r x h2
    refine ⟨fun y hy => ?_, List.pairwise_cons.mpr ⟨i1, i2⟩⟩
    rcases List.mem_cons.mp hy with rfl | hy
    · exact h1
    · exact ltS_trans h1 (i1 y hy)
theorem sorted_pw {ys : List Str} (h : sortedS ys = true) : ys.Pairwise (fun x y => ltS y x = false) := by
  cases ys with
  | nil => exact .nil
  | cons x r =>
    obtain ⟨a, b⟩ := rising_pw r x h
    exact List.pairwise_cons.mpr ⟨a, b⟩
/-- a layer: names, and the value of each, as they stand in the dict -/
def lay (val : Str → V) (ns : List Str) : List (Key × V) := ns.map fun n => (.inr n, val n)
theorem lay_keys (val : Str → V) (ns : List Str) : (lay val ns).map (·.1) = ns.map Sum.inr := by
  unfold lay
  rw [List.map_map]
  rfl
theorem lay_val (val : Str → V) {n : Str} : ∀ {ns : List Str}, n ∈ ns → valV (lay val ns) (.inr n) = some (val n)
  | m :: r, h => by
    by_cases e : m = n
    · subst e
      exact valV_pos rfl
    · have h : n ∈ r := by
        rcases List.mem_cons.mp h with z | z
        · exact absurd z.symm e
        · exact z
      exact (valV_neg (p := ((.inr m : Key), val m)) (r := lay val r) (fun z => e (Sum.inr.inj z))).trans (lay_val val h)
theorem lay_none (val : Str → V) {n : Str} : ∀ {ns : List Str}, n ∉ ns → valV (lay val ns) (.inr n) = none
  | [], _ => rfl
  | m :: r, h => (valV_neg (p := ((.inr m : Key), val m)) (r := lay val r) (fun z => h (by rw [Sum.inr.inj z]; exact List.mem_cons_self))).trans (lay_none val fun z => h (List.mem_cons_of_mem _ z))
theorem lay_congr {v1 v2 : Str → V} {ns : List Str} (h : ∀ n ∈ ns, v1 n = v2 n) : lay v1 ns = lay v2 ns := List.map_congr_left fun n hn => by rw [h n hn]
theorem lay_put (val : Str → V) (ns : List Str) (n : Str) (v : V) : putK (lay val ns) (.inr n) v = lay (fun m => if m = n then v else val m) (if n ∈ ns then ns else ns ++ [n]) := by
  by_cases h : n ∈ ns
  · rw [if_pos h]
    unfold putK
    rw [if_pos]
    · unfold lay
      rw [List.map_map]
      refine List.map_congr_left fun m _ => ?_
      by_cases e : m = n
      · show (if (.inr m : Key) = .inr n then ((.inr m : Key), v) else (.inr m, val m)) = (.inr m, if m = n then v else val m)
        rw [if_pos (by rw [e]), if_pos e]
      · show (if (.inr m : Key) = .inr n then ((.inr m : Key), v) else (.inr m, val m)) = (.inr m, if m = n then v else val m)
        rw [if_neg (fun z => e (Sum.inr.inj z)), if_neg e]
    · rw [valV_any, lay_val val h]
      rfl
  · rw [if_neg h, Vf.putK_new]
    · unfold lay
      rw [List.map_append]
      have e1 : ∀ m ∈ ns, ((.inr m : Key), val m) = (.inr m, if m = n then v else val m) := fun m hm => by
        rw [if_neg (show ¬ m = n from fun z => h (by rw [← z]; exact hm))]
      rw [List.map_congr_left e1]
      show _ ++ [((.inr n : Key), v)] = _ ++ [((.inr n : Key), if n = n then v else val n)]
      rw [if_pos rfl]
    · rw [lay_keys]
      intro z
      obtain ⟨m, hm, e⟩ := List.mem_map.mp z
      exact h (Sum.inr.inj e ▸ hm)
/-- one laid over another -/
theorem lay_merge (v2 : Str → V) : ∀ (ns2 : List Str) (v1 : Str → V) (ns1 : List Str), ns2.Nodup → mergeK (lay v1 ns1) (lay v2 ns2) = lay (fun m => if m ∈ ns2 then v2 m else v1 m) (ns1 ++ ns2.filter fun m => decide (m ∉ ns1))
  | [], v1, ns1, _ => by
    show lay v1 ns1 = lay (fun m => if m ∈ [] then v2 m else v1 m) (ns1 ++ [])
    rw [List.append_nil]
    exact lay_congr fun n _ => (if_neg (fun z => nomatch z)).symm
  | n :: r, v1, ns1, nd => by
    obtain ⟨nr, nd⟩ := List.nodup_cons.mp nd
    show mergeK (putK (lay v1 ns1) (.inr n) (v2 n)) (lay v2 r) = _
    rw [lay_put, lay_merge v2 r _ _ nd]
    have ef : ∀ m : Str, (if m ∈ r then v2 m else if m = n then v2 n else v1 m) = if m ∈ n :: r then v2 m else v1 m := fun m => by
      by_cases h1 : m ∈ r
      · rw [if_pos h1, if_pos (List.mem_cons_of_mem _ h1)]
      · by_cases h2 : m = n
        · subst h2
          rw [if_neg h1, if_pos rfl, if_pos List.mem_cons_self]
        · rw [if_neg h1, if_neg h2, if_neg (fun z => (List.mem_cons.mp z).elim h2 h1)]
    have ef : (fun m => if m ∈ r then v2 m else if m = n then v2 n else v1 m) = fun m => if m ∈ n :: r then v2 m else v1 m := funext ef
    rw [ef]
    by_cases h : n ∈ ns1
    · rw [if_pos h, List.filter_cons_of_neg (by simpa using h)]
    · rw [if_neg h, List.filter_cons_of_pos (by simpa using h), List.append_assoc]
      have e2 : (r.filter fun m => decide (m ∉ ns1 ++ [n])) = r.filter fun m => decide (m ∉ ns1) := List.filter_congr fun m hm => by
        have : m ≠ n := fun z => nr (z ▸ hm)
        simp [this]
      rw [e2]
      rfl
/-- a dict comprehension by new names -/
theorem lay_step {val : Str → V} {ns : List Str} (nd : ns.Nodup) {i : Nat} {n : Str} (h : ns[i]? = some n) : putK (lay val (ns.take i)) (.inr n) (val n) = lay val (ns.take (i + 1)) := by
  rw [Vf.putK_new _ ?_, List.take_add_one, h]
  · unfold lay
    rw [List.map_append]
    rfl
  · unfold lay
    rw [List.map_map]
    intro z
    obtain ⟨m, hm, e⟩ := List.mem_map.mp z
    have e : m = n := Sum.inr.inj e
    subst e
    have l : i < ns.length := (List.getElem?_eq_some_iff.mp h).1
    have hs : ns = ns.take i ++ m :: ns.drop (i + 1) := by
      have : ns[i] = m := (List.getElem?_eq_some_iff.mp h).2
      rw [← this, ← List.drop_eq_getElem_cons l, List.take_append_drop]
    rw [hs, List.nodup_append] at nd
    exact nd.2.2 m hm m (by simp) rfl
def spAsc : Sp := fun vs H Q _ => ∃ (a : Addr) (val : Str → V) (ns : List Str), vs = [.ref a] ∧ H a = some (.dK (lay val ns)) ∧ ns.Nodup ∧ ns.length ≤ 60 ∧
  ∀ (ys : List Str) (p : Addr) (H' : Hp), ys.Perm ns → ys.Pairwise (fun x y => ltS y x = false) → H p = none → Same H H' → H' p = some (.dK (lay val ys)) → Q (.ref p) H'
theorem c_p_ascending (T : Txt K mg w) : Cal P w K mg base 1 "_ascending" spAsc [] := by
  refine calOf T.d_p_ascending sc_p_ascending (fun vs H Q E h => ?_) (fun f cdv A outer s H vs Q E hr h => ?_)
  · obtain ⟨a, val, ns, rfl, _⟩ := h
    rfl
  · obtain ⟨a, val, ns, rfl, ha, nd, hl, k⟩ := h
    have hu := u1 hr
    refine ⟨_,
      (pss_one (ps_ret (pe_dc (own := [("name", 1)]) (g := gName 1) (tt := tYes) rfl sc_p_ascending.nd (pi_list (pe_callB (call_sortedD rfl) (by rfl) T.n_sorted (by decide +kernel) (pa_cons (pv 0) pa_nil))) (blkOk_by (N := ["layer", "name"]) (sc := defScope s_p_ascending) (by decide +kernel)) (fun _ _ _ _ _ => pg_name (i := 1) sc_p_ascending.nd rfl (Or.inl rfl)) (fun _ _ _ _ _ => pts_nil) (fun _ _ _ _ _ => (pv 1)) (fun _ _ _ _ _ => (pe_dget hu (pv 0) (pv 1) (fun _ _ => rfl))))))
      , ?_⟩
    refine ⟨_, rfl, a, lay val ns, ns, rfl, .inl ha, lay_keys val ns, by omega, fun ys q yp ys2 hq => ?_⟩
    have ysd := sorted_pw ys2
    have ynd : ys.Nodup := yp.nodup_iff.mpr nd
    have s1 := same_new (o := HO.lst (ys.map V.str)) hq
    refine ⟨q, rfl, ⟨_, SqL.of upd_same⟩, fun D hD => ?_⟩
    have q1 : (upd H q (HO.lst (ys.map V.str))) q = _ := upd_same
    generalize upd H q (HO.lst (ys.map V.str)) = H1 at s1 q1 hD ⊢
    refine dc_itv (walk_list (K := K) (a := q) (xs := ys.map V.str)) (fun i H' => Same H1 H' ∧ H' D = some (.dK (lay val (ys.take i)))) ⟨same_put (Same.refl _) hD, upd_same⟩ (fun i H' _ h => SqL.of (h.1 _ _ q1)) ?_ ?_
    · rintro i x H2 H3 hi ⟨s2, d2⟩ ⟨rfl, hx⟩
      rw [List.getElem?_map] at hx
      obtain ⟨n, hn, rfl⟩ := Option.map_eq_some_iff.mp hx
      have mem : n ∈ ns := yp.mem_iff.mp (List.mem_of_getElem? hn)
      refine ⟨rfl, ?_⟩
      delta tYes
      refine iteT ?_
      refine ⟨_, rfl, _, rfl, _, rfl, a, _, rfl, .inl ⟨lay val ns, .inr n, .inl ((s1.trans s2) _ _ ha), rfl, (lay_val val mem).symm⟩, ?_⟩
      refine ⟨_, .inr n, rfl, d2, ?_, same_put s2 hD, ?_⟩
      · show (List.map _ _).length < _
        rw [List.length_map, List.length_take]
        exact Nat.lt_of_le_of_lt (Nat.min_le_right _ _) (by rw [yp.length_eq]; exact Nat.lt_of_le_of_lt hl (by decide))
      · rw [upd_same, lay_step ynd hn]
    · rintro H2 ⟨s2, d2⟩
      rw [List.length_map, List.take_length] at d2
      exact k ys D H2 yp ysd (s1.free hD) (s1.trans s2) d2

def spOver : Sp := fun vs H Q _ => ∃ (a b : Addr) (v1 v2 : Str → V) (n1 n2 : List Str), vs = [.ref a, .ref b] ∧ H a = some (.dK (lay v1 n1)) ∧ H b = some (.dK (lay v2 n2)) ∧ n1.Nodup ∧ n2.Nodup ∧ n1.length ≤ 20 ∧ n2.length ≤ 20 ∧
  ∀ (ys : List Str) (p : Addr) (H' : Hp), ys.Perm (n1 ++ n2.filter fun m => decide (m ∉ n1)) → ys.Pairwise (fun x y => ltS y x = false) → H p = none → Same H H' → H' p = some (.dK (lay (fun m => if m ∈ n2 then v2 m else v1 m) ys)) → Q (.ref p) H'
theorem over_nd {n1 n2 : List Str} (h1 : n1.Nodup) (h2 : n2.Nodup) : (n1 ++ n2.filter fun m => decide (m ∉ n1)).Nodup := by
  refine List.nodup_append.mpr ⟨h1, h2.filter _, fun x hx y hy e => ?_⟩
  have := (List.mem_filter.mp hy).2
  rw [← e] at this
  exact of_decide_eq_true this hx
theorem c_p_over (T : Txt K mg w) (c_p_ascending : Cal P w K mg base 1 "_ascending" spAsc []) : Cal P w K mg base 2 "over" spOver [] := by
  refine calOf T.d_p_over sc_p_over (fun vs H Q E h => ?_) (fun f cdv A outer s H vs Q E hr h => ?_)
  · obtain ⟨a, b, v1, v2, n1, n2, rfl, _⟩ := h
    rfl
  · obtain ⟨a, b, v1, v2, n1, n2, rfl, ha, hb, d1, d2, l1, l2, k⟩ := h
    refine ⟨_,
      (pss_one (ps_ret (pe_c c_p_ascending hr (by first | decide | omega) rfl (pa_cons (pe_mrg2 (pv 0) (pv 1)) pa_nil))))
      , ?_⟩
    refine fun p hp => ?_
    have s0 := same_new (o := HO.dK []) hp
    have na : a ≠ p := ne_of_none ha hp
    have nb : b ≠ p := ne_of_none hb hp
    have e1 : mergeK [] (lay v1 n1) = lay v1 n1 := by
      have := lay_merge v1 n1 v1 [] d1
      rw [show lay v1 [] = [] from rfl] at this
      rw [this, List.nil_append]
      have : (n1.filter fun m => decide (m ∉ ([] : List Str))) = n1 := List.filter_eq_self.mpr fun m _ => by simp
      rw [this]
      exact lay_congr fun n hn => if_pos hn
    refine ⟨_, rfl, upd_same, a, _, rfl, na, .inl (s0 _ _ ha), by unfold lay; rw [List.length_map]; omega, ?_⟩
    rw [e1, upd_upd]
    have s1 := same_new (o := HO.dK (lay v1 n1)) hp
    refine ⟨_, rfl, upd_same, b, _, rfl, nb, .inl (s1 _ _ hb), by unfold lay; rw [List.length_map]; omega, ?_⟩
    rw [upd_upd, lay_merge v2 n2 v1 n1 d2]
    have s2 := same_new (o := HO.dK (lay (fun m => if m ∈ n2 then v2 m else v1 m) (n1 ++ n2.filter fun m => decide (m ∉ n1)))) hp
    refine ⟨p, _, _, rfl, upd_same, over_nd d1 d2, ?_, fun ys q H' yp yo hq s3 hq' => ?_⟩
    · rw [List.length_append]
      have := List.length_filter_le (fun m => decide (m ∉ n1)) n2
      omega
    · refine k ys q H' yp yo ?_ (s2.trans s3) hq'
      exact s2.free hq

def isI : PyData → Bool
  | .int _ => true
  | _ => false
def inR (lo hi : Int) : PyData → Bool
  | .int n => decide (lo ≤ n) && decide (n ≤ hi)
  | _ => false
def eqS (z : Str) : PyData → Bool
  | .str w => decide (w = z)
  | _ => false
def hasS (z : Str) (ds : List PyData) : Bool := ds.any (eqS z)
def rankB : PyData → Bool
  | .tuple ds => decide (ds.length = 3) && (hasS "over" ds && (hasS "lines" ds && hasS "broken" ds))
  | _ => false
def wordB (ws : List Str) : PyData → Bool
  | .str z => decide (z ∈ ws)
  | _ => false
def canB (n : Str) (d : PyData) : Bool := if n = "width" then inR 8 120 d else if n = "step" then inR 0 8 d else if n = "blanks" then inR 0 3 d else if n = "operators" then wordB ["ahead", "behind"] d else if n = "lists" then wordB ["fill", "rows"] d else rankB d
def atomD : PyData → Bool
  | .list _ => false
  | .tuple _ => false
  | .dict _ => false
  | _ => true
/-- a tuple has only simple things -/
def flatT : PyData → Bool
  | .tuple ds => ds.all atomD
  | _ => true
def names22 : List Str := ["width", "step", "blanks", "rank", "operators", "lists"]
theorem kit_intD (K : PySem.W.Frag) (d : PyData) : PySem.W.kitOne K (.type (tyD d)) (.type "int") = some (decide (tyD d = "int") || decide (tyD d = "bool")) := by
  cases d <;> rfl
theorem kit_boolD (K : PySem.W.Frag) (d : PyData) : PySem.W.kitOne K (.type (tyD d)) (.type "bool") = some (decide (tyD d = "bool")) := by
  cases d <;> rfl
/-- of data, something told that is a value -/
def spD (K : PySem.W.Frag) (f : PyData → V) : Sp := fun vs H Q _ => ∃ (v : V) (d : PyData), vs = [v] ∧ Dx K H v d ∧ Q (f d) H
theorem c_p_is_integer (T : Txt K mg w) : Cal P w K mg base 1 "is_integer" (spD K fun d => .bl (isI d)) [] := by
  refine calOf T.d_p_is_integer sc_p_is_integer (fun vs H Q E h => ?_) (fun f cdv A outer s H vs Q E hr h => ?_)
  · obtain ⟨v, d, rfl, _⟩ := h
    rfl
  · obtain ⟨v, d, rfl, ht, k⟩ := h
    refine ⟨_,
      (pss_one (ps_ret (pe_and (pe_callB call_isi (by rfl) T.n_isinstance (by decide +kernel) (pa_cons (pv 0) (pa_cons (pe_bltn (v := V.ty "int") (by rfl) T.n_int (by decide +kernel) rfl) pa_nil))) (pe_one (pe_not (pe_callB call_isi (by rfl) T.n_isinstance (by decide +kernel) (pa_cons (pv 0) (pa_cons (pe_bltn (v := V.ty "bool") (by rfl) T.n_bool (by decide +kernel) rfl) pa_nil))))))))
      , ?_⟩
    refine ⟨_, rfl, _, _, _, _, _, rfl, .ty _, ht.ty, kit_intD K d, ?_⟩
    refine ⟨_, rfl, ?_⟩
    cases d with
    | int i => exact ⟨_, rfl, _, _, _, _, _, rfl, .ty _, ht.ty, kit_boolD K _, _, rfl, k⟩
    | bool b => exact ⟨_, rfl, _, _, _, _, _, rfl, .ty _, ht.ty, kit_boolD K _, _, rfl, k⟩
    | _ => exact k
theorem c_l_integer (T : Txt K mg w) : Cal P w K mg base 1 "_law_integer" (spD K fun d => .bl (isI d)) [] := by
  refine calOf T.d_l_integer sc_l_integer (fun vs H Q E h => ?_) (fun f cdv A outer s H vs Q E hr h => ?_)
  · obtain ⟨v, d, rfl, _⟩ := h
    rfl
  · obtain ⟨v, d, rfl, ht, k⟩ := h
    refine ⟨_,
      (pss_one (ps_ret (pe_and (pe_callB call_isi (by rfl) T.n_isinstance (by decide +kernel) (pa_cons (pv 0) (pa_cons (pe_bltn (v := V.ty "int") (by rfl) T.n_int (by decide +kernel) rfl) pa_nil))) (pe_one (pe_not (pe_callB call_isi (by rfl) T.n_isinstance (by decide +kernel) (pa_cons (pv 0) (pa_cons (pe_bltn (v := V.ty "bool") (by rfl) T.n_bool (by decide +kernel) rfl) pa_nil))))))))
      , ?_⟩
    refine ⟨_, rfl, _, _, _, _, _, rfl, .ty _, ht.ty, kit_intD K d, ?_⟩
    refine ⟨_, rfl, ?_⟩
    cases d with
    | int i => exact ⟨_, rfl, _, _, _, _, _, rfl, .ty _, ht.ty, kit_boolD K _, _, rfl, k⟩
    | bool b => exact ⟨_, rfl, _, _, _, _, _, rfl, .ty _, ht.ty, kit_boolD K _, _, rfl, k⟩
    | _ => exact k
/-- of a tuple's simple things: their values -/
theorem flat_vals {H : Hp} : ∀ {xs : List V} {ds : List PyData}, DxAll K H xs ds → ds.all atomD = true → xs.all flatV = true ∧ ∀ z : Str, inV (.str z) xs = hasS z ds
  | _, _, .nil, _ => ⟨rfl, fun z => rfl⟩
  | _, _, .cons (v := v) (d := d) a b, h => by
    have h' : (atomD d && _) = true := h
    rw [Bool.and_eq_true] at h'
    obtain ⟨h1, h2⟩ := flat_vals b h'.2
    have fv : flatV v = true ∧ ∀ z : Str, eqV v (.str z) = eqS z d := by
      cases a with
      | non => exact ⟨rfl, fun z => rfl⟩
      | bl b => exact ⟨rfl, fun z => rfl⟩
      | int i => exact ⟨rfl, fun z => rfl⟩
      | str x => exact ⟨rfl, fun z => (by
          show (x == z) = decide (x = z)
          rw [Bool.eq_iff_iff, beq_iff_eq, decide_eq_true_iff])⟩
      | lst _ _ => cases h'.1
      | tup _ _ => cases h'.1
      | dic _ _ _ => cases h'.1
    refine ⟨?_, fun z => ?_⟩
    · show (flatV v && _) = true
      rw [fv.1, h1] <;> rfl
    · show (eqV v (.str z) || inV (.str z) _) = (eqS z d || hasS z _)
      rw [fv.2, h2]
/-- a rank -/
theorem c_p_is_rank (T : Txt K mg w) : Cal P w K mg base 1 "is_rank" (fun vs H Q _ => ∃ (v : V) (d : PyData), vs = [v] ∧ Dx K H v d ∧ flatT d = true ∧ ∀ H', Same H H' → Q (.bl (rankB d)) H') [] := by
  refine calOf T.d_p_is_rank sc_p_is_rank (fun vs H Q E h => ?_) (fun f cdv A outer s H vs Q E hr h => ?_)
  · obtain ⟨v, d, rfl, _⟩ := h
    rfl
  · obtain ⟨v, d, rfl, hd, ft, k⟩ := h
    obtain ⟨a_PARTS, m_PARTS, t_PARTS⟩ := T.t_PARTS
    refine ⟨_,
      (pss_one (ps_ret (pe_and (pe_callB call_isi (by rfl) T.n_isinstance (by decide +kernel) (pa_cons (pv 0) (pa_cons (pe_bltn (v := V.ty "tuple") (by rfl) T.n_tuple (by decide +kernel) rfl) pa_nil))) (pe_and (pe_cmpR op_eq (pe_callB call_len (by rfl) T.n_len PySem.boot_len (pa_cons (pv 0) pa_nil)) pe_int (nomark _)) (pe_one (pe_callB (cr_all rfl) (by rfl) T.n_all (by decide +kernel) (pa_cons (pe_lc (own := [("word", 1)]) (g := gName 1) (tt := tYes) rfl sc_p_is_rank.nd (pi_tup (pe_gc (v := V.ref a_PARTS) rfl ⟨_, m_PARTS, rfl⟩)) (blkOk_by (N := ["thing", "word"]) (sc := defScope s_p_is_rank) (by decide +kernel)) (fun _ _ _ _ _ => pg_name (i := 1) sc_p_is_rank.nd rfl (Or.inl rfl)) (fun _ _ _ _ _ => pts_nil) (fun _ _ _ _ _ => (pe_cmpR (show OpR _ (compareOp .In) (rIn K false) from op_in_seq) (pv 1) (pv 0) (by rfl)))) pa_nil)))))))
      , ?_⟩
    refine ⟨_, rfl, _, _, _, _, _, rfl, .ty _, hd.ty, kit_tupD K d, ?_⟩
    refine ⟨_, rfl, ?_⟩
    cases d with
    | tuple ds =>
      obtain ⟨a, xs, rfl, hs, hx⟩ := dx_tup hd rfl
      obtain ⟨fl, ins⟩ := flat_vals hx ft
      have len := hx.len
      refine iteT ?_
      refine ⟨_, rfl, _, xs.length, rfl, .inr ⟨xs, hs, rfl⟩, rfl, _, rfl, ?_⟩
      have e3 : decide (V.int (xs.length : Nat) = V.int 3) = decide (ds.length = 3) := decide_eq_decide.mpr ⟨fun z => by
        have z := V.int.inj z
        omega, fun z => by rw [len, z] <;> rfl⟩
      rw [e3]
      refine ite2 (fun h => ?_) (fun h => ?_)
      · refine ⟨a_PARTS, rfl, ⟨_, t_PARTS H⟩, fun D hD => ?_⟩
        refine lc_it (walk_tup (K := K) (a := a_PARTS) (xs := tp_PARTS.map V.str)) (fun i H' => H' D = some (.lst (((tp_PARTS.take i).map fun z => hasS z ds).map V.bl)) ∧ Same H H') ⟨upd_same, same_put (Same.refl _) hD⟩ (fun i H' _ _ => t_PARTS H') ?_ ?_
        · rintro i x H1 H2 hi ⟨d1, s1⟩ ⟨rfl, hx1⟩
          rw [List.getElem?_map] at hx1
          obtain ⟨z, hz, rfl⟩ := Option.map_eq_some_iff.mp hx1
          refine ⟨rfl, ?_⟩
          delta tYes
          refine iteT ?_
          refine ⟨_, rfl, _, rfl, a, xs, rfl, .inr (sameT s1 hs), rfl, fl, _, d1, ?_, ?_, same_put s1 hD⟩
          · rw [List.length_map, List.length_map, List.length_take]
            exact Nat.lt_of_le_of_lt (Nat.min_le_right _ _) (show 3 < sizeLine by decide)
          · rw [List.take_add_one, hz, List.map_append, List.map_append, upd_same]
            show some (HO.lst (_ ++ [V.bl (inV (.str z) xs)])) = _
            rw [ins]
            rfl
        · rintro H1 ⟨d1, s1⟩
          refine ⟨D, [hasS "over" ds, hasS "lines" ds, hasS "broken" ds], rfl, SqL.of d1, ?_⟩
          have e : [hasS "over" ds, hasS "lines" ds, hasS "broken" ds].all id = rankB (.tuple ds) := by
            show (hasS "over" ds && (hasS "lines" ds && (hasS "broken" ds && true))) = (decide (ds.length = 3) && (hasS "over" ds && (hasS "lines" ds && hasS "broken" ds)))
            rw [h, Bool.true_and, Bool.and_true]
          rw [e]
          exact k H1 s1
      · have e : rankB (.tuple ds) = false := by
          show (decide (ds.length = 3) && _) = false
          rw [Bool.eq_false_iff.mpr h] <;> rfl
        have k := k H (Same.refl H)
        rw [e] at k
        exact k
    | _ => exact k H (Same.refl H)
theorem inV_strs (z : Str) (l : List Str) : inV (.str z) (l.map V.str) = decide (z ∈ l) := by
  unfold inV
  rw [Bool.eq_iff_iff, List.any_map, List.any_eq_true, decide_eq_true_iff]
  constructor
  · rintro ⟨x, hx, e⟩
    have e : (x == z) = true := e
    rw [beq_iff_eq] at e
    exact e ▸ hx
  · intro h
    exact ⟨z, h, (by show (z == z) = true; exact beq_self_eq_true z)⟩
/-- what may be under a name -/
def spCan (K : PySem.W.Frag) : Sp := fun vs H Q _ => ∃ (n : Str) (v : V) (d : PyData), vs = [.str n, v] ∧ n ∈ names22 ∧ Dx K H v d ∧ (n = "rank" → flatT d = true ∧ tmx d = true ∧ wtx d ≤ 10000) ∧ ∀ H', Same H H' → Q (.bl (canB n d)) H'
theorem c_p_can_be (T : Txt K mg w) (c_p_is_integer : Cal P w K mg base 1 "is_integer" (spD K fun d => .bl (isI d)) [])
    (c_p_is_rank : Cal P w K mg base 1 "is_rank" (fun vs H Q _ => ∃ (v : V) (d : PyData), vs = [v] ∧ Dx K H v d ∧ flatT d = true ∧ ∀ H', Same H H' → Q (.bl (rankB d)) H') []) : Cal P w K mg base 2 "can_be" (spCan K) [] := by
  refine calOf T.d_p_can_be sc_p_can_be (fun vs H Q E h => ?_) (fun f cdv A outer s H vs Q E hr h => ?_)
  · obtain ⟨n, v, d, rfl, _⟩ := h
    rfl
  · obtain ⟨n, v, d, rfl, hn, hd, ft, k⟩ := h
    obtain ⟨a_BOUNDS, b0, b1, b2, m_BOUNDS, k_BOUNDS, t0, t1, t2⟩ := T.k_BOUNDS
    obtain ⟨a_WORDS, w0, w1, m_WORDS, k_WORDS, u0, u1⟩ := T.k_WORDS
    refine ⟨_,
      (pss_cons (ps_if (pt_cmpR op_in_kdw (pv 0) (pe_gc (v := V.ref a_BOUNDS) rfl ⟨_, m_BOUNDS, rfl⟩) (by rfl))
        (pss_cons (ps_asg (pe_ix ix_kd (pe_gc (v := V.ref a_BOUNDS) rfl ⟨_, m_BOUNDS, rfl⟩) (pv 0) (fun _ _ => rfl)) (pg_tup rfl (pgs_cons (pg_name (i := 2) sc_p_can_be.nd rfl (Or.inl rfl)) (pgs_cons (pg_name (i := 3) sc_p_can_be.nd rfl (Or.inl rfl)) pgs_nil))))
        (pss_one (ps_ret (pe_and (pe_c c_p_is_integer hr (by first | decide | omega) rfl (pa_cons (pv 1) pa_nil)) (pe_one (pe_chain op_le op_le (pv 2) (pv 1) (pv 3)))))))
        pss_nil)
        (pss_cons (ps_if (pt_cmpR op_in_kdw (pv 0) (pe_gc (v := V.ref a_WORDS) rfl ⟨_, m_WORDS, rfl⟩) (by rfl))
        (pss_one (ps_ret (pe_and (pe_callB call_isi (by rfl) T.n_isinstance (by decide +kernel) (pa_cons (pv 1) (pa_cons (pe_bltn (v := V.ty "str") (by rfl) T.n_str (by decide +kernel) rfl) pa_nil))) (pe_one (pe_cmpR op_in_seq (pv 1) (pe_ix ix_kd (pe_gc (v := V.ref a_WORDS) rfl ⟨_, m_WORDS, rfl⟩) (pv 0) (fun _ _ => rfl)) (by rfl))))))
        pss_nil)
        (pss_one (ps_ret (pe_c c_p_is_rank hr (by first | decide | omega) rfl (pa_cons (pv 1) pa_nil))))))
      , ?_⟩
    walk_at "rd"
    unfold names22 at hn
    simp only [List.mem_cons, List.not_mem_nil, or_false] at hn
    rcases hn with rfl | rfl | rfl | rfl | rfl | rfl
    · refine ⟨a_BOUNDS, _, .inr "width", rfl, rfl, k_BOUNDS, _, rfl, ?_⟩
      refine ite2 (fun _ => ?_) (fun z => absurd rfl z)
      walk_at "rd"
      refine ⟨a_BOUNDS, _, .inr "width", .ref b0, rfl, rfl, k_BOUNDS, rfl, b0, _, rfl, t0 H, rfl, _, _, rfl, _, _, rfl, rfl, ?_⟩
      refine ⟨_, rfl, v, d, rfl, hd, _, rfl, ?_⟩
      have k : Q (.bl (inR 8 120 d)) H := k H (Same.refl H)
      cases d with
      | int i =>
        obtain rfl : v = .int i := by
          cases hd
          rfl
        have k : Q (.bl (decide (8 ≤ i) && decide (i ≤ 120))) H := k
        refine iteT ?_
        walk_at "rd"
        refine ite2 (fun h => ?_) (fun h => ?_)
        · rw [h, Bool.true_and] at k
          exact ⟨_, rfl, _, _, rfl, rfl, k⟩
        · rw [Bool.eq_false_iff.mpr h, Bool.false_and] at k
          exact k
      | _ => exact k
    · refine ⟨a_BOUNDS, _, .inr "step", rfl, rfl, k_BOUNDS, _, rfl, ?_⟩
      refine ite2 (fun _ => ?_) (fun z => absurd rfl z)
      walk_at "rd"
      refine ⟨a_BOUNDS, _, .inr "step", .ref b1, rfl, rfl, k_BOUNDS, rfl, b1, _, rfl, t1 H, rfl, _, _, rfl, _, _, rfl, rfl, ?_⟩
      refine ⟨_, rfl, v, d, rfl, hd, _, rfl, ?_⟩
      have k : Q (.bl (inR 0 8 d)) H := k H (Same.refl H)
      cases d with
      | int i =>
        obtain rfl : v = .int i := by
          cases hd
          rfl
        have k : Q (.bl (decide (0 ≤ i) && decide (i ≤ 8))) H := k
        refine iteT ?_
        walk_at "rd"
        refine ite2 (fun h => ?_) (fun h => ?_)
        · rw [h, Bool.true_and] at k
          exact ⟨_, rfl, _, _, rfl, rfl, k⟩
        · rw [Bool.eq_false_iff.mpr h, Bool.false_and] at k
          exact k
      | _ => exact k
    · refine ⟨a_BOUNDS, _, .inr "blanks", rfl, rfl, k_BOUNDS, _, rfl, ?_⟩
      refine ite2 (fun _ => ?_) (fun z => absurd rfl z)
      walk_at "rd"
      refine ⟨a_BOUNDS, _, .inr "blanks", .ref b2, rfl, rfl, k_BOUNDS, rfl, b2, _, rfl, t2 H, rfl, _, _, rfl, _, _, rfl, rfl, ?_⟩
      refine ⟨_, rfl, v, d, rfl, hd, _, rfl, ?_⟩
      have k : Q (.bl (inR 0 3 d)) H := k H (Same.refl H)
      cases d with
      | int i =>
        obtain rfl : v = .int i := by
          cases hd
          rfl
        have k : Q (.bl (decide (0 ≤ i) && decide (i ≤ 3))) H := k
        refine iteT ?_
        walk_at "rd"
        refine ite2 (fun h => ?_) (fun h => ?_)
        · rw [h, Bool.true_and] at k
          exact ⟨_, rfl, _, _, rfl, rfl, k⟩
        · rw [Bool.eq_false_iff.mpr h, Bool.false_and] at k
          exact k
      | _ => exact k
    · refine ⟨a_BOUNDS, _, .inr "rank", rfl, rfl, k_BOUNDS, _, rfl, ?_⟩
      refine ite2 (fun z => nomatch z) (fun _ => ?_)
      walk_at "rd"
      refine ⟨a_WORDS, _, .inr "rank", rfl, rfl, k_WORDS, _, rfl, ?_⟩
      refine ite2 (fun z => nomatch z) (fun _ => ?_)
      exact ⟨_, rfl, v, d, rfl, hd, (ft rfl).1, k⟩
    · refine ⟨a_BOUNDS, _, .inr "operators", rfl, rfl, k_BOUNDS, _, rfl, ?_⟩
      refine ite2 (fun z => nomatch z) (fun _ => ?_)
      walk_at "rd"
      refine ⟨a_WORDS, _, .inr "operators", rfl, rfl, k_WORDS, _, rfl, ?_⟩
      refine ite2 (fun _ => ?_) (fun z => absurd rfl z)
      refine ⟨_, rfl, _, _, _, _, _, rfl, .ty _, hd.ty, kit_strD K d, ?_⟩
      refine ⟨_, rfl, ?_⟩
      have k : Q (.bl (wordB (["ahead", "behind"] : List Str) d)) H := k H (Same.refl H)
      cases d with
      | str z =>
        obtain rfl : v = .str z := by
          cases hd
          rfl
        refine iteT ?_
        walk_at "rd"
        refine ⟨a_WORDS, _, .inr "operators", .ref w0, rfl, rfl, k_WORDS, rfl, w0, _, rfl, .inr (u0 H), rfl, rfl, ?_⟩
        have e : inV (.str z) (List.map V.str (["ahead", "behind"] : List Str)) = decide (z ∈ (["ahead", "behind"] : List Str)) := inV_strs z _
        have k : Q (.bl (decide (z ∈ (["ahead", "behind"] : List Str)))) H := k
        rw [← e] at k
        exact k
      | _ => exact k
    · refine ⟨a_BOUNDS, _, .inr "lists", rfl, rfl, k_BOUNDS, _, rfl, ?_⟩
      refine ite2 (fun z => nomatch z) (fun _ => ?_)
      walk_at "rd"
      refine ⟨a_WORDS, _, .inr "lists", rfl, rfl, k_WORDS, _, rfl, ?_⟩
      refine ite2 (fun _ => ?_) (fun z => absurd rfl z)
      refine ⟨_, rfl, _, _, _, _, _, rfl, .ty _, hd.ty, kit_strD K d, ?_⟩
      refine ⟨_, rfl, ?_⟩
      have k : Q (.bl (wordB (["fill", "rows"] : List Str) d)) H := k H (Same.refl H)
      cases d with
      | str z =>
        obtain rfl : v = .str z := by
          cases hd
          rfl
        refine iteT ?_
        walk_at "rd"
        refine ⟨a_WORDS, _, .inr "lists", .ref w1, rfl, rfl, k_WORDS, rfl, w1, _, rfl, .inr (u1 H), rfl, rfl, ?_⟩
        have e : inV (.str z) (List.map V.str (["fill", "rows"] : List Str)) = decide (z ∈ (["fill", "rows"] : List Str)) := inV_strs z _
        have k : Q (.bl (decide (z ∈ (["fill", "rows"] : List Str)))) H := k
        rw [← e] at k
        exact k
      | _ => exact k

theorem eqv_strs : ∀ (l m : List Str), PyData.eqvAll (l.map .str) (m.map .str) = decide (l = m)
  | [], [] => rfl
  | [], _ :: _ => rfl
  | _ :: _, [] => rfl
  | x :: l, y :: m => by
    show ((x == y) && PyData.eqvAll (l.map .str) (m.map .str)) = _
    rw [eqv_strs l m, Bool.eq_iff_iff, Bool.and_eq_true, beq_iff_eq, decide_eq_true_iff, decide_eq_true_iff, List.cons.injEq]
def three22 : List Str := ["broken", "lines", "over"]
theorem hasS_strs (z : Str) : ∀ zs : List Str, hasS z (zs.map .str) = decide (z ∈ zs)
  | [] => rfl
  | w :: r => by
    show (decide (w = z) || hasS z (r.map .str)) = _
    rw [hasS_strs z r, Bool.eq_iff_iff, Bool.or_eq_true, decide_eq_true_iff, decide_eq_true_iff, decide_eq_true_iff, List.mem_cons]
    constructor
    · rintro (h | h)
      · exact .inl h.symm
      · exact .inr h
    · rintro (h | h)
      · exact .inl h.symm
      · exact .inr h
theorem rank_sorted {ys zs : List Str} (p : ys.Perm zs) (s : ys.Pairwise fun x y => ltS y x = false) : decide (ys = three22) = rankB (.tuple (zs.map .str)) := by
  show _ = (decide ((zs.map PyData.str).length = 3) && (hasS "over" (zs.map .str) && (hasS "lines" (zs.map .str) && hasS "broken" (zs.map .str))))
  rw [hasS_strs, hasS_strs, hasS_strs, List.length_map, Bool.eq_iff_iff, Bool.and_eq_true, Bool.and_eq_true, Bool.and_eq_true, decide_eq_true_iff, decide_eq_true_iff, decide_eq_true_iff, decide_eq_true_iff, decide_eq_true_iff]
  constructor
  · intro e
    subst e
    refine ⟨by rw [← p.length_eq] <;> rfl, p.mem_iff.mp (by decide), p.mem_iff.mp (by decide), p.mem_iff.mp (by decide)⟩
  · rintro ⟨l, h1, h2, h3⟩
    have l' : ys.length = 3 := by rw [p.length_eq, l]
    have m1 := p.mem_iff.mpr h1
    have m2 := p.mem_iff.mpr h2
    have m3 := p.mem_iff.mpr h3
    clear p h1 h2 h3 l
    match ys, l' with
    | [a, b, c], _ =>
      obtain ⟨s1, s2⟩ := List.pairwise_cons.mp s
      obtain ⟨s3, _⟩ := List.pairwise_cons.mp s2
      have ab := s1 b (by simp)
      have ac := s1 c (by simp)
      have bc := s3 c (by simp)
      simp only [List.mem_cons, List.not_mem_nil, or_false] at m1 m2 m3
      rcases m1 with rfl | rfl | rfl <;> rcases m2 with m2 | m2 | m2 <;> rcases m3 with m3 | m3 | m3 <;> first
        | (subst m2; subst m3; first | rfl | (exfalso; revert ab ac bc; decide +kernel))
        | (exfalso; revert m2; decide)
        | (exfalso; revert m3; decide)
        | (subst m2; exfalso; revert m3; decide)
def isS : PyData → Bool
  | .str _ => true
  | _ => false
theorem eqS_is {z : Str} {d : PyData} (h : eqS z d = true) : d = .str z := by
  cases d with
  | str w =>
    have h : decide (w = z) = true := h
    rw [of_decide_eq_true h]
  | _ => cases h
theorem rank_strs {ds : List PyData} (h : rankB (.tuple ds) = true) : ds.all isS = true := by
  have h : (decide (ds.length = 3) && (hasS "over" ds && (hasS "lines" ds && hasS "broken" ds))) = true := h
  rw [Bool.and_eq_true, Bool.and_eq_true, Bool.and_eq_true, decide_eq_true_iff] at h
  obtain ⟨l, h1, h2, h3⟩ := h
  match ds, l with
  | [a, b, c], _ =>
    have o : ∀ z : Str, hasS z [a, b, c] = true → a = .str z ∨ b = .str z ∨ c = .str z := fun z h => by
      have h : (eqS z a || (eqS z b || (eqS z c || false))) = true := h
      rw [Bool.or_false, Bool.or_eq_true, Bool.or_eq_true] at h
      rcases h with h | h | h
      · exact .inl (eqS_is h)
      · exact .inr (.inl (eqS_is h))
      · exact .inr (.inr (eqS_is h))
    rcases o _ h1 with rfl | rfl | rfl <;> rcases o _ h2 with e | e | e <;> rcases o _ h3 with e' | e' | e' <;> first
      | (subst e; subst e'; rfl)
      | (exfalso; injection e with e; exact absurd e (by decide))
      | (exfalso; injection e' with e'; exact absurd e' (by decide))
      | (subst e; exfalso; injection e' with e'; exact absurd e' (by decide))
def nonS (ds : List PyData) : Nat := (ds.filter fun d => !isS d).length
theorem ones_dp {H : Hp} : ∀ c : Nat, DpAll K H (List.replicate c (V.int 1)) (List.replicate c (PyData.int 1))
  | 0 => .nil
  | c + 1 => .cons (.int 1) (ones_dp c)
theorem ones_shape (c : Nat) : SeqAt.shaped (.list (List.replicate c (PyData.int 1))) = true := by
  have a : ∀ c : Nat, PyData.canLayAll0 (List.replicate c (PyData.int 1)) = true ∧ PyData.depthAll (List.replicate c (PyData.int 1)) = 0 := fun c => by
    induction c with
    | zero => exact ⟨rfl, rfl⟩
    | succ c ih =>
      refine ⟨?_, ?_⟩
      · show (PyData.canLay0 (.int 1) && PyData.canLayAll0 (List.replicate c (PyData.int 1))) = true
        rw [ih.1] <;> rfl
      · show max 0 (PyData.depthAll (List.replicate c (PyData.int 1))) = 0
        rw [ih.2] <;> rfl
  show (PyData.canLayAll0 (List.replicate c (PyData.int 1)) && decide (PyData.depthAll (List.replicate c (PyData.int 1)) + 1 ≤ 64)) = true
  rw [(a c).1, (a c).2] <;> rfl
theorem strs_of {H : Hp} : ∀ {xs : List V} {ds : List PyData}, DxAll K H xs ds → ds.all isS = true → ∃ zs : List Str, xs = zs.map V.str ∧ ds = zs.map .str
  | _, _, .nil, _ => ⟨[], rfl, rfl⟩
  | _, _, .cons (d := d) a b, h => by
    have h' : (isS d && _) = true := h
    rw [Bool.and_eq_true] at h'
    obtain ⟨zs, rfl, rfl⟩ := strs_of b h'.2
    cases a with
    | str x => exact ⟨x :: zs, rfl, rfl⟩
    | non => cases h'.1
    | bl b => cases h'.1
    | int i => cases h'.1
    | lst _ _ => cases h'.1
    | tup _ _ => cases h'.1
    | dic _ _ _ => cases h'.1
theorem nonS_zero {ds : List PyData} (h : nonS ds = 0) : ds.all isS = true := by
  have := List.length_eq_zero_iff.mp h
  rw [List.filter_eq_nil_iff] at this
  exact List.all_eq_true.mpr fun d hd => by
    have := this d hd
    simpa using this
theorem c_l_is_value (T : Txt K mg w) (c_l_integer : Cal P w K mg base 1 "_law_integer" (spD K fun d => .bl (isI d)) []) : Cal P w K mg base 2 "_law_is_value" (spCan K) [] := by
  refine calOf T.d_l_is_value sc_l_is_value (fun vs H Q E h => ?_) (fun f cdv A outer s H vs Q E hr h => ?_)
  · obtain ⟨n, v, d, rfl, _⟩ := h
    rfl
  · obtain ⟨n, v, d, rfl, hn, hd, ft, k⟩ := h
    have hu := u1 hr
    refine ⟨_,
      (pss_cons (ps_set (i := 2) sc_l_is_value.nd rfl (Or.inl rfl) (pe_disp (pps_cons pe_str (pe_tup (pa_cons pe_int (pa_cons pe_int pa_nil))) (pps_cons pe_str (pe_tup (pa_cons pe_int (pa_cons pe_int pa_nil))) (pps_cons pe_str (pe_tup (pa_cons pe_int (pa_cons pe_int pa_nil))) pps_nil))) (by rfl) (by rfl) (fun z => by cases z) (by decide)))
        (pss_cons (ps_if (pt_cmpR (op_inDict (u1 hr)) (pv 0) (pv 2) (by rfl))
        (pss_one (ps_ret (pe_and (pe_c c_l_integer hr (by first | decide | omega) rfl (pa_cons (pv 1) pa_nil)) (pe_one (pe_chain op_le op_le (pe_ix ix_tup (pe_dget hu (pv 2) (pv 0) (fun _ _ => rfl)) pe_int (fun _ _ => rfl)) (pv 1) (pe_ix ix_tup (pe_dget hu (pv 2) (pv 0) (fun _ _ => rfl)) pe_int (fun _ _ => rfl)))))))
        pss_nil)
        (pss_cons (ps_if (pt_cmpR op_eq (pv 0) pe_str (nomark _))
        (pss_cons (ps_if (PW.pt (pw_or (pt_not (pt_val (pe_callB call_isi (by rfl) T.n_isinstance (by decide +kernel) (pa_cons (pv 1) (pa_cons (pe_bltn (v := V.ty "tuple") (by rfl) T.n_tuple (by decide +kernel) rfl) pa_nil))))) (pw_or1 (pt_cmpR (op_neD hr.units) (pe_lc (own := [("_law_one_here", 4)]) (g := gName 4) rfl sc_l_is_value.nd (pi_tup (pv 1)) (blkOk_by (N := ["_law_word", "_law_value", "_law_bounds", "_law_some", "_law_one_here"]) (sc := defScope s_l_is_value) (by decide +kernel)) (fun _ _ _ _ _ => pg_name (i := 4) sc_l_is_value.nd rfl (Or.inl rfl)) (fun _ _ _ _ _ => (pts_one (pt_not (pt_val (pe_callB (show CallR _ (.builtin "isinstance") (rIsi K) from call_isi) (by rfl) T.n_isinstance (by decide +kernel) (pa_cons (pv 4) (pa_cons (pe_bltn (v := V.ty "str") (by rfl) T.n_str (by decide +kernel) rfl) pa_nil))))))) (fun _ _ _ _ _ => pe_int)) (pe_lst pa_nil) (nomark _)))))
        (pss_one (ps_ret pe_bl))
        pss_nil)
        (pss_one (ps_ret (pe_cmpR (op_eqD hr.units) (pe_callB call_sortedS (by rfl) T.n_sorted (by decide +kernel) (pa_cons (pv 1) pa_nil)) (pe_lst (pa_cons pe_str (pa_cons pe_str (pa_cons pe_str pa_nil)))) (nomark _)))))
        pss_nil)
        (pss_cons (ps_set (i := 3) sc_l_is_value.nd rfl (Or.inl rfl) (pe_ifExp (pt_cmpR op_eq (pv 0) pe_str (nomark _)) (pe_tup (pa_cons pe_str (pa_cons pe_str pa_nil))) (pe_tup (pa_cons pe_str (pa_cons pe_str pa_nil)))))
        (pss_one (ps_ret (pe_and (pe_callB call_isi (by rfl) T.n_isinstance (by decide +kernel) (pa_cons (pv 1) (pa_cons (pe_bltn (v := V.ty "str") (by rfl) T.n_str (by decide +kernel) rfl) pa_nil))) (pe_one (pe_cmpR op_in_seq (pv 1) (pv 3) (by rfl))))))))))
      , ?_⟩
    have le : ∀ n : Nat, n ≤ 10 → n ≤ sizeLine := fun n h => Nat.le_trans h (by decide)
    refine fun p hp => ?_
    walk_at "rd"
    refine ⟨le 2 (by decide), fun q1 h1 => ?_⟩
    walk_at "rd"
    refine ⟨le 2 (by decide), fun q2 h2 => ?_⟩
    walk_at "rd"
    refine ⟨le 2 (by decide), fun q3 h3 => ?_⟩
    refine ⟨upd_some (upd_some (upd_some upd_same h1) h2) h3, [(.inr "width", .ref q1), (.inr "step", .ref q2), (.inr "blanks", .ref q3)], rfl, by show 3 ≤ 15; decide, ?_⟩
    have eM : mergeK [] [((.inr "width" : Key), V.ref q1), (.inr "step", .ref q2), (.inr "blanks", .ref q3)] = [(.inr "width", .ref q1), (.inr "step", .ref q2), (.inr "blanks", .ref q3)] := rfl
    rw [eM]
    have s1 := (((Same.refl H).trans (same_new (o := HO.dK []) hp)).trans (same_new (o := HO.tup [V.int 8, V.int 120]) h1)).trans ((same_new (o := HO.tup [V.int 0, V.int 8]) h2).trans (same_new (o := HO.tup [V.int 0, V.int 3]) h3))
    have g1 := upd_some (u := HO.tup [V.int 0, V.int 3]) (upd_some (u := HO.tup [V.int 0, V.int 8]) (upd_same (H := upd H p (.dK [])) (a := q1) (o := HO.tup [V.int 8, V.int 120])) h2) h3
    have g2 := upd_some (u := HO.tup [V.int 0, V.int 3]) (upd_same (H := upd (upd H p (.dK [])) q1 (.tup [V.int 8, V.int 120])) (a := q2) (o := HO.tup [V.int 0, V.int 8])) h3
    have gp := upd_some (u := HO.tup [V.int 0, V.int 3]) (upd_some (u := HO.tup [V.int 0, V.int 8]) (upd_some (u := HO.tup [V.int 8, V.int 120]) (upd_same (H := H) (a := p) (o := HO.dK [])) h1) h2) h3
    have g3 := upd_same (H := upd (upd (upd H p (.dK [])) q1 (.tup [V.int 8, V.int 120])) q2 (.tup [V.int 0, V.int 8])) (a := q3) (o := HO.tup [V.int 0, V.int 3])
    obtain ⟨G, eG⟩ : ∃ G, G = upd (upd (upd (upd H p (.dK [])) q1 (HO.tup [V.int 8, V.int 120])) q2 (HO.tup [V.int 0, V.int 8])) q3 (HO.tup [V.int 0, V.int 3]) := ⟨_, rfl⟩
    rw [← eG] at s1 g1 g2 g3 gp
    have nd : ∀ {q : Addr} {l : List V}, G q = some (.tup l) → q ≠ p := fun {q l} e z => by
      rw [z, gp] at e
      cases e
    have t1 : (upd G p (.dK [(.inr "width", .ref q1), (.inr "step", .ref q2), (.inr "blanks", .ref q3)])) q1 = _ := (upd_ne (nd g1)).trans g1
    have t2 : (upd G p (.dK [(.inr "width", .ref q1), (.inr "step", .ref q2), (.inr "blanks", .ref q3)])) q2 = _ := (upd_ne (nd g2)).trans g2
    have t3 : (upd G p (.dK [(.inr "width", .ref q1), (.inr "step", .ref q2), (.inr "blanks", .ref q3)])) q3 = _ := (upd_ne (nd g3)).trans g3
    have S4 : Same H (upd G p (.dK [(.inr "width", .ref q1), (.inr "step", .ref q2), (.inr "blanks", .ref q3)])) := same_put s1 hp
    have tp : (upd G p (.dK [(.inr "width", .ref q1), (.inr "step", .ref q2), (.inr "blanks", .ref q3)])) p = _ := upd_same
    rw [← eG]
    generalize upd G p (.dK [(.inr "width", .ref q1), (.inr "step", .ref q2), (.inr "blanks", .ref q3)]) = H4 at t1 t2 t3 tp S4 ⊢
    clear eG g1 g2 g3 gp nd s1 h1 h2 h3 eM
    have hd := Dx.same S4 hd
    walk_at "rd"
    unfold names22 at hn
    simp only [List.mem_cons, List.not_mem_nil, or_false] at hn
    rcases hn with rfl | rfl | rfl | rfl | rfl | rfl
    · refine ⟨p, _, rfl, .inl ⟨_, .inr "width", .inl tp, rfl, rfl⟩, _, rfl, ?_⟩
      refine ite2 (fun _ => ?_) (fun z => absurd rfl z)
      walk_at "rd"
      refine ⟨v, d, rfl, hd, _, rfl, ?_⟩
      have k : Q (.bl (inR 8 120 d)) H4 := k H4 S4
      cases d with
      | int i =>
        obtain rfl : v = .int i := by
          cases hd
          rfl
        have k : Q (.bl (decide (8 ≤ i) && decide (i ≤ 120))) H4 := k
        refine iteT ?_
        refine ⟨_, rfl, _, rfl, p, .ref q1, rfl, .inl ⟨_, .inr "width", .inl tp, rfl, rfl⟩, q1, _, _, _, rfl, rfl, SqT.of t1, atI_nat (j := 0) rfl, ?_⟩
        walk_at "rd"
        refine ite2 (fun h => ?_) (fun h => ?_)
        · rw [h, Bool.true_and] at k
          exact ⟨_, rfl, _, rfl, p, .ref q1, rfl, .inl ⟨_, .inr "width", .inl tp, rfl, rfl⟩, q1, _, _, _, rfl, rfl, SqT.of t1, atI_nat (j := 1) rfl, _, _, rfl, rfl, k⟩
        · rw [Bool.eq_false_iff.mpr h, Bool.false_and] at k
          exact k
      | _ => exact k
    · refine ⟨p, _, rfl, .inl ⟨_, .inr "step", .inl tp, rfl, rfl⟩, _, rfl, ?_⟩
      refine ite2 (fun _ => ?_) (fun z => absurd rfl z)
      walk_at "rd"
      refine ⟨v, d, rfl, hd, _, rfl, ?_⟩
      have k : Q (.bl (inR 0 8 d)) H4 := k H4 S4
      cases d with
      | int i =>
        obtain rfl : v = .int i := by
          cases hd
          rfl
        have k : Q (.bl (decide (0 ≤ i) && decide (i ≤ 8))) H4 := k
        refine iteT ?_
        refine ⟨_, rfl, _, rfl, p, .ref q2, rfl, .inl ⟨_, .inr "step", .inl tp, rfl, rfl⟩, q2, _, _, _, rfl, rfl, SqT.of t2, atI_nat (j := 0) rfl, ?_⟩
        walk_at "rd"
        refine ite2 (fun h => ?_) (fun h => ?_)
        · rw [h, Bool.true_and] at k
          exact ⟨_, rfl, _, rfl, p, .ref q2, rfl, .inl ⟨_, .inr "step", .inl tp, rfl, rfl⟩, q2, _, _, _, rfl, rfl, SqT.of t2, atI_nat (j := 1) rfl, _, _, rfl, rfl, k⟩
        · rw [Bool.eq_false_iff.mpr h, Bool.false_and] at k
          exact k
      | _ => exact k
    · refine ⟨p, _, rfl, .inl ⟨_, .inr "blanks", .inl tp, rfl, rfl⟩, _, rfl, ?_⟩
      refine ite2 (fun _ => ?_) (fun z => absurd rfl z)
      walk_at "rd"
      refine ⟨v, d, rfl, hd, _, rfl, ?_⟩
      have k : Q (.bl (inR 0 3 d)) H4 := k H4 S4
      cases d with
      | int i =>
        obtain rfl : v = .int i := by
          cases hd
          rfl
        have k : Q (.bl (decide (0 ≤ i) && decide (i ≤ 3))) H4 := k
        refine iteT ?_
        refine ⟨_, rfl, _, rfl, p, .ref q3, rfl, .inl ⟨_, .inr "blanks", .inl tp, rfl, rfl⟩, q3, _, _, _, rfl, rfl, SqT.of t3, atI_nat (j := 0) rfl, ?_⟩
        walk_at "rd"
        refine ite2 (fun h => ?_) (fun h => ?_)
        · rw [h, Bool.true_and] at k
          exact ⟨_, rfl, _, rfl, p, .ref q3, rfl, .inl ⟨_, .inr "blanks", .inl tp, rfl, rfl⟩, q3, _, _, _, rfl, rfl, SqT.of t3, atI_nat (j := 1) rfl, _, _, rfl, rfl, k⟩
        · rw [Bool.eq_false_iff.mpr h, Bool.false_and] at k
          exact k
      | _ => exact k
    · refine ⟨p, _, rfl, .inl ⟨_, .inr "rank", .inl tp, rfl, rfl⟩, _, rfl, ?_⟩
      refine ite2 (fun z => nomatch z) (fun _ => ?_)
      walk_at "rd"
      refine ⟨_, _, _, _, _, rfl, .ty _, hd.ty, kit_tupD K d, ?_⟩
      cases d with
      | tuple ds =>
        obtain ⟨a, xs, rfl, hs, hx⟩ := dx_tup hd rfl
        refine ⟨_, rfl, ?_⟩
        obtain ⟨ft1, ft2, ft3⟩ := ft rfl
        have sl : ds.length < sizeLine := by
          have : ∀ l : List PyData, 2 * l.length ≤ wtxAll l := by
            intro l
            induction l with
            | nil => exact Nat.le_refl _
            | cons x r ih =>
              show 2 * (r.length + 1) ≤ wtx x + 2 + wtxAll r
              omega
          have h1 := this ds
          have h2 : wtxAll ds + 4 ≤ 10000 := ft3
          exact Nat.lt_of_le_of_lt (show ds.length ≤ 10000 by omega) (by decide)
        refine ⟨_, rfl, a, rfl, ⟨_, hs⟩, fun D hD => ?_⟩
        refine lc_it (walk_tup (K := K) (a := a) (xs := xs)) (fun i H' => H' D = some (.lst (List.replicate (nonS (ds.take i)) (V.int 1))) ∧ Same H4 H') ⟨upd_same, same_put (Same.refl _) hD⟩ (fun i H' _ h => sameT h.2 hs) ?_ ?_
        · rintro i x H1 H2 hi ⟨d1, s1⟩ ⟨rfl, hx1⟩
          obtain ⟨di, as, bs, rfl, ha, h0, hb⟩ := hx.at hx1
          have la : as.length = i := by
            rw [← ha.len, List.length_take]
            omega
          have et : (as ++ di :: bs).take (i + 1) = as ++ [di] := by
            rw [← la, List.take_append, List.take_of_length_le (by omega)]
            simp
          have et0 : (as ++ di :: bs).take i = as := by
            rw [← la]
            simp
          refine ⟨rfl, ?_⟩
          refine ⟨_, rfl, _, _, _, _, _, rfl, .ty _, (Dx.same s1 h0).ty, kit_strD K di, ?_⟩
          have eS : decide (tyD di = "str") = isS di := by cases di <;> rfl
          have nS : nonS (as ++ [di]) = nonS as + if isS di = true then 0 else 1 := by
            have fs : ∀ b : Bool, isS di = b → ([di].filter fun d => !isS d).length = if b = true then 0 else 1 := fun b h => by
              rw [List.filter_cons, h]
              cases b <;> rfl
            unfold nonS
            rw [List.filter_append, List.length_append, fs _ rfl]
          rw [eS]
          refine ⟨_, rfl, ?_⟩
          show (if (!isS di) = true then _ else _)
          rw [et0] at d1
          refine ite2 (fun h => ?_) (fun h => ?_)
          · refine ⟨_, d1, ?_, ?_, same_put s1 hD⟩
            · rw [List.length_replicate]
              have : nonS as ≤ as.length := List.length_filter_le _ _
              rw [List.length_append] at sl
              omega
            · rw [upd_same, et, nS, if_neg (by simpa using h), List.replicate_succ']
          · refine ⟨?_, s1⟩
            rw [d1, et, nS, if_pos (by simpa using h), Nat.add_zero]
        · rintro H1 ⟨d1, s1⟩
          rw [hx.len, List.take_length] at d1
          refine ⟨le 0 (by decide), fun r hr => ?_⟩
          have s2 := same_new (o := HO.lst []) hr
          refine ⟨.list (List.replicate (nonS ds) (.int 1)), .list [], .lst (SqL.of (s2 _ _ d1)) (ones_dp _), .lst (SqL.of upd_same) .nil, ones_shape _, rfl, _, rfl, ?_⟩
          have eq0 : (!PyData.eqv (.list (List.replicate (nonS ds) (.int 1))) (.list [])) = !decide (nonS ds = 0) := by
            cases nonS ds <;> rfl
          rw [eq0]
          refine ite2 (fun h => ?_) (fun h => ?_)
          · have e : rankB (.tuple ds) = false := by
              cases q : rankB (.tuple ds) with
              | false => rfl
              | true =>
                have al := rank_strs q
                have : nonS ds = 0 := by
                  unfold nonS
                  rw [List.length_eq_zero_iff, List.filter_eq_nil_iff]
                  intro d hd
                  rw [List.all_eq_true.mp al d hd]
                  decide
                rw [this] at h
                exact absurd h (by decide)
            have k : Q (.bl (rankB (.tuple ds))) _ := k _ (S4.trans (s1.trans s2))
            rw [e] at k
            exact k
          · have z0 : nonS ds = 0 := by
              have h : ¬ (!decide (nonS ds = 0)) = true := h
              simpa using h
            obtain ⟨zs, rfl, rfl⟩ := strs_of hx (nonS_zero z0)
            walk_at "rd"
            refine ⟨a, zs, rfl, .inr (sameT (s1.trans s2) hs), fun ys q yp ysd hq => ?_⟩
            have s3 := same_new (o := HO.lst (ys.map V.str)) hq
            refine ⟨le 3 (by decide), fun t ht => ?_⟩
            have s4 := same_new (o := HO.lst [.str "broken", .str "lines", .str "over"]) ht
            have dps : ∀ (H' : Hp) (l : List Str), DpAll K H' (l.map V.str) (l.map .str) := fun H' l => by
              induction l with
              | nil => exact .nil
              | cons x r ih => exact .cons (.str x) ih
            have shp : ∀ l : List Str, (∀ x ∈ l, x.cps.all (· < 0x110000) = true) → SeqAt.shaped (.list (l.map .str)) = true := fun l hl => by
              have q1 : ∀ l : List Str, (∀ x ∈ l, x.cps.all (· < 0x110000) = true) → PyData.canLayAll0 (l.map .str) = true ∧ PyData.depthAll (l.map .str) = 0 := fun l hl => by
                induction l with
                | nil => exact ⟨rfl, rfl⟩
                | cons x r ih =>
                  obtain ⟨i1, i2⟩ := ih fun y hy => hl y (List.mem_cons_of_mem _ hy)
                  refine ⟨?_, ?_⟩
                  · show (x.cps.all (· < 0x110000) && PyData.canLayAll0 (r.map .str)) = true
                    rw [hl x List.mem_cons_self, i1] <;> rfl
                  · show max 0 (PyData.depthAll (r.map .str)) = 0
                    rw [i2] <;> rfl
              obtain ⟨i1, i2⟩ := q1 l hl
              show (PyData.canLayAll0 (l.map .str) && decide (PyData.depthAll (l.map .str) + 1 ≤ 64)) = true
              rw [i1, i2] <;> rfl
            have tms : ∀ l : List Str, tmxAll (l.map .str) = true → ∀ x ∈ l, x.cps.all (· < 0x110000) = true := fun l => by
              induction l with
              | nil => exact fun _ x hx => absurd hx (by simp)
              | cons y r ih =>
                intro h x hx
                have h : (tmx (.str y) && tmxAll (r.map .str)) = true := h
                rw [Bool.and_eq_true] at h
                rcases List.mem_cons.mp hx with rfl | hx
                · exact h.1
                · exact ih h.2 x hx
            refine ⟨.list (ys.map .str), .list (three22.map .str), .lst (SqL.of (s4 _ _ upd_same)) (dps _ _), .lst (SqL.of (xs := three22.map V.str) upd_same) (dps _ _), shp ys fun x hx => tms zs ft2 x (yp.mem_iff.mp hx), shp three22 (by decide +kernel), ?_⟩
            have e : PyData.eqv (.list (ys.map .str)) (.list (three22.map .str)) = rankB (.tuple (zs.map .str)) := (eqv_strs ys three22).trans (rank_sorted yp ysd)
            rw [e]
            exact k _ (S4.trans (s1.trans (s2.trans (s3.trans s4))))
      | _ => exact ⟨_, rfl, k H4 S4⟩
    · refine ⟨p, _, rfl, .inl ⟨_, .inr "operators", .inl tp, rfl, rfl⟩, _, rfl, ?_⟩
      refine ite2 (fun z => nomatch z) (fun _ => ?_)
      walk_at "rd"
      refine ⟨le 2 (by decide), fun r hr => ?_⟩
      have s5 := same_new (o := HO.tup (List.map V.str (["ahead", "behind"] : List Str))) hr
      have hd := Dx.same s5 hd
      refine ⟨_, rfl, _, _, _, _, _, rfl, .ty _, hd.ty, kit_strD K d, ?_⟩
      refine ⟨_, rfl, ?_⟩
      have k := k _ (S4.trans s5)
      cases d with
      | str z =>
        obtain rfl : v = .str z := by
          cases hd
          rfl
        refine iteT ?_
        refine ⟨_, rfl, _, rfl, r, List.map V.str (["ahead", "behind"] : List Str), rfl, .inr (.inl (.inl upd_same)), rfl, rfl, ?_⟩
        have k : Q (.bl (decide (z ∈ (["ahead", "behind"] : List Str)))) _ := k
        rw [← inV_strs z (["ahead", "behind"] : List Str)] at k
        exact k
      | _ => exact k
    · refine ⟨p, _, rfl, .inl ⟨_, .inr "lists", .inl tp, rfl, rfl⟩, _, rfl, ?_⟩
      refine ite2 (fun z => nomatch z) (fun _ => ?_)
      walk_at "rd"
      refine ⟨le 2 (by decide), fun r hr => ?_⟩
      have s5 := same_new (o := HO.tup (List.map V.str (["fill", "rows"] : List Str))) hr
      have hd := Dx.same s5 hd
      refine ⟨_, rfl, _, _, _, _, _, rfl, .ty _, hd.ty, kit_strD K d, ?_⟩
      refine ⟨_, rfl, ?_⟩
      have k := k _ (S4.trans s5)
      cases d with
      | str z =>
        obtain rfl : v = .str z := by
          cases hd
          rfl
        refine iteT ?_
        refine ⟨_, rfl, _, rfl, r, List.map V.str (["fill", "rows"] : List Str), rfl, .inr (.inl (.inl upd_same)), rfl, rfl, ?_⟩
        have k : Q (.bl (decide (z ∈ (["fill", "rows"] : List Str)))) _ := k
        rw [← inV_strs z (["fill", "rows"] : List Str)] at k
        exact k
      | _ => exact k

theorem names_at {i : Nat} {n : Str} (h : names22[i]? = some n) : i < 6 ∧ ∀ m, m < i → names22[m]? ≠ some n := by
  have l : i < 6 := (List.getElem?_eq_some_iff.mp h).1
  refine ⟨l, fun m hm e => ?_⟩
  have nd : names22.Nodup := by decide
  have l2 : m < names22.length := Nat.lt_trans hm l
  have := (List.getElem?_inj (i := m) (j := i) (l := names22) l2 nd).mp (by rw [h, e])
  omega
def sorted22 : List Str := ["blanks", "lists", "operators", "rank", "step", "width"]
def at22 (n : Str) : Nat := names22.idxOf n
def spNamed (K : PySem.W.Frag) : Sp := fun vs H Q _ => ∃ (a : Addr) (xs : List V), vs = [.ref a] ∧ SqT K H a xs ∧ xs.length = 6 ∧ ∀ (p : Addr) (H' : Hp), H p = none → Same H H' → H' p = some (.dK (sorted22.map fun n => ((.inr n : Key), xs.getD (at22 n) .non))) → Q (.ref p) H'
theorem ltS_anti {x y : Str} (h1 : ltS y x = false) (h2 : ltS x y = false) : x = y := by
  have a := List.not_lt.mp (of_decide_eq_false h1)
  have b := List.not_lt.mp (of_decide_eq_false h2)
  exact by
    cases x
    cases y
    exact congrArg _ (Array.toList_inj.mp (List.le_antisymm a b))
theorem sorted_is : ∀ {ys zs : List Str}, ys.Perm zs → ys.Pairwise (fun x y => ltS y x = false) → zs.Pairwise (fun x y => ltS y x = false) → ys = zs
  | [], zs, p, _, _ => (List.Perm.nil_eq p)
  | y :: ys, [], p, _, _ => absurd p.length_eq (by simp)
  | y :: ys, z :: zs, p, h1, h2 => by
    obtain ⟨a1, a2⟩ := List.pairwise_cons.mp h1
    obtain ⟨b1, b2⟩ := List.pairwise_cons.mp h2
    have e : y = z := by
      rcases List.mem_cons.mp (p.mem_iff.mp List.mem_cons_self) with e | m
      · exact e
      · rcases List.mem_cons.mp (p.mem_iff.mpr (List.mem_cons_self (a := z))) with e | m2
        · exact e.symm
        · exact ltS_anti (a1 z m2) (b1 y m)
    subst e
    rw [sorted_is (List.Perm.cons_inv p) a2 b2]
theorem at22_ok : ∀ n ∈ names22, names22[at22 n]? = some n := by decide +kernel
theorem c_p_named (T : Txt K mg w) : Cal P w K mg base 1 "named" (spNamed K) [] := by
  refine calOf T.d_p_named sc_p_named (fun vs H Q E h => ?_) (fun f cdv A outer s H vs Q E hr h => ?_)
  · obtain ⟨a, xs, rfl, _⟩ := h
    rfl
  · obtain ⟨a, xs, rfl, hs, hl, k⟩ := h
    obtain ⟨a_NAMES, o_NAMES, m_NAMES, l_NAMES, c_NAMES, d_NAMES, t_NAMES⟩ := T.ti_NAMES
    refine ⟨_,
      (pss_one (ps_ret (pe_dc (own := [("name", 1)]) (g := gName 1) (tt := tYes) rfl sc_p_named.nd (pi_list (pe_callB call_sortedS (by rfl) T.n_sorted (by decide +kernel) (pa_cons (pe_gc (v := V.ref a_NAMES) rfl ⟨_, m_NAMES, rfl⟩) pa_nil))) (blkOk_by (N := ["style", "name"]) (sc := defScope s_p_named) (by decide +kernel)) (fun _ _ _ _ _ => pg_name (i := 1) sc_p_named.nd rfl (Or.inl rfl)) (fun _ _ _ _ _ => pts_nil) (fun _ _ _ _ _ => (pv 1)) (fun _ _ _ _ _ => (pe_ix (show IxR _ (rIxT K) from ix_tup) (pv 0) (show PE _ _ (tBM K "tuple" (rTix K) _ _) from pe_bm PySem.F.plainAttrs_tuple PySem.F.slot_tuple_index PySem.F.type_tuple_index mt_tix (pe_gc (v := V.ref a_NAMES) (by rfl) ⟨_, m_NAMES, rfl⟩) (pa_cons (pv 1) pa_nil)) (fun _ _ => rfl))))))
      , ?_⟩
    refine ⟨a_NAMES, names22, rfl, .inr (t_NAMES H), fun ys q yp ysd hq => ?_⟩
    obtain rfl : ys = sorted22 := sorted_is (yp.trans (by decide)) ysd (by decide +kernel)
    have s1 := same_new (o := HO.lst (sorted22.map V.str)) hq
    refine ⟨q, rfl, ⟨_, SqL.of upd_same⟩, fun D hD => ?_⟩
    have q1 : (upd H q (HO.lst (sorted22.map V.str))) q = _ := upd_same
    generalize upd H q (HO.lst (sorted22.map V.str)) = H1 at s1 q1 hD ⊢
    refine dc_itv (walk_list (K := K) (a := q) (xs := sorted22.map V.str)) (fun i H' => Same H1 H' ∧ H' D = some (.dK ((sorted22.take i).map fun n => ((.inr n : Key), xs.getD (at22 n) .non)))) ⟨same_put (Same.refl _) hD, upd_same⟩ (fun i H' _ h => SqL.of (h.1 _ _ q1)) ?_ ?_
    · rintro i x H2 H3 hi ⟨s2, d2⟩ ⟨rfl, hx⟩
      rw [List.getElem?_map] at hx
      obtain ⟨n, hn, rfl⟩ := Option.map_eq_some_iff.mp hx
      have hi : i < 6 := hi
      have mem : n ∈ sorted22 := List.mem_of_getElem? hn
      have mem2 : n ∈ names22 := yp.mem_iff.mp mem
      have e1 : names22[at22 n]? = some n := at22_ok n mem2
      obtain ⟨hl6, hno⟩ := names_at e1
      have e2 : xs[at22 n]? = some (xs.getD (at22 n) .non) := by
        rw [List.getD_eq_getElem?_getD, List.getElem?_eq_getElem (by omega)]
        rfl
      refine ⟨rfl, ?_⟩
      delta tYes
      refine iteT ?_
      refine ⟨_, rfl, _, rfl, .inr (.inl ⟨rfl, o_NAMES, l_NAMES, c_NAMES, d_NAMES⟩), _, rfl, a_NAMES, names22, n, at22 n, rfl, rfl, t_NAMES _, e1, hno, _, _, _, _, rfl, rfl, sameT (s1.trans s2) hs, atI_nat e2, ?_⟩
      refine ⟨_, .inr n, rfl, d2, ?_, same_put s2 hD, ?_⟩
      · rw [List.length_map, List.length_take]
        exact Nat.lt_of_le_of_lt (Nat.min_le_right _ _) (show 6 < sizeLine by decide)
      · rw [upd_same, Vf.putK_new _ ?_, List.take_add_one, hn, List.map_append]
        · rfl
        · rw [List.map_map]
          intro z
          obtain ⟨m, hm, e⟩ := List.mem_map.mp z
          have e : m = n := Sum.inr.inj e
          subst e
          have nd : sorted22.Nodup := by decide +kernel
          have hs : sorted22 = sorted22.take i ++ m :: sorted22.drop (i + 1) := by
            have l : i < sorted22.length := hi
            have : sorted22[i] = m := by
              rw [List.getElem?_eq_getElem l] at hn
              exact Option.some.inj hn
            rw [← this, ← List.drop_eq_getElem_cons l, List.take_append_drop]
          rw [hs, List.nodup_append] at nd
          exact nd.2.2 m hm m (by simp) rfl
    · rintro H2 ⟨s2, d2⟩
      exact k D H2 (s1.free hD) (s1.trans s2) d2
def spOf (K : PySem.W.Frag) : Sp := fun vs H Q _ => ∃ (d : Addr) (kvs : List (Key × V)) (xs : List V), vs = [.ref d] ∧ H d = some (.dK kvs) ∧ xs.length = 6 ∧ (∀ (i : Nat) (n : Str) (x : V), names22[i]? = some n → xs[i]? = some x → valV kvs (.inr n) = some x) ∧ ∀ (r : Addr) (H' : Hp), Same H H' → SqT K H' r xs → Q (.ref r) H'
theorem c_p_style_of (T : Txt K mg w) : Cal P w K mg base 1 "style_of" (spOf K) [] := by
  refine calOf T.d_p_style_of sc_p_style_of (fun vs H Q E h => ?_) (fun f cdv A outer s H vs Q E hr h => ?_)
  · obtain ⟨d, kvs, xs, rfl, _⟩ := h
    rfl
  · obtain ⟨d, kvs, xs, rfl, hd, hl, hv, k⟩ := h
    obtain ⟨a_NAMES, m_NAMES, t_NAMES⟩ := T.t_NAMES
    have hu := u1 hr
    refine ⟨_,
      (pss_one (ps_ret (pe_callTy call_tuple_of (by rfl) T.n_tuple (by decide +kernel) (pa_cons (pe_lc (own := [("name", 1)]) (g := gName 1) (tt := tYes) rfl sc_p_style_of.nd (pi_tup (pe_gc (v := V.ref a_NAMES) rfl ⟨_, m_NAMES, rfl⟩)) (blkOk_by (N := ["named", "name"]) (sc := defScope s_p_style_of) (by decide +kernel)) (fun _ _ _ _ _ => pg_name (i := 1) sc_p_style_of.nd rfl (Or.inl rfl)) (fun _ _ _ _ _ => pts_nil) (fun _ _ _ _ _ => (pe_dget hu (pv 0) (pv 1) (fun _ _ => rfl)))) pa_nil))))
      , ?_⟩
    refine ⟨a_NAMES, rfl, ⟨_, t_NAMES H⟩, fun D hD => ?_⟩
    refine lc_it (walk_tup (K := K) (a := a_NAMES) (xs := names22.map V.str)) (fun i H' => H' D = some (.lst (xs.take i)) ∧ Same H H') ⟨upd_same, same_put (Same.refl _) hD⟩ (fun i H' _ _ => t_NAMES H') ?_ ?_
    · rintro i x H1 H2 hi ⟨d1, s1⟩ ⟨rfl, hx1⟩
      rw [List.getElem?_map] at hx1
      obtain ⟨n, hn, rfl⟩ := Option.map_eq_some_iff.mp hx1
      have hi : i < 6 := hi
      have e2 : xs[i]? = some (xs[i]'(by omega)) := List.getElem?_eq_getElem (by omega)
      refine ⟨rfl, ?_⟩
      delta tYes
      refine iteT ?_
      refine ⟨_, rfl, _, rfl, d, _, rfl, .inl ⟨kvs, .inr n, .inl (s1 _ _ hd), rfl, (hv i n _ hn e2).symm⟩, _, d1, ?_, ?_, same_put s1 hD⟩
      · rw [List.length_take]
        exact Nat.lt_of_le_of_lt (Nat.min_le_right _ _) (show xs.length < sizeLine by rw [hl]; decide)
      · rw [upd_same, List.take_add_one, e2]
        rfl
    · rintro H1 ⟨d1, s1⟩
      rw [List.take_of_length_le (by rw [hl]; decide)] at d1
      refine ⟨D, xs, rfl, .inl ⟨SqL.of d1, fun r hr => k r _ (s1.trans (same_new hr)) (SqT.of upd_same)⟩⟩

def stV (xs : List V) (n : Str) : V := xs.getD (at22 n) .non
def laidL (xs : List V) (v2 : Str → V) (n2 : List Str) : List V := names22.map fun n => if n ∈ n2 then v2 n else stV xs n
def spLaid (K : PySem.W.Frag) : Sp := fun vs H Q _ => ∃ (a b : Addr) (xs : List V) (v2 : Str → V) (n2 : List Str), vs = [.ref a, .ref b] ∧ SqT K H a xs ∧ xs.length = 6 ∧ H b = some (.dK (lay v2 n2)) ∧ n2.Nodup ∧ n2.length ≤ 20 ∧ (∀ n ∈ n2, n ∈ names22) ∧
  ∀ (r : Addr) (H' : Hp), Same H H' → SqT K H' r (laidL xs v2 n2) → Q (.ref r) H'
theorem sorted_mem : ∀ n ∈ names22, n ∈ sorted22 := by decide
theorem c_p_laid (T : Txt K mg w) (c_p_named : Cal P w K mg base 1 "named" (spNamed K) []) (c_p_style_of : Cal P w K mg base 1 "style_of" (spOf K) []) (c_p_over : Cal P w K mg base 2 "over" spOver []) : Cal P w K mg base 3 "laid" (spLaid K) [] := by
  refine calOf T.d_p_laid sc_p_laid (fun vs H Q E h => ?_) (fun f cdv A outer s H vs Q E hr h => ?_)
  · obtain ⟨a, b, xs, v2, n2, rfl, _⟩ := h
    rfl
  · obtain ⟨a, b, xs, v2, n2, rfl, ha, hl, hb, d2, l2, hn, k⟩ := h
    refine ⟨_,
      (pss_one (ps_ret (pe_c c_p_style_of hr (by first | decide | omega) rfl (pa_cons (pe_c c_p_over hr (by first | decide | omega) rfl (pa_cons (pe_c c_p_named hr (by first | decide | omega) rfl (pa_cons (pv 0) pa_nil)) (pa_cons (pv 1) pa_nil))) pa_nil))))
      , ?_⟩
    refine ⟨_, rfl, a, xs, rfl, ha, hl, fun p H1 hp s1 q1 => ?_⟩
    have q1 : H1 p = some (.dK (lay (stV xs) sorted22)) := q1
    refine ⟨_, rfl, p, b, stV xs, v2, sorted22, n2, rfl, q1, s1 _ _ hb, by decide +kernel, d2, by decide, l2, fun ys r H2 yp yo hr s2 q2 => ?_⟩
    refine ⟨r, _, laidL xs v2 n2, rfl, q2, rfl, fun i n x h1 h2 => ?_, fun t H3 s3 q3 => k t H3 (s1.trans (s2.trans s3)) q3⟩
    have mem : n ∈ ys := yp.mem_iff.mpr (List.mem_append_left _ (sorted_mem n (List.mem_of_getElem? h1)))
    rw [lay_val _ mem]
    unfold laidL at h2
    rw [List.getElem?_map, h1] at h2
    exact h2

theorem cut_head (ns : List Int) (nn : ∀ n ∈ ns, (0 : Int) ≤ n) (i : Option Int) : ∃ x : Int, 0 ≤ x ∧ (cutV (ns.map V.int) i none ++ [V.int 0])[0]? = some (.int x) := by
  have hm : ∀ v ∈ cutV (ns.map V.int) i none, ∃ x : Int, 0 ≤ x ∧ v = .int x := fun v hv => by
    have h1 : v ∈ ns.map V.int := List.mem_of_mem_drop (List.mem_of_mem_take hv)
    obtain ⟨x, hx, rfl⟩ := List.mem_map.mp h1
    exact ⟨x, nn x hx, rfl⟩
  cases e : cutV (ns.map V.int) i none with
  | nil => exact ⟨0, by decide, rfl⟩
  | cons v r =>
    obtain ⟨x, h0, rfl⟩ := hm v (by rw [e]; exact List.mem_cons_self ..)
    exact ⟨x, h0, rfl⟩
theorem cut_size (ns : List Int) (nl : ns.length ≤ 63) (i : Option Int) : (cutV (ns.map V.int) i none).length + [V.int 0].length ≤ sizeLine := by
  have h := cutV_length (ns.map V.int) i none
  rw [List.length_map] at h
  exact Nat.le_trans (Nat.add_le_add_right (Nat.le_trans h nl) 1) (by decide)
theorem c_l_take (T : Txt K mg w) : Cal P w K mg base 1 "_law_take" spTake [] := by
  refine calOf T.d_l_take sc_l_take (fun vs H Q E h => ?_) (fun f cdv A outer s H vs Q E hr h => ?_)
  · obtain ⟨g, n, c, e, rfl, _⟩ := h
    rfl
  · obtain ⟨g, n, c, e, rfl, B, n0, n1, k⟩ := h
    have hLb := B.ne
    obtain ⟨z, m, i, ns, hb, hL, z0, m0, m1, i0, nn, nl⟩ := B.ex
    refine ⟨_,
      (Evl.pss_cut (ps_if (pt_cmpR op_eq (pe_ix ix_list (pv 0) pe_int (fun _ _ => rfl)) pe_int (nomark _))
        (pss_cons (ps_set (i := 2) sc_l_take.nd rfl (Or.inl rfl) (pe_ix ix_list (pe_op op_cat (pe_slice sl_list (pe_ix ix_list (pv 0) pe_int (fun _ _ => rfl)) (po_some (pe_ix ix_list (pv 0) pe_int (fun _ _ => rfl))) po_none) (pe_lst (pa_cons pe_int pa_nil))) pe_int (fun _ _ => rfl)))
        (pss_cons (ps_augS (pv 0) pe_int get_list pe_int ip_add set_list)
        (pss_cons (ps_if (pt_cmpR op_ge (pv 2) (pe_op op_pow pe_int pe_int) (nomark _))
        (pss_one (ps_asg (pv 2) (pg_sub (pv 0) pe_int set_list)))
        pss_nil)
        (pss_cons (ps_set (i := 3) sc_l_take.nd rfl (Or.inl rfl) (pe_op op_add (pe_op op_add (pe_op op_mul (pe_ix ix_list (pv 0) pe_int (fun _ _ => rfl)) pe_int) (pe_op op_mod (pe_callTy call_int1 (by rfl) T.n_int (by decide +kernel) (pa_cons (pv 2) pa_nil)) pe_int)) (pe_op op_mul pe_int (pe_ix ix_list (pv 0) pe_int (fun _ _ => rfl)))))
        (pss_one (ps_asg (pe_op op_mod (pe_callTy call_int1 (by rfl) T.n_int (by decide +kernel) (pa_cons (pv 3) pa_nil)) pe_int) (pg_sub (pv 0) pe_int set_list)))))))
        pss_nil)
        (pss_cons (ps_if (pt_cmpR op_gt (pe_ix ix_list (pv 0) pe_int (fun _ _ => rfl)) pe_int (nomark _))
        (pss_cons (ps_set (i := 4) sc_l_take.nd rfl (Or.inl rfl) (pe_op op_mod (pe_callTy call_int1 (by rfl) T.n_int (by decide +kernel) (pa_cons (pe_ix ix_list (pv 0) pe_int (fun _ _ => rfl)) pa_nil)) (pv 1)))
        (pss_cons (ps_asg (pe_op op_fdivN (pe_callTy call_int1 (by rfl) T.n_int (by decide +kernel) (pa_cons (pe_ix ix_list (pv 0) pe_int (fun _ _ => rfl)) pa_nil)) (pv 1)) (pg_sub (pv 0) pe_int set_list))
        (pss_one (ps_ret (pv 4)))))
        pss_nil)
        (pss_cons (ps_set (i := 5) sc_l_take.nd rfl (Or.inl rfl) (pe_op op_mod (pe_callTy call_int1 (by rfl) T.n_int (by decide +kernel) (pa_cons (pe_op op_mul (pe_op op_add (pe_ix ix_list (pv 0) pe_int (fun _ _ => rfl)) pe_int) pe_int) pa_nil)) pe_int))
        (pss_cons (ps_set (i := 6) sc_l_take.nd rfl (Or.inl rfl) (pe_op op_mod (pe_callTy call_int1 (by rfl) T.n_int (by decide +kernel) (pa_cons (pe_op op_mul (pe_op op_mod (pe_callTy call_int1 (by rfl) T.n_int (by decide +kernel) (pa_cons (pe_op op_mul (pv 5) (pv 5)) pa_nil)) pe_int) pe_int) pa_nil)) pe_int))
        (pss_one (ps_ret (pe_op op_mod (pe_callTy call_int1 (by rfl) T.n_int (by decide +kernel) (pa_cons (pe_op op_fdivN (pv 6) pe_int) pa_nil)) (pv 1))))))))
      , ?_⟩
    refine ⟨fun σ' H' => ∃ (z1 m1 i1 : Int) (v2 v3 : Option V), σ' = [some (.ref g.b), some (.int n), v2, v3, none, none, none] ∧ Fr g.b H H' ∧
        H' g.b = some (.lst [.int z1, .int m1, .int i1, .ref g.L, .int c, .int e]) ∧ 0 ≤ z1 ∧ 0 ≤ m1 ∧ m1 < 2147483647 ∧ 0 ≤ i1, ?_, ?_⟩
    · walk_at "rd"
      refine ite2 (fun h1 => ?_) (fun h1 => ?_)
      · walk_at "rd"
        refine ⟨_, _, rfl, SqL.of hL, fun p hp => ⟨(by decide), fun q hq => ⟨_, _, _, _, rfl, rfl, upd_some upd_same hq, upd_same, cut_size ns nl _, fun r hr => ?_⟩⟩⟩
        obtain ⟨x, x0, hx⟩ := cut_head ns nn (some i)
        refine ⟨_, _, _, _, rfl, rfl, SqL.of upd_same, atI_nat (j := 0) hx, ?_⟩
        have hb3 := upd_some (u := .lst (cutV (ns.map V.int) (some i) none ++ [.int 0])) (upd_some (u := .lst [.int 0]) (upd_some (u := .lst (cutV (ns.map V.int) (some i) none)) hb hp) hq) hr
        have fr3 : Fr g.b H _ := (((Fr.refl g.b H).new (o := .lst (cutV (ns.map V.int) (some i) none)) hp).new (o := .lst [.int 0]) hq).new (o := .lst (cutV (ns.map V.int) (some i) none ++ [.int 0])) hr
        generalize upd (upd (upd H p _) q _) r _ = H3 at hb3 fr3 ⊢
        -- bag[2] += 1
        walk_at "rd"
        have fr4 : ∀ o1 o2 : HO, Fr g.b H (upd (upd H3 g.b o1) g.b o2) := fun o1 o2 => fr3.at.at
        have md : ∀ y : Int, 0 ≤ y % 2147483647 ∧ y % 2147483647 < 2147483647 := fun y => ⟨Int.emod_nonneg _ (by decide), Int.emod_lt_of_pos _ (by decide)⟩
        refine ite2 (fun h2 => ?_) (fun h2 => ?_)
        · walk_at "rd"
          exact ⟨x, _, i + 1, _, _, rfl, fr3.at.at.at, upd_same, x0, (md _).1, (md _).2, by omega⟩
        · walk_at "rd"
          exact ⟨z, _, i + 1, _, _, rfl, fr3.at.at, upd_same, z0, (md _).1, (md _).2, by omega⟩
      · exact ⟨z, m, i, none, none, rfl, .refl _ _, hb, z0, m0, m1, i0⟩
    · rintro σ' H' ⟨z1, m1, i1, v2, v3, rfl, fr, hb1, z0, m0, mL, i0⟩
      have hn : ∀ y : Int, 0 ≤ y % n ∧ y % n < n := fun y => ⟨Int.emod_nonneg _ (by omega), Int.emod_lt_of_pos _ n0⟩
      walk_at "rd"
      refine ite2 (fun h1 => ?_) (fun h1 => ?_)
      · walk_at "rd"
        refine k _ _ (hn _).1 (hn _).2 (Drawn.mk' B ⟨⟨_, m1, i1, ns, upd_same, by rw [upd_ne hLb]; exact fr _ _ hLb hL, Int.fdiv_nonneg z0 (Int.le_of_lt n0), m0, mL, i0, nn, nl⟩, hLb⟩ fr.at)
      · walk_at "rd"
        exact k _ _ (hn _).1 (hn _).2 (Drawn.mk' B ⟨⟨z1, m1, i1, ns, hb1, fr _ _ hLb hL, z0, m0, mL, i0, nn, nl⟩, hLb⟩ fr)

theorem c_l_one (T : Txt K mg w) (c_l_take : Cal P w K mg base 1 "_law_take" spTake []) : Cal P w K mg base 2 "_law_one" (spOne K) [] := by
  refine calOf T.d_l_one sc_l_one (fun vs H Q E h => ?_) (fun f cdv A outer s H vs Q E hr h => ?_)
  · obtain ⟨g, x, c, e, rfl, _⟩ := h
    rfl
  · obtain ⟨g, x, c, e, rfl, B, h⟩ := h
    refine ⟨_,
      (pss_one (ps_ret (pe_ix ix_seq (pv 1) (pe_c c_l_take hr (by first | decide | omega) rfl (pa_cons (pv 0) (pa_cons (pe_callB call_len (by rfl) T.n_len PySem.boot_len (pa_cons (pv 1) pa_nil)) pa_nil))) (fun _ _ => rfl))))
      , ?_⟩
    rcases h with ⟨p, xs, rfl, hq, pb, h0, h1, k⟩ | ⟨z, rfl, h0, h1, k⟩
    · refine ⟨_, rfl, _, rfl, _, rfl, _, xs.length, rfl, hq.elim (fun q => .inl ⟨_, q, rfl⟩) (fun q => .inr ⟨_, q, rfl⟩), g, xs.length, c, e, rfl, B, by omega, by omega, fun r H' r0 r1 D => ?_⟩
      obtain ⟨v, hv, ha⟩ := at_of r0 r1
      rcases hq with q | q
      · exact .inl ⟨_, _, _, _, rfl, rfl, D.seqL pb q, ha, k v H' hv D⟩
      · exact .inr (.inl ⟨_, _, _, _, rfl, rfl, D.seqT pb q, ha, k v H' hv D⟩)
    · have hz : z.length ≤ sizeLine := Nat.le_trans (Nat.le_of_lt h1) (by decide)
      refine ⟨_, rfl, _, rfl, _, rfl, _, z.length, rfl, ⟨hz, rfl⟩, g, z.length, c, e, rfl, B, by omega, by omega, fun r H' r0 r1 D => ?_⟩
      obtain ⟨v, hv, ha⟩ := at_of (xs := z.cps.toList) r0 (by simpa [Str.length] using r1)
      exact .inr (.inr ⟨_, _, _, rfl, rfl, hz, ha, k v H' hv D⟩)

def spBag (K : PySem.W.Frag) : Sp := fun vs H Q _ => ∃ (a : Addr) (ns : List Int), vs = [.ref a] ∧ SqL K H a (ns.map V.int) ∧ ns.length ≤ 63 ∧ ∀ (g : Bg) (H' : Hp), Same H H' → Bag H' g 0 0 → Q (.ref g.b) H'
theorem cut_ints (ns : List Int) (lo hi : Option Int) : ∃ ms : List Int, cutV (ns.map V.int) lo hi = ms.map V.int ∧ ms.length ≤ ns.length := by
  refine ⟨(ns.drop (HT.sIx (ns.map V.int).length 0 lo)).take (HT.sIx (ns.map V.int).length (ns.map V.int).length hi - HT.sIx (ns.map V.int).length 0 lo), ?_, ?_⟩
  · unfold cutV
    rw [List.map_take, List.map_drop]
  · rw [List.length_take, List.length_drop]
    omega
theorem c_l_bag (T : Txt K mg w) : Cal P w K mg base 1 "_law_bag" (spBag K) [] := by
  refine calOf T.d_l_bag sc_l_bag (fun vs H Q E h => ?_) (fun f cdv A outer s H vs Q E hr h => ?_)
  · obtain ⟨a, ns, rfl, _⟩ := h
    rfl
  · obtain ⟨a, ns, rfl, hq, hl, k⟩ := h
    refine ⟨_,
      (pss_one (ps_ret (pe_lst (pa_cons pe_int (pa_cons pe_int (pa_cons pe_int (pa_cons (pe_lc (own := [("_law_cell", 1)]) (g := gName 1) (tt := tYes) rfl sc_l_bag.nd (pi_list (pe_slice sl_list (pv 0) po_none (po_some pe_int))) (blkOk_by (N := ["_law_script", "_law_cell"]) (sc := defScope s_l_bag) (by decide +kernel)) (fun _ _ _ _ _ => pg_name (i := 1) sc_l_bag.nd rfl (Or.inl rfl)) (fun _ _ _ _ _ => pts_nil) (fun _ _ _ _ _ => (pe_callB call_abs (by rfl) T.n_abs (by decide +kernel) (pa_cons (pv 1) pa_nil)))) (pa_cons pe_int (pa_cons pe_int pa_nil)))))))))
      , ?_⟩
    obtain ⟨ms, em, lm⟩ := cut_ints ns none (some 63)
    refine ⟨_, rfl, _, rfl, a, _, rfl, hq, fun p hp => ?_⟩
    rw [em]
    refine ⟨p, rfl, ⟨_, SqL.of upd_same⟩, fun D hD => ?_⟩
    have ap : upd H p (.lst (ms.map V.int)) p = some (.lst (ms.map V.int)) := upd_same
    have s1 : Same H (upd H p (.lst (ms.map V.int))) := same_new hp
    generalize upd H p (HO.lst (ms.map V.int)) = H1 at ap s1 hD ⊢
    refine lc_list (K := K) (a := p) (xs := ms.map V.int) (fun i H' => H' D = some (.lst (((ms.take i).map fun n => if n < 0 then -n else n).map V.int)) ∧ Same H1 H') ⟨upd_same, same_put (Same.refl _) hD⟩ (fun i H' _ ⟨_, s2⟩ => SqL.of (s2 _ _ ap)) ?_ ?_
    · rintro i y H' hi ⟨hd, s2⟩
      rw [List.getElem?_map] at hi
      obtain ⟨n, hn, rfl⟩ := Option.map_eq_some_iff.mp hi
      have li := (List.getElem?_eq_some_iff.mp hn).1
      refine ⟨rfl, _, rfl, n, rfl, _, hd, ?_, ?_, same_put s2 hD⟩
      · rw [List.length_map, List.length_map, List.length_take]
        exact Nat.lt_of_le_of_lt (Nat.min_le_left _ _) (Nat.lt_of_lt_of_le (show i < 100 by omega) (by decide))
      · rw [upd_same, List.take_add_one, hn, List.map_append, List.map_append]
        rfl
    · rintro H2 ⟨hd, s2⟩
      rw [List.length_map, List.take_length] at hd
      refine ⟨by show 6 ≤ sizeLine; decide, fun b hb => ?_⟩
      refine k ⟨b, D⟩ _ ((s1.trans s2).trans (same_new hb)) ⟨⟨0, 1234567891, 0, ms.map fun n => if n < 0 then -n else n, upd_same, upd_some hd hb, by decide, by decide, by decide, by decide, ?_, ?_⟩, ?_⟩
      · intro n hn
        obtain ⟨x, _, rfl⟩ := List.mem_map.mp hn
        show 0 ≤ if x < 0 then -x else x
        split <;> omega
      · rw [List.length_map]
        omega
      · exact ne_of_none hd hb

/-- a list or a tuple is handed in, a new list of its items in some order comes back -/
def spMixed (K : PySem.W.Frag) : Sp := fun vs H Q _ => ∃ (g : Bg) (p : Addr) (xs : List V) (c e : Int), vs = [.ref g.b, .ref p] ∧ Bag H g c e ∧ (SqL K H p xs ∨ SqT K H p xs) ∧ p ≠ g.b ∧ xs.length ≤ 100 ∧
  ∀ (q : Addr) (ys : List V) (H' : Hp), ys.Perm xs → H q = none → H' q = some (.lst ys) → Drawn g H H' c e → Q (.ref q) H'
theorem c_l_mixed (T : Txt K mg w) (c_l_take : Cal P w K mg base 1 "_law_take" spTake []) : Cal P w K mg base 2 "_law_mixed" (spMixed K) [] := by
  refine calOf T.d_l_mixed sc_l_mixed (fun vs H Q E h => ?_) (fun f cdv A outer s H vs Q E hr h => ?_)
  · obtain ⟨g, p, xs, c, e, rfl, _⟩ := h
    rfl
  · obtain ⟨g, p, xs, c, e, rfl, B, hq, np, lx, k⟩ := h
    refine ⟨_,
      (pss_cons (ps_set (i := 2) sc_l_mixed.nd rfl (Or.inl rfl) (pe_lst pa_nil))
        (pss_cons (ps_for PassesOwn.never rfl (pi_either (pv 1)) (pg_name (i := 3) sc_l_mixed.nd rfl (Or.inl rfl))
        (pss_one (ps_expr (pe_bm PySem.F.plainAttrs_list PySem.F.slot_list_insert PySem.F.type_list_insert mt_insert (pv 2) (pa_cons (pe_c c_l_take hr (by first | decide | omega) rfl (pa_cons (pv 0) (pa_cons (pe_op op_add (pe_callB call_len (by rfl) T.n_len PySem.boot_len (pa_cons (pv 2) pa_nil)) pe_int) pa_nil))) (pa_cons (pv 3) pa_nil))))))
        (pss_one (ps_ret (pv 2)))))
      , ?_⟩
    refine ⟨by decide, fun F hF => ?_⟩
    have nF := B.ne_new hF
    have perm : ∀ (ys : List V) (y : V) (r i : Nat), xs[i]? = some y → ys.Perm (xs.take i) → (ys.take r ++ [y] ++ ys.drop r).Perm (xs.take (i + 1)) := by
      intro ys y r i hy hp
      have e : xs.take (i + 1) = xs.take i ++ [y] := by rw [List.take_add_one, hy] <;> rfl
      rw [e, List.append_assoc]
      refine (List.Perm.append_left _ List.perm_append_comm).trans ?_
      rw [← List.append_assoc, List.take_append_drop]
      exact hp.append_right [y]
    have kep : ∀ {i : Nat} {σ' : L2.St} {H' : Hp}, (∃ ys v3, σ' = [some (.ref g.b), some (.ref p), some (.ref F), v3] ∧ ys.Perm (xs.take i) ∧ H' F = some (.lst ys) ∧ Drawn g H H' c e) → Drawn g H H' c e := fun ⟨_, _, _, _, _, D⟩ => D
    have d0 : Drawn g H (upd H F (.lst [])) c e := (Drawn.of B).new hF
    have fin : ∀ (σ' : L2.St) (H' : Hp), (∃ ys v3, σ' = [some (.ref g.b), some (.ref p), some (.ref F), v3] ∧ ys.Perm (xs.take xs.length) ∧ H' F = some (.lst ys) ∧ Drawn g H H' c e) → tRet (tVar 2) { nx := fun x H' => Q V.non H', rt := Q } σ' H' := by
      rintro σ' H' ⟨ys, v3, rfl, hp, hf, D⟩
      rw [List.take_length] at hp
      exact ⟨_, rfl, k F ys H' hp hF hf D⟩
    refine hq.elim (fun hq => .inl ⟨_, rfl, p, rfl, ⟨xs, d0.seqL np hq⟩, for_list (K := K) (a := p) (xs := xs) (fun i σ' H' => ∃ ys v3, σ' = [some (.ref g.b), some (.ref p), some (.ref F), v3] ∧ ys.Perm (xs.take i) ∧ H' F = some (.lst ys) ∧ Drawn g H H' c e)
        ⟨[], none, rfl, List.Perm.refl _, upd_same, d0⟩ (fun i σ' H' _ h => (kep h).seqL np hq) ?_ fin⟩)
      (fun hq => .inr ⟨_, rfl, p, rfl, ⟨xs, d0.seqT np hq⟩, for_tup (K := K) (a := p) (xs := xs) (fun i σ' H' => ∃ ys v3, σ' = [some (.ref g.b), some (.ref p), some (.ref F), v3] ∧ ys.Perm (xs.take i) ∧ H' F = some (.lst ys) ∧ Drawn g H H' c e)
        ⟨[], none, rfl, List.Perm.refl _, upd_same, d0⟩ (fun i σ' H' _ h => (kep h).seqT np hq) ?_ fin⟩)
    all_goals
      rintro i y σ' H' hy ⟨ys, v3, rfl, hp, hf, D⟩
      have ly : ys.length ≤ 100 := by
        rw [hp.length_eq, List.length_take]
        omega
      refine ⟨_, rfl, .inl ⟨rfl, _, SqL.of hf⟩, _, rfl, _, rfl, _, ys.length, rfl, .inl ⟨_, SqL.of hf, rfl⟩, _, _, rfl, rfl, g, _, c, e, rfl, D.bag, by omega, by omega, fun r H2 r0 r1 D2 => ?_⟩
      have r1 : r < (ys.length : Int) + 1 := r1
      refine ⟨_, rfl, F, ys, r, y, rfl, rfl, D2.keep nF hf, Nat.lt_of_le_of_lt ly (by decide), r0, by omega, ?_⟩
      exact ⟨_, _, rfl, perm ys y r.toNat i hy hp, upd_same, (D.trans D2).put B hF⟩

theorem strs_dx {H : Hp} : ∀ l : List Str, DxAll K H (l.map V.str) (l.map .str)
  | [] => .nil
  | x :: r => .cons (.str x) (strs_dx r)
theorem cut_to (xs : List V) {j : Nat} (h : j ≤ xs.length) : cutV xs none (some (j : Int)) = xs.take j := by
  unfold cutV
  rw [HT.sIx_nat, HT.sIx_none, List.drop_zero, Nat.min_eq_left h, Nat.sub_zero]
theorem cut_fr (xs : List V) {j : Nat} (h : j ≤ xs.length) : cutV xs (some (j : Int)) none = xs.drop j := by
  unfold cutV
  rw [HT.sIx_nat, HT.sIx_none, Nat.min_eq_left h]
  exact List.take_of_length_le (by rw [List.length_drop] <;> omega)
def spWds : Sp := fun vs H Q _ => vs = [] ∧ ∀ p, H p = none → Q (.ref p) (upd H p (.tup (names22.map V.str)))
theorem c_l_style_words (T : Txt K mg w) : Cal P w K mg base 1 "_law_style_words" spWds [] := by
  refine calOf T.d_l_style_words sc_l_style_words (fun vs H Q E h => ?_) (fun f cdv A outer s H vs Q E hr h => ?_)
  · obtain ⟨rfl, _⟩ := h
    rfl
  · obtain ⟨rfl, k⟩ := h
    refine ⟨_,
      (pss_one (ps_ret (pe_tup (pa_cons pe_str (pa_cons pe_str (pa_cons pe_str (pa_cons pe_str (pa_cons pe_str (pa_cons pe_str pa_nil)))))))))
      , ?_⟩
    exact ⟨by show 6 ≤ sizeLine; decide, fun p hp => k p hp⟩

theorem zip_at {α β : Type} {as : List α} {bs : List β} {i : Nat} {a : α} {b : β} (h1 : as[i]? = some a) (h2 : bs[i]? = some b) : (as.zip bs)[i]? = some (a, b) := by
  rw [List.getElem?_zip_eq_some]
  exact ⟨h1, h2⟩

def ranks22 : List (List Str) := [["over", "lines", "broken"], ["lines", "over", "broken"], ["broken", "lines", "over"], ["over", "broken", "lines"], ["lines", "broken", "over"], ["broken", "over", "lines"]]
def StyD (ds : List PyData) : Prop := ∃ (w s b : Int) (rs : List Str) (o l : Str), ds = [.int w, .int s, .int b, .tuple (rs.map .str), .str o, .str l] ∧ (0 ≤ w ∧ w ≤ 200) ∧ (0 ≤ s ∧ s ≤ 200) ∧ (0 ≤ b ∧ b ≤ 200) ∧ rs ∈ ranks22 ∧ o ∈ (["ahead", "behind"] : List Str) ∧ l ∈ (["fill", "rows"] : List Str)
structure Sty (K : PySem.W.Frag) (b : Addr) (H : Hp) (a : Addr) (xs : List V) (ds : List PyData) : Prop where
  at' : SqT K (hid b H) a xs
  dx : DxAll K (hid b H) xs ds
  ok : StyD ds
  len : xs.length = 6
theorem SqT.hid {g : Bg} {H : Hp} {c e : Int} {r : Addr} {xs : List V} (B : Bag H g c e) (h : SqT K H r xs) : SqT K (hid g.b H) r xs := by
  by_cases n : r = g.b
  · obtain ⟨o, ho⟩ := B.ob
    subst n
    rcases h with (h | ⟨_, h⟩) | h
    · rw [ho] at h
      cases h
    · rw [ho] at h
      cases h
    · exact .inr h
  · unfold SqT Rd at h ⊢
    rw [hid_ne n]
    exact h
def spStyl (K : PySem.W.Frag) : Sp := fun vs H Q _ => ∃ (g : Bg) (c e : Int), vs = [.ref g.b] ∧ Bag H g c e ∧ ∀ (a : Addr) (xs : List V) (ds : List PyData) (H' : Hp), Drawn g H H' c e → Sty K g.b H' a xs ds → Q (.ref a) H'
/-- ranks drawn -/
def RkD (K : PySem.W.Frag) (b : Addr) (H : Hp) (xs : List V) : Prop := ∀ x ∈ xs, ∃ rs ∈ ranks22, DX K b H x (.tuple (rs.map .str))
theorem RkD.up {H : Hp} {b p : Addr} {o : HO} {xs : List V} (A : RkD K b H xs) (n : H p = none) : RkD K b (upd H p o) xs := fun x hx => by
  obtain ⟨d, h, z⟩ := A x hx
  exact ⟨d, h, z.up n⟩
theorem RkD.new {H : Hp} {b p : Addr} {xs : List V} {rs : List Str} (A : RkD K b H xs) (n : H p = none) (e : p ≠ b) (h : rs ∈ ranks22) : RkD K b (upd H p (.tup (rs.map V.str))) (xs ++ [.ref p]) := fun x hx => by
  rcases List.mem_append.mp hx with hx | hx
  · exact A.up n x hx
  · rw [List.mem_singleton.mp hx]
    exact ⟨rs, h, DX.newT n e (strs_dx rs)⟩
theorem c_l_style (T : Txt K mg w) (c_l_take : Cal P w K mg base 1 "_law_take" spTake []) (c_l_one : Cal P w K mg base 2 "_law_one" (spOne K) []) : Cal P w K mg base 3 "_law_style" (spStyl K) [] := by
  refine calOf T.d_l_style sc_l_style (fun vs H Q E h => ?_) (fun f cdv A outer s H vs Q E hr h => ?_)
  · obtain ⟨g, c, e, rfl, _⟩ := h
    rfl
  · obtain ⟨g, c, e, rfl, B, k⟩ := h
    have hu := u1 hr
    refine ⟨_,
      (pss_cons (ps_set (i := 1) sc_l_style.nd rfl (Or.inl rfl) (pe_lst (pa_cons (pe_tup (pa_cons pe_str (pa_cons pe_str (pa_cons pe_str pa_nil)))) (pa_cons (pe_tup (pa_cons pe_str (pa_cons pe_str (pa_cons pe_str pa_nil)))) (pa_cons (pe_tup (pa_cons pe_str (pa_cons pe_str (pa_cons pe_str pa_nil)))) (pa_cons (pe_tup (pa_cons pe_str (pa_cons pe_str (pa_cons pe_str pa_nil)))) pa_nil))))))
        (pss_cons (ps_set (i := 2) sc_l_style.nd rfl (Or.inl rfl) (pe_c c_l_one hr (by first | decide | omega) rfl (pa_cons (pv 0) (pa_cons (pe_op op_cat (pv 1) (pe_lst (pa_cons (pe_tup (pa_cons pe_str (pa_cons pe_str (pa_cons pe_str pa_nil)))) (pa_cons (pe_tup (pa_cons pe_str (pa_cons pe_str (pa_cons pe_str pa_nil)))) pa_nil)))) pa_nil))))
        (pss_cons (ps_set (i := 3) sc_l_style.nd rfl (Or.inl rfl) (pe_tup (pa_cons (pe_c c_l_one hr (by first | decide | omega) rfl (pa_cons (pv 0) (pa_cons (pe_lst (pa_cons pe_str (pa_cons pe_str pa_nil))) pa_nil))) (pa_cons (pe_c c_l_one hr (by first | decide | omega) rfl (pa_cons (pv 0) (pa_cons (pe_lst (pa_cons pe_str (pa_cons pe_str pa_nil))) pa_nil))) pa_nil))))
        (pss_one (ps_ret (pe_op op_catU (pe_tup (pa_cons (pe_c c_l_one hr (by first | decide | omega) rfl (pa_cons (pv 0) (pa_cons (pe_lst (pa_cons pe_int (pa_cons pe_int (pa_cons pe_int (pa_cons pe_int (pa_cons pe_int (pa_cons pe_int pa_nil))))))) pa_nil))) (pa_cons (pe_c c_l_take hr (by first | decide | omega) rfl (pa_cons (pv 0) (pa_cons pe_int pa_nil))) (pa_cons (pe_c c_l_take hr (by first | decide | omega) rfl (pa_cons (pv 0) (pa_cons pe_int pa_nil))) (pa_cons (pv 2) pa_nil))))) (pv 3)))))))
      , ?_⟩
    have D0 := Drawn.of B
    have A0 : RkD K g.b H [] := fun x hx => by cases hx
    refine ⟨by show 3 ≤ sizeLine; decide, fun p1 hp1 => ?_⟩
    have D1 := D0.new (o := HO.tup ((["over", "lines", "broken"] : List Str).map V.str)) hp1
    have A1 := A0.new (rs := ["over", "lines", "broken"]) hp1 (D0.bag.ne_new hp1) (by decide)
    refine ⟨by show 3 ≤ sizeLine; decide, fun p2 hp2 => ?_⟩
    have D2 := D1.new (o := HO.tup ((["lines", "over", "broken"] : List Str).map V.str)) hp2
    have A2 := A1.new (rs := ["lines", "over", "broken"]) hp2 (D1.bag.ne_new hp2) (by decide)
    refine ⟨by show 3 ≤ sizeLine; decide, fun p3 hp3 => ?_⟩
    have D3 := D2.new (o := HO.tup ((["broken", "lines", "over"] : List Str).map V.str)) hp3
    have A3 := A2.new (rs := ["broken", "lines", "over"]) hp3 (D2.bag.ne_new hp3) (by decide)
    refine ⟨by show 3 ≤ sizeLine; decide, fun p4 hp4 => ?_⟩
    have D4 := D3.new (o := HO.tup ((["over", "broken", "lines"] : List Str).map V.str)) hp4
    have A4 := A3.new (rs := ["over", "broken", "lines"]) hp4 (D3.bag.ne_new hp4) (by decide)
    refine ⟨by show 4 ≤ sizeLine; decide, fun p5 hp5 => ?_⟩
    have D5 := D4.new (o := HO.lst [V.ref p1, V.ref p2, V.ref p3, V.ref p4]) hp5
    have A5 := A4.up (o := HO.lst [V.ref p1, V.ref p2, V.ref p3, V.ref p4]) hp5
    refine ⟨_, rfl, _, rfl, ?_⟩
    refine ⟨by show 3 ≤ sizeLine; decide, fun p6 hp6 => ?_⟩
    have D6 := D5.new (o := HO.tup ((["lines", "broken", "over"] : List Str).map V.str)) hp6
    have A6 := A5.new (rs := ["lines", "broken", "over"]) hp6 (D5.bag.ne_new hp6) (by decide)
    refine ⟨by show 3 ≤ sizeLine; decide, fun p7 hp7 => ?_⟩
    have D7 := D6.new (o := HO.tup ((["broken", "over", "lines"] : List Str).map V.str)) hp7
    have A7 := A6.new (rs := ["broken", "over", "lines"]) hp7 (D6.bag.ne_new hp7) (by decide)
    refine ⟨by show 2 ≤ sizeLine; decide, fun p8 hp8 => ?_⟩
    have D8 := D7.new (o := HO.lst [V.ref p6, V.ref p7]) hp8
    have A8 := A7.up (o := HO.lst [V.ref p6, V.ref p7]) hp8
    refine ⟨_, _, [V.ref p1, V.ref p2, V.ref p3, V.ref p4], [V.ref p6, V.ref p7], rfl, rfl, upd_some (upd_some (upd_some upd_same hp6) hp7) hp8, upd_same, by show 4 + 2 ≤ sizeLine; decide, fun p9 hp9 => ?_⟩
    have D9 := D8.new (o := HO.lst ([V.ref p1, V.ref p2, V.ref p3, V.ref p4] ++ [V.ref p6, V.ref p7])) hp9
    have A9 := A8.up (o := HO.lst ([V.ref p1, V.ref p2, V.ref p3, V.ref p4] ++ [V.ref p6, V.ref p7])) hp9
    refine ⟨g, _, c, e, rfl, D9.bag, .inl ⟨p9, _, rfl, .inl (SqL.of upd_same), D8.bag.ne_new hp9, by show 0 < 6; decide, by show 6 < 1000; decide, fun v H1 hv D10 => ?_⟩⟩
    obtain ⟨rs, hrs, xr⟩ := A9 v hv
    have xr := xr.fr D10.fr
    have D := D9.trans D10
    clear A0 A1 A2 A3 A4 A5 A6 A7 A8 A9 D0 D1 D2 D3 D4 D5 D6 D7 D8 D9 D10 hv
    refine ⟨_, rfl, ?_⟩
    refine ⟨by show 2 ≤ sizeLine; decide, fun q1 hq1 => ?_⟩
    have C1 := D.new (o := HO.lst [V.str "ahead", V.str "behind"]) hq1
    refine ⟨g, _, c, e, rfl, C1.bag, .inl ⟨q1, _, rfl, .inl (SqL.of upd_same), D.bag.ne_new hq1, by show 0 < 2; decide, by show 2 < 1000; decide, fun v1 H2 hv1 E1 => ?_⟩⟩
    have xr := (xr.up (o := HO.lst [V.str "ahead", V.str "behind"]) hq1).fr E1.fr
    have G1 := C1.trans E1
    refine ⟨_, rfl, ?_⟩
    refine ⟨by show 2 ≤ sizeLine; decide, fun q2 hq2 => ?_⟩
    have C2 := G1.new (o := HO.lst [V.str "fill", V.str "rows"]) hq2
    refine ⟨g, _, c, e, rfl, C2.bag, .inl ⟨q2, _, rfl, .inl (SqL.of upd_same), G1.bag.ne_new hq2, by show 0 < 2; decide, by show 2 < 1000; decide, fun v2 H3 hv2 E2 => ?_⟩⟩
    have xr := (xr.up (o := HO.lst [V.str "fill", V.str "rows"]) hq2).fr E2.fr
    have G2 := C2.trans E2
    refine ⟨by show 2 ≤ sizeLine; decide, fun q3 hq3 => ?_⟩
    have D4 := G2.new (o := HO.tup [v1, v2]) hq3
    have xr := xr.up (o := HO.tup [v1, v2]) hq3
    have e3 : (upd H3 q3 (HO.tup [v1, v2])) q3 = _ := upd_same
    have b3 := G2.bag.ne_new hq3
    generalize upd H3 q3 (HO.tup [v1, v2]) = H4 at D4 xr e3 ⊢
    refine ⟨_, rfl, ?_⟩
    refine ⟨by show 6 ≤ sizeLine; decide, fun q5 hq5 => ?_⟩
    have C5 := D4.new (o := HO.lst [V.int 80, V.int 8, V.int 120, V.int 40, V.int 20, V.int 9]) hq5
    refine ⟨g, _, c, e, rfl, C5.bag, .inl ⟨q5, _, rfl, .inl (SqL.of upd_same), D4.bag.ne_new hq5, by show 0 < 6; decide, by show 6 < 1000; decide, fun v5 H5 hv5 E5 => ?_⟩⟩
    have xr := (xr.up (o := HO.lst [V.int 80, V.int 8, V.int 120, V.int 40, V.int 20, V.int 9]) hq5).fr E5.fr
    have G5 := C5.trans E5
    have e5 := E5.fr _ _ b3 (upd_some (u := HO.lst [V.int 80, V.int 8, V.int 120, V.int 40, V.int 20, V.int 9]) e3 hq5)
    refine ⟨_, rfl, g, 9, c, e, rfl, G5.bag, by decide, by decide, fun s H6 s0 s1 E6 => ?_⟩
    have xr := xr.fr E6.fr
    have e6 := E6.fr _ _ b3 e5
    refine ⟨_, rfl, g, 4, c, e, rfl, E6.bag, by decide, by decide, fun b H7 b0 b1 E7 => ?_⟩
    have xr := xr.fr E7.fr
    have e7 := E7.fr _ _ b3 e6
    refine ⟨_, rfl, by show 4 ≤ sizeLine; decide, fun q8 hq8 => ?_⟩
    have D8 := ((G5.trans E6).trans E7).new (o := HO.tup [v5, .int s, .int b, v]) hq8
    have xr := xr.up (o := HO.tup [v5, .int s, .int b, v]) hq8
    have n8 := E7.bag.ne_new hq8
    have e8 := upd_some (u := HO.tup [v5, .int s, .int b, v]) e7 hq8
    refine ⟨_, rfl, q8, q3, _, _, rfl, rfl, SqT.of upd_same, SqT.of e8, by show 4 + 2 ≤ sizeLine; decide, fun r H9 s9 q9 => ?_⟩
    have hb := D8.bag
    have D9 := D8.trans (Drawn.same hb s9)
    have xz := xr.fr (Drawn.same hb s9).fr
    clear hb
    have hx : ∃ w : Int, v5 = .int w ∧ 0 ≤ w ∧ w ≤ 200 := by
      simp only [List.mem_cons, List.not_mem_nil, or_false] at hv5
      rcases hv5 with rfl | rfl | rfl | rfl | rfl | rfl <;> exact ⟨_, rfl, by decide, by decide⟩
    have h1 : ∃ o : Str, v1 = .str o ∧ o ∈ (["ahead", "behind"] : List Str) := by
      simp only [List.mem_cons, List.not_mem_nil, or_false] at hv1
      rcases hv1 with rfl | rfl <;> exact ⟨_, rfl, by decide⟩
    have h2 : ∃ o : Str, v2 = .str o ∧ o ∈ (["fill", "rows"] : List Str) := by
      simp only [List.mem_cons, List.not_mem_nil, or_false] at hv2
      rcases hv2 with rfl | rfl <;> exact ⟨_, rfl, by decide⟩
    obtain ⟨w, rfl, w0, w1⟩ := hx
    obtain ⟨o, rfl, ho⟩ := h1
    obtain ⟨l, rfl, hl⟩ := h2
    refine k r _ [.int w, .int s, .int b, .tuple (rs.map .str), .str o, .str l] _ ?_ ⟨SqT.hid D9.bag q9, .cons (.int _) (.cons (.int _) (.cons (.int _) (.cons xz (.cons (.str _) (.cons (.str _) .nil))))), ⟨w, s, b, rs, o, l, rfl, ⟨w0, w1⟩, ⟨s0, by omega⟩, ⟨b0, by omega⟩, hrs, ho, hl⟩, rfl⟩
    exact D9

theorem SzL.drop {n M : Nat} {ds : List PyData} (h : SzL n M ds) (k : Nat) : SzL n M (ds.drop k) := by
  rw [← List.take_append_drop k ds] at h
  obtain ⟨A, B, _, b, l⟩ := SzL.split h
  exact b.mono (Nat.le_refl _) (by omega)
theorem SzL.take {n M : Nat} {ds : List PyData} (h : SzL n M ds) (k : Nat) : SzL n M (ds.take k) := by
  rw [← List.take_append_drop k ds] at h
  obtain ⟨A, B, a, _, l⟩ := SzL.split h
  exact a.mono (Nat.le_refl _) (by omega)
theorem DxAll.drop {H : Hp} : ∀ {xs : List V} {ds : List PyData} (k : Nat), DxAll K H xs ds → DxAll K H (xs.drop k) (ds.drop k)
  | _, _, 0, h => h
  | _, _, k + 1, .nil => .nil
  | _, _, k + 1, .cons _ h => DxAll.drop k h
theorem DxAll.take {H : Hp} : ∀ {xs : List V} {ds : List PyData} (k : Nat), DxAll K H xs ds → DxAll K H (xs.take k) (ds.take k)
  | _, _, 0, h => .nil
  | _, _, k + 1, .nil => .nil
  | _, _, k + 1, .cons a h => .cons a (DxAll.take k h)
theorem sz_int {i : Int} (h : i.natAbs < 10 ^ 60) : SzX 2 62 (.int i) := ⟨decide_eq_true h, Nat.zero_le _, by show 62 ≤ 62; decide⟩
theorem nat60 {i : Int} (h : 0 ≤ i ∧ i ≤ 2000) : i.natAbs < 10 ^ 60 := Nat.lt_of_le_of_lt (show i.natAbs ≤ 2000 by omega) (by decide)
theorem StyD.szl {ds : List PyData} (h : StyD ds) : SzL 2 1000 ds := by
  obtain ⟨w, s, b, rs, o, l, rfl, hw, hs, hb, hr, ho, hl⟩ := h
  have R : ∀ rs ∈ ranks22, (tmx (.tuple (rs.map .str)) && (decide ((PyData.tuple (rs.map .str)).depth ≤ 2) && decide (wtx (.tuple (rs.map .str)) ≤ 300))) = true := by decide +kernel
  have R := R rs hr
  obtain ⟨r1, R⟩ := Bool.and_eq_true_iff.mp R
  obtain ⟨r2, r3⟩ := Bool.and_eq_true_iff.mp R
  have O : ∀ z ∈ (["ahead", "behind", "fill", "rows"] : List Str), (tmx (.str z) && decide (wtx (.str z) ≤ 80)) = true := by decide +kernel
  have S : ∀ z ∈ (["ahead", "behind", "fill", "rows"] : List Str), SzX 2 80 (.str z) := fun z hz => by
    obtain ⟨a, b⟩ := Bool.and_eq_true_iff.mp (O z hz)
    exact ⟨a, Nat.zero_le _, of_decide_eq_true b⟩
  have ho : o ∈ (["ahead", "behind", "fill", "rows"] : List Str) := by
    simp only [List.mem_cons, List.not_mem_nil, or_false] at ho ⊢
    rcases ho with h | h <;> simp [h]
  have hl : l ∈ (["ahead", "behind", "fill", "rows"] : List Str) := by
    simp only [List.mem_cons, List.not_mem_nil, or_false] at hl ⊢
    rcases hl with h | h <;> simp [h]
  exact (SzL.cons (sz_int (nat60 ⟨hw.1, by omega⟩)) (SzL.cons (sz_int (nat60 ⟨hs.1, by omega⟩)) (SzL.cons (sz_int (nat60 ⟨hb.1, by omega⟩)) (SzL.cons ⟨r1, of_decide_eq_true r2, of_decide_eq_true r3⟩ (SzL.cons (S o ho) (SzL.cons (S l hl) (SzL.nil (M := 0)))))))).mono (Nat.le_refl _) (by decide)
theorem Sty.fr {b a : Addr} {H H' : Hp} {xs : List V} {ds : List PyData} (Z : Sty K b H a xs ds) (f : Fr b H H') : Sty K b H' a xs ds := ⟨sameT (hid_fr f) Z.at', DxAll.same (hid_fr f) Z.dx, Z.ok, Z.len⟩
theorem Sty.seq {b a : Addr} {H : Hp} {xs : List V} {ds : List PyData} (Z : Sty K b H a xs ds) : SqT K H a xs := sameT (hid_same b H) Z.at'

def tsOf (m : Addr) : List Addr := (List.range 6).map fun j => m + j
def kfOf (m : Addr) (t : Addr) : Str := names22.getD (t - m) ""
def vfOf (xs : List V) (m : Addr) (t : Addr) : V := xs.getD (t - m) .non
def G22 (xs : List V) (n : Str) : Key × V := (.inr n, xs.getD (at22 n) .non)
theorem at22_ix : ∀ j : Nat, j < 6 → at22 (names22.getD j "") = j := by decide +kernel
theorem ts_ix {m t : Addr} (h : t ∈ tsOf m) : ∃ j : Nat, j < 6 ∧ t = m + j ∧ t - m = j := by
  obtain ⟨j, hj, rfl⟩ := List.mem_map.mp h
  exact ⟨j, List.mem_range.mp hj, rfl, Nat.add_sub_cancel_left m j⟩
theorem kv_of {xs : List V} {m t : Addr} (h : t ∈ tsOf m) : G22 xs (kfOf m t) = (.inr (kfOf m t), vfOf xs m t) := by
  obtain ⟨j, hj, _, e⟩ := ts_ix h
  unfold G22 vfOf kfOf
  rw [e, at22_ix j hj]
theorem kf_map (m : Addr) : (tsOf m).map (kfOf m) = names22 := by
  unfold tsOf
  rw [List.map_map]
  have e : (kfOf m ∘ fun j => m + j) = fun j => names22.getD j "" := funext fun j => by
    show names22.getD (m + j - m) "" = _
    rw [Nat.add_sub_cancel_left]
  rw [e]
  rfl
theorem kf_inj {m t u : Addr} (h : t ∈ tsOf m) (k : u ∈ tsOf m) (e : kfOf m t = kfOf m u) : t = u := by
  obtain ⟨i, hi, ti, ei⟩ := ts_ix h
  obtain ⟨j, hj, uj, ej⟩ := ts_ix k
  unfold kfOf at e
  rw [ei, ej] at e
  have := at22_ix i hi
  rw [e, at22_ix j hj] at this
  rw [ti, uj, this]
theorem prs_of {H : Hp} {xs : List V} {m : Addr} (its : ∀ t ∈ tsOf m, H t = some (.tup [.str (kfOf m t), vfOf xs m t])) : ∀ ys : List Addr, (∀ t ∈ ys, t ∈ tsOf m) → Paired (fun p kv => SqT K H p [kV kv.1, kv.2]) ys ((ys.map (kfOf m)).map (G22 xs))
  | [], _ => .nil
  | t :: ys, h => .cons (by
      rw [kv_of (h t List.mem_cons_self)]
      exact SqT.of (its t (h t List.mem_cons_self))) (prs_of its ys fun u hu => h u (List.mem_cons_of_mem _ hu))
def unref : V → Addr
  | .ref a => a
  | _ => 0
theorem perm_ref {ys : List V} {ts : List Addr} (h : ys.Perm (ts.map V.ref)) : ∃ us : List Addr, ys = us.map V.ref ∧ us.Perm ts := by
  refine ⟨ys.map unref, ?_, ?_⟩
  · rw [List.map_map]
    have e : ∀ y ∈ ys, (V.ref ∘ unref) y = y := fun y hy => by
      obtain ⟨t, _, rfl⟩ := List.mem_map.mp (h.mem_iff.mp hy)
      rfl
    exact ((List.map_congr_left e).trans (List.map_id ys)).symm
  · have := h.map unref
    rw [List.map_map] at this
    have e : ts.map (unref ∘ V.ref) = ts := List.map_id ts
    rw [e] at this
    exact this
theorem G_keys (xs : List V) (ns : List Str) (h : ns.Nodup) : ((ns.map (G22 xs)).map (·.1)).Nodup := by
  rw [List.map_map]
  exact List.Pairwise.map _ (fun a b n e => n (Sum.inr.inj e)) h
theorem G_merge (xs : List V) (ns : List Str) (h : ns.Nodup) : mergeK [] (ns.map (G22 xs)) = ns.map (G22 xs) := by
  have := merge_new (more := ns.map (G22 xs)) (kvs := []) (by rw [List.nil_append]; exact G_keys xs ns h)
  rw [List.nil_append] at this
  exact this
def dD (ds : List PyData) (ns : List Str) : PyData := .dict (ns.map fun n => (.str n, ds.getD (at22 n) .none))
theorem DxAll.getD {H : Hp} : ∀ {xs : List V} {ds : List PyData} (i : Nat), DxAll K H xs ds → Dx K H (xs.getD i .non) (ds.getD i .none)
  | _, _, _, .nil => .non
  | _, _, 0, .cons a _ => a
  | _, _, i + 1, .cons _ h => DxAll.getD i h
theorem dx_words {H : Hp} {xs : List V} {ds : List PyData} (h : DxAll K H xs ds) : ∀ ns : List Str, DxAll K H (ns.map fun n => xs.getD (at22 n) .non) (ns.map fun n => ds.getD (at22 n) .none)
  | [] => .nil
  | n :: ns => .cons (DxAll.getD _ h) (dx_words h ns)
theorem dic_dx {H : Hp} {p : Addr} {xs : List V} {ds : List PyData} {ns : List Str} (hp : H p = some (.dK (ns.map (G22 xs)))) (h : DxAll K H xs ds) (nd : ns.Nodup) : Dx K H (.ref p) (dD ds ns) := by
  have := Dx.dic (K := K) (.inl hp) (G_keys xs ns nd) (ds := ns.map fun n => ds.getD (at22 n) .none) (by rw [List.map_map]; exact dx_words h ns)
  rw [List.map_map, List.zip_map'] at this
  exact this
theorem SzX.dic {n M : Nat} : ∀ {l : List (PyData × PyData)}, (∀ p ∈ l, tmx p.1 = true ∧ tmx p.2 = true ∧ p.1.depth ≤ n ∧ p.2.depth ≤ n ∧ wtx p.1 + wtx p.2 ≤ M) → tmxKv l = true ∧ PyData.depthKv l ≤ n ∧ wtxKv l ≤ l.length * (M + 4)
  | [], _ => ⟨rfl, Nat.zero_le _, Nat.zero_le _⟩
  | (k, v) :: l, h => by
    obtain ⟨a, b, c⟩ := SzX.dic (l := l) fun p hp => h p (List.mem_cons_of_mem _ hp)
    obtain ⟨h1, h2, h3, h4, h5⟩ := h _ List.mem_cons_self
    refine ⟨?_, ?_, ?_⟩
    · show (tmx k && (tmx v && tmxKv l)) = true
      rw [show tmx k = true from h1, show tmx v = true from h2, a] <;> rfl
    · show max (max k.depth v.depth) (PyData.depthKv l) ≤ n
      have h3 : k.depth ≤ n := h3
      have h4 : v.depth ≤ n := h4
      omega
    · show wtx k + wtx v + 4 + wtxKv l ≤ (l.length + 1) * (M + 4)
      have h5 : wtx k + wtx v ≤ M := h5
      rw [Nat.add_mul, Nat.one_mul]
      omega
theorem names_sz : ∀ n ∈ names22, tmx (.str n) = true ∧ wtx (.str n) ≤ 100 := by decide +kernel
theorem StyD.dic {ds : List PyData} (h : StyD ds) {ns : List Str} (pm : ns.Perm names22) : SzX 3 7000 (dD ds ns) := by
  have l6 : ns.length = 6 := pm.length_eq
  have A : ∀ i : Nat, SzX 2 1000 (ds.getD i .none) := fun i => by
    by_cases hi : i < ds.length
    · rw [List.getD_eq_getElem?_getD, List.getElem?_eq_getElem hi]
      have e : ds = ds.take i ++ ds[i] :: ds.drop (i + 1) := by rw [← List.drop_eq_getElem_cons hi, List.take_append_drop]
      have z := h.szl
      rw [e] at z
      obtain ⟨A, B, C, _, b, _, l⟩ := SzL.at z
      exact b.mono (Nat.le_refl _) (by omega)
    · rw [List.getD_eq_getElem?_getD, List.getElem?_eq_none (by omega)]
      exact ⟨rfl, Nat.zero_le _, by show 4 ≤ 1000; decide⟩
  obtain ⟨a, b, c⟩ := SzX.dic (n := 2) (M := 1100) (l := ns.map fun n => (PyData.str n, ds.getD (at22 n) .none)) fun p hp => by
    obtain ⟨n, hn, rfl⟩ := List.mem_map.mp hp
    obtain ⟨q1, q2⟩ := names_sz n (pm.mem_iff.mp hn)
    have z := A (at22 n)
    exact ⟨q1, z.tm, Nat.zero_le _, z.dp, by have := z.wz; show wtx (PyData.str n) + wtx (ds.getD (at22 n) .none) ≤ 1100; omega⟩
  rw [List.length_map, l6] at c
  exact ⟨a, Nat.succ_le_succ b, by show wtxKv _ + 4 ≤ 7000; omega⟩
theorem val_of {xs : List V} {ns : List Str} (pm : ns.Perm names22) {i : Nat} {n : Str} {x : V} (hn : names22[i]? = some n) (hx : xs[i]? = some x) : valV (ns.map (G22 xs)) (.inr n) = some x := by
  have nd : ns.Nodup := pm.nodup_iff.mpr (by decide +kernel)
  refine valV_mem (G_keys xs ns nd) ?_
  have mem : n ∈ ns := pm.mem_iff.mpr (List.mem_of_getElem? hn)
  refine List.mem_map.mpr ⟨n, mem, ?_⟩
  have hi : i < 6 := (List.getElem?_eq_some_iff.mp hn).1
  have e : at22 n = i := by
    have := at22_ix i hi
    rw [List.getD_eq_getElem?_getD, hn] at this
    exact this
  unfold G22
  rw [e, List.getD_eq_getElem?_getD, hx]
  rfl

theorem c_l_alike (T : Txt K mg w) (sb : ∃ o, base.get? sysModules = some o ∧ o.cls = .type "dict") : CalG P w K mg base 1 "_law_alike" (spAlikeV K) := by
  refine calGOf T.d_l_alike sc_l_alike (fun vs H Q E h => ?_) (fun f cdv A outer s H vs Q E hr gd h => ?_)
  · obtain ⟨x, y, d, rfl, _⟩ := h
    rfl
  · obtain ⟨x, y, d, rfl, ha, hb, ok, k⟩ := h
    have hu := hr.units
    refine ⟨_,
      (pss_one (ps_ret (pe_and (pe_cmpR (op_eqV hr.units) (pv 0) (pv 1) (nomark _)) (pe_one (pe_cmpR op_eq (pe_callB (call_reprV (u65 hr) gd sb) (by rfl) T.n_repr (by decide +kernel) (pa_cons (pv 0) pa_nil)) (pe_callB (call_reprV (u65 hr) gd sb) (by rfl) T.n_repr (by decide +kernel) (pa_cons (pv 1) pa_nil)) (nomark _))))))
      , ?_⟩
    refine ⟨_, rfl, _, rfl, d, ha, hb, ok.dp, _, rfl, ?_⟩
    refine iteT ⟨_, rfl, x, d, rfl, ha, ok, _, rfl, y, d, rfl, hb, ok, rfl, ?_⟩
    exact (by
      rw [show (decide (V.str (PyData.shown d) = V.str (PyData.shown d))) = true from decide_eq_true rfl]
      exact k _ (Same.refl _))

/-- the law's own laying -/
theorem c_l_laid (T : Txt K mg w) (c_l_style_words : Cal P w K mg base 1 "_law_style_words" spWds []) : Cal P w K mg base 2 "_law_laid" (spLaid K) [] := by
  refine calOf T.d_l_laid sc_l_laid (fun vs H Q E h => ?_) (fun f cdv A outer s H vs Q E hr h => ?_)
  · obtain ⟨a, b, xs, v2, n2, rfl, _⟩ := h
    rfl
  · obtain ⟨a, b, xs, v2, n2, rfl, ha, hl, hb, d2, l2, hn, k⟩ := h
    have hu := u1 hr
    refine ⟨_,
      (pss_one (ps_ret (pe_callTy call_tuple_of (by rfl) T.n_tuple (by decide +kernel) (pa_cons (pe_lc (own := [("_law_word", 2), ("_law_value", 3)]) (g := gTup K 2 (gCons (gName 2) (gCons (gName 3) gNil))) (tt := tYes) rfl sc_l_laid.nd (RZ.pi_zipA (by rfl) T.n_zip (pa_cons (pe_c0 c_l_style_words hr (by first | decide | omega) rfl) (pa_cons (pv 0) pa_nil))) (blkOk_by (N := ["_law_style_here", "_law_layer_here", "_law_word", "_law_value"]) (sc := defScope s_l_laid) (by decide +kernel)) (fun _ _ _ _ _ => (pg_tup rfl (pgs_cons (pg_name (i := 2) sc_l_laid.nd rfl (Or.inl rfl)) (pgs_cons (pg_name (i := 3) sc_l_laid.nd rfl (Or.inl rfl)) pgs_nil)))) (fun _ _ _ _ _ => pts_nil) (fun _ _ _ _ _ => (pe_dget2 hu (pv 1) (pv 2) (pv 3) ⟨rfl, rfl, rfl, rfl⟩))) pa_nil))))
      , ?_⟩
    refine ⟨rfl, fun pw hpw => ?_⟩
    have s1 := same_new (o := HO.tup (names22.map V.str)) hpw
    have q1 : (upd H pw (HO.tup (names22.map V.str))) pw = _ := upd_same
    generalize upd H pw (HO.tup (names22.map V.str)) = H1 at s1 q1 ⊢
    refine ⟨_, rfl, pw, a, names22.map V.str, xs, rfl, .inr ⟨SqT.of q1, sameT s1 ha, fun D hD => ?_⟩⟩
    refine lc_it (walk_zipT (K := K) (a := pw) (b := a) (xs := names22.map V.str) (ys := xs) (n := 6) (by rw [hl] <;> rfl)) (fun i H' => H' D = some (.lst ((laidL xs v2 n2).take i)) ∧ Same H1 H') ⟨upd_same, same_put (Same.refl _) hD⟩ (fun i H' _ h => ⟨SqT.of (h.2 _ _ q1), sameT (s1.trans h.2) ha⟩) ?_ ?_
    · rintro i x H2 H3 hi ⟨d2', s2⟩ ⟨T1, x1, x2, rfl, hT, rfl, hx1, hx2⟩
      have hx1 : (names22.map V.str)[i]? = some x1 := hx1
      rw [List.getElem?_map] at hx1
      obtain ⟨n, hn', rfl⟩ := Option.map_eq_some_iff.mp hx1
      have s3 := s2.trans (same_new (o := HO.tup [.str n, x2]) hT)
      have hb3 := (s1.trans s3) _ _ hb
      have e2 : stV xs n = x2 := by
        have := at22_ix i hi
        rw [List.getD_eq_getElem?_getD, hn'] at this
        have this : at22 n = i := this
        have hx2 : xs[i]? = some x2 := hx2
        unfold stV
        rw [this, List.getD_eq_getElem?_getD, hx2]
        rfl
      refine ⟨T1, _, rfl, SqT.of upd_same, rfl, _, _, rfl, _, _, rfl, rfl, rfl, ?_⟩
      delta tYes
      refine iteT ?_
      refine ⟨_, rfl, b, rfl, .inl ⟨_, .inl hb3⟩, _, rfl, _, rfl, valV (lay v2 n2) (.inr n), .inl ⟨lay v2 n2, .inr n, .inl hb3, rfl, rfl⟩, ?_⟩
      have ev : (valV (lay v2 n2) (.inr n)).getD x2 = if n ∈ n2 then v2 n else stV xs n := by
        by_cases h : n ∈ n2
        · rw [lay_val v2 h, if_pos h]
          rfl
        · rw [lay_none v2 h, if_neg h, e2]
          rfl
      rw [ev]
      refine ⟨_, upd_some (u := HO.tup [.str n, x2]) d2' hT, ?_, ?_, same_put s3 hD⟩
      · rw [List.length_take]
        exact Nat.lt_of_le_of_lt (Nat.min_le_left _ _) (Nat.lt_of_lt_of_le hi (by decide))
      · have e : (laidL xs v2 n2)[i]? = some (if n ∈ n2 then v2 n else stV xs n) := by
          unfold laidL
          rw [List.getElem?_map, hn']
          rfl
        rw [upd_same, List.take_add_one, e]
        rfl
    · rintro H2 ⟨d2', s2⟩
      rw [List.take_of_length_le (by unfold laidL; rw [List.length_map]; decide)] at d2'
      refine ⟨D, _, rfl, .inl ⟨SqL.of d2', fun r hr' => k r _ (s1.trans (s2.trans (same_new hr'))) (SqT.of upd_same)⟩⟩

def spLayer (K : PySem.W.Frag) : Sp := fun vs H Q _ => ∃ (g : Bg) (c e : Int), vs = [.ref g.b] ∧ Bag H g c e ∧ ∀ (p : Addr) (xs : List V) (ds : List PyData) (ns : List Str) (H' : Hp), Drawn g H H' c e → p ≠ g.b → H p = none → H' p = some (.dK (lay (stV xs) ns)) → ns.Nodup → (∀ n ∈ ns, n ∈ names22) → DxAll K (hid g.b H') xs ds → StyD ds → xs.length = 6 → Q (.ref p) H'
theorem c_l_layer (T : Txt K mg w) (c_l_style_words : Cal P w K mg base 1 "_law_style_words" spWds []) (c_l_style : Cal P w K mg base 3 "_law_style" (spStyl K) []) (c_l_mixed : Cal P w K mg base 2 "_law_mixed" (spMixed K) []) (c_l_one : Cal P w K mg base 2 "_law_one" (spOne K) []) : Cal P w K mg base 4 "_law_layer" (spLayer K) [] := by
  refine calOf T.d_l_layer sc_l_layer (fun vs H Q E h => ?_) (fun f cdv A outer s H vs Q E hr h => ?_)
  · obtain ⟨g, c, e, rfl, _⟩ := h
    rfl
  · obtain ⟨g, c, e, rfl, B, k⟩ := h
    have hu := u1 hr
    refine ⟨_,
      (pss_cons (ps_set (i := 1) sc_l_layer.nd rfl (Or.inl rfl) (pe_listZip rfl (by rfl) T.n_list (by rfl) T.n_zip (pa_cons (pe_c0 c_l_style_words hr (by first | decide | omega) rfl) (pa_cons (pe_c c_l_style hr (by first | decide | omega) rfl (pa_cons (pv 0) pa_nil)) pa_nil))))
        (pss_one (ps_ret (pe_callTy (call_dictP rfl) (by rfl) T.n_dict (by decide +kernel) (pa_cons (pe_slice sl_list (pe_c c_l_mixed hr (by first | decide | omega) rfl (pa_cons (pv 0) (pa_cons (pv 1) pa_nil))) po_none (po_some (pe_c c_l_one hr (by first | decide | omega) rfl (pa_cons (pv 0) (pa_cons (pe_lst (pa_cons pe_int (pa_cons pe_int (pa_cons pe_int (pa_cons pe_int (pa_cons pe_int pa_nil)))))) pa_nil))))) pa_nil)))))
      , ?_⟩
    refine ⟨rfl, fun pz hpz => ?_⟩
    have t13 := same_new (o := HO.tup (names22.map V.str)) hpz
    have B13 := B.same t13
    have qz : (upd H pz (HO.tup (names22.map V.str))) pz = _ := upd_same
    have nz := B.ne_new hpz
    have D13 := Drawn.same B t13
    generalize upd H pz (HO.tup (names22.map V.str)) = H13 at t13 B13 qz D13 ⊢
    refine ⟨_, rfl, g, c, e, rfl, B13, fun sa xs ds H12 D12 Z12 => ?_⟩
    have l6 := Z12.len
    refine ⟨pz, sa, names22.map V.str, xs, rfl, SqT.of (D12.fr _ _ nz qz), Z12.seq, l6.symm, by show 0 < 6; decide, fun pl m0 H14 hpl hpm s14 q14 i14 => ?_⟩
    have B12 := D12.bag
    have npl := B12.ne_new hpl
    have npm : ∀ t ∈ tsOf m0, t ≠ g.b := fun t ht => by
      obtain ⟨j, _, rfl, _⟩ := ts_ix ht
      exact B12.ne_new (hpm j)
    have its : ∀ t ∈ tsOf m0, H14 t = some (.tup [.str (kfOf m0 t), vfOf xs m0 t]) := fun t ht => by
      obtain ⟨j, hj, rfl, e⟩ := ts_ix ht
      unfold kfOf vfOf
      rw [e]
      refine i14 j _ _ ?_ ?_
      · rw [List.getElem?_map, List.getD_eq_getElem?_getD, List.getElem?_eq_getElem (show j < names22.length from hj)]
        rfl
      · rw [List.getD_eq_getElem?_getD, List.getElem?_eq_getElem (by omega)]
        rfl
    have q14 : H14 pl = some (.lst ((tsOf m0).map V.ref)) := by
      rw [q14]
      unfold tsOf
      rw [List.map_map]
      rfl
    have D14 := (D13.trans D12).trans (Drawn.same B12 s14)
    have Z14 := Z12.fr (Drawn.same B12 s14).fr
    clear i14 s14 hpm hpl hpz B13 Z12 B12 D13 D12
    refine ⟨_, rfl, _, rfl, g, pl, _, c, e, rfl, D14.bag, .inl (SqL.of q14), npl, by rw [List.length_map]; show 6 ≤ 100; decide, fun q ys H15 pm hq q15 D15 => ?_⟩
    obtain ⟨us, rfl, pu⟩ := perm_ref pm
    have Z15 := Z14.fr D15.fr
    have nq := D14.bag.ne_new hq
    have its : ∀ t ∈ tsOf m0, H15 t = some (.tup [.str (kfOf m0 t), vfOf xs m0 t]) := fun t ht => D15.fr _ _ (npm t ht) (its t ht)
    have hu6 : us.length = 6 := pu.length_eq
    have pn : (us.map (kfOf m0)).Perm names22 := by
      have := pu.map (kfOf m0)
      rw [kf_map] at this
      exact this
    refine ⟨_, rfl, by show 5 ≤ sizeLine; decide, fun p1 hp1 => ?_⟩
    have D16 := (D14.trans D15).new (o := HO.lst [V.int 2, V.int 0, V.int 1, V.int 3, V.int 6]) hp1
    have E16 := (Drawn.of D15.bag).new (o := HO.lst [V.int 2, V.int 0, V.int 1, V.int 3, V.int 6]) hp1
    refine ⟨g, _, c, e, rfl, D16.bag, .inl ⟨p1, _, rfl, .inl (SqL.of upd_same), D15.bag.ne_new hp1, by show 0 < 5; decide, by show 5 < 1000; decide, fun v H17 hv D17 => ?_⟩⟩
    have hv : ∃ n : Nat, v = .int (n : Int) ∧ n ≤ 6 := by
      simp only [List.mem_cons, List.not_mem_nil, or_false] at hv
      rcases hv with rfl | rfl | rfl | rfl | rfl
      · exact ⟨2, rfl, by decide⟩
      · exact ⟨0, rfl, by decide⟩
      · exact ⟨1, rfl, by decide⟩
      · exact ⟨3, rfl, by decide⟩
      · exact ⟨6, rfl, by decide⟩
    obtain ⟨n, rfl, n6⟩ := hv
    have E17 := E16.trans D17
    have A17 := D16.trans D17
    refine ⟨_, rfl, q, us.map V.ref, rfl, SqL.of (E17.fr _ _ nq q15), fun r hr => ?_⟩
    rw [cut_to (us.map V.ref) (j := n) (by rw [List.length_map, hu6]; exact n6), ← List.map_take]
    have t18 := same_new (o := HO.lst ((us.take n).map V.ref)) hr
    have sub : ∀ t ∈ us.take n, t ∈ tsOf m0 := fun t ht => pu.mem_iff.mp (List.mem_of_mem_take ht)
    refine ⟨r, us.take n, ((us.take n).map (kfOf m0)).map (G22 xs), rfl, SqL.of upd_same, prs_of (fun t ht => t18 _ _ (E17.fr _ _ (npm t ht) (its t ht))) _ sub, fun p hp => ?_⟩
    have nd : ((us.take n).map (kfOf m0)).Nodup := by
      have h1 : (us.map (kfOf m0)).Nodup := pn.nodup_iff.mpr (by decide +kernel)
      rw [List.map_take]
      exact h1.sublist (List.take_sublist _ _)
    rw [G_merge _ _ nd]
    have D18 := A17.trans (Drawn.same A17.bag t18)
    have np := D18.bag.ne_new hp
    have D19 := D18.new (o := HO.dK (((us.take n).map (kfOf m0)).map (G22 xs))) hp
    refine k p xs ds ((us.take n).map (kfOf m0)) _ D19 np ?_ upd_same nd (fun m hm => ?_) ?_ Z15.ok l6
    · cases e : H p with
      | none => rfl
      | some o =>
        have := D18.fr _ _ np e
        rw [hp] at this
        cases this
    · obtain ⟨t, ht, rfl⟩ := List.mem_map.mp hm
      exact pn.mem_iff.mp (List.mem_map_of_mem (List.mem_of_mem_take ht))
    · exact DxAll.same (hid_fr (((E17.trans (Drawn.same E17.bag t18)).new (o := HO.dK (((us.take n).map (kfOf m0)).map (G22 xs))) hp).fr)) Z15.dx

theorem sz_dec {d : PyData} (h : (tmx d && (decide (d.depth ≤ 4) && decide (wtx d ≤ 400))) = true) : SzX 4 400 d := by
  obtain ⟨h1, h2⟩ := Bool.and_eq_true_iff.mp h
  obtain ⟨h2, h3⟩ := Bool.and_eq_true_iff.mp h2
  exact ⟨h1, of_decide_eq_true h2, of_decide_eq_true h3⟩
/-- what is new since H0 -/
def nwi (H0 H : Hp) : Hp := fun a => match H0 a with
  | none => H a
  | some _ => none
theorem nwi_of {H0 H : Hp} {a : Addr} (h : H0 a = none) : nwi H0 H a = H a := by
  unfold nwi
  rw [h]
theorem nwi_some {H0 H : Hp} {a : Addr} {u : HO} (h : nwi H0 H a = some u) : H0 a = none ∧ H a = some u := by
  unfold nwi at h
  cases e : H0 a with
  | none => rw [e] at h; exact ⟨rfl, h⟩
  | some o => rw [e] at h; cases h
theorem nwi_up {H0 H : Hp} {p : Addr} {o : HO} (n : H p = none) : Same (nwi H0 H) (nwi H0 (upd H p o)) := fun a u e => by
  obtain ⟨h1, h2⟩ := nwi_some e
  rw [nwi_of h1, upd_ne (ne_of_none h2 n)]
  exact h2
theorem nwi_new {H0 H : Hp} {p : Addr} {o : HO} (n : H0 p = none) : nwi H0 (upd H p o) p = some o := by rw [nwi_of n, upd_same]
section
variable {H0 H : Hp} {p : Addr}
theorem nwT {xs : List V} {ds : List PyData} (hp : H p = none) (n : H0 p = none) (h : DxAll K (nwi H0 H) xs ds) : Dx K (nwi H0 (upd H p (.tup xs))) (.ref p) (.tuple ds) :=
  .tup (.inl (.inl (nwi_new n))) (DxAll.same (nwi_up hp) h)
theorem nwL {xs : List V} {ds : List PyData} (hp : H p = none) (n : H0 p = none) (h : DxAll K (nwi H0 H) xs ds) : Dx K (nwi H0 (upd H p (.lst xs))) (.ref p) (.list ds) :=
  .lst (.inl (.inl (nwi_new n))) (DxAll.same (nwi_up hp) h)
theorem nwD {kvs : List (Key × V)} {ds : List PyData} (hp : H p = none) (n : H0 p = none) (nd : (kvs.map (·.1)).Nodup) (h : DxAll K (nwi H0 H) (kvs.map (·.2)) ds) : Dx K (nwi H0 (upd H p (.dK kvs))) (.ref p) (.dict ((kvs.map fun q => keyD q.1).zip ds)) :=
  .dic (.inl (nwi_new n)) nd (DxAll.same (nwi_up hp) h)
end
/-- odd values: each is data of a small size -/
def OddG (K : PySem.W.Frag) (G : Hp) (xs : List V) : Prop := ∀ x ∈ xs, ∃ d, Dx K G x d ∧ SzX 4 400 d ∧ flatT d = true
theorem OddG.same {G G' : Hp} {xs : List V} (A : OddG K G xs) (f : Same G G') : OddG K G' xs := fun x hx => by
  obtain ⟨d, h, z, z2⟩ := A x hx
  exact ⟨d, Dx.same f h, z, z2⟩
abbrev OddD (K : PySem.W.Frag) (H0 : Hp) (H : Hp) (xs : List V) : Prop := OddG K (nwi H0 H) xs
theorem OddD.up {H0 H : Hp} {p : Addr} {o : HO} {xs : List V} (A : OddD K H0 H xs) (n : H p = none) : OddD K H0 (upd H p o) xs := OddG.same A (nwi_up n)
theorem OddD.one {H : Hp} {x : V} {d : PyData} {b : Hp} (h : Dx K (nwi b H) x d) (z : (tmx d && (decide (d.depth ≤ 4) && decide (wtx d ≤ 400))) = true) (z2 : flatT d = true) : OddD K b H [x] := fun y hy => by
  rw [List.mem_singleton.mp hy]
  exact ⟨d, h, sz_dec z, z2⟩
theorem OddD.app {H b : Hp} {xs ys : List V} (A : OddD K b H xs) (B : OddD K b H ys) : OddD K b H (xs ++ ys) := fun x hx => (List.mem_append.mp hx).elim (A x) (B x)
theorem OddD.nil {H b : Hp} : OddD K b H [] := fun x hx => by cases hx
theorem OddD.int {H b : Hp} {i : Int} {xs : List V} (h : i.natAbs < 10 ^ 60) (A : OddD K b H xs) : OddD K b H (.int i :: xs) := OddD.app (xs := [.int i]) (fun y hy => by
  rw [List.mem_singleton.mp hy]
  exact ⟨.int i, .int i, ⟨decide_eq_true h, Nat.zero_le _, by show 62 ≤ 400; decide⟩, rfl⟩) A
theorem OddD.str {H b : Hp} {z : Str} {xs : List V} (h : (tmx (.str z) && decide (z.length ≤ 30)) = true) (A : OddD K b H xs) : OddD K b H (.str z :: xs) := OddD.app (xs := [.str z]) (fun y hy => by
  rw [List.mem_singleton.mp hy]
  obtain ⟨h1, h2⟩ := Bool.and_eq_true_iff.mp h
  have h2 := of_decide_eq_true h2
  exact ⟨.str z, .str z, ⟨h1, Nat.zero_le _, by show 10 * z.length + 2 ≤ 400; omega⟩, rfl⟩) A
def spOddV (K : PySem.W.Frag) : Sp := fun vs H Q _ => vs = [] ∧ ∀ (p : Addr) (xs : List V) (H' : Hp), Same H H' → H p = none → H' p = some (.lst xs) → OddD K H H' xs → xs.length = 24 → Q (.ref p) H'
theorem c_l_odd_values (T : Txt K mg w) : Cal P w K mg base 1 "_law_odd_values" (spOddV K) [] := by
  refine calOf T.d_l_odd_values sc_l_odd_values (fun vs H Q E h => ?_) (fun f cdv A outer s H vs Q E hr h => ?_)
  · obtain ⟨rfl, _⟩ := h
    rfl
  · obtain ⟨rfl, k⟩ := h
    have hu := u1 hr
    refine ⟨_,
      (pss_cons (ps_set (i := 0) sc_l_odd_values.nd rfl (Or.inl rfl) (pe_lst (pa_cons pe_int (pa_cons pe_int (pa_cons pe_int (pa_cons pe_int (pa_cons pe_int (pa_cons pe_int (pa_cons pe_int (pa_cons pe_int (pa_cons pe_int (pa_cons (pe_un un_neg pe_int) (pa_cons pe_bl (pa_cons pe_non (pa_cons pe_str (pa_cons pe_str (pa_cons pe_str (pa_cons pe_str (pa_cons pe_str (pa_cons pe_str (pa_cons (pe_tup (pa_cons pe_str pa_nil)) pa_nil)))))))))))))))))))))
        (pss_one (ps_ret (pe_op op_cat (pv 0) (pe_lst (pa_cons (pe_lst (pa_cons pe_str (pa_cons pe_str (pa_cons pe_str pa_nil)))) (pa_cons (pe_tup (pa_cons pe_str (pa_cons pe_str (pa_cons pe_str pa_nil)))) (pa_cons (pe_tup (pa_cons pe_str (pa_cons pe_str (pa_cons pe_str pa_nil)))) (pa_cons pe_dnewK (pa_cons (pe_tup (pa_cons pe_int (pa_cons pe_int (pa_cons pe_int pa_nil)))) pa_nil))))))))))
      , ?_⟩
    have A0 : OddD K H H [V.int 80, V.int 7, V.int 8, V.int 120, V.int 121, V.int 0, V.int 3, V.int 4, V.int 9, V.int (-1), V.bl true, V.non, V.str "80", V.str "ahead", V.str "rows", V.str "behind", V.str "fill", V.str "over"] := OddD.int (by decide +kernel) <| OddD.int (by decide +kernel) <| OddD.int (by decide +kernel) <| OddD.int (by decide +kernel) <| OddD.int (by decide +kernel) <| OddD.int (by decide +kernel) <| OddD.int (by decide +kernel) <| OddD.int (by decide +kernel) <| OddD.int (by decide +kernel) <| OddD.int (by decide +kernel) <| OddD.app (OddD.one (.bl _) (by decide +kernel) rfl) <| OddD.app (OddD.one .non (by decide +kernel) rfl) <| OddD.str (by decide +kernel) <| OddD.str (by decide +kernel) <| OddD.str (by decide +kernel) <| OddD.str (by decide +kernel) <| OddD.str (by decide +kernel) <| OddD.str (by decide +kernel) <| OddD.nil
    have S0 : Same H H := Same.refl H
    refine ⟨_, rfl, ?_⟩
    refine ⟨by show 1 ≤ sizeLine; decide, fun p1 hp1 => ?_⟩
    have S1 := S0.trans (same_new (o := HO.tup [V.str "over"]) hp1)
    have A1 := OddD.app (OddD.up (o := HO.tup [V.str "over"]) A0 hp1) (OddD.one (nwT (K := K) (H0 := H) hp1 (S0.free hp1) (.cons (.str _) <| .nil)) (by decide +kernel) (by decide +kernel))
    refine ⟨by show 19 ≤ sizeLine; decide, fun p2 hp2 => ?_⟩
    have S2 := S1.trans (same_new (o := HO.lst [V.int 80, V.int 7, V.int 8, V.int 120, V.int 121, V.int 0, V.int 3, V.int 4, V.int 9, V.int (-1), V.bl true, V.non, V.str "80", V.str "ahead", V.str "rows", V.str "behind", V.str "fill", V.str "over", V.ref p1]) hp2)
    have A2 := OddD.up (o := HO.lst [V.int 80, V.int 7, V.int 8, V.int 120, V.int 121, V.int 0, V.int 3, V.int 4, V.int 9, V.int (-1), V.bl true, V.non, V.str "80", V.str "ahead", V.str "rows", V.str "behind", V.str "fill", V.str "over", V.ref p1]) A1 hp2
    refine ⟨_, rfl, ?_⟩
    refine ⟨by show 3 ≤ sizeLine; decide, fun p3 hp3 => ?_⟩
    have S3 := S2.trans (same_new (o := HO.lst [V.str "over", V.str "lines", V.str "broken"]) hp3)
    have A3 := OddD.app (OddD.up (o := HO.lst [V.str "over", V.str "lines", V.str "broken"]) A2 hp3) (OddD.one (nwL (K := K) (H0 := H) hp3 (S2.free hp3) (.cons (.str _) <| .cons (.str _) <| .cons (.str _) <| .nil)) (by decide +kernel) (by decide +kernel))
    refine ⟨by show 3 ≤ sizeLine; decide, fun p4 hp4 => ?_⟩
    have S4 := S3.trans (same_new (o := HO.tup [V.str "over", V.str "lines", V.str "lines"]) hp4)
    have A4 := OddD.app (OddD.up (o := HO.tup [V.str "over", V.str "lines", V.str "lines"]) A3 hp4) (OddD.one (nwT (K := K) (H0 := H) hp4 (S3.free hp4) (.cons (.str _) <| .cons (.str _) <| .cons (.str _) <| .nil)) (by decide +kernel) (by decide +kernel))
    refine ⟨by show 3 ≤ sizeLine; decide, fun p5 hp5 => ?_⟩
    have S5 := S4.trans (same_new (o := HO.tup [V.str "broken", V.str "over", V.str "lines"]) hp5)
    have A5 := OddD.app (OddD.up (o := HO.tup [V.str "broken", V.str "over", V.str "lines"]) A4 hp5) (OddD.one (nwT (K := K) (H0 := H) hp5 (S4.free hp5) (.cons (.str _) <| .cons (.str _) <| .cons (.str _) <| .nil)) (by decide +kernel) (by decide +kernel))
    refine fun p6 hp6 => ?_
    have S6 := S5.trans (same_new (o := HO.dK []) hp6)
    have A6 := OddD.app (OddD.up (o := HO.dK []) A5 hp6) (OddD.one (nwD (kvs := []) (K := K) (H0 := H) hp6 (S5.free hp6) List.nodup_nil .nil) (by decide +kernel) (by decide +kernel))
    refine ⟨by show 3 ≤ sizeLine; decide, fun p7 hp7 => ?_⟩
    have S7 := S6.trans (same_new (o := HO.tup [V.int 1, V.int 2, V.int 3]) hp7)
    have A7 := OddD.app (OddD.up (o := HO.tup [V.int 1, V.int 2, V.int 3]) A6 hp7) (OddD.one (nwT (K := K) (H0 := H) hp7 (S6.free hp7) (.cons (.int _) <| .cons (.int _) <| .cons (.int _) <| .nil)) (by decide +kernel) (by decide +kernel))
    refine ⟨by show 5 ≤ sizeLine; decide, fun p8 hp8 => ?_⟩
    have S8 := S7.trans (same_new (o := HO.lst [V.ref p3, V.ref p4, V.ref p5, V.ref p6, V.ref p7]) hp8)
    have A8 := OddD.up (o := HO.lst [V.ref p3, V.ref p4, V.ref p5, V.ref p6, V.ref p7]) A7 hp8
    refine ⟨_, _, [V.int 80, V.int 7, V.int 8, V.int 120, V.int 121, V.int 0, V.int 3, V.int 4, V.int 9, V.int (-1), V.bl true, V.non, V.str "80", V.str "ahead", V.str "rows", V.str "behind", V.str "fill", V.str "over", V.ref p1], [V.ref p3, V.ref p4, V.ref p5, V.ref p6, V.ref p7], rfl, rfl, upd_some (upd_some (upd_some (upd_some (upd_some (upd_some upd_same hp3) hp4) hp5) hp6) hp7) hp8, upd_same, by show 19 + 5 ≤ sizeLine; decide, fun p9 hp9 => ?_⟩
    have S9 := S8.trans (same_new (o := HO.lst ([V.int 80, V.int 7, V.int 8, V.int 120, V.int 121, V.int 0, V.int 3, V.int 4, V.int 9, V.int (-1), V.bl true, V.non, V.str "80", V.str "ahead", V.str "rows", V.str "behind", V.str "fill", V.str "over", V.ref p1] ++ [V.ref p3, V.ref p4, V.ref p5, V.ref p6, V.ref p7])) hp9)
    have A9 := OddD.up (o := HO.lst ([V.int 80, V.int 7, V.int 8, V.int 120, V.int 121, V.int 0, V.int 3, V.int 4, V.int 9, V.int (-1), V.bl true, V.non, V.str "80", V.str "ahead", V.str "rows", V.str "behind", V.str "fill", V.str "over", V.ref p1] ++ [V.ref p3, V.ref p4, V.ref p5, V.ref p6, V.ref p7])) A8 hp9
    refine k p9 _ _ S9 (S8.free hp9) upd_same A9 rfl

/-! is a thing a layer -/
def NoU (P : Program) (w : World) (H : Hp) (a : Addr) (ks : List (Option Key × V)) : Prop := H a = some (noO P w a ks) ∨ ∃ kvs, H a = some (.dK kvs) ∧ ks = liftK kvs
theorem no_lock {H : Hp} {a : Addr} {ks : List (Option Key × V)} (N : NoU P w H a ks) : ∃ u, H a = some u ∧ Mut (some u) ∧ ∀ (H' : Hp) (o : Obj), H' a = some (.frz o u) → NoF P w H' a o ks := by
  rcases N with h | ⟨kvs, h, e⟩
  · exact ⟨_, h, True.intro, fun H' o h' => .inl h'⟩
  · exact ⟨_, h, True.intro, fun H' o h' => .inr ⟨kvs, h', e⟩⟩
theorem NoU.r {H : Hp} {a : Addr} {ks : List (Option Key × V)} (N : NoU P w H a ks) : NoR P w H a ks := by
  rcases N with h | ⟨kvs, h, e⟩
  · exact .inl (.inl h)
  · exact .inr ⟨kvs, .inl h, e⟩
theorem NoU.same {H H' : Hp} {a : Addr} {ks : List (Option Key × V)} (N : NoU P w H a ks) (s : Same H H') : NoU P w H' a ks := by
  rcases N with h | ⟨kvs, h, e⟩
  · exact .inl (s _ _ h)
  · exact .inr ⟨kvs, s _ _ h, e⟩
def entB (e : (Option Key × V) × PyData) : Bool := match e.1.1 with
  | some (.inr n) => decide (n ∈ names22) && canB n e.2
  | _ => false
def layB (ks : List (Option Key × V)) (ds : List PyData) : Bool := (ks.zip ds).all entB
def notDic : PyData → Bool
  | .dict _ => false
  | _ => true
def RkOk (e : (Option Key × V) × PyData) : Prop := e.1.1 = some (.inr "rank") → flatT e.2 = true ∧ tmx e.2 = true ∧ wtx e.2 ≤ 10000
def spIsL (P : Program) (w : World) (K : PySem.W.Frag) : Sp := fun vs H Q _ => ∃ (v : V), vs = [v] ∧ ((∃ d, Dx K H v d ∧ notDic d = true ∧ ∀ H', Same H H' → Q (.bl false) H') ∨
  ∃ (a : Addr) (ks : List (Option Key × V)) (ds : List PyData), v = .ref a ∧ NoU P w H a ks ∧ (ks.map (·.1)).Nodup ∧ ks.length ≤ 100 ∧ DxAll K (hid a H) (ks.map (·.2)) ds ∧ (∀ e ∈ ks.zip ds, RkOk e) ∧ ∀ H', Same H H' → Q (.bl (layB ks ds)) H')
theorem valN_mem : ∀ {ks : List (Option Key × V)} {e : Option Key × V}, (ks.map (·.1)).Nodup → e ∈ ks → valV ks e.1 = some e.2
  | p :: r, e, nd, h => by
    obtain ⟨n1, n2⟩ := List.nodup_cons.mp nd
    rcases List.mem_cons.mp h with rfl | h
    · exact valV_pos rfl
    · rw [valV_neg (fun z : p.1 = e.1 => n1 (by show p.1 ∈ r.map (·.1); rw [z]; exact List.mem_map_of_mem h))]
      exact valN_mem n2 h
theorem dxall_ix {H : Hp} : ∀ {xs : List V} {ds : List PyData}, DxAll K H xs ds → ∀ {i : Nat} {x : V}, xs[i]? = some x → ∃ d, ds[i]? = some d ∧ Dx K H x d
  | _, _, .nil, i, x, h => by simp at h
  | _, _, .cons a b, 0, x, h => by
    cases h
    exact ⟨_, rfl, a⟩
  | _, _, .cons a b, i + 1, x, h => dxall_ix b h
theorem okDx (H : Hp) : ∀ k : Option Key, Dx K H (okV k) (okD k)
  | none => .non
  | some (.inl i) => .int i
  | some (.inr x) => .str x
theorem kit_dicD (K : PySem.W.Frag) (d : PyData) : PySem.W.kitOne K (.type (tyD d)) (.type "dict") = some (decide (tyD d = "dict")) := by
  cases d <;> rfl
theorem zip_ix {α β : Type} {xs : List α} {ys : List β} {i : Nat} {x : α} {y : β} (h1 : xs[i]? = some x) (h2 : ys[i]? = some y) : (xs.zip ys)[i]? = some (x, y) := by
  rw [List.getElem?_zip_eq_some]
  exact ⟨h1, h2⟩
theorem c_p_is_layer (T : Txt K mg w) (c_p_can_be : Cal P w K mg base 2 "can_be" (spCan K) []) : Cal P w K mg base 3 "is_layer" (spIsL P w K) [] := by
  refine calOf T.d_p_is_layer sc_p_is_layer (fun vs H Q E h => ?_) (fun f cdv A outer s H vs Q E hr h => ?_)
  · obtain ⟨v, rfl, _⟩ := h
    rfl
  · obtain ⟨v, rfl, h⟩ := h
    have hu := u1 hr
    obtain ⟨a_NAMES, m_NAMES, t_NAMES⟩ := T.t_NAMES
    refine ⟨_,
      (pss_cons (ps_if (pt_not (pt_val (pe_callB call_isiN (by rfl) T.n_isinstance (by decide +kernel) (pa_cons (pv 0) (pa_cons (pe_bltn (v := V.ty "dict") (by rfl) T.n_dict (by decide +kernel) rfl) pa_nil)))))
        (pss_one (ps_ret pe_bl))
        pss_nil)
        (pss_one (ps_ret (pe_callB (cr_all rfl) (by rfl) T.n_all (by decide +kernel) (pa_cons (pe_lock (pe_lc (own := [("name", 1)]) (g := gName 1) (tt := tYes) rfl sc_p_is_layer.nd (pi_keysNo (pv 0)) (blkOk_by (N := ["thing", "name"]) (sc := defScope s_p_is_layer) (by decide +kernel)) (fun _ _ _ _ _ => pg_name (i := 1) sc_p_is_layer.nd rfl (Or.inl rfl)) (fun _ _ _ _ _ => pts_nil) (fun _ _ _ _ _ => (pe_and (pe_callB (show CallR _ (.builtin "isinstance") (rIsi K) from call_isi) (by rfl) T.n_isinstance (by decide +kernel) (pa_cons (pv 1) (pa_cons (pe_bltn (v := V.ty "str") (by rfl) T.n_str (by decide +kernel) rfl) pa_nil))) (pe_and (pe_cmpR (show OpR _ (compareOp .In) (rIn K false) from op_in_seq) (pv 1) (pe_gc (v := V.ref a_NAMES) (by rfl) ⟨_, m_NAMES, rfl⟩) (by rfl)) (pe_one (pe_c c_p_can_be hr (by first | decide | omega) rfl (pa_cons (pv 1) (pa_cons (show PE _ _ (tDGetN P w _ _) from pe_dgetN (pv 0) (pv 1) (fun _ _ => rfl)) pa_nil))))))))) pa_nil)))))
      , ?_⟩
    rcases h with ⟨d, hd, nd, k⟩ | ⟨a, ks, ds, rfl, N, nodup, l100, D, rk, k⟩
    · have e : decide (tyD d = "dict") = false := by
        cases d with
        | dict _ => cases nd
        | _ => rfl
      refine ⟨_, rfl, .inl ⟨_, _, _, _, _, rfl, .ty _, hd.ty, kit_dicD K d, ?_⟩⟩
      rw [e]
      refine ⟨_, rfl, ?_⟩
      exact k H (Same.refl H)
    · refine ⟨_, rfl, .inr ⟨a, ks, rfl, N.r, ?_⟩⟩
      refine ⟨_, rfl, ?_⟩
      refine iteF ?_
      obtain ⟨u, hau, mu, fro⟩ := no_lock N
      refine ⟨a, u, hau, mu, fun od => ?_⟩
      have F0 : NoF P w (upd H a (.frz od u)) a od ks := fro _ _ upd_same
      refine ⟨_, rfl, a, od, ks, rfl, F0, fun L hL => ?_⟩
      have nL : L ≠ a := fun z => by rw [z, upd_same] at hL; cases hL
      have hL0 : H L = none := by rw [upd_ne nL] at hL; exact hL
      have lz : (ks.zip ds).length ≤ 100 := by
        rw [List.length_zip]
        omega
      have len : ks.length = ds.length := by
        have := D.len
        rw [List.length_map] at this
        exact this
      refine lc_it (walk_keysNo (P := P) (w := w) (d := a) (o := od) (xs := ks)) (fun i H' => H' L = some (.lst (((ks.zip ds).take i).map fun e => V.bl (entB e))) ∧ H' a = some (.frz od u) ∧ ∀ b o, b ≠ a → H b = some o → H' b = some o)
        ⟨upd_same, by rw [upd_ne (Ne.symm nL), upd_same], fun b o n e => by rw [upd_ne (ne_of_none e hL0), upd_ne n]; exact e⟩ (fun i H' _ h => fro _ _ h.2.1) ?_ ?_
      · rintro i x H1 H2 hi ⟨l1, f1, s1⟩ ⟨rfl, e, he, rfl⟩
        have Fi : NoF P w H2 a od ks := fro _ _ f1
        have sh : Same (hid a H) H2 := fun b o e => by
          have n : b ≠ a := fun z => by rw [z] at e; exact absurd e (by unfold hid; rw [if_pos rfl]; exact fun z => nomatch z)
          rw [hid_ne n] at e
          exact s1 b o n e
        obtain ⟨d, hd, dx⟩ := dxall_ix D (i := i) (x := e.2) (by rw [List.getElem?_map, he]; rfl)
        have hz := zip_ix he hd
        have et : (ks.zip ds).take (i + 1) = (ks.zip ds).take i ++ [(e, d)] := by
          rw [List.take_add_one, hz]
          rfl
        have rke := rk _ (List.mem_of_getElem? hz)
        have fin : ∀ (b : Bool) (H3 : Hp), b = entB (e, d) → Same H2 H3 → ∃ acc, H3 L = some (.lst acc) ∧ acc.length < sizeLine ∧ (upd H3 L (.lst (acc ++ [V.bl b]))) L = some (.lst (((ks.zip ds).take (i + 1)).map fun e => V.bl (entB e))) ∧ (upd H3 L (.lst (acc ++ [V.bl b]))) a = some (.frz od u) ∧ ∀ c o, c ≠ a → H c = some o → (upd H3 L (.lst (acc ++ [V.bl b]))) c = some o := fun b H3 eb s3 => by
          refine ⟨_, s3 _ _ l1, ?_, ?_, ?_, fun c o n h => ?_⟩
          · rw [List.length_map, List.length_take]
            exact Nat.lt_of_le_of_lt (show _ ≤ 100 by omega) (by decide)
          · rw [upd_same, et, List.map_append, eb]
            rfl
          · rw [upd_ne (Ne.symm nL)]
            exact s3 _ _ f1
          · rw [upd_ne (ne_of_none h hL0)]
            exact s3 _ _ (s1 c o n h)
        refine ⟨rfl, ?_⟩
        delta tYes
        refine iteT ?_
        refine ⟨_, rfl, _, _, _, _, _, rfl, .ty _, (okDx H2 e.1).ty, kit_strD K (okD e.1), ?_⟩
        refine ⟨_, rfl, ?_⟩
        obtain ⟨k0, v0⟩ := e
        cases k0 with
        | none => exact fin false _ rfl (Same.refl _)
        | some k1 =>
          cases k1 with
          | inl j => exact fin false _ rfl (Same.refl _)
          | inr n =>
            refine ⟨_, rfl, a_NAMES, names22.map V.str, rfl, .inr (t_NAMES _), rfl, by decide, ?_⟩
            have ei : inV (.str n) (names22.map V.str) = decide (n ∈ names22) := inV_strs n names22
            refine ⟨_, rfl, ?_⟩
            refine ite2 (fun h => ?_) (fun h => ?_)
            · have h : n ∈ names22 := of_decide_eq_true (ei.symm.trans h)
              refine ⟨_, rfl, _, rfl, _, rfl, a, v0, ks, some (.inr n), rfl, Fi.r, rfl, valN_mem nodup (List.mem_of_getElem? he), n, v0, d, rfl, h, Dx.same sh dx, fun e => rke (by rw [e]), fun H3 s3 => ?_⟩
              exact fin _ _ (by show _ = (decide (n ∈ names22) && canB n d); rw [decide_eq_true h, Bool.true_and]) s3
            · refine fin _ _ ?_ (Same.refl _)
              show false = (decide (n ∈ names22) && canB n d)
              have h : ¬ inV (.str n) (names22.map V.str) = true := h
              rw [← ei, Bool.eq_false_iff.mpr h, Bool.false_and]
      · rintro H1 ⟨l1, f1, s1⟩
        have e1 : (ks.zip ds).take ks.length = ks.zip ds := List.take_of_length_le (by rw [List.length_zip]; omega)
        rw [e1] at l1
        refine ⟨f1, ?_⟩
        have s2 : Same H (upd H1 a u) := fun b o e => by
          by_cases n : b = a
          · rw [n, hau] at e
            rw [n, upd_same, e]
          · rw [upd_ne n]
            exact s1 b o n e
        have l2 : (upd H1 a u) L = some (.lst (((ks.zip ds).map entB).map V.bl)) := by
          rw [upd_ne nL, l1, List.map_map]
          rfl
        refine ⟨L, (ks.zip ds).map entB, rfl, SqL.of l2, ?_⟩
        have e : ((ks.zip ds).map entB).all id = layB ks ds := by
          unfold layB
          rw [List.all_map]
          rfl
        rw [e]
        exact k _ s2
theorem c_l_is_layer (T : Txt K mg w) (c_l_style_words : Cal P w K mg base 1 "_law_style_words" spWds []) (c_l_is_value : Cal P w K mg base 2 "_law_is_value" (spCan K) []) : Cal P w K mg base 3 "_law_is_layer" (spIsL P w K) [] := by
  refine calOf T.d_l_is_layer sc_l_is_layer (fun vs H Q E h => ?_) (fun f cdv A outer s H vs Q E hr h => ?_)
  · obtain ⟨v, rfl, _⟩ := h
    rfl
  · obtain ⟨v, rfl, h⟩ := h
    have hu := u1 hr
    refine ⟨_,
      (pss_cons (ps_if (pt_not (pt_val (pe_callB call_isiN (by rfl) T.n_isinstance (by decide +kernel) (pa_cons (pv 0) (pa_cons (pe_bltn (v := V.ty "dict") (by rfl) T.n_dict (by decide +kernel) rfl) pa_nil)))))
        (pss_one (ps_ret pe_bl))
        pss_nil)
        (pss_cons (ps_lock (ps_for PassesOwn.never rfl (pi_keysNo (pv 0)) (pg_name (i := 1) sc_l_is_layer.nd rfl (Or.inl rfl))
        (pss_one (ps_if (PW.pt (pw_or (pt_not (pt_val (pe_callB call_isi (by rfl) T.n_isinstance (by decide +kernel) (pa_cons (pv 1) (pa_cons (pe_bltn (v := V.ty "str") (by rfl) T.n_str (by decide +kernel) rfl) pa_nil))))) (pw_or (pt_cmpR op_notIn_seq (pv 1) (pe_c0 c_l_style_words hr (by first | decide | omega) rfl) (by rfl)) (pw_or1 (pt_not (pt_val (pe_c c_l_is_value hr (by first | decide | omega) rfl (pa_cons (pv 1) (pa_cons (pe_dgetN (pv 0) (pv 1) (fun _ _ => rfl)) pa_nil)))))))))
        (pss_one (ps_ret pe_bl))
        pss_nil))))
        (pss_one (ps_ret pe_bl))))
      , ?_⟩
    rcases h with ⟨d, hd, nd, k⟩ | ⟨a, ks, ds, rfl, N, nodup, l100, D, rk, k⟩
    · have e : decide (tyD d = "dict") = false := by
        cases d with
        | dict _ => cases nd
        | _ => rfl
      refine ⟨_, rfl, .inl ⟨_, _, _, _, _, rfl, .ty _, hd.ty, kit_dicD K d, ?_⟩⟩
      rw [e]
      refine ⟨_, rfl, ?_⟩
      exact k H (Same.refl H)
    · refine ⟨_, rfl, .inr ⟨a, ks, rfl, N.r, ?_⟩⟩
      refine ⟨_, rfl, ?_⟩
      refine iteF ?_
      obtain ⟨u, hau, mu, fro⟩ := no_lock N
      refine ⟨a, u, hau, mu, fun od => ?_⟩
      have F0 : NoF P w (upd H a (.frz od u)) a od ks := fro _ _ upd_same
      have len : ks.length = ds.length := by
        have := D.len
        rw [List.length_map] at this
        exact this
      have e0 : ((ks.zip ds).take 0).all entB = true := rfl
      refine ⟨_, rfl, a, od, ks, rfl, F0, for_it (walk_keysNo (P := P) (w := w) (d := a) (o := od) (xs := ks)) (fun i σ H' => ∃ v1 : Option V, σ = [some (.ref a), v1] ∧ H' a = some (.frz od u) ∧ (∀ b o, b ≠ a → H b = some o → H' b = some o) ∧ ((ks.zip ds).take i).all entB = true)
        ⟨_, rfl, upd_same, fun b o n e => by rw [upd_ne n]; exact e, e0⟩ (fun i σ H' _ ⟨_, _, h, _⟩ => fro _ _ h) ?_ ?_⟩
      · rintro i x σ H1 H2 hi ⟨v1, rfl, f1, s1, b1⟩ ⟨rfl, e, he, rfl⟩
        have Fi : NoF P w H2 a od ks := fro _ _ f1
        have sh : Same (hid a H) H2 := fun b o e => by
          have n : b ≠ a := fun z => by rw [z] at e; exact absurd e (by unfold hid; rw [if_pos rfl]; exact fun z => nomatch z)
          rw [hid_ne n] at e
          exact s1 b o n e
        obtain ⟨d, hd, dx⟩ := dxall_ix D (i := i) (x := e.2) (by rw [List.getElem?_map, he]; rfl)
        have hz := zip_ix he hd
        have et : (ks.zip ds).take (i + 1) = (ks.zip ds).take i ++ [(e, d)] := by
          rw [List.take_add_one, hz]
          rfl
        have rke := rk _ (List.mem_of_getElem? hz)
        have no : ∀ H3 : Hp, Same H2 H3 → entB (e, d) = false → H3 a = some (.frz od u) ∧ Q (.bl false) (upd H3 a u) := fun H3 s3 eb => by
          refine ⟨s3 _ _ f1, ?_⟩
          have lb : layB ks ds = false := by
            refine Bool.eq_false_iff.mpr fun z => ?_
            have := List.all_eq_true.mp z _ (List.mem_of_getElem? hz)
            rw [eb] at this
            cases this
          have k := k (upd H3 a u) fun b o e => by
            by_cases n : b = a
            · rw [n, hau] at e
              rw [n, upd_same, e]
            · rw [upd_ne n]
              exact s3 _ _ (s1 b o n e)
          rw [lb] at k
          exact k
        have yes : ∀ H3 : Hp, Same H2 H3 → entB (e, d) = true → H3 a = some (.frz od u) ∧ (∀ b o, b ≠ a → H b = some o → H3 b = some o) ∧ ((ks.zip ds).take (i + 1)).all entB = true := fun H3 s3 eb =>
          ⟨s3 _ _ f1, fun b o n e => s3 _ _ (s1 b o n e), by rw [et, List.all_append, b1]; show (true && (entB (e, d) && true)) = true; rw [eb] <;> rfl⟩
        refine ⟨_, rfl, _, _, _, _, _, rfl, .ty _, (okDx H2 e.1).ty, kit_strD K (okD e.1), ?_⟩
        refine ⟨_, rfl, ?_⟩
        obtain ⟨k0, v0⟩ := e
        cases k0 with
        | none => exact no _ (Same.refl _) rfl
        | some k1 =>
          cases k1 with
          | inl j => exact no _ (Same.refl _) rfl
          | inr n =>
            have ei : inV (.str n) (names22.map V.str) = decide (n ∈ names22) := inV_strs n names22
            refine iteF ?_
            refine ⟨_, rfl, rfl, fun p hp => ⟨p, names22.map V.str, rfl, .inr (SqT.of upd_same), rfl, by decide, ?_⟩⟩
            have s3 := same_new (o := HO.tup (names22.map V.str)) hp
            refine ⟨_, rfl, ?_⟩
            show (if (!inV (.str n) (names22.map V.str)) = true then _ else _)
            rw [ei]
            refine ite2 (fun h => ?_) (fun h => ?_)
            · have h : decide (n ∈ names22) = false := by simpa using h
              exact no _ s3 (by show (decide (n ∈ names22) && canB n d) = false; rw [h, Bool.false_and])
            · have h : n ∈ names22 := by simpa using h
              have Fp : NoF P w (upd H2 p (HO.tup (names22.map V.str))) a od ks := fro _ _ (s3 _ _ f1)
              refine ⟨_, rfl, _, rfl, _, rfl, a, v0, ks, some (.inr n), rfl, Fp.r, rfl, valN_mem nodup (List.mem_of_getElem? he), n, v0, d, rfl, h, Dx.same s3 (Dx.same sh dx), fun e => rke (by rw [e]), fun H3 s4 => ?_⟩
              have s5 := s3.trans s4
              refine ⟨_, rfl, ?_⟩
              have ee : entB ((some (Sum.inr n), v0), d) = canB n d := by
                show (decide (n ∈ names22) && canB n d) = _
                rw [decide_eq_true h, Bool.true_and]
              refine ite2 (fun c => ?_) (fun c => ?_)
              · exact no _ s5 (by rw [ee]; simpa using c)
              · exact ⟨_, rfl, yes _ s5 (by rw [ee]; simpa using c)⟩
      · rintro σ H1 ⟨v1, rfl, f1, s1, b1⟩
        have e1 : (ks.zip ds).take ks.length = ks.zip ds := List.take_of_length_le (by rw [List.length_zip]; omega)
        rw [e1] at b1
        refine ⟨f1, ?_⟩
        have k := k (upd H1 a u) fun b o e => by
          by_cases n : b = a
          · rw [n, hau] at e
            rw [n, upd_same, e]
          · rw [upd_ne n]
            exact s1 b o n e
        have lb : layB ks ds = true := b1
        rw [lb] at k
        exact k

/-! the least layer that leads from one style to another -/
def dsF (ds : List PyData) (n : Str) : PyData := ds.getD (at22 n) .none
theorem at22_lt : ∀ n ∈ names22, at22 n < 6 := by decide
def FlatD (d : PyData) : Prop := (∃ i, d = .int i) ∨ (∃ s, d = .str s) ∨ ∃ zs : List Str, d = .tuple (zs.map .str)
theorem strs_dpd {H : Hp} : ∀ {zs : List Str} {xs : List V}, DxAll K H xs (zs.map .str) → DpAll K H xs (zs.map .str)
  | [], _, h => by
    cases h
    exact .nil
  | z :: zs, _, h => by
    cases h with
    | cons a b =>
      cases a
      exact .cons (.str z) (strs_dpd b)
theorem FlatD.dp {H : Hp} {v : V} {d : PyData} (f : FlatD d) (h : Dx K H v d) : Dp K H v d := by
  rcases f with ⟨i, rfl⟩ | ⟨s, rfl⟩ | ⟨zs, rfl⟩
  · cases h
    exact .int i
  · cases h
    exact .str s
  · cases h with
    | tup h1 h2 => exact .tup h1 (strs_dpd h2)
/-- plain data, small -/
structure PlD (d : PyData) : Prop where
  fl : FlatD d
  sh : SeqAt.shaped d = true
  gd : SzX 2 1000 d
theorem PlD.self {d : PyData} (h : PlD d) : PyData.eqv d d = true := by
  have : (PyData.canLay0 d && decide (d.depth ≤ 64)) = true := h.sh
  exact SeqAt.eqv_refl d (Bool.and_eq_true_iff.mp this).1
theorem eqvA_strs : ∀ (l m : List Str), PyData.eqvAll (l.map .str) (m.map .str) = true → l = m
  | [], [], _ => rfl
  | [], _ :: _, h => by cases h
  | _ :: _, [], h => by cases h
  | x :: l, y :: m, h => by
    have h : ((x == y) && PyData.eqvAll (l.map .str) (m.map .str)) = true := h
    rw [Bool.and_eq_true, beq_iff_eq] at h
    rw [h.1, eqvA_strs l m h.2]
theorem flat_eqv {d e : PyData} (f : FlatD d) (g : FlatD e) (h : PyData.eqv d e = true) : d = e := by
  rcases f with ⟨i, rfl⟩ | ⟨s, rfl⟩ | ⟨zs, rfl⟩
  · rcases g with ⟨j, rfl⟩ | ⟨t, rfl⟩ | ⟨ws, rfl⟩
    · have h : (i == j) = true := by simpa [PyData.eqv] using h
      rw [beq_iff_eq.mp h]
    · exact absurd h (by simp [PyData.eqv])
    · exact absurd h (by simp [PyData.eqv])
  · rcases g with ⟨j, rfl⟩ | ⟨t, rfl⟩ | ⟨ws, rfl⟩
    · exact absurd h (by simp [PyData.eqv])
    · have h : (s == t) = true := h
      rw [beq_iff_eq.mp h]
    · exact absurd h (by simp [PyData.eqv])
  · rcases g with ⟨j, rfl⟩ | ⟨t, rfl⟩ | ⟨ws, rfl⟩
    · exact absurd h (by simp [PyData.eqv])
    · exact absurd h (by simp [PyData.eqv])
    · rw [eqvA_strs zs ws h]
theorem styd_pl {ds : List PyData} (h : StyD ds) : ∀ d ∈ ds, PlD d := by
  have z := h.szl
  have gd : ∀ d ∈ ds, SzX 2 1000 d := fun d hd => by
    obtain ⟨as, bs, e⟩ := List.append_of_mem hd
    rw [e] at z
    obtain ⟨A, B, C, _, b, _, l⟩ := SzL.at z
    exact b.mono (Nat.le_refl _) (by omega)
  have fs : ∀ d ∈ ds, FlatD d ∧ SeqAt.shaped d = true := by
    obtain ⟨w, s, b, rs, o, l, rfl, _, _, _, hr, ho, hl⟩ := h
    have R : ∀ rs ∈ ranks22, SeqAt.shaped (.tuple (rs.map .str)) = true := by decide +kernel
    have O : ∀ z ∈ (["ahead", "behind"] : List Str), SeqAt.shaped (.str z) = true := by decide +kernel
    have L : ∀ z ∈ (["fill", "rows"] : List Str), SeqAt.shaped (.str z) = true := by decide +kernel
    intro d hd
    simp only [List.mem_cons, List.not_mem_nil, or_false] at hd
    rcases hd with rfl | rfl | rfl | rfl | rfl | rfl
    · exact ⟨.inl ⟨_, rfl⟩, rfl⟩
    · exact ⟨.inl ⟨_, rfl⟩, rfl⟩
    · exact ⟨.inl ⟨_, rfl⟩, rfl⟩
    · exact ⟨.inr (.inr ⟨_, rfl⟩), R rs hr⟩
    · exact ⟨.inr (.inl ⟨_, rfl⟩), O o ho⟩
    · exact ⟨.inr (.inl ⟨_, rfl⟩), L l hl⟩
  exact fun d hd => ⟨(fs d hd).1, (fs d hd).2, gd d hd⟩
theorem StyD.len {ds : List PyData} (h : StyD ds) : ds.length = 6 := by
  obtain ⟨w, s, b, rs, o, l, rfl, _⟩ := h
  rfl
theorem styd_at {ds : List PyData} (h : StyD ds) {n : Str} (hn : n ∈ names22) : PlD (dsF ds n) := by
  refine styd_pl h _ ?_
  have l := at22_lt n hn
  have e := h.len
  unfold dsF
  rw [List.getD_eq_getElem?_getD, List.getElem?_eq_getElem (by omega)]
  exact List.getElem_mem _
theorem dx_at {H : Hp} {xs : List V} {ds : List PyData} (h : DxAll K H xs ds) (n : Str) : Dx K H (stV xs n) (dsF ds n) := DxAll.getD (at22 n) h
theorem same_hid {H H' : Hp} {b : Addr} (s : Same H H') (n : H b = none) : Same H (hid b H') := fun x o e => by
  have m : x ≠ b := fun z => by rw [z, n] at e; cases e
  rw [hid_ne m]
  exact s x o e
def difN (ds es : List PyData) : List Str := sorted22.filter fun n => !PyData.eqv (dsF es n) (dsF ds n)
def spBtw (K : PySem.W.Frag) : Sp := fun vs H Q _ => ∃ (a b : Addr) (xs ys : List V) (ds es : List PyData), vs = [.ref a, .ref b] ∧ SqT K H a xs ∧ SqT K H b ys ∧ xs.length = 6 ∧ ys.length = 6 ∧ DxAll K H xs ds ∧ DxAll K H ys es ∧ StyD ds ∧ StyD es ∧
  ∀ (p : Addr) (H' : Hp), H p = none → Same H H' → H' p = some (.dK (lay (stV ys) (difN ds es))) → Q (.ref p) H'
theorem c_p_layer_between (T : Txt K mg w) (c_p_named : Cal P w K mg base 1 "named" (spNamed K) []) : Cal P w K mg base 2 "layer_between" (spBtw K) [] := by
  refine calOf T.d_p_layer_between sc_p_layer_between (fun vs H Q E h => ?_) (fun f cdv A outer s H vs Q E hr h => ?_)
  · obtain ⟨a, b, xs, ys, ds, es, rfl, _⟩ := h
    rfl
  · obtain ⟨a, b, xs, ys, ds, es, rfl, ha, hb, lx, ly, dx, dy, sd, se, k⟩ := h
    have hu := u1 hr
    refine ⟨_,
      (pss_cons (ps_asg (pe_tup (pa_cons (pe_c c_p_named hr (by first | decide | omega) rfl (pa_cons (pv 0) pa_nil)) (pa_cons (pe_c c_p_named hr (by first | decide | omega) rfl (pa_cons (pv 1) pa_nil)) pa_nil))) (pg_tup rfl (pgs_cons (pg_name (i := 2) sc_p_layer_between.nd rfl (Or.inr rfl)) (pgs_cons (pg_name (i := 3) sc_p_layer_between.nd rfl (Or.inr rfl)) pgs_nil))))
        (pss_one (ps_ret (pe_lock (pe_dc (own := [("name", 4)]) (g := gName 4) rfl sc_p_layer_between.nd (pi_keys (pv 3)) (blkOk_by (N := ["one", "other", "old", "new", "name"]) (sc := defScope s_p_layer_between) (by decide +kernel)) (fun _ _ _ _ _ => pg_name (i := 4) sc_p_layer_between.nd rfl (Or.inl rfl)) (fun _ _ _ _ _ => (pts_one (pt_cmpR (show OpR _ (compareOp .NotEq) (rNeD K) from op_neD hr.units) (pe_dget hu (pv 3) (pv 4) (fun _ _ => rfl)) (pe_dget hu (pv 2) (pv 4) (fun _ _ => rfl)) (nomark _)))) (fun _ _ _ _ _ => (pv 4)) (fun _ _ _ _ _ => (pe_dget hu (pv 3) (pv 4) (fun _ _ => rfl))))))))
      , ?_⟩
    refine ⟨_, rfl, a, xs, rfl, ha, lx, fun p1 H1 n1 s1 q1 => ?_⟩
    refine ⟨_, rfl, b, ys, rfl, sameT s1 hb, ly, fun p2 H2 n2 s2 q2 => ?_⟩
    have q1 : H1 p1 = some (.dK (lay (stV xs) sorted22)) := q1
    have q2 : H2 p2 = some (.dK (lay (stV ys) sorted22)) := q2
    have n12 : p1 ≠ p2 := fun z => by rw [z, n2] at q1; cases q1
    have q1 := s2 _ _ q1
    refine ⟨by show 2 ≤ sizeLine; decide, fun pt hpt => ?_⟩
    refine ⟨pt, _, rfl, SqT.of upd_same, rfl, ?_⟩
    refine ⟨_, _, rfl, _, _, rfl, rfl, ?_⟩
    have s3 := (s1.trans s2).trans (same_new (o := HO.tup [V.ref p1, V.ref p2]) hpt)
    have q1 := upd_some (u := HO.tup [V.ref p1, V.ref p2]) q1 hpt
    have q2 := upd_some (u := HO.tup [V.ref p1, V.ref p2]) q2 hpt
    have p20 : H p2 = none := s1.free n2
    generalize upd H2 pt (HO.tup [V.ref p1, V.ref p2]) = H3 at s3 q1 q2 ⊢
    have dx3 := DxAll.same s3 dx
    have dy3 := DxAll.same s3 dy
    refine ⟨p2, _, q2, True.intro, fun od => ?_⟩
    refine ⟨_, rfl, p2, od, rfl, .inl ⟨lay (stV ys) sorted22, upd_same, fun D hD => ?_⟩⟩
    have nD : D ≠ p2 := fun z => by rw [z, upd_same] at hD; cases hD
    have hD0 : H3 D = none := by rw [upd_ne nD] at hD; exact hD
    have snd : sorted22.Nodup := by decide +kernel
    have s22 : ∀ n ∈ sorted22, n ∈ names22 := by decide
    refine dc_itv (walk_keys (d := p2) (o := od) (kvs := lay (stV ys) sorted22)) (fun i H' => H' D = some (.dK (lay (stV ys) ((sorted22.take i).filter fun n => !PyData.eqv (dsF es n) (dsF ds n)))) ∧ H' p2 = some (.frz od (.dK (lay (stV ys) sorted22))) ∧ ∀ b o, b ≠ p2 → H3 b = some o → H' b = some o)
      ⟨upd_same, by rw [upd_ne (Ne.symm nD), upd_same], fun b o n e => by rw [upd_ne (ne_of_none e hD0), upd_ne n]; exact e⟩ (fun i H' _ ⟨_, h, _⟩ => h) ?_ ?_
    · rintro i x H4 H5 hi ⟨d4, f4, s4⟩ ⟨rfl, kk, v, hx, rfl⟩
      unfold lay at hx
      rw [List.getElem?_map] at hx
      obtain ⟨n, hn, e1⟩ := Option.map_eq_some_iff.mp hx
      cases e1
      have mem : n ∈ sorted22 := List.mem_of_getElem? hn
      have m22 := s22 n mem
      have et : sorted22.take (i + 1) = sorted22.take i ++ [n] := by
        rw [List.take_add_one, hn]
        rfl
      have sd' : Same (hid p2 H3) H5 := fun b o e => by
        have m : b ≠ p2 := fun z => by rw [z] at e; exact absurd e (by unfold hid; rw [if_pos rfl]; exact fun z => nomatch z)
        rw [hid_ne m] at e
        exact s4 b o m e
      have sH : Same H (hid p2 H3) := same_hid s3 p20
      have vx : Dp K H5 (stV xs n) (dsF ds n) := (styd_at sd m22).fl.dp (Dx.same sd' (Dx.same sH (dx_at dx n)))
      have vy : Dp K H5 (stV ys n) (dsF es n) := (styd_at se m22).fl.dp (Dx.same sd' (Dx.same sH (dx_at dy n)))
      have g2 : DGet H5 p2 (kV (.inr n)) (some (stV ys n)) := .inl ⟨lay (stV ys) sorted22, .inr n, .inr ⟨od, f4⟩, rfl, (lay_val (stV ys) mem).symm⟩
      have g1 : DGet H5 p1 (kV (.inr n)) (some (stV xs n)) := .inl ⟨lay (stV xs) sorted22, .inr n, .inl (s4 _ _ n12 q1), rfl, (lay_val (stV xs) mem).symm⟩
      refine ⟨rfl, ?_⟩
      refine ⟨_, rfl, _, rfl, p2, _, rfl, g2, _, rfl, _, rfl, p1, _, rfl, g1, dsF es n, dsF ds n, vy, vx, (styd_at se m22).sh, (styd_at sd m22).sh, _, rfl, ?_⟩
      refine ite2 (fun h => ?_) (fun h => ?_)
      · refine ⟨_, rfl, _, rfl, _, rfl, p2, _, rfl, g2, _, .inr n, rfl, d4, ?_, ?_, ?_, fun b o m e => ?_⟩
        · unfold lay
          rw [List.length_map]
          have l1 := List.length_filter_le (fun n => !PyData.eqv (dsF es n) (dsF ds n)) (sorted22.take i)
          have l2 : (sorted22.take i).length ≤ 6 := (List.take_sublist _ _).length_le
          exact Nat.lt_of_le_of_lt (show _ ≤ 6 by omega) (by decide)
        · rw [upd_same, et, List.filter_append, List.filter_cons_of_pos (p := fun n => !PyData.eqv (dsF es n) (dsF ds n)) h, List.filter_nil, Vf.putK_new _ ?_]
          · unfold lay
            rw [List.map_append]
            rfl
          · rw [lay_keys]
            intro z
            obtain ⟨m, hm, e⟩ := List.mem_map.mp z
            have e : m = n := Sum.inr.inj e
            have hm := (List.mem_filter.mp hm).1
            rw [e] at hm
            have nd := snd.sublist (List.take_sublist (i + 1) sorted22)
            rw [et, List.nodup_append] at nd
            exact nd.2.2 n hm n (by simp) rfl
        · rw [upd_ne (Ne.symm nD)]
          exact f4
        · rw [upd_ne (ne_of_none e hD0)]
          exact s4 b o m e
      · refine ⟨?_, f4, s4⟩
        rw [et, List.filter_append, List.filter_cons_of_neg (p := fun n => !PyData.eqv (dsF es n) (dsF ds n)) h, List.filter_nil, List.append_nil]
        exact d4
    · rintro H4 ⟨d4, f4, s4⟩
      have e : sorted22.take (lay (stV ys) sorted22).length = sorted22 := by
        unfold lay
        rw [List.length_map, List.take_length]
      rw [e] at d4
      refine ⟨f4, ?_⟩
      have s5 : Same H3 (upd H4 p2 (.dK (lay (stV ys) sorted22))) := fun b o e => by
        by_cases n : b = p2
        · subst n
          rw [q2] at e
          rw [upd_same, e]
        · rw [upd_ne n]
          exact s4 b o n e
      refine k D _ (s3.free hD0) (s3.trans s5) ?_
      rw [upd_ne nD]
      exact d4

/-! what lies under hidden addresses -/
def NoTup (H : Hp) (b : Addr) : Prop := ∀ xs, H b ≠ some (.tup xs) ∧ ∀ o, H b ≠ some (.frz o (.tup xs))
theorem NoTup.of {H : Hp} {b : Addr} {o : HO} (h : H b = some o) (n : (∀ xs, o ≠ .tup xs) ∧ ∀ w xs, o ≠ .frz w (.tup xs)) : NoTup H b := fun xs =>
  ⟨fun e => n.1 xs (Option.some.inj (h.symm.trans e)), fun o' e => n.2 o' xs (Option.some.inj (h.symm.trans e))⟩
theorem notup_lst {H : Hp} {b : Addr} {xs : List V} (h : H b = some (.lst xs)) : NoTup H b := NoTup.of h ⟨(fun _ z => nomatch z), (fun _ _ z => nomatch z)⟩
theorem seq_hid {H : Hp} {b : Addr} (n : NoTup H b) {a : Addr} {xs : List V} (h : SqT K H a xs) : SqT K (hid b H) a xs := by
  rcases h with h | h
  · have ne : a ≠ b := fun e => by
      subst e
      rcases h with h | ⟨w, h⟩
      · exact (n xs).1 h
      · exact (n xs).2 w h
    refine .inl ?_
    unfold Rd at h ⊢
    rwa [hid_ne ne]
  · exact .inr h
theorem strs_dx1 {H H' : Hp} : ∀ {zs : List Str} {xs : List V}, DxAll K H xs (zs.map .str) → DxAll K H' xs (zs.map .str)
  | [], _, h => by
    cases h
    exact .nil
  | z :: zs, _, h => by
    cases h with
    | cons a b =>
      cases a
      exact .cons (.str z) (strs_dx1 b)
theorem flat_hid1 {H : Hp} {b : Addr} {v : V} {d : PyData} (n : NoTup H b) (f : FlatD d) (h : Dx K H v d) : Dx K (hid b H) v d := by
  rcases f with ⟨i, rfl⟩ | ⟨s, rfl⟩ | ⟨zs, rfl⟩
  · cases h
    exact .int i
  · cases h
    exact .str s
  · cases h with
    | tup h1 h2 => exact .tup (seq_hid n h1) (strs_dx1 h2)
theorem flats_hid1 {H : Hp} {b : Addr} (n : NoTup H b) : ∀ {ds : List PyData} {xs : List V}, DxAll K H xs ds → (∀ d ∈ ds, FlatD d) → DxAll K (hid b H) xs ds
  | [], _, h, _ => by
    cases h
    exact .nil
  | d :: ds, _, h, f => by
    cases h with
    | cons a r => exact .cons (flat_hid1 n (f d List.mem_cons_self) a) (flats_hid1 n r fun d hd => f d (List.mem_cons_of_mem _ hd))
theorem hid_none {b : Addr} {H : Hp} {x : Addr} {o : HO} (e : hid b H x = some o) : x ≠ b := fun z => by
  rw [z] at e
  exact absurd e (by unfold hid; rw [if_pos rfl]; exact fun z => nomatch z)
theorem hid_put {b : Addr} {H : Hp} (o : HO) : Same (hid b H) (hid b (upd H b o)) := fun x z e => by
  have n := hid_none e
  rw [hid_ne n] at e ⊢
  rw [upd_ne n]
  exact e
theorem hid_le {b : Addr} {H H' : Hp} (s : Same H H') : Same (hid b H) (hid b H') := hid_fr fun x o _ e => s x o e
/-! layers -/
structure LayQ (K : PySem.W.Frag) (H : Hp) (a : Addr) (xs : List V) (ds : List PyData) (ns : List Str) : Prop where
  at' : H a = some (.dK (lay (stV xs) ns))
  nd : ns.Nodup
  sub : ∀ n ∈ ns, n ∈ names22
  dx : DxAll K H xs ds
  sd : StyD ds
  len : xs.length = 6
theorem LayQ.mono {H H' : Hp} {a : Addr} {xs : List V} {ds : List PyData} {ns : List Str} (L : LayQ K H a xs ds ns) (s : Same H H') : LayQ K H' a xs ds ns := ⟨s _ _ L.at', L.nd, L.sub, DxAll.same s L.dx, L.sd, L.len⟩
theorem LayQ.l6 {H : Hp} {a : Addr} {xs : List V} {ds : List PyData} {ns : List Str} (L : LayQ K H a xs ds ns) : ns.length ≤ 6 := L.nd.length_le_of_subset (l₂ := names22) fun _ hx => L.sub _ hx
theorem lay_dx {H : Hp} {p : Addr} {val : Str → V} {ys : List Str} {dv : Str → PyData} (hp : H p = some (.dK (lay val ys))) (nd : ys.Nodup) (h : ∀ n ∈ ys, Dx K H (val n) (dv n)) : Dx K H (.ref p) (.dict (ys.map fun n => (.str n, dv n))) := by
  have all : ∀ l : List Str, (∀ n ∈ l, Dx K H (val n) (dv n)) → DxAll K H (l.map val) (l.map dv) := fun l => by
    induction l with
    | nil => exact fun _ => .nil
    | cons x r ih => exact fun hl => .cons (hl x List.mem_cons_self) (ih fun n hn => hl n (List.mem_cons_of_mem _ hn))
  have keys : ((lay val ys).map (·.1)).Nodup := by
    rw [lay_keys]
    exact List.Pairwise.map _ (fun a b n e => n (Sum.inr.inj e)) nd
  have := Dx.dic (K := K) (.inl hp) keys (ds := ys.map dv) (by unfold lay; rw [List.map_map]; exact all ys h)
  unfold lay at this
  rw [List.map_map, List.zip_map'] at this
  exact this
theorem sz_ents {dv : Str → PyData} {ys : List Str} (h : ∀ n ∈ ys, n ∈ names22 ∧ SzX 2 1000 (dv n)) (l : ys.length ≤ 6) : SzX 3 7000 (.dict (ys.map fun n => (.str n, dv n))) := by
  obtain ⟨a, b, c⟩ := SzX.dic (n := 2) (M := 1100) (l := ys.map fun n => (PyData.str n, dv n)) fun p hp => by
    obtain ⟨n, hn, rfl⟩ := List.mem_map.mp hp
    obtain ⟨m, g⟩ := h n hn
    obtain ⟨q1, q2⟩ := names_sz n m
    exact ⟨q1, g.tm, Nat.zero_le _, g.dp, by have := g.wz; show wtx (PyData.str n) + wtx (dv n) ≤ 1100; omega⟩
  rw [List.length_map] at c
  refine ⟨a, Nat.succ_le_succ b, ?_⟩
  show wtxKv _ + 4 ≤ 7000
  have : ys.length * (1100 + 4) ≤ 6 * 1104 := Nat.mul_le_mul_right _ l
  omega
theorem okx_of {n M : Nat} {d : PyData} (h : SzX n M d) (a : n ≤ 60) (b : M ≤ 16000000) : OkX d := ⟨h.tm, Nat.le_trans h.dp a, Nat.le_trans h.wz b⟩
def layQD (ds : List PyData) (ns : List Str) : PyData := .dict (ns.map fun n => (.str n, dsF ds n))
theorem LayQ.dD {H : Hp} {a : Addr} {xs : List V} {ds : List PyData} {ns : List Str} (L : LayQ K H a xs ds ns) : Dx K H (.ref a) (layQD ds ns) := lay_dx L.at' L.nd fun n _ => dx_at L.dx n
theorem LayQ.sz {H : Hp} {a : Addr} {xs : List V} {ds : List PyData} {ns : List Str} (L : LayQ K H a xs ds ns) : SzX 3 7000 (layQD ds ns) := sz_ents (fun n hn => ⟨L.sub n hn, (styd_at L.sd (L.sub n hn)).gd⟩) L.l6
theorem sz_six {dv : Str → PyData} (h : ∀ n ∈ names22, SzX 2 1000 (dv n)) : SzX 3 6100 (.tuple (names22.map dv)) := by
  have go : ∀ ns : List Str, (∀ n ∈ ns, SzX 2 1000 (dv n)) → SzL 2 (ns.length * 1002) (ns.map dv) := fun ns => by
    induction ns with
    | nil => exact fun _ => by show SzL 2 (0 * 1002) []; rw [Nat.zero_mul]; exact SzL.nil
    | cons n r ih =>
      intro h
      refine (SzL.cons (h n List.mem_cons_self) (ih fun m hm => h m (List.mem_cons_of_mem _ hm))).mono (Nat.le_refl _) ?_
      rw [List.length_cons, Nat.add_mul, Nat.one_mul]
      omega
  exact (SzX.tup (go names22 h)).mono (Nat.le_refl _) (by decide)
theorem sz_sty {ds : List PyData} (h : StyD ds) : SzX 3 6100 (.tuple ds) := by
  have e : names22.map (dsF ds) = ds := by
    obtain ⟨w, s, b, rs, o, l, rfl, _⟩ := h
    rfl
  rw [← e]
  exact sz_six fun n hn => (styd_at h hn).gd
theorem styd_six {ds : List PyData} (h : StyD ds) : names22.map (dsF ds) = ds := by
  obtain ⟨w, s, b, rs, o, l, rfl, _⟩ := h
  rfl
/-! three layers -/
def v2L (v1 v2 : Str → α) (n2 : List Str) : Str → α := fun m => if m ∈ n2 then v2 m else v1 m
def n2L (n1 n2 : List Str) : List Str := n1 ++ n2.filter fun m => decide (m ∉ n1)
theorem n2L_mem {n1 n2 : List Str} {m : Str} : m ∈ n2L n1 n2 ↔ m ∈ n1 ∨ m ∈ n2 := by
  unfold n2L
  rw [List.mem_append, List.mem_filter]
  constructor
  · rintro (h | h)
    · exact .inl h
    · exact .inr h.1
  · intro h
    by_cases c : m ∈ n1
    · exact .inl c
    · exact .inr ⟨h.resolve_left c, decide_eq_true c⟩
def ordN (ns : List Str) : List Str := sorted22.filter fun n => decide (n ∈ ns)
theorem sorted_pw22 : sorted22.Pairwise (fun x y => ltS y x = false) := by decide +kernel
theorem sorted_perm22 : sorted22.Perm names22 := by decide
theorem ord_perm {ns : List Str} (nd : ns.Nodup) (h : ∀ n ∈ ns, n ∈ names22) : (ordN ns).Perm ns := by
  refine (List.perm_ext_iff_of_nodup ((show sorted22.Nodup by decide).filter _) nd).mpr fun a => ?_
  rw [List.mem_filter]
  exact ⟨fun q => of_decide_eq_true q.2, fun q => ⟨sorted_perm22.mem_iff.mpr (h a q), decide_eq_true q⟩⟩
theorem ord_is {ys ns : List Str} (p : ys.Perm ns) (s : ys.Pairwise fun x y => ltS y x = false) (nd : ns.Nodup) (h : ∀ n ∈ ns, n ∈ names22) : ys = ordN ns :=
  sorted_is (p.trans (ord_perm nd h).symm) s (sorted_pw22.sublist List.filter_sublist)
theorem ord_congr {ns ms : List Str} (h : ∀ n, n ∈ ns ↔ n ∈ ms) : ordN ns = ordN ms := List.filter_congr fun n _ => decide_eq_decide.mpr (h n)
theorem ordN_names {ns : List Str} {n : Str} (h : n ∈ ordN ns) : n ∈ names22 := sorted_perm22.mem_iff.mp (List.mem_filter.mp h).1
theorem ordN_mem {ns : List Str} {n : Str} (h : n ∈ ordN ns) : n ∈ ns := of_decide_eq_true (List.mem_filter.mp h).2
theorem ordN_nd (ns : List Str) : (ordN ns).Nodup := (show sorted22.Nodup by decide).filter _
theorem ordN_len (ns : List Str) : (ordN ns).length ≤ 6 := List.length_filter_le _ _
/-- layers laid one by one, and at once -/
theorem stV_map (f : Str → V) {n : Str} (h : n ∈ names22) : stV (names22.map f) n = f n := by
  have go : ∀ n ∈ names22, names22[at22 n]? = some n := at22_ok
  unfold stV
  rw [List.getD_eq_getElem?_getD, List.getElem?_map, go n h]
  rfl
theorem stV_laid {xs : List V} {v : Str → V} {ns : List Str} {n : Str} (h : n ∈ names22) : stV (laidL xs v ns) n = if n ∈ ns then v n else stV xs n := stV_map _ h
theorem laid_congr {xs xs' : List V} {v v' : Str → V} {ns ns' : List Str} (h : ∀ n ∈ names22, (if n ∈ ns then v n else stV xs n) = if n ∈ ns' then v' n else stV xs' n) : laidL xs v ns = laidL xs' v' ns' := List.map_congr_left h
theorem laid_three (xs : List V) (v0 v1 v2 : Str → V) (n0 n1 n2 ys : List Str) (h : ∀ n ∈ names22, n ∈ ys ↔ (n ∈ n0 ∨ n ∈ n1) ∨ n ∈ n2) :
    laidL (laidL (laidL xs v0 n0) v1 n1) v2 n2 = laidL xs (v2L (v2L v0 v1 n1) v2 n2) ys := by
  refine laid_congr fun n hn => ?_
  rw [stV_laid hn, stV_laid hn]
  unfold v2L
  by_cases a : n ∈ n2
  · rw [if_pos a, if_pos ((h n hn).mpr (.inr a)), if_pos a]
  · rw [if_neg a, if_neg a]
    by_cases b : n ∈ n1
    · rw [if_pos b, if_pos ((h n hn).mpr (.inl (.inr b))), if_pos b]
    · rw [if_neg b, if_neg b]
      by_cases c : n ∈ n0
      · rw [if_pos c, if_pos ((h n hn).mpr (.inl (.inl c)))]
      · rw [if_neg c, if_neg fun z => ((h n hn).mp z).elim (fun z => z.elim c b) a]
/-- data of what is laid -/
theorem laid_dxf {H : Hp} {xs : List V} {ds : List PyData} {v : Str → V} {dv : Str → PyData} {ns : List Str} (h : DxAll K H xs ds) (hv : ∀ n ∈ ns, n ∈ names22 → Dx K H (v n) (dv n)) :
    DxAll K H (laidL xs v ns) (names22.map fun n => if n ∈ ns then dv n else dsF ds n) := by
  have go : ∀ ms : List Str, (∀ n ∈ ms, n ∈ names22) → DxAll K H (ms.map fun n => if n ∈ ns then v n else stV xs n) (ms.map fun n => if n ∈ ns then dv n else dsF ds n) := fun ms => by
    induction ms with
    | nil => exact fun _ => .nil
    | cons n r ih =>
      intro hn
      refine .cons ?_ (ih fun m hm => hn m (List.mem_cons_of_mem _ hm))
      show Dx K H (if n ∈ ns then v n else stV xs n) (if n ∈ ns then dv n else dsF ds n)
      by_cases c : n ∈ ns
      · rw [if_pos c, if_pos c]
        exact hv n c (hn n List.mem_cons_self)
      · rw [if_neg c, if_neg c]
        exact dx_at h n
  exact go names22 fun n hn => hn
theorem lay_new (val : Str → V) {ys : List Str} (nd : ys.Nodup) : mergeK [] (lay val ys) = lay val ys := by
  have keys : ((lay val ys).map (·.1)).Nodup := by
    rw [lay_keys]
    exact List.Pairwise.map _ (fun a b n e => n (Sum.inr.inj e)) nd
  have := merge_new (more := lay val ys) (kvs := []) (by rw [List.nil_append]; exact keys)
  rw [List.nil_append] at this
  exact this
theorem n2L_nd {n1 n2 : List Str} (h1 : n1.Nodup) (h2 : n2.Nodup) : (n2L n1 n2).Nodup := over_nd h1 h2
theorem lay_two (v1 v2 : Str → V) {n1 n2 : List Str} (h : n2.Nodup) : mergeK (lay v1 n1) (lay v2 n2) = lay (v2L v1 v2 n2) (n2L n1 n2) := lay_merge v2 n2 v1 n1 h
theorem eqv_comm {d e : PyData} (f : FlatD d) (g : FlatD e) (h : PlD d) (k : PlD e) : PyData.eqv d e = PyData.eqv e d := by
  rw [Bool.eq_iff_iff]
  constructor
  · intro q
    have e := flat_eqv f g q
    subst e
    exact q
  · intro q
    have e := flat_eqv g f q
    subst e
    exact q

/-! odd dicts -/
def rDctN (K : PySem.W.Frag) (P : Program) (w : World) : List V → Hp → VK → Prop := fun zs G R => ∃ (l : Addr) (ts : List Addr) (es : List (Option Key × V)), zs = [.ref l] ∧ SqL K G l (ts.map V.ref) ∧ Paired (fun t e => SqT K G t [okV e.1, e.2]) ts es ∧
  ∀ d, G d = none → R (.ref d) (upd G d (noO P w d (mergeN [] es)))
/-- what is asked of a thing that may be a layer -/
structure OddX (P : Program) (w : World) (K : PySem.W.Frag) (G : Hp) (o : Addr) : Prop where
  ex : ∃ (ks : List (Option Key × V)) (ds : List PyData), NoU P w G o ks ∧ (ks.map (·.1)).Nodup ∧ ks.length ≤ 100 ∧ DxAll K (hid o G) (ks.map (·.2)) ds ∧ OkX (noD ks ds) ∧ ∀ e ∈ ks.zip ds, RkOk e
theorem OddX.mono {G G' : Hp} {o : Addr} (h : OddX P w K G o) (s : Same G G') : OddX P w K G' o := by
  obtain ⟨ks, ds, h1, h2, h3, h4, h5, h6⟩ := h.ex
  exact ⟨ks, ds, h1.same s, h2, h3, DxAll.same (hid_le s) h4, h5, h6⟩
theorem mem_putK {kvs : List (Option Key × V)} {k : Option Key} {v : V} {e : Option Key × V} (h : e ∈ putK kvs k v) : e ∈ kvs ∨ e = (k, v) := by
  unfold putK at h
  split at h
  · obtain ⟨x, hx, rfl⟩ := List.mem_map.mp h
    by_cases c : x.1 = k
    · rw [if_pos c]
      exact .inr (by rw [← c])
    · rw [if_neg c]
      exact .inl hx
  · rcases List.mem_append.mp h with h | h
    · exact .inl h
    · exact .inr (List.mem_singleton.mp h)
theorem putK_nd {kvs : List (Option Key × V)} {k : Option Key} {v : V} (h : (kvs.map (·.1)).Nodup) : ((putK kvs k v).map (·.1)).Nodup := by
  unfold putK
  split
  · have e : (kvs.map fun kv => if kv.1 = k then (kv.1, v) else kv).map (·.1) = kvs.map (·.1) := by
      rw [List.map_map]
      refine List.map_congr_left fun x _ => ?_
      show (if x.1 = k then (x.1, v) else x).1 = x.1
      split <;> rfl
    rw [e]
    exact h
  · rename_i c
    rw [List.map_append, List.nodup_append]
    refine ⟨h, by simp, fun x hx y hy e => ?_⟩
    have hy : y = k := by simpa using hy
    obtain ⟨z, hz, e2⟩ := List.mem_map.mp hx
    refine c (List.any_eq_true.mpr ⟨z, hz, decide_eq_true ?_⟩)
    rw [e2, e, hy]
theorem all_dx {G : Hp} {Pr : (Option Key × V) → PyData → Prop} : ∀ {ks : List (Option Key × V)}, (∀ e ∈ ks, ∃ d, Dx K G e.2 d ∧ Pr e d) → ∃ ds, DxAll K G (ks.map (·.2)) ds ∧ ks.length = ds.length ∧ ∀ p ∈ ks.zip ds, Pr p.1 p.2
  | [], _ => ⟨[], .nil, rfl, fun p hp => absurd hp (by simp)⟩
  | e :: r, h => by
    obtain ⟨d, h1, h2⟩ := h e List.mem_cons_self
    obtain ⟨ds, g1, g2, g3⟩ := all_dx (ks := r) fun x hx => h x (List.mem_cons_of_mem _ hx)
    refine ⟨d :: ds, .cons h1 g1, by rw [List.length_cons, List.length_cons, g2], fun p hp => ?_⟩
    rcases List.mem_cons.mp (show p ∈ (e, d) :: r.zip ds from hp) with rfl | hp
    · exact h2
    · exact g3 p hp
def okey (k : Option Key) : Prop := k ∈ ([some (.inr "width"), some (.inr "rank"), some (.inr "lists"), some (.inr "gap"), some (.inl 1), none] : List (Option Key))
theorem okey_sz : ∀ k, (okey k ∨ ∃ n ∈ names22, k = some (.inr n)) → tmx (okD k) = true ∧ (okD k).depth ≤ 4 ∧ wtx (okD k) ≤ 100 := by
  have a : ∀ k ∈ ([some (.inr "width"), some (.inr "rank"), some (.inr "lists"), some (.inr "gap"), some (.inl 1), none] : List (Option Key)), tmx (okD k) = true ∧ (okD k).depth ≤ 4 ∧ wtx (okD k) ≤ 100 := by decide +kernel
  have b : ∀ n ∈ names22, tmx (okD (some (.inr n))) = true ∧ (okD (some (.inr n))).depth ≤ 4 ∧ wtx (okD (some (.inr n))) ≤ 100 := by decide +kernel
  rintro k (h | ⟨n, hn, rfl⟩)
  · exact a k h
  · exact b n hn
theorem noD_ok {ks : List (Option Key × V)} {ds : List PyData} (l : ks.length ≤ 20) (hk : ∀ e ∈ ks, okey e.1 ∨ ∃ n ∈ names22, e.1 = some (.inr n)) (hd : ∀ e ∈ ks.zip ds, SzX 4 1000 e.2) : OkX (noD ks ds) := by
  have e : (ks.map fun q => okD q.1).zip ds = (ks.zip ds).map fun p => (okD p.1.1, p.2) := by
    rw [List.zip_map_left]
    rfl
  unfold noD
  rw [e]
  obtain ⟨a, b, c⟩ := SzX.dic (n := 4) (M := 1100) (l := (ks.zip ds).map fun p => (okD p.1.1, p.2)) fun p hp => by
    obtain ⟨q, hq, rfl⟩ := List.mem_map.mp hp
    have mk : q.1 ∈ ks := (List.of_mem_zip hq).1
    obtain ⟨k1, k2, k3⟩ := okey_sz q.1.1 (hk q.1 mk)
    have g := hd q hq
    exact ⟨k1, g.tm, k2, g.dp, by have := g.wz; show wtx (okD q.1.1) + wtx q.2 ≤ 1100; omega⟩
  rw [List.length_map, List.length_zip] at c
  refine ⟨a, Nat.succ_le_succ (Nat.le_trans b (by decide)), ?_⟩
  show wtxKv _ + 4 ≤ 16000000
  have : min ks.length ds.length * (1100 + 4) ≤ 20 * 1104 := Nat.mul_le_mul_right _ (Nat.le_trans (Nat.min_le_left _ _) l)
  omega
theorem FlatD.flatT {d : PyData} (h : FlatD d) : flatT d = true := by
  rcases h with ⟨i, rfl⟩ | ⟨s, rfl⟩ | ⟨zs, rfl⟩
  · rfl
  · rfl
  · show (zs.map PyData.str).all atomD = true
    rw [List.all_map]
    exact List.all_eq_true.mpr fun x _ => rfl
/-- the items of a layer, as an odd dict has them -/
def itN (xs : List V) (ns : List Str) : List (Option Key × V) := ns.map fun n => (some (.inr n), stV xs n)
theorem itN_lift (xs : List V) (ns : List Str) : itN xs ns = liftK (lay (stV xs) ns) := by
  unfold itN liftK lay
  rw [List.map_map]
  rfl
theorem itN_nd {xs : List V} {ns : List Str} (h : ns.Nodup) : ((itN xs ns).map (·.1)).Nodup := by
  unfold itN
  rw [List.map_map]
  exact List.Pairwise.map _ (fun a b n e => n (Sum.inr.inj (Option.some.inj e))) h
theorem putK_newN {kvs : List (Option Key × V)} {k : Option Key} {v : V} (h : k ∉ kvs.map (·.1)) : putK kvs k v = kvs ++ [(k, v)] := by
  unfold putK
  rw [if_neg]
  intro z
  obtain ⟨x, hx, e⟩ := List.any_eq_true.mp z
  exact h (List.mem_map.mpr ⟨x, hx, of_decide_eq_true e⟩)
theorem mergeN_new : ∀ {more acc : List (Option Key × V)}, ((acc ++ more).map (·.1)).Nodup → mergeN acc more = acc ++ more
  | [], acc, _ => (List.append_nil acc).symm
  | p :: r, acc, h => by
    show mergeN (putK acc p.1 p.2) r = _
    have ne : p.1 ∉ acc.map (·.1) := fun z => by
      rw [List.map_append, List.nodup_append] at h
      exact h.2.2 _ z _ (List.mem_map_of_mem (List.mem_cons_self (a := p) (l := r))) rfl
    have e : acc ++ p :: r = (acc ++ [p]) ++ r := by rw [List.append_assoc]; rfl
    rw [putK_newN ne]
    rw [e] at h ⊢
    exact mergeN_new h
theorem mergeN_it {xs : List V} {ns : List Str} (h : ns.Nodup) (k : Option Key) (v : V) : mergeN [] (itN xs ns ++ [(k, v)]) = putK (itN xs ns) k v := by
  have e : mergeN [] (itN xs ns ++ [(k, v)]) = putK (mergeN [] (itN xs ns)) k v := by
    unfold mergeN
    rw [List.foldl_append]
    rfl
  rw [e, mergeN_new (acc := []) (by rw [List.nil_append]; exact itN_nd h), List.nil_append]
theorem putK_lenN (kvs : List (Option Key × V)) (k : Option Key) (v : V) : (putK kvs k v).length ≤ kvs.length + 1 := length_putK kvs k v
/-- an odd dict is one that may be asked -/
theorem odd_made {G : Hp} {o : Addr} {xs : List V} {ds : List PyData} {ns : List Str} {k : Option Key} {v : V} {d : PyData} (nd : ns.Nodup) (sub : ∀ n ∈ ns, n ∈ names22) (dx : DxAll K (hid o G) xs ds) (sd : StyD ds) (hk : okey k) (hv : Dx K (hid o G) v d) (zv : SzX 4 400 d) (fv : flatT d = true)
    (at' : G o = some (noO P w o (putK (itN xs ns) k v))) : OddX P w K G o := by
  have l6 : ns.length ≤ 6 := nd.length_le_of_subset (l₂ := names22) fun _ hx => sub _ hx
  have len : (putK (itN xs ns) k v).length ≤ 7 := by
    have := putK_lenN (itN xs ns) k v
    have e : (itN xs ns).length = ns.length := by unfold itN; rw [List.length_map]
    omega
  have ent : ∀ e ∈ putK (itN xs ns) k v, ∃ d', Dx K (hid o G) e.2 d' ∧ (SzX 4 1000 d' ∧ RkOk (e, d')) := fun e he => by
    rcases mem_putK he with he | rfl
    · obtain ⟨n, hn, rfl⟩ := List.mem_map.mp he
      have pl := styd_at sd (sub n hn)
      exact ⟨_, dx_at dx n, pl.gd.mono (by decide) (Nat.le_refl _), fun _ => ⟨pl.fl.flatT, pl.gd.tm, Nat.le_trans pl.gd.wz (by decide)⟩⟩
    · exact ⟨d, hv, zv.mono (Nat.le_refl _) (by decide), fun _ => ⟨fv, zv.tm, Nat.le_trans zv.wz (by decide)⟩⟩
  obtain ⟨es, h1, h2, h3⟩ := all_dx ent
  refine ⟨_, es, .inl at', putK_nd (itN_nd nd), by omega, h1, noD_ok (by omega) (fun e he => ?_) (fun e he => (h3 e he).1), fun e he => (h3 e he).2⟩
  rcases mem_putK he with he | rfl
  · obtain ⟨n, hn, rfl⟩ := List.mem_map.mp he
    exact .inr ⟨n, sub n hn, rfl⟩
  · exact .inl hk
/-- so is a layer -/
theorem LayQ.odd {G : Hp} {o : Addr} {xs : List V} {ds : List PyData} {ns : List Str} (L : LayQ K G o xs ds ns) : OddX P w K G o := by
  have nt : NoTup G o := NoTup.of L.at' ⟨(fun _ z => nomatch z), (fun _ _ z => nomatch z)⟩
  have dx := flats_hid1 nt L.dx fun d hd => (styd_pl L.sd d hd).fl
  have ent : ∀ e ∈ itN xs ns, ∃ d', Dx K (hid o G) e.2 d' ∧ (SzX 4 1000 d' ∧ RkOk (e, d')) := fun e he => by
    obtain ⟨n, hn, rfl⟩ := List.mem_map.mp he
    have pl := styd_at L.sd (L.sub n hn)
    exact ⟨_, dx_at dx n, pl.gd.mono (by decide) (Nat.le_refl _), fun _ => ⟨pl.fl.flatT, pl.gd.tm, Nat.le_trans pl.gd.wz (by decide)⟩⟩
  obtain ⟨es, h1, h2, h3⟩ := all_dx ent
  have l6 := L.l6
  have e : (itN xs ns).length = ns.length := by unfold itN; rw [List.length_map]
  refine ⟨itN xs ns, es, .inr ⟨_, L.at', itN_lift xs ns⟩, itN_nd L.nd, by omega, h1, noD_ok (by omega) (fun e he => ?_) (fun e he => (h3 e he).1), fun e he => (h3 e he).2⟩
  obtain ⟨n, hn, rfl⟩ := List.mem_map.mp he
  exact .inr ⟨n, L.sub n hn, rfl⟩
/-- what is told of each thing -/
def ThX (P : Program) (w : World) (K : PySem.W.Frag) (G : Hp) (x : V) : Prop := (∃ d, Dx K G x d ∧ OkX d ∧ notDic d = true) ∨ ∃ o, x = .ref o ∧ OddX P w K G o
theorem ThX.mono {G G' : Hp} {x : V} (h : ThX P w K G x) (s : Same G G') : ThX P w K G' x := by
  rcases h with ⟨d, h1, h2, h3⟩ | ⟨o, e, h⟩
  · exact .inl ⟨d, Dx.same s h1, h2, h3⟩
  · exact .inr ⟨o, e, h.mono s⟩

/-- three drawn layers -/
structure Three (K : PySem.W.Frag) (H : Hp) (ps : List Addr) : Prop where
  all : ∀ p ∈ ps, ∃ xs ds ns, LayQ K H p xs ds ns
theorem Three.mono {H H' : Hp} {ps : List Addr} (T : Three K H ps) (s : Same H H') : Three K H' ps := ⟨fun p hp => let ⟨xs, ds, ns, L⟩ := T.all p hp; ⟨xs, ds, ns, L.mono s⟩⟩
def kfH (H : Hp) (t : Addr) : Str := match H t with
  | some (.tup [.str p, _]) => p
  | _ => ""
theorem kfH_of {H : Hp} {t : Addr} {p : Str} {v : V} (h : H t = some (.tup [.str p, v])) : kfH H t = p := by
  unfold kfH
  rw [h]
theorem prd_kf {H : Hp} {f : Str → V} {ts : List Addr} {ns : List Str} (h : Paired (fun t n => H t = some (.tup [.str n, f n])) ts ns) : ts.map (kfH H) = ns ∧ ∀ t ∈ ts, H t = some (.tup [.str (kfH H t), f (kfH H t)]) := by
  induction h with
  | nil => exact ⟨rfl, fun t ht => absurd ht (by simp)⟩
  | cons a _ ih =>
    have e := kfH_of a
    refine ⟨by rw [List.map_cons, e, ih.1], fun t ht => ?_⟩
    rcases List.mem_cons.mp ht with rfl | ht
    · rw [e]
      exact a
    · exact ih.2 t ht
theorem nd_inj {α β : Type} {f : α → β} : ∀ {l : List α}, (l.map f).Nodup → ∀ x ∈ l, ∀ y ∈ l, f x = f y → x = y
  | [], _, x, hx, _, _, _ => absurd hx (by simp)
  | a :: l, h, x, hx, y, hy, e => by
    obtain ⟨h1, h2⟩ := List.nodup_cons.mp h
    rcases List.mem_cons.mp hx with q1 | q1
    · rcases List.mem_cons.mp hy with q2 | q2
      · exact q1.trans q2.symm
      · exact (h1 (List.mem_map.mpr ⟨y, q2, by rw [← e, q1]⟩)).elim
    · rcases List.mem_cons.mp hy with q2 | q2
      · exact (h1 (List.mem_map.mpr ⟨x, q1, by rw [e, q2]⟩)).elim
      · exact nd_inj h2 x q1 y q2 e
theorem at_ix {xs : List V} {i : Nat} {n : Str} {x : V} (hn : names22[i]? = some n) (hx : xs[i]? = some x) : stV xs n = x := by
  have hi : i < 6 := (List.getElem?_eq_some_iff.mp hn).1
  have := at22_ix i hi
  rw [List.getD_eq_getElem?_getD, hn] at this
  have this : at22 n = i := this
  unfold stV
  rw [this, List.getD_eq_getElem?_getD, hx]
  rfl
def difQ (ds es : List PyData) (n : Str) : Bool := !PyData.eqv (dsF ds n) (dsF es n)
theorem dif_is {ds es : List PyData} (sd : StyD ds) (se : StyD es) : difN ds es = sorted22.filter (difQ ds es) := List.filter_congr fun n hn => by
  have h22 := sorted_perm22.mem_iff.mp hn
  show (!PyData.eqv (dsF es n) (dsF ds n)) = (!PyData.eqv (dsF ds n) (dsF es n))
  rw [eqv_comm (styd_at se h22).fl (styd_at sd h22).fl (styd_at se h22) (styd_at sd h22)]
theorem prd_mapR {α β γ : Type} {R : α → β → Prop} {R' : α → γ → Prop} {f : β → γ} {xs : List α} {ys : List β} (p : Paired R xs ys) : (∀ x y, R x y → R' x (f y)) → Paired R' xs (ys.map f) := by
  induction p with
  | nil => exact fun _ => .nil
  | cons a _ ih => exact fun h => .cons (h _ _ a) (ih h)
theorem prd_app {α β : Type} {R : α → β → Prop} : ∀ {xs xs' : List α} {ys ys' : List β}, Paired R xs ys → Paired R xs' ys' → Paired R (xs ++ xs') (ys ++ ys')
  | _, _, _, _, .nil, q => q
  | _, _, _, _, .cons a b, q => .cons a (prd_app b q)
theorem drawn_none {g : Bg} {H H' : Hp} {c e : Int} {x : Addr} (D : Vf.Drawn g H H' c e) (n : x ≠ g.b) (h : H' x = none) : H x = none := by
  cases q : H x with
  | none => rfl
  | some o =>
    have := D.fr _ _ n q
    rw [h] at this
    cases this
theorem hid2_put {R b : Addr} {H : Hp} (o : HO) : Same (hid R (hid b H)) (hid R (hid b (upd H R o))) := fun x z e => by
  have n := hid_none e
  rw [hid_ne n] at e ⊢
  have m := hid_none e
  rw [hid_ne m] at e ⊢
  rw [upd_ne n]
  exact e
theorem its_dx {H : Hp} {xs : List V} {ds : List PyData} (dx : DxAll K H xs ds) : ∀ {tl : List Addr} {ns : List Str}, Paired (fun t (q : Key × V) => H t = some (.tup [kV q.1, q.2])) tl (lay (stV xs) ns) → DxAll K H (tl.map V.ref) (ns.map fun n => .tuple [.str n, dsF ds n])
  | _, [], h => by
    cases h
    exact .nil
  | _, n :: ns, h => by
    cases h with
    | cons a r => exact .cons (.tup (SqT.of a) (.cons (.str n) (.cons (dx_at dx n) .nil))) (its_dx dx r)
theorem its_sz {ds : List PyData} (sd : StyD ds) : ∀ {ns : List Str}, (∀ n ∈ ns, n ∈ names22) → SzL 3 (ns.length * 1200) (ns.map fun n => .tuple [.str n, dsF ds n])
  | [], _ => by
    show SzL 3 (0 * 1200) []
    rw [Nat.zero_mul]
    exact SzL.nil
  | n :: ns, h => by
    obtain ⟨q1, q2⟩ := names_sz n (h n List.mem_cons_self)
    have g := (styd_at sd (h n List.mem_cons_self)).gd
    have t : SzX 3 1150 (.tuple [.str n, dsF ds n]) := (SzX.tup (SzL.cons (n := 2) (M := 100) ⟨q1, Nat.zero_le _, q2⟩ (SzL.cons g (SzL.nil (M := 0))))).mono (Nat.le_refl _) (by decide)
    refine (SzL.cons t (its_sz sd fun m hm => h m (List.mem_cons_of_mem _ hm))).mono (Nat.le_refl _) ?_
    rw [List.length_cons, Nat.add_mul, Nat.one_mul]
    omega
theorem nwi_hid {H0 H : Hp} {b : Addr} (hb : H0 b ≠ none) : Same (nwi H0 H) (hid b H) := fun x o e => by
  obtain ⟨h1, h2⟩ := nwi_some e
  have n : x ≠ b := fun z => by rw [z] at h1; exact hb h1
  rw [hid_ne n]
  exact h2
def spLaw23 (K : PySem.W.Frag) : Sp := fun vs H Q _ => ∃ (a : Addr) (ns : List Int), vs = [.ref a] ∧ SqL K H a (ns.map V.int) ∧ ns.length ≤ 63 ∧ ∀ H', Q (.bl true) H'
theorem fn_law23 (T : Txt K mg w) (sb : ∃ o, base.get? sysModules = some o ∧ o.cls = .type "dict") {f : Addr} {fd : FuncData} (F : Fun K "law" "law" s_p_law f fd)
    (c_l_bag : Cal P w K mg base 1 "_law_bag" (spBag K) []) (c_l_one : Cal P w K mg base 2 "_law_one" (spOne K) []) (c_l_mixed : Cal P w K mg base 2 "_law_mixed" (spMixed K) []) (c_l_alike : CalG P w K mg base 1 "_law_alike" (spAlikeV K)) (c_l_style : Cal P w K mg base 3 "_law_style" (spStyl K) [])
    (c_l_layer : Cal P w K mg base 4 "_law_layer" (spLayer K) []) (c_l_laid : Cal P w K mg base 2 "_law_laid" (spLaid K) []) (c_l_style_words : Cal P w K mg base 1 "_law_style_words" spWds []) (c_l_odd_values : Cal P w K mg base 1 "_law_odd_values" (spOddV K) [])
    (c_p_laid : Cal P w K mg base 3 "laid" (spLaid K) []) (c_p_over : Cal P w K mg base 2 "over" spOver []) (c_p_layer_between : Cal P w K mg base 2 "layer_between" (spBtw K) []) (c_p_is_layer : Cal P w K mg base 3 "is_layer" (spIsL P w K) []) (c_l_is_layer : Cal P w K mg base 3 "_law_is_layer" (spIsL P w K) []) :
    FnG P w K mg base 8 f fd ["_law_script"] (spLaw23 K) := by
  refine fnG_of F sc_p_law (fun vs H Q E h => ?_) (fun cdv A outer s H vs Q E hr gd h => ?_)
  · obtain ⟨a, ns, rfl, _⟩ := h
    rfl
  · obtain ⟨a, ns, rfl, hq, hl, k⟩ := h
    have hu := u1 hr
    refine ⟨_,
      (pss_cons (ps_set (i := 1) sc_p_law.nd rfl (Or.inr rfl) (pe_c c_l_bag hr (by first | decide | omega) rfl (pa_cons (pv 0) pa_nil)))
        (pss_cons (ps_for PassesOwn.never rfl (pi_range1 (by rfl) T.n_range (pa_cons pe_int pa_nil)) (pg_name (i := 2) sc_p_law.nd rfl (Or.inl rfl))
        (pss_cons (ps_asg (pe_tup (pa_cons (pe_c c_l_style hr (by first | decide | omega) rfl (pa_cons (pv 1) pa_nil)) (pa_cons (pe_c c_l_style hr (by first | decide | omega) rfl (pa_cons (pv 1) pa_nil)) (pa_cons (pe_lc (own := [("_law_k", 17)]) (g := gName 17) (tt := tYes) rfl sc_p_law.nd (pi_range1 (by rfl) T.n_range (pa_cons pe_int pa_nil)) (blkOk_by (N := ["_law_script", "_law_bag_here", "_law_turn", "_law_style_here", "_law_other", "_law_layers", "_law_said", "_law_due", "_law_both", "_law_layer_here", "_law_told", "_law_less", "_law_least", "_law_odd", "_law_thing", "_law_kept", "_law_value", "_law_k", "_law_word", "_law_old", "_law_new", "_law_key"]) (sc := defScope s_p_law) (by decide +kernel)) (fun _ _ _ _ _ => pg_name (i := 17) sc_p_law.nd rfl (Or.inl rfl)) (fun _ _ _ _ _ => pts_nil) (fun _ _ _ _ _ => (pe_c c_l_layer hr (by first | decide | omega) rfl (pa_cons (pv 1) pa_nil)))) pa_nil)))) (pg_tup rfl (pgs_cons (pg_name (i := 3) sc_p_law.nd rfl (Or.inl rfl)) (pgs_cons (pg_name (i := 4) sc_p_law.nd rfl (Or.inl rfl)) (pgs_cons (pg_name (i := 5) sc_p_law.nd rfl (Or.inr rfl)) pgs_nil)))))
        (pss_cons (ps_set (i := 6) sc_p_law.nd rfl (Or.inl rfl) (pe_callB (call_reprN (u65 hr) gd sb) (by rfl) T.n_repr (by decide +kernel) (pa_cons (pe_lst (pa_cons (pv 3) (pa_cons (pv 4) (pa_cons (pv 5) pa_nil)))) pa_nil)))
        (pss_cons (ps_asg (pe_tup (pa_cons (pe_c c_l_laid hr (by first | decide | omega) rfl (pa_cons (pe_c c_l_laid hr (by first | decide | omega) rfl (pa_cons (pe_c c_l_laid hr (by first | decide | omega) rfl (pa_cons (pv 3) (pa_cons (pe_ix ix_list (pv 5) pe_int (fun _ _ => rfl)) pa_nil))) (pa_cons (pe_ix ix_list (pv 5) pe_int (fun _ _ => rfl)) pa_nil))) (pa_cons (pe_ix ix_list (pv 5) pe_int (fun _ _ => rfl)) pa_nil))) (pa_cons pe_dnewK pa_nil))) (pg_tup rfl (pgs_cons (pg_name (i := 7) sc_p_law.nd rfl (Or.inl rfl)) (pgs_cons (pg_name (i := 8) sc_p_law.nd rfl (Or.inr rfl)) pgs_nil))))
        (pss_cons (ps_for PassesOwn.never rfl (pi_list (pv 5)) (pg_name (i := 9) sc_p_law.nd rfl (Or.inl rfl))
        (pss_one (ps_expr (pe_bm PySem.F.plainAttrs_dict PySem.F.slot_dict_update PySem.F.type_dict_update mt_updV (pv 8) (pa_cons (pv 9) pa_nil)))))
        (pss_cons (ps_set (i := 10) sc_p_law.nd rfl (Or.inl rfl) (pe_c c_p_over hr (by first | decide | omega) rfl (pa_cons (pe_c c_p_over hr (by first | decide | omega) rfl (pa_cons (pe_ix ix_list (pv 5) pe_int (fun _ _ => rfl)) (pa_cons (pe_ix ix_list (pv 5) pe_int (fun _ _ => rfl)) pa_nil))) (pa_cons (pe_ix ix_list (pv 5) pe_int (fun _ _ => rfl)) pa_nil))))
        (pss_cons (ps_if (pt_not (pt_val (pe_cG c_l_alike (hr.mono (by decide)) gd rfl (pa_cons (pv 10) (pa_cons (pe_callTy (call_dictP rfl) (by rfl) T.n_dict (by decide +kernel) (pa_cons (pe_lc (own := [("_law_key", 21)]) (g := gName 21) (tt := tYes) rfl sc_p_law.nd (pi_list (pe_callB (call_sortedD rfl) (by rfl) T.n_sorted (by decide +kernel) (pa_cons (pv 8) pa_nil))) (blkOk_by (N := ["_law_script", "_law_bag_here", "_law_turn", "_law_style_here", "_law_other", "_law_layers", "_law_said", "_law_due", "_law_both", "_law_layer_here", "_law_told", "_law_less", "_law_least", "_law_odd", "_law_thing", "_law_kept", "_law_value", "_law_k", "_law_word", "_law_old", "_law_new", "_law_key"]) (sc := defScope s_p_law) (by decide +kernel)) (fun _ _ _ _ _ => pg_name (i := 21) sc_p_law.nd rfl (Or.inl rfl)) (fun _ _ _ _ _ => pts_nil) (fun _ _ _ _ _ => (pe_tup (pa_cons (pv 21) (pa_cons (pe_dget hu (pv 8) (pv 21) (fun _ _ => rfl)) pa_nil))))) pa_nil)) pa_nil)))))
        (pss_one (ps_ret pe_bl))
        pss_nil)
        (pss_cons (ps_if (pt_not (pt_val (pe_cG c_l_alike (hr.mono (by decide)) gd rfl (pa_cons (pe_lst (pa_cons (pe_c c_p_laid hr (by first | decide | omega) rfl (pa_cons (pe_c c_p_laid hr (by first | decide | omega) rfl (pa_cons (pe_c c_p_laid hr (by first | decide | omega) rfl (pa_cons (pv 3) (pa_cons (pe_ix ix_list (pv 5) pe_int (fun _ _ => rfl)) pa_nil))) (pa_cons (pe_ix ix_list (pv 5) pe_int (fun _ _ => rfl)) pa_nil))) (pa_cons (pe_ix ix_list (pv 5) pe_int (fun _ _ => rfl)) pa_nil))) (pa_cons (pe_c c_p_laid hr (by first | decide | omega) rfl (pa_cons (pv 3) (pa_cons (pv 10) pa_nil))) pa_nil))) (pa_cons (pe_lst (pa_cons (pv 7) (pa_cons (pv 7) pa_nil))) pa_nil)))))
        (pss_one (ps_ret pe_bl))
        pss_nil)
        (pss_cons (ps_set (i := 11) sc_p_law.nd rfl (Or.inl rfl) (pe_c c_p_over hr (by first | decide | omega) rfl (pa_cons (pe_ix ix_list (pv 5) pe_int (fun _ _ => rfl)) (pa_cons (pe_c c_p_over hr (by first | decide | omega) rfl (pa_cons (pe_ix ix_list (pv 5) pe_int (fun _ _ => rfl)) (pa_cons (pe_ix ix_list (pv 5) pe_int (fun _ _ => rfl)) pa_nil))) pa_nil))))
        (pss_cons (ps_expr (pe_dclear (pv 10)))
        (pss_cons (ps_set (i := 12) sc_p_law.nd rfl (Or.inl rfl) (pe_callTy (call_dictP rfl) (by rfl) T.n_dict (by decide +kernel) (pa_cons (pe_callB call_sortedP (by rfl) T.n_sorted (by decide +kernel) (pa_cons (pe_lc (own := [("_law_word", 18), ("_law_old", 19), ("_law_new", 20)]) (g := gTup K 3 (gCons (gName 18) (gCons (gName 19) (gCons (gName 20) gNil)))) rfl sc_p_law.nd (pi_zipQ (by rfl) T.n_zip (pa_cons (pe_c0 c_l_style_words hr (by first | decide | omega) rfl) (pa_cons (pv 3) (pa_cons (pv 4) pa_nil)))) (blkOk_by (N := ["_law_script", "_law_bag_here", "_law_turn", "_law_style_here", "_law_other", "_law_layers", "_law_said", "_law_due", "_law_both", "_law_layer_here", "_law_told", "_law_less", "_law_least", "_law_odd", "_law_thing", "_law_kept", "_law_value", "_law_k", "_law_word", "_law_old", "_law_new", "_law_key"]) (sc := defScope s_p_law) (by decide +kernel)) (fun _ _ _ _ _ => (pg_tup rfl (pgs_cons (pg_name (i := 18) sc_p_law.nd rfl (Or.inl rfl)) (pgs_cons (pg_name (i := 19) sc_p_law.nd rfl (Or.inl rfl)) (pgs_cons (pg_name (i := 20) sc_p_law.nd rfl (Or.inl rfl)) pgs_nil))))) (fun _ _ _ _ _ => (pts_one (pt_cmpR (show OpR _ (compareOp .NotEq) (rNeD K) from op_neD hr.units) (pv 19) (pv 20) (nomark _)))) (fun _ _ _ _ _ => (pe_tup (pa_cons (pv 18) (pa_cons (pv 20) pa_nil))))) pa_nil)) pa_nil)))
        (pss_cons (ps_if (pt_not (pt_val (pe_cG c_l_alike (hr.mono (by decide)) gd rfl (pa_cons (pe_lst (pa_cons (pe_cmpR (op_eqK (u65 hr)) (pv 11) (pv 8) (nomark _)) (pa_cons (pe_c c_p_layer_between hr (by first | decide | omega) rfl (pa_cons (pv 3) (pa_cons (pv 4) pa_nil))) (pa_cons (pe_c c_p_laid hr (by first | decide | omega) rfl (pa_cons (pv 3) (pa_cons (pv 12) pa_nil))) pa_nil)))) (pa_cons (pe_lst (pa_cons pe_bl (pa_cons (pv 12) (pa_cons (pv 4) pa_nil)))) pa_nil)))))
        (pss_one (ps_ret pe_bl))
        pss_nil)
        (pss_cons (ps_setLc (i := 13) (own := [("_law_value", 16)]) (g := gName 16) (tt := tYes) rfl sc_p_law.nd rfl rfl (sw_true rfl rfl rfl (by decide +kernel)) (pi_list (pe_c0 c_l_odd_values hr (by first | decide | omega) rfl)) (blkOk_by (N := ["_law_script", "_law_bag_here", "_law_turn", "_law_style_here", "_law_other", "_law_layers", "_law_said", "_law_due", "_law_both", "_law_layer_here", "_law_told", "_law_less", "_law_least", "_law_odd", "_law_thing", "_law_kept", "_law_value", "_law_k", "_law_word", "_law_old", "_law_new", "_law_key"]) (sc := defScope s_p_law) (by decide +kernel)) (fun _ _ _ _ _ => pg_name (i := 16) sc_p_law.nd rfl (Or.inl rfl)) (fun _ _ _ _ _ => pts_nil) (fun _ _ _ _ _ => (pe_callTy (show CallR _ (.type "dict") (rDctN K P w) from by exact call_dictN rfl) (by rfl) T.n_dict (by decide +kernel) (pa_cons (pe_op op_cat (LiI.pe_listItems rfl (pe_ix (show IxR _ (rIxL K) from ix_list) (pv 5) pe_int (fun _ _ => rfl)) (by rfl) T.n_list (by decide +kernel)) (pe_lst (pa_cons (pe_tup (pa_cons (pe_c c_l_one hr (by first | decide | omega) rfl (pa_cons (pv 1) (pa_cons (pe_lst (pa_cons pe_str (pa_cons pe_str (pa_cons pe_str (pa_cons pe_str (pa_cons pe_int (pa_cons pe_non pa_nil))))))) pa_nil))) (pa_cons (pv 16) pa_nil))) pa_nil))) pa_nil))))
        (pss_cons (ps_for PassesOwn.never rfl (pi_list (pe_op op_cat (pe_op op_cat (pv 5) (pe_slice sl_list (pe_c c_l_mixed hr (by first | decide | omega) rfl (pa_cons (pv 1) (pa_cons (pv 13) pa_nil))) po_none (po_some pe_int))) (pe_lst (pa_cons pe_non (pa_cons (LiI.pe_listItems rfl (pe_ix ix_list (pv 5) pe_int (fun _ _ => rfl)) (by rfl) T.n_list (by decide +kernel)) (pa_cons (pv 3) pa_nil)))))) (pg_name (i := 14) sc_p_law.nd rfl (Or.inl rfl))
        (pss_cons (ps_set (i := 15) sc_p_law.nd rfl (Or.inl rfl) (pe_callB (call_reprN (u65 hr) gd sb) (by rfl) T.n_repr (by decide +kernel) (pa_cons (pv 14) pa_nil)))
        (pss_one (ps_if (PW.pt (pw_or (pt_not (pt_val (pe_cG c_l_alike (hr.mono (by decide)) gd rfl (pa_cons (pe_c c_p_is_layer hr (by first | decide | omega) rfl (pa_cons (pv 14) pa_nil)) (pa_cons (pe_c c_l_is_layer hr (by first | decide | omega) rfl (pa_cons (pv 14) pa_nil)) pa_nil))))) (pw_or1 (pt_cmpR op_ne (pe_callB (call_reprN (u65 hr) gd sb) (by rfl) T.n_repr (by decide +kernel) (pa_cons (pv 14) pa_nil)) (pv 15) (nomark _)))))
        (pss_one (ps_ret pe_bl))
        pss_nil))))
        (pss_one (ps_if (pt_cmpR op_ne (pe_callB (call_reprN (u65 hr) gd sb) (by rfl) T.n_repr (by decide +kernel) (pa_cons (pe_lst (pa_cons (pv 3) (pa_cons (pv 4) (pa_cons (pv 5) pa_nil)))) pa_nil)) (pv 6) (nomark _))
        (pss_one (ps_ret pe_bl))
        pss_nil))))))))))))))))
        (pss_one (ps_ret pe_bl))))
      , ?_⟩
    have le : ∀ n : Nat, n ≤ 10 → n ≤ sizeLine := fun n h => Nat.le_trans h (by decide)
    refine ⟨_, rfl, a, ns, rfl, hq, hl, fun g H0 s0 B0 => ?_⟩
    refine ⟨3, rfl, by decide, by decide, ?_⟩
    refine for_range (lo := 0) (n := 3) (fun i σ H' => ∃ (w2 w3 w4 w5 w6 w7 w8 w9 w10 w11 w12 w13 w14 w15 w16 w17 w18 w19 w20 w21 : Option V), σ = [some (.ref a), some (.ref g.b), w2, w3, w4, w5, w6, w7, w8, w9, w10, w11, w12, w13, w14, w15, w16, w17, w18, w19, w20, w21] ∧ Bag H' g 0 0) ⟨none, none, none, none, none, none, none, none, none, none, none, none, none, none, none, none, none, none, none, none, rfl, B0⟩ ?_ ?_
    · rintro ti σ H4 hi ⟨w2, w3, w4, w5, w6, w7, w8, w9, w10, w11, w12, w13, w14, w15, w16, w17, w18, w19, w20, w21, rfl, B4⟩
      refine ⟨_, rfl, g, 0, 0, rfl, B4, fun sa xs ds H5 D5 Z5 => ?_⟩
      refine ⟨_, rfl, g, 0, 0, rfl, D5.bag, fun ta ys es H6 D6 Z6 => ?_⟩
      have D46 := D5.trans D6
      have Z5 := Z5.fr D6.fr
      clear D5 D6
      refine ⟨3, rfl, by decide, by decide, fun D hD => ?_⟩
      have nD := D46.bag.ne_new hD
      refine lc_range (lo := 0) (n := (3 : Int).toNat) (fun i H' => ∃ ps : List Addr, H' D = some (.lst (ps.map V.ref)) ∧ Vf.Drawn g H6 H' 0 0 ∧ ps.length = i ∧ Three K (hid D (hid g.b H')) ps) ⟨[], upd_same, (Drawn.of D46.bag).new hD, rfl, ⟨fun p hp => absurd hp (by simp)⟩⟩ ?_ ?_
      · rintro i H7 hi3 ⟨ps, d7, D7, lp, T7⟩
        refine ⟨rfl, ?_⟩
        delta tYes
        refine iteT ?_
        refine ⟨_, rfl, g, 0, 0, rfl, D7.bag, fun p xs' ds' ns' H8 D8 np hp q8 nd8 nn8 dx8 st8 l8 => ?_⟩
        have d8 := D8.fr _ _ nD d7
        have pD : p ≠ D := fun z => by rw [z, d7] at hp; cases hp
        have nt : NoTup (hid g.b H8) D := NoTup.of (o := HO.lst (ps.map V.ref)) (by rw [hid_ne nD]; exact d8) ⟨(fun _ z => nomatch z), (fun _ _ z => nomatch z)⟩
        have L8 : LayQ K (hid D (hid g.b H8)) p xs' ds' ns' := ⟨by rw [hid_ne pD, hid_ne np]; exact q8, nd8, nn8, flats_hid1 nt dx8 fun d hd => (styd_pl st8 d hd).fl, st8, l8⟩
        have up1 : Same (hid D (hid g.b H7)) (hid D (hid g.b H8)) := hid_le (hid_fr D8.fr)
        have up2 : Same (hid D (hid g.b H8)) (hid D (hid g.b (upd H8 D (HO.lst (ps.map V.ref ++ [V.ref p]))))) := fun x o e => by
          have n := hid_none e
          rw [hid_ne n] at e ⊢
          have m := hid_none e
          rw [hid_ne m] at e ⊢
          rw [upd_ne n]
          exact e
        refine ⟨_, d8, ?_, ps ++ [p], ?_, (D7.trans D8).put D46.bag hD, by rw [List.length_append, lp]; rfl, ⟨fun q hq => ?_⟩⟩
        · rw [List.length_map, lp]
          have hi3 : i < 3 := hi3
          exact Nat.lt_of_lt_of_le (show i < 10 by omega) (by decide)
        · rw [upd_same, List.map_append]
          rfl
        · rcases List.mem_append.mp hq with hq | hq
          · exact ((T7.mono up1).mono up2).all q hq
          · rw [List.mem_singleton.mp hq]
            exact ⟨xs', ds', ns', L8.mono up2⟩
      · rintro H7 ⟨ps, d7, D7, lp, T7⟩
        obtain ⟨p0, p1, p2, rfl⟩ : ∃ p0 p1 p2, ps = [p0, p1, p2] := by
          match ps, lp with
          | [p0, p1, p2], _ => exact ⟨p0, p1, p2, rfl⟩
        refine ⟨le 3 (by decide), fun pt hpt => ?_⟩
        have s8 := same_new (o := HO.tup [V.ref sa, V.ref ta, V.ref D]) hpt
        refine ⟨pt, _, rfl, SqT.of upd_same, rfl, ?_⟩
        refine ⟨_, _, rfl, _, _, rfl, _, _, rfl, rfl, ?_⟩
        have D68 := D7.trans (Drawn.same D7.bag s8)
        have D48 := D46.trans D68
        have Z5 := Z5.fr D68.fr
        have Z6 := Z6.fr D68.fr
        have T8 : Three K (hid g.b (upd H7 pt (HO.tup [V.ref sa, V.ref ta, V.ref D]))) [p0, p1, p2] := (T7.mono (hid_same _ _)).mono (hid_le s8)
        have d8 := s8 _ _ d7
        generalize upd H7 pt (HO.tup [V.ref sa, V.ref ta, V.ref D]) = H8 at D68 D48 Z5 Z6 T8 d8 ⊢
        clear s8 hpt T7 D7 d7 lp D68
        have dZ : (hid g.b H8) D = some (.lst [V.ref p0, V.ref p1, V.ref p2]) := by rw [hid_ne nD]; exact d8
        have zbn : (hid g.b H8) g.b = none := if_pos rfl
        have z8 : Same (hid g.b H8) H8 := hid_same _ _
        obtain ⟨x0, f0, n0, L0⟩ := T8.all p0 (by simp)
        obtain ⟨x1, f1, n1, L1⟩ := T8.all p1 (by simp)
        obtain ⟨x2, f2, n2, L2⟩ := T8.all p2 (by simp)
        have sx := Z5.at'
        have dx := Z5.dx
        have sd := Z5.ok
        have lx := Z5.len
        have sy := Z6.at'
        have dy := Z6.dx
        have se := Z6.ok
        have ly := Z6.len
        have bag8 := D48.bag
        obtain ⟨Gz, eG⟩ : ∃ Gz, Gz = hid g.b H8 := ⟨_, rfl⟩
        rw [← eG] at dZ zbn z8 L0 L1 L2 sx dx sy dy
        clear T8 Z5 Z6 d8
        obtain ⟨DD, eD⟩ : ∃ DD, DD = PyData.list [.tuple ds, .tuple es, .list [layQD f0 n0, layQD f1 n1, layQD f2 n2]] := ⟨_, rfl⟩
        have okD : OkX DD := by
          rw [eD]
          exact okx_of (SzX.lst (SzL.cons ((sz_sty sd).mono (show 3 ≤ 4 by decide) (Nat.le_refl _)) (SzL.cons ((sz_sty se).mono (show 3 ≤ 4 by decide) (Nat.le_refl _)) (SzL.cons (SzX.lst (SzL.cons L0.sz (SzL.cons L1.sz (SzL.cons L2.sz (SzL.nil (M := 0)))))) (SzL.nil (M := 0)))))) (by decide) (by decide)
        have dxD : ∀ {H' : Hp} {l : Addr}, Same Gz H' → H' l = some (.lst [V.ref sa, V.ref ta, V.ref D]) → Dx K H' (.ref l) DD := fun s h => by
          rw [eD]
          exact .lst (SqL.of h) (.cons (.tup (sameT s sx) (DxAll.same s dx)) (.cons (.tup (sameT s sy) (DxAll.same s dy)) (.cons (.lst (SqL.of (s _ _ dZ)) (.cons (Dx.same s L0.dD) (.cons (Dx.same s L1.dD) (.cons (Dx.same s L2.dD) .nil)))) .nil)))
        clear eD
        refine ⟨_, rfl, _, rfl, _, rfl, le 3 (by decide), fun l9 hl9 => ?_⟩
        have s9 := z8.trans (same_new (o := HO.lst [V.ref sa, V.ref ta, V.ref D]) hl9)
        refine .inl ⟨.ref l9, DD, rfl, dxD s9 upd_same, okD, ?_⟩
        have D49 := D48.new (o := HO.lst [V.ref sa, V.ref ta, V.ref D]) hl9
        have n89 := same_new (o := HO.lst [V.ref sa, V.ref ta, V.ref D]) hl9
        generalize hsh : PyData.shown DD = SH
        generalize upd H8 l9 (HO.lst [V.ref sa, V.ref ta, V.ref D]) = H9 at s9 D49 n89 ⊢
        clear hl9
        have ixD : ∀ {H' : Hp}, Same Gz H' → SqL K H' D [V.ref p0, V.ref p1, V.ref p2] := fun s => SqL.of (s _ _ dZ)
        have l20 : ∀ {n : Nat}, n ≤ 6 → n ≤ 20 := fun h => by omega
        refine ⟨_, rfl, _, rfl, D, _, _, _, rfl, rfl, ixD s9, atI_nat (j := 0) rfl, sa, p0, xs, stV x0, n0, rfl, sameT s9 sx, lx, s9 _ _ L0.at', L0.nd, l20 L0.l6, L0.sub, fun r1 H10 s10 q10 => ?_⟩
        have z10 := s9.trans s10
        refine ⟨_, rfl, D, _, _, _, rfl, rfl, ixD z10, atI_nat (j := 1) rfl, r1, p1, _, stV x1, n1, rfl, q10, rfl, z10 _ _ L1.at', L1.nd, l20 L1.l6, L1.sub, fun r2 H11 s11 q11 => ?_⟩
        have z11 := z10.trans s11
        refine ⟨_, rfl, D, _, _, _, rfl, rfl, ixD z11, atI_nat (j := 2) rfl, r2, p2, _, stV x2, n2, rfl, q11, rfl, z11 _ _ L2.at', L2.nd, l20 L2.l6, L2.sub, fun due H12 s12 q12 => ?_⟩
        have z12 := z11.trans s12
        have s812 := n89.trans (s10.trans (s11.trans s12))
        clear q10 q11 s10 s11 s12 z10 z11 s9 n89 D49
        refine fun B hB => ?_
        have s13 := same_new (o := HO.dK []) hB
        have B13 : (upd H12 B (HO.dK [])) B = some (.dK []) := upd_same
        have nB8 : H8 B = none := s812.free hB
        generalize upd H12 B (HO.dK []) = H13 at s13 B13 ⊢
        refine ⟨le 2 (by decide), fun pt hpt => ?_⟩
        have s14 := s13.trans (same_new (o := HO.tup [V.ref due, V.ref B]) hpt)
        have B14 := upd_some (u := HO.tup [V.ref due, V.ref B]) B13 hpt
        refine ⟨pt, _, rfl, SqT.of upd_same, rfl, ?_⟩
        refine ⟨_, _, rfl, _, _, rfl, rfl, ?_⟩
        generalize upd H13 pt (HO.tup [V.ref due, V.ref B]) = H14 at s14 B14 ⊢
        clear hpt s13 B13 pt
        have GzB : Gz B = none := z8.free nB8
        have dB : SqT K (hid B H14) due (laidL (laidL (laidL xs (stV x0) n0) (stV x1) n1) (stV x2) n2) := sameT (same_hid s14 hB) q12
        have zb : Same Gz (hid B H14) := same_hid (z12.trans s14) GzB
        have s8b : Same H8 (hid B H14) := same_hid (s812.trans s14) nB8
        have b14 : Same (hid B H14) H14 := hid_same _ _
        have Bn : (hid B H14) B = none := if_pos rfl
        generalize hid B H14 = Gb at dB zb s8b b14 Bn
        clear q12 z12 s14 hB s812
        obtain ⟨LL, eL⟩ : ∃ LL : List (List (Key × V)), LL = [lay (stV x0) n0, lay (stV x1) n1, lay (stV x2) n2] := ⟨_, rfl⟩
        have ll : ∀ (i : Nat) (x : V), [V.ref p0, V.ref p1, V.ref p2][i]? = some x → ∃ p l, x = .ref p ∧ LL[i]? = some l ∧ Gz p = some (.dK l) ∧ l.length ≤ 6 := fun i x h => by
          have len : ∀ (v : Str → V) {ns : List Str}, ns.length ≤ 6 → (lay v ns).length ≤ 6 := fun v ns h => by
            unfold lay
            rw [List.length_map]
            exact h
          rw [eL]
          match i, h with
          | 0, h =>
            cases h
            exact ⟨p0, _, rfl, rfl, L0.at', len _ L0.l6⟩
          | 1, h =>
            cases h
            exact ⟨p1, _, rfl, rfl, L1.at', len _ L1.l6⟩
          | 2, h =>
            cases h
            exact ⟨p2, _, rfl, rfl, L2.at', len _ L2.l6⟩
          | n + 3, h => simp at h
        refine ⟨_, rfl, D, rfl, ⟨_, ixD (zb.trans b14)⟩, for_it (walk_list (K := K) (a := D) (xs := [V.ref p0, V.ref p1, V.ref p2])) (fun i σ H' => ∃ v9 : Option V, σ = [some (.ref a), some (.ref g.b), some (.int (0 + (ti : Nat))), some (.ref sa), some (.ref ta), some (.ref D), some (.str SH), some (.ref due), some (.ref B), v9, w10, w11, w12, w13, w14, w15, w16, w17, w18, w19, w20, w21] ∧ Same Gb H' ∧ H' B = some (.dK ((LL.take i).foldl mergeK [])) ∧ ((LL.take i).foldl mergeK []).length ≤ 6 * i)
          ⟨_, rfl, b14, B14, Nat.zero_le _⟩ (fun i σ' H' _ ⟨_, _, h, _⟩ => ixD (zb.trans h)) ?_ ?_⟩
        · rintro i x σ' H15 H16 hi3 ⟨v9, rfl, s15, B15, l15⟩ ⟨rfl, hx⟩
          obtain ⟨p, l, rfl, hl, hp, l6⟩ := ll i x hx
          have hi3 : i < 3 := hi3
          have et : LL.take (i + 1) = LL.take i ++ [l] := by
            rw [List.take_add_one, hl]
            rfl
          have ef : (LL.take (i + 1)).foldl mergeK [] = mergeK ((LL.take i).foldl mergeK []) l := by
            rw [et, List.foldl_append]
            rfl
          have hp16 := (zb.trans s15) _ _ hp
          have nBp : B ≠ p := fun z => by rw [← z, GzB] at hp; cases hp
          refine ⟨_, rfl, .inr (.inr (.inl ⟨rfl, .inl ⟨_, B15⟩⟩)), _, rfl, B, p, _, l, rfl, rfl, nBp, B15, .inl hp16, by omega, ?_⟩
          refine ⟨_, rfl, same_put s15 Bn, by rw [upd_same, ef], ?_⟩
          rw [ef]
          have := length_mergeK l ((LL.take i).foldl mergeK [])
          omega
        · rintro σ' H15 ⟨v9, rfl, s15, B15, _⟩
          have eB : (LL.take [V.ref p0, V.ref p1, V.ref p2].length).foldl mergeK [] = lay (v2L (v2L (stV x0) (stV x1) n1) (stV x2) n2) (n2L (n2L n0 n1) n2) := by
            rw [eL]
            show mergeK (mergeK (mergeK [] (lay (stV x0) n0)) (lay (stV x1) n1)) (lay (stV x2) n2) = _
            rw [lay_new _ L0.nd, lay_two _ _ L1.nd, lay_two _ _ L2.nd]
          rw [eB] at B15
          have nBnd : (n2L (n2L n0 n1) n2).Nodup := n2L_nd (n2L_nd L0.nd L1.nd) L2.nd
          have nBsub : ∀ n ∈ n2L (n2L n0 n1) n2, n ∈ names22 := fun n hn => by
            rcases n2L_mem.mp hn with h | h
            · rcases n2L_mem.mp h with h | h
              · exact L0.sub n h
              · exact L1.sub n h
            · exact L2.sub n h
          have nB6 : (n2L (n2L n0 n1) n2).length ≤ 6 := nBnd.length_le_of_subset (l₂ := names22) fun _ hx => nBsub _ hx
          clear eB ll eL B14 b14
          have zc := zb.trans s15
          have dB15 := sameT s15 dB
          have s8c := s8b.trans s15
          obtain ⟨vB, evB⟩ : ∃ vB, vB = v2L (v2L (stV x0) (stV x1) n1) (stV x2) n2 := ⟨_, rfl⟩
          obtain ⟨nB, enB⟩ : ∃ nB, nB = n2L (n2L n0 n1) n2 := ⟨_, rfl⟩
          have nBm : ∀ n, n ∈ nB ↔ (n ∈ n0 ∨ n ∈ n1) ∨ n ∈ n2 := fun n => by
            rw [enB, n2L_mem, n2L_mem]
          rw [← evB, ← enB] at B15
          rw [← enB] at nBnd nBsub nB6
          clear dB zb s8b s15 Bn
          refine ⟨_, rfl, D, _, _, _, rfl, rfl, ixD zc, atI_nat (j := 0) rfl, _, rfl, D, _, _, _, rfl, rfl, ixD zc, atI_nat (j := 1) rfl, p0, p1, stV x0, stV x1, n0, n1, rfl, zc _ _ L0.at', zc _ _ L1.at', L0.nd, L1.nd, l20 L0.l6, l20 L1.l6, fun ya o1 H16 pa' _ _ s16 q16 => ?_⟩
          have z16 := zc.trans s16
          have yand : ya.Nodup := pa'.nodup_iff.mpr (n2L_nd L0.nd L1.nd)
          have yam : ∀ n, n ∈ ya ↔ n ∈ n0 ∨ n ∈ n1 := fun n => pa'.mem_iff.trans n2L_mem
          have yasub : ∀ n ∈ ya, n ∈ names22 := fun n hn => ((yam n).mp hn).elim (L0.sub n) (L1.sub n)
          have ya6 : ya.length ≤ 6 := yand.length_le_of_subset (l₂ := names22) fun _ hx => yasub _ hx
          refine ⟨_, rfl, D, _, _, _, rfl, rfl, ixD z16, atI_nat (j := 2) rfl, o1, p2, v2L (stV x0) (stV x1) n1, stV x2, ya, n2, rfl, q16, z16 _ _ L2.at', yand, L2.nd, l20 ya6, l20 L2.l6, fun yb told H17 pb' sb' tn17 s17 q17 => ?_⟩
          have nTB : told ≠ B := fun z => by
            have := s16 _ _ B15
            rw [← z, tn17] at this
            cases this
          have eyb : yb = ordN nB := by
            have sub2 : ∀ n ∈ n2L ya n2, n ∈ names22 := fun n hn => (n2L_mem.mp hn).elim (yasub n) (L2.sub n)
            rw [ord_is (ns := n2L ya n2) pb' sb' (n2L_nd yand L2.nd) sub2]
            exact ord_congr fun n => by rw [n2L_mem, yam, nBm]
          have q17 : H17 told = some (.dK (lay vB (ordN nB))) := by
            rw [← eyb, evB]
            exact q17
          clear pb' sb' eyb q16 pa'
          have s1517 := s16.trans s17
          have z17 := z16.trans s17
          have B17 := s1517 _ _ B15
          have due17 := sameT s1517 dB15
          have s8d := s8c.trans s1517
          have told8 : H8 told = none := (s8c.trans s16).free tn17
          clear s16 s17 z16 B15 dB15 s8c zc
          refine ⟨_, rfl, _, rfl, B, lay vB nB, nB, rfl, .inl B17, lay_keys vB nB, by omega, fun ys q yp ys2 hq => ?_⟩
          obtain rfl : ys = ordN nB := ord_is yp (sorted_pw ys2) nBnd nBsub
          have s18 := same_new (o := HO.lst ((ordN nB).map V.str)) hq
          have q18 : (upd H17 q (HO.lst ((ordN nB).map V.str))) q = _ := upd_same
          generalize upd H17 q (HO.lst ((ordN nB).map V.str)) = H18 at s18 q18 ⊢
          refine ⟨q, rfl, ⟨_, SqL.of q18⟩, fun R hR => ?_⟩
          have z18 := z17.trans s18
          have B18 := s18 _ _ B17
          have o6 := ordN_len nB
          refine lc_it (walk_list (K := K) (a := q) (xs := (ordN nB).map V.str)) (fun i H' => ∃ ts : List Addr, H' R = some (.lst (ts.map V.ref)) ∧ Paired (fun t n => hid R H' t = some (.tup [.str n, vB n])) ts ((ordN nB).take i) ∧ Same H18 H') ⟨[], upd_same, .nil, same_put (Same.refl _) hR⟩ (fun i H' _ ⟨_, _, _, h⟩ => SqL.of (h _ _ q18)) ?_ ?_
          · rintro i x H19 H20 hi6 ⟨ts, d19, pr, s19⟩ ⟨rfl, hx⟩
            rw [List.getElem?_map] at hx
            obtain ⟨n, hn, rfl⟩ := Option.map_eq_some_iff.mp hx
            have mem := ordN_mem (List.mem_of_getElem? hn)
            have et : (ordN nB).take (i + 1) = (ordN nB).take i ++ [n] := by
              rw [List.take_add_one, hn]
              rfl
            have dg : DGet H20 B (kV (.inr n)) (some (vB n)) := .inl ⟨lay vB nB, .inr n, .inl (s19 _ _ B18), rfl, (lay_val vB mem).symm⟩
            refine ⟨rfl, ?_⟩
            delta tYes
            refine iteT ?_
            refine ⟨_, rfl, _, rfl, _, rfl, B, _, rfl, dg, le 2 (by decide), fun t ht => ?_⟩
            have tR : t ≠ R := fun z => by rw [z, d19] at ht; cases ht
            have up : Same (hid R H20) (hid R (upd (upd H20 t (HO.tup [.str n, vB n])) R (HO.lst (ts.map V.ref ++ [V.ref t])))) := (hid_le (same_new ht)).trans (hid_put _)
            refine ⟨_, upd_some (u := HO.tup [.str n, vB n]) d19 ht, ?_, ts ++ [t], ?_, ?_, same_put (s19.trans (same_new ht)) hR⟩
            · rw [List.length_map, pr.length, List.length_take]
              exact Nat.lt_of_le_of_lt (show _ ≤ 10 by omega) (by decide)
            · rw [upd_same, List.map_append]
              rfl
            · rw [et]
              refine Paired.snoc (pr.mono fun t n h => up _ _ h) ?_
              rw [hid_ne tR, upd_ne tR, upd_same]
          rintro H19 ⟨ts, d19, pr, s19⟩
          rw [List.length_map, List.take_length] at pr
          have pr' : Paired (fun p (kv : Key × V) => SqT K H19 p [kV kv.1, kv.2]) ts (lay vB (ordN nB)) := by
            unfold lay
            have go : ∀ {ts : List Addr} {ns : List Str}, Paired (fun t n => hid R H19 t = some (.tup [.str n, vB n])) ts ns → Paired (fun p (kv : Key × V) => SqT K H19 p [kV kv.1, kv.2]) ts (ns.map fun n => ((.inr n : Key), vB n)) := fun h => by
              induction h with
              | nil => exact .nil
              | cons a _ ih => exact .cons (SqT.of (hid_same _ _ _ _ a)) ih
            exact go pr
          refine ⟨R, ts, lay vB (ordN nB), rfl, SqL.of d19, pr', fun dn hdn => ?_⟩
          rw [lay_new vB (ordN_nd nB)]
          have s20 := (s18.trans s19).trans (same_new (o := HO.dK (lay vB (ordN nB))) hdn)
          have dn20 : (upd H19 dn (HO.dK (lay vB (ordN nB)))) dn = _ := upd_same
          generalize upd H19 dn (HO.dK (lay vB (ordN nB))) = H20 at s20 dn20 ⊢
          clear d19 pr pr' s19 hdn z18 B18 hR q18 s18 hq yp ys2
          obtain ⟨dvB, edv⟩ : ∃ dvB : Str → PyData, dvB = v2L (v2L (dsF f0) (dsF f1) n1) (dsF f2) n2 := ⟨_, rfl⟩
          have dxB : ∀ {H' : Hp}, Same Gz H' → ∀ n, Dx K H' (vB n) (dvB n) := fun s n => by
            rw [evB, edv]
            unfold v2L
            by_cases c2 : n ∈ n2
            · rw [if_pos c2, if_pos c2]
              exact dx_at (DxAll.same s L2.dx) n
            · rw [if_neg c2, if_neg c2]
              by_cases c1 : n ∈ n1
              · rw [if_pos c1, if_pos c1]
                exact dx_at (DxAll.same s L1.dx) n
              · rw [if_neg c1, if_neg c1]
                exact dx_at (DxAll.same s L0.dx) n
          have plB : ∀ n ∈ names22, PlD (dvB n) := fun n hn => by
            rw [edv]
            unfold v2L
            by_cases c2 : n ∈ n2
            · rw [if_pos c2]
              exact styd_at L2.sd hn
            · rw [if_neg c2]
              by_cases c1 : n ∈ n1
              · rw [if_pos c1]
                exact styd_at L1.sd hn
              · rw [if_neg c1]
                exact styd_at L0.sd hn
          clear edv
          have z20 := z17.trans s20
          have okT : SzX 3 7000 (.dict ((ordN nB).map fun n => (.str n, dvB n))) := sz_ents (fun n hn => ⟨ordN_names hn, (plB n (ordN_names hn)).gd⟩) o6
          refine ⟨.ref told, .ref dn, _, rfl, lay_dx (s20 _ _ q17) (ordN_nd nB) (fun n _ => dxB z20 n), lay_dx dn20 (ordN_nd nB) (fun n _ => dxB z20 n), okx_of okT (by decide) (by decide), fun H21 s21 => ⟨_, rfl, ?_⟩⟩
          refine iteF ?_
          have s21 := s20.trans s21
          have z21 := z17.trans s21
          have T21 := s21 _ _ q17
          have B21 := s21 _ _ B17
          have due21 := sameT s21 due17
          have s8e := s8d.trans s21
          clear s20 z20 dn20 s8d due17 B17 q17 z17
          have e3 : laidL (laidL (laidL xs (stV x0) n0) (stV x1) n1) (stV x2) n2 = laidL xs vB (ordN nB) := by
            rw [evB]
            refine laid_three xs _ _ _ _ _ _ _ fun n hn => ?_
            rw [← nBm n]
            exact ⟨fun h => ordN_mem h, fun h => (ord_perm nBnd nBsub).mem_iff.mpr h⟩
          refine ⟨_, rfl, _, rfl, D, _, _, _, rfl, rfl, ixD z21, atI_nat (j := 0) rfl, sa, p0, xs, stV x0, n0, rfl, sameT z21 sx, lx, z21 _ _ L0.at', L0.nd, l20 L0.l6, L0.sub, fun r1 H22 s22 q22 => ?_⟩
          have z22 := z21.trans s22
          refine ⟨_, rfl, D, _, _, _, rfl, rfl, ixD z22, atI_nat (j := 1) rfl, r1, p1, _, stV x1, n1, rfl, q22, rfl, z22 _ _ L1.at', L1.nd, l20 L1.l6, L1.sub, fun r2 H23 s23 q23 => ?_⟩
          have z23 := z22.trans s23
          refine ⟨_, rfl, D, _, _, _, rfl, rfl, ixD z23, atI_nat (j := 2) rfl, r2, p2, _, stV x2, n2, rfl, q23, rfl, z23 _ _ L2.at', L2.nd, l20 L2.l6, L2.sub, fun r3 H24 s24 q24 => ?_⟩
          have z24 := z23.trans s24
          have s2124 := s22.trans (s23.trans s24)
          refine ⟨_, rfl, _, rfl, sa, told, xs, vB, ordN nB, rfl, sameT z24 sx, lx, s2124 _ _ T21, ordN_nd nB, l20 o6, fun n hn => ordN_names hn, fun r4 H25 s25 q25 => ?_⟩
          have z25 := z24.trans s25
          have q24 := sameT s25 q24
          rw [e3] at q24 due21
          have s2125 := s2124.trans s25
          have due25 := sameT s2125 due21
          clear s22 s23 s24 s25 q22 q23 z22 z23 z24 s2124 due21 e3
          have dx3 : ∀ {H' : Hp}, Same Gz H' → DxAll K H' (laidL xs vB (ordN nB)) (names22.map fun n => if n ∈ ordN nB then dvB n else dsF ds n) := fun s => laid_dxf (DxAll.same s dx) fun n _ _ => dxB s n
          have ok3 : SzX 3 6100 (.tuple (names22.map fun n => if n ∈ ordN nB then dvB n else dsF ds n)) := sz_six fun n hn => by
            by_cases c : n ∈ ordN nB
            · rw [if_pos c]
              exact (plB n hn).gd
            · rw [if_neg c]
              exact (styd_at sd hn).gd
          refine ⟨le 2 (by decide), fun k1 hk1 => ?_⟩
          have s26 := same_new (o := HO.lst [V.ref r3, V.ref r4]) hk1
          have k26 : (upd H25 k1 (HO.lst [V.ref r3, V.ref r4])) k1 = _ := upd_same
          generalize upd H25 k1 (HO.lst [V.ref r3, V.ref r4]) = H26 at s26 k26 ⊢
          refine ⟨_, rfl, _, rfl, le 2 (by decide), fun k2 hk2 => ?_⟩
          have s27 := s26.trans (same_new (o := HO.lst [V.ref due, V.ref due]) hk2)
          have k27 := upd_some (u := HO.lst [V.ref due, V.ref due]) k26 hk2
          have k28 : (upd H26 k2 (HO.lst [V.ref due, V.ref due])) k2 = _ := upd_same
          generalize upd H26 k2 (HO.lst [V.ref due, V.ref due]) = H27 at s27 k27 k28 ⊢
          have z27 := z25.trans s27
          have tup : ∀ {r : Addr}, SqT K H25 r (laidL xs vB (ordN nB)) → Dx K H27 (.ref r) (.tuple (names22.map fun n => if n ∈ ordN nB then dvB n else dsF ds n)) := fun h => .tup (sameT s27 h) (dx3 z27)
          refine ⟨.ref k1, .ref k2, .list [.tuple (names22.map fun n => if n ∈ ordN nB then dvB n else dsF ds n), .tuple (names22.map fun n => if n ∈ ordN nB then dvB n else dsF ds n)], rfl, .lst (SqL.of k27) (.cons (tup q24) (.cons (tup q25) .nil)), .lst (SqL.of k28) (.cons (tup due25) (.cons (tup due25) .nil)),
            okx_of (SzX.lst (SzL.cons ok3 (SzL.cons ok3 (SzL.nil (M := 0))))) (by decide) (by decide), fun H28 s28 => ⟨_, rfl, ?_⟩⟩
          refine iteF ?_
          have s2128 := s2125.trans (s27.trans s28)
          have z28 := z21.trans s2128
          have T28 := s2128 _ _ T21
          have B28 := s2128 _ _ B21
          have s8f := s8e.trans s2128
          clear tup s26 s27 k26 k27 k28 hk1 hk2 q24 q25 due25 s2125 z25 z27 dx3 ok3 T21 B21 s8e s2128 z21
          refine ⟨_, rfl, D, _, _, _, rfl, rfl, ixD z28, atI_nat (j := 0) rfl, _, rfl, D, _, _, _, rfl, rfl, ixD z28, atI_nat (j := 1) rfl, _, rfl, D, _, _, _, rfl, rfl, ixD z28, atI_nat (j := 2) rfl, p1, p2, stV x1, stV x2, n1, n2, rfl, z28 _ _ L1.at', z28 _ _ L2.at', L1.nd, L2.nd, l20 L1.l6, l20 L2.l6, fun yc o2 H29 pc' _ _ s29 q29 => ?_⟩
          have ycnd : yc.Nodup := pc'.nodup_iff.mpr (n2L_nd L1.nd L2.nd)
          have ycm : ∀ n, n ∈ yc ↔ n ∈ n1 ∨ n ∈ n2 := fun n => pc'.mem_iff.trans n2L_mem
          have ycsub : ∀ n ∈ yc, n ∈ names22 := fun n hn => ((ycm n).mp hn).elim (L1.sub n) (L2.sub n)
          have yc6 : yc.length ≤ 6 := ycnd.length_le_of_subset (l₂ := names22) fun _ hx => ycsub _ hx
          refine ⟨p0, o2, stV x0, v2L (stV x1) (stV x2) n2, n0, yc, rfl, (z28.trans s29) _ _ L0.at', q29, L0.nd, ycnd, l20 L0.l6, l20 yc6, fun yd less H30 pd' sd' ln s30 q30 => ?_⟩
          have nLT : less ≠ told := fun z => by
            have := s29 _ _ T28
            rw [← z, ln] at this
            cases this
          have eyd : yd = ordN nB := by
            have sub2 : ∀ n ∈ n2L n0 yc, n ∈ names22 := fun n hn => (n2L_mem.mp hn).elim (L0.sub n) (ycsub n)
            rw [ord_is (ns := n2L n0 yc) pd' sd' (n2L_nd L0.nd ycnd) sub2]
            exact ord_congr fun n => by rw [n2L_mem, ycm, nBm, or_assoc]
          have less30 : H30 less = some (.dK (lay vB (ordN nB))) := by
            rw [← eyd, evB]
            have e : lay (fun m => if m ∈ yc then v2L (stV x1) (stV x2) n2 m else stV x0 m) yd = lay (v2L (v2L (stV x0) (stV x1) n1) (stV x2) n2) yd := lay_congr fun n _ => by
              unfold v2L
              by_cases c2 : n ∈ n2
              · rw [if_pos ((ycm n).mpr (.inr c2)), if_pos c2, if_pos c2]
              · by_cases c1 : n ∈ n1
                · rw [if_pos ((ycm n).mpr (.inl c1)), if_neg c2, if_neg c2, if_pos c1]
                · rw [if_neg fun z => ((ycm n).mp z).elim c1 c2, if_neg c2, if_neg c1]
            rw [← e]
            exact q30
          clear pd' sd' eyd q30 q29 pc' ycm ycsub
          have s2830 := s29.trans s30
          have z30 := z28.trans s2830
          have T30 := s2830 _ _ T28
          have B30 := s2830 _ _ B28
          have s8g := s8f.trans s2830
          clear s29 s30 s2830 z28 T28 B28 s8f
          refine ⟨_, rfl, .inr (.inr (.inl ⟨rfl, .inl ⟨_, T30⟩⟩)), told, _, rfl, rfl, T30, ?_⟩
          have z31 : Same Gz (upd H30 told (HO.dK [])) := same_put z30 (z8.free told8)
          have s8h : Same H8 (upd H30 told (HO.dK [])) := same_put s8g told8
          have B31 : (upd H30 told (HO.dK [])) B = some (.dK (lay vB nB)) := by rw [upd_ne (Ne.symm nTB)]; exact B30
          have less31 : (upd H30 told (HO.dK [])) less = some (.dK (lay vB (ordN nB))) := by rw [upd_ne nLT]; exact less30
          generalize upd H30 told (HO.dK []) = H31 at z31 s8h B31 less31 ⊢
          clear T30 less30 B30 z30 s8g
          refine ⟨rfl, fun pw hpw => ?_⟩
          have s32 := same_new (o := HO.tup (names22.map V.str)) hpw
          have w32 : (upd H31 pw (HO.tup (names22.map V.str))) pw = some (.tup (names22.map V.str)) := upd_same
          generalize upd H31 pw (HO.tup (names22.map V.str)) = H32 at s32 w32 ⊢
          have z32 := z31.trans s32
          refine ⟨_, rfl, _, rfl, pw, sa, ta, names22.map V.str, xs, ys, rfl, SqT.of w32, sameT z32 sx, sameT z32 sy, fun R hR => ?_⟩
          refine lc_it (walk_zipQ (K := K) (a := pw) (b := sa) (c := ta) (xs := names22.map V.str) (ys := xs) (zs := ys) (n := 6) rfl lx ly) (fun i H' => ∃ ts : List Addr, H' R = some (.lst (ts.map V.ref)) ∧ Paired (fun t n => hid R H' t = some (.tup [.str n, stV ys n])) ts ((names22.take i).filter (difQ ds es)) ∧ Same H32 H') ⟨[], upd_same, .nil, same_put (Same.refl _) hR⟩ (fun i H' _ ⟨_, _, _, h⟩ => ⟨SqT.of (h _ _ w32), sameT (z32.trans h) sx, sameT (z32.trans h) sy⟩) ?_ ?_
          · rintro i v H33 H34 hi6 ⟨ts, d33, pr, s33⟩ ⟨T1, v1, v2, v3, rfl, hT, rfl, hx1, hx2, hx3⟩
            rw [List.getElem?_map] at hx1
            obtain ⟨n, hn, rfl⟩ := Option.map_eq_some_iff.mp hx1
            have n22 : n ∈ names22 := List.mem_of_getElem? hn
            obtain rfl := at_ix hn hx2
            obtain rfl := at_ix hn hx3
            have et : names22.take (i + 1) = names22.take i ++ [n] := by
              rw [List.take_add_one, hn]
              rfl
            have T1R : T1 ≠ R := fun z => by rw [z, d33] at hT; cases hT
            have d34 := upd_some (u := HO.tup [V.str n, stV xs n, stV ys n]) d33 hT
            have s34 := s33.trans (same_new (o := HO.tup [V.str n, stV xs n, stV ys n]) hT)
            have T34 : (upd H33 T1 (HO.tup [V.str n, stV xs n, stV ys n])) T1 = some (HO.tup [V.str n, stV xs n, stV ys n]) := upd_same
            have u34 : Same (hid R H33) (hid R (upd H33 T1 (HO.tup [V.str n, stV xs n, stV ys n]))) := hid_le (same_new hT)
            generalize upd H33 T1 (HO.tup [V.str n, stV xs n, stV ys n]) = H34 at d34 s34 T34 u34 ⊢
            have z34 := z32.trans s34
            refine ⟨T1, _, rfl, SqT.of T34, rfl, ?_⟩
            refine ⟨_, _, rfl, _, _, rfl, _, _, rfl, rfl, rfl, ?_⟩
            have vx : Dp K H34 (stV xs n) (dsF ds n) := (styd_at sd n22).fl.dp (Dx.same z34 (dx_at dx n))
            have vy : Dp K H34 (stV ys n) (dsF es n) := (styd_at se n22).fl.dp (Dx.same z34 (dx_at dy n))
            refine ⟨_, rfl, _, rfl, dsF ds n, dsF es n, vx, vy, (styd_at sd n22).sh, (styd_at se n22).sh, _, rfl, ?_⟩
            refine ite2 (fun h => ?_) (fun h => ?_)
            · have h : difQ ds es n = true := h
              refine ⟨_, rfl, _, rfl, le 2 (by decide), fun t ht => ?_⟩
              have tR : t ≠ R := fun z => by rw [z, d34] at ht; cases ht
              have up : Same (hid R H34) (hid R (upd (upd H34 t (HO.tup [.str n, stV ys n])) R (HO.lst (ts.map V.ref ++ [V.ref t])))) := (hid_le (same_new ht)).trans (hid_put _)
              refine ⟨_, upd_some (u := HO.tup [.str n, stV ys n]) d34 ht, ?_, ts ++ [t], ?_, ?_, same_put (s34.trans (same_new ht)) hR⟩
              · rw [List.length_map, pr.length]
                have l1 := List.length_filter_le (difQ ds es) (names22.take i)
                have l2 : (names22.take i).length ≤ 6 := (List.take_sublist _ _).length_le
                exact Nat.lt_of_le_of_lt (show _ ≤ 6 by omega) (by decide)
              · rw [upd_same, List.map_append]
                rfl
              · rw [et, List.filter_append, List.filter_cons_of_pos (p := difQ ds es) h, List.filter_nil]
                refine Paired.snoc (pr.mono fun t n h => up _ _ (u34 _ _ h)) ?_
                rw [hid_ne tR, upd_ne tR, upd_same]
            · have h : ¬ difQ ds es n = true := h
              refine ⟨ts, d34, ?_, s34⟩
              rw [et, List.filter_append, List.filter_cons_of_neg (p := difQ ds es) h, List.filter_nil, List.append_nil]
              exact pr.mono fun t n h => u34 _ _ h
          · rintro H33 ⟨ts, d33, pr, s33⟩
            have pr : Paired (fun t n => H33 t = some (.tup [.str n, stV ys n])) ts (names22.filter (difQ ds es)) := pr.mono fun t n h => hid_same _ _ _ _ h
            obtain ⟨ek, hT⟩ := prd_kf pr
            have knd : (ts.map (kfH H33)).Nodup := by
              rw [ek]
              exact (show names22.Nodup by decide).filter _
            refine ⟨R, ts, kfH H33, fun t => stV ys (kfH H33 t), rfl, SqL.of d33, hT, fun t ht u hu e => nd_inj knd t ht u hu e, fun us q up uo hq => ?_⟩
            have ekf : us.map (kfH H33) = sorted22.filter (difQ ds es) := by
              refine sorted_is ?_ (List.Pairwise.map _ (fun _ _ h => h) uo) (sorted_pw22.sublist List.filter_sublist)
              have := up.map (kfH H33)
              rw [ek] at this
              exact this.trans (sorted_perm22.symm.filter _)
            have pr2 : Paired (fun p (kv : Key × V) => SqT K (upd H33 q (HO.lst (us.map V.ref))) p [kV kv.1, kv.2]) us (lay (stV ys) (us.map (kfH H33))) := by
              have go : ∀ vs : List Addr, (∀ t ∈ vs, t ∈ ts) → Paired (fun p (kv : Key × V) => SqT K (upd H33 q (HO.lst (us.map V.ref))) p [kV kv.1, kv.2]) vs (lay (stV ys) (vs.map (kfH H33))) := fun vs => by
                induction vs with
                | nil => exact fun _ => .nil
                | cons t r ih => exact fun h => .cons (SqT.of (upd_some (hT t (h t List.mem_cons_self)) hq)) (ih fun u hu => h u (List.mem_cons_of_mem _ hu))
              exact go us fun t ht => up.mem_iff.mp ht
            have q34 : (upd H33 q (HO.lst (us.map V.ref))) q = some (.lst (us.map V.ref)) := upd_same
            have s34 := s33.trans (same_new (o := HO.lst (us.map V.ref)) hq)
            rw [ekf] at pr2
            refine ⟨q, us, lay (stV ys) (sorted22.filter (difQ ds es)), rfl, SqL.of q34, pr2, fun dl hdl => ?_⟩
            have fnd : (sorted22.filter (difQ ds es)).Nodup := (show sorted22.Nodup by decide).filter _
            have fsub : ∀ n ∈ sorted22.filter (difQ ds es), n ∈ names22 := fun n hn => sorted_perm22.mem_iff.mp (List.mem_filter.mp hn).1
            have f6 : (sorted22.filter (difQ ds es)).length ≤ 6 := List.length_filter_le _ _
            rw [lay_new (stV ys) fnd]
            have s35 := (s32.trans s34).trans (same_new (o := HO.dK (lay (stV ys) (sorted22.filter (difQ ds es)))) hdl)
            have dl35 : (upd (upd H33 q (HO.lst (us.map V.ref))) dl (HO.dK (lay (stV ys) (sorted22.filter (difQ ds es))))) dl = _ := upd_same
            generalize upd (upd H33 q (HO.lst (us.map V.ref))) dl (HO.dK (lay (stV ys) (sorted22.filter (difQ ds es)))) = H35 at s35 dl35 ⊢
            clear hdl q34 s34 pr2 ekf uo up hq knd hT ek pr s33 d33 hR z32 w32 s32 hpw
            have z35 := z31.trans s35
            have nbp : (ordN nB).length = nB.length := (ord_perm nBnd nBsub).length_eq
            refine ⟨_, rfl, _, rfl, less, B, lay vB (ordN nB), lay vB nB, rfl, rfl, s35 _ _ less31, s35 _ _ B31, ?_, fun p hp => ?_, ?_⟩
            · unfold lay
              rw [List.length_map, List.length_map, nbp]
            · obtain ⟨n, hn, rfl⟩ := List.mem_map.mp hp
              have pl := plB n (ordN_names hn)
              exact ⟨lay_val vB (ordN_mem hn), dvB n, pl.fl.dp (dxB z35 n), pl.sh, pl.self⟩
            refine ⟨_, rfl, _, rfl, sa, ta, xs, ys, ds, es, rfl, sameT z35 sx, sameT z35 sy, lx, ly, DxAll.same z35 dx, DxAll.same z35 dy, sd, se, fun lb H36 _ s36 q36 => ?_⟩
            rw [dif_is sd se] at q36
            have z36 := z35.trans s36
            have dl36 := s36 _ _ dl35
            refine ⟨_, rfl, _, rfl, sa, dl, xs, stV ys, sorted22.filter (difQ ds es), rfl, sameT z36 sx, lx, dl36, fnd, l20 f6, fsub, fun r5 H37 s37 q37 => ?_⟩
            have z37 := z36.trans s37
            have lb37 := s37 _ _ q36
            have dl37 := s37 _ _ dl36
            refine ⟨le 3 (by decide), fun k1 hk1 => ?_⟩
            have s38 := same_new (o := HO.lst [V.bl true, V.ref lb, V.ref r5]) hk1
            have k38 : (upd H37 k1 (HO.lst [V.bl true, V.ref lb, V.ref r5])) k1 = _ := upd_same
            generalize upd H37 k1 (HO.lst [V.bl true, V.ref lb, V.ref r5]) = H38 at s38 k38 ⊢
            refine ⟨_, rfl, _, rfl, le 3 (by decide), fun k2 hk2 => ?_⟩
            have s39 := s38.trans (same_new (o := HO.lst [V.bl true, V.ref dl, V.ref ta]) hk2)
            have k39 := upd_some (u := HO.lst [V.bl true, V.ref dl, V.ref ta]) k38 hk2
            have k39' : (upd H38 k2 (HO.lst [V.bl true, V.ref dl, V.ref ta])) k2 = _ := upd_same
            generalize upd H38 k2 (HO.lst [V.bl true, V.ref dl, V.ref ta]) = H39 at s39 k39 k39' ⊢
            have z39 := z37.trans s39
            have e5 : (names22.map fun n => if n ∈ sorted22.filter (difQ ds es) then dsF es n else dsF ds n) = es := by
              rw [← styd_six se, styd_six se]
              conv => rhs; rw [← styd_six se]
              refine List.map_congr_left fun n hn => ?_
              by_cases c : n ∈ sorted22.filter (difQ ds es)
              · rw [if_pos c]
              · rw [if_neg c]
                have : difQ ds es n = false := Bool.eq_false_iff.mpr fun z => c (List.mem_filter.mpr ⟨sorted_perm22.mem_iff.mpr hn, z⟩)
                have : PyData.eqv (dsF ds n) (dsF es n) = true := by
                  unfold difQ at this
                  simpa using this
                exact flat_eqv (styd_at sd hn).fl (styd_at se hn).fl this
            have t5 : Dx K H39 (.ref r5) (.tuple es) := by
              refine .tup (sameT s39 q37) ?_
              have := laid_dxf (v := stV ys) (dv := dsF es) (ns := sorted22.filter (difQ ds es)) (DxAll.same z39 dx) fun n _ _ => dx_at (DxAll.same z39 dy) n
              rw [e5] at this
              exact this
            have ldx : ∀ {p : Addr}, H39 p = some (.dK (lay (stV ys) (sorted22.filter (difQ ds es)))) → Dx K H39 (.ref p) (.dict ((sorted22.filter (difQ ds es)).map fun n => (.str n, dsF es n))) := fun h => lay_dx h fnd fun n _ => dx_at (DxAll.same z39 dy) n
            have lok : SzX 3 7000 (.dict ((sorted22.filter (difQ ds es)).map fun n => (.str n, dsF es n))) := sz_ents (fun n hn => ⟨fsub n hn, (styd_at se (fsub n hn)).gd⟩) f6
            refine ⟨.ref k1, .ref k2, .list [.bool true, .dict ((sorted22.filter (difQ ds es)).map fun n => (.str n, dsF es n)), .tuple es], rfl, .lst (SqL.of k39) (.cons (.bl true) (.cons (ldx (s39 _ _ lb37)) (.cons t5 .nil))), .lst (SqL.of k39') (.cons (.bl true) (.cons (ldx (s39 _ _ dl37)) (.cons (.tup (sameT z39 sy) (DxAll.same z39 dy)) .nil))),
              okx_of (SzX.lst (SzL.cons (n := 3) (M := 10) (d := .bool true) ⟨rfl, Nat.zero_le _, by decide⟩ (SzL.cons lok (SzL.cons (sz_sty se) (SzL.nil (M := 0)))))) (by decide) (by decide), fun H40 s40 => ⟨_, rfl, ?_⟩⟩
            refine iteF ?_
            have z40 := z39.trans s40
            have s8i := s8h.trans (s35.trans (s36.trans (s37.trans (s39.trans s40))))
            clear t5 ldx lok k39 k39' s39 s38 k38 hk1 hk2 lb37 dl37 q37 s37 q36 s36 dl36 dl35 s35 z39 z37 z36 z35 nbp e5 fnd fsub f6 less31 B31 s8h z31 s40
            have bag40 := bag8.same s8i
            refine ⟨rfl, fun po ov H41 s41 hpo q41 A41 l41 => ?_⟩
            have bag41 := bag40.same s41
            have hb40 : H40 g.b ≠ none := fun z => by
              obtain ⟨o, ho⟩ := bag40.ob
              rw [z] at ho
              cases ho
            have A41 : OddG K (hid g.b H41) ov := OddG.same A41 (nwi_hid hb40)
            have z41 : Same Gz (hid g.b H41) := same_hid (z40.trans s41) zbn
            have npo := bag40.ne_new hpo
            have s841 := s8i.trans s41
            clear z40 s41 hpo s8i hb40 bag40
            refine ⟨po, rfl, ⟨_, SqL.of q41⟩, fun R hR => ?_⟩
            have nR := bag41.ne_new hR
            have npR : po ≠ R := fun z => by rw [z, hR] at q41; cases q41
            have GR : (hid g.b H41) R = none := by rw [hid_ne nR]; exact hR
            have D0 : Vf.Drawn g H41 (upd H41 R (HO.lst [])) 0 0 := (Drawn.of bag41).new hR
            refine lc_it (walk_list (K := K) (a := po) (xs := ov)) (fun i H' => ∃ os : List Addr, H' R = some (.lst (os.map V.ref)) ∧ Vf.Drawn g H41 H' 0 0 ∧ os.length = i ∧ ∀ o ∈ os, OddX P w K (hid R (hid g.b H')) o) ⟨[], upd_same, D0, rfl, fun o ho => absurd ho (by simp)⟩ (fun i H' _ ⟨_, _, h, _⟩ => SqL.of (h.keep npo q41)) ?_ ?_
            · rintro i v H42 H43 hiv ⟨os, d42, D42, los, X42⟩ ⟨rfl, hv⟩
              have hiv : i < 24 := by rw [← l41]; exact hiv
              obtain ⟨d, vd, vz, vf⟩ := A41 v (List.mem_of_getElem? hv)
              have z42 : Same Gz H43 := z41.trans ((hid_fr D42.fr).trans (hid_same _ _))
              refine ⟨rfl, ?_⟩
              delta tYes
              refine iteT ?_
              refine ⟨_, rfl, D, _, _, _, rfl, rfl, ixD z42, atI_nat (j := 0) rfl, p0, lay (stV x0) n0, rfl, z42 _ _ L0.at', fun H44 pl tl k44 npl ntl nin q44 pr44 => ?_⟩
              have D44 := D42.trans (Drawn.same D42.bag k44)
              have plb := D42.bag.ne_new npl
              have tlb : ∀ t ∈ tl, t ≠ g.b := fun t ht => D42.bag.ne_new (ntl t ht)
              have d44 := k44 _ _ d42
              have ml6 : ([V.str "width", V.str "rank", V.str "lists", V.str "gap", V.int 1, V.non] : List V).length = 6 := rfl
              refine ⟨_, rfl, le 6 (by decide), fun ml hml => ?_⟩
              have D45 := D44.new (o := HO.lst [V.str "width", V.str "rank", V.str "lists", V.str "gap", V.int 1, V.non]) hml
              have E45 := (Drawn.of D44.bag).new (o := HO.lst [V.str "width", V.str "rank", V.str "lists", V.str "gap", V.int 1, V.non]) hml
              refine ⟨g, _, 0, 0, rfl, D45.bag, .inl ⟨ml, _, rfl, .inl (SqL.of upd_same), D44.bag.ne_new hml, by decide, by decide, fun kv H46 hkv D46' => ?_⟩⟩
              obtain ⟨ko, rfl, hko⟩ : ∃ ko : Option Key, kv = okV ko ∧ okey ko := by
                simp only [List.mem_cons, List.not_mem_nil, or_false] at hkv
                unfold okey
                rcases hkv with rfl | rfl | rfl | rfl | rfl | rfl
                · exact ⟨some (.inr "width"), rfl, by simp⟩
                · exact ⟨some (.inr "rank"), rfl, by simp⟩
                · exact ⟨some (.inr "lists"), rfl, by simp⟩
                · exact ⟨some (.inr "gap"), rfl, by simp⟩
                · exact ⟨some (.inl 1), rfl, by simp⟩
                · exact ⟨none, rfl, by simp⟩
              have D46 := D45.trans D46'
              have E46 := E45.trans D46'
              have d46 := E46.keep nR d44
              have q46 := E46.keep plb q44
              have pr46 : Paired (fun t (e : Option Key × V) => H46 t = some (.tup [okV e.1, e.2]) ∧ t ≠ g.b) tl (itN x0 n0) := by
                rw [itN_lift]
                unfold liftK
                have go : ∀ {tl : List Addr} {kvs : List (Key × V)}, Paired (fun t q => H44 t = some (HO.tup [kV q.fst, q.snd])) tl kvs → (∀ t ∈ tl, t ≠ g.b) → Paired (fun t (e : Option Key × V) => H46 t = some (.tup [okV e.1, e.2]) ∧ t ≠ g.b) tl (kvs.map fun q => (some q.1, q.2)) := fun h => by
                  induction h with
                  | nil => exact fun _ => .nil
                  | cons a _ ih => exact fun hn => .cons ⟨E46.keep (hn _ List.mem_cons_self) a, hn _ List.mem_cons_self⟩ (ih fun t ht => hn t (List.mem_cons_of_mem _ ht))
                exact go pr44 tlb
              have E46 := (Drawn.same D42.bag k44).trans E46
              clear E45 D45 D46' hml hkv D44 pr44 q44 k44 npl ntl nin ml6
              refine ⟨_, rfl, le 2 (by decide), fun tp htp => ?_⟩
              have s47 := same_new (o := HO.tup [okV ko, v]) htp
              have t47 : (upd H46 tp (HO.tup [okV ko, v])) tp = some (.tup [okV ko, v]) := upd_same
              generalize upd H46 tp (HO.tup [okV ko, v]) = H47 at s47 t47 ⊢
              refine ⟨le 1 (by decide), fun lo hlo => ?_⟩
              have s48 := s47.trans (same_new (o := HO.lst [V.ref tp]) hlo)
              have t48 := upd_some (u := HO.lst [V.ref tp]) t47 hlo
              have lo48 : (upd H47 lo (HO.lst [V.ref tp])) lo = some (.lst [V.ref tp]) := upd_same
              generalize upd H47 lo (HO.lst [V.ref tp]) = H48 at s48 t48 lo48 ⊢
              have tl6 : tl.length ≤ 6 := by
                rw [pr46.length]
                unfold itN
                rw [List.length_map]
                exact L0.l6
              refine ⟨pl, lo, tl.map V.ref, [V.ref tp], rfl, rfl, s48 _ _ q46, lo48, ?_, fun ll3 hll3 => ?_⟩
              · rw [List.length_map]
                exact Nat.le_trans (show tl.length + 1 ≤ 10 by omega) (by decide)
              have ecat : tl.map V.ref ++ [V.ref tp] = (tl ++ [tp]).map V.ref := by rw [List.map_append]; rfl
              rw [ecat]
              have s49 := s48.trans (same_new (o := HO.lst ((tl ++ [tp]).map V.ref)) hll3)
              have t49 := upd_some (u := HO.lst ((tl ++ [tp]).map V.ref)) t48 hll3
              have l49 : (upd H48 ll3 (HO.lst ((tl ++ [tp]).map V.ref))) ll3 = some (.lst ((tl ++ [tp]).map V.ref)) := upd_same
              generalize upd H48 ll3 (HO.lst ((tl ++ [tp]).map V.ref)) = H49 at s49 t49 l49 ⊢
              have pr49 : Paired (fun t (e : Option Key × V) => SqT K H49 t [okV e.1, e.2]) (tl ++ [tp]) (itN x0 n0 ++ [(ko, v)]) := prd_app (pr46.mono fun t e h => SqT.of (s49 _ _ h.1)) (.cons (SqT.of t49) .nil)
              refine ⟨ll3, tl ++ [tp], itN x0 n0 ++ [(ko, v)], rfl, SqL.of l49, pr49, fun dn hdn => ?_⟩
              rw [mergeN_it L0.nd]
              have D49 := D46.trans (Drawn.same D46.bag s49)
              have d49 := s49 _ _ d46
              have ndb := D49.bag.ne_new hdn
              have ndR : dn ≠ R := fun z => by rw [z, d49] at hdn; cases hdn
              have dn41 := drawn_none D49 ndb hdn
              have Gq : (hid g.b H41) dn = none := by rw [hid_ne ndb]; exact dn41
              have D50 := D49.new (o := noO P w dn (putK (itN x0 n0) ko v)) hdn
              have d50 := upd_some (u := noO P w dn (putK (itN x0 n0) ko v)) d49 hdn
              have dn50 : (upd H49 dn (noO P w dn (putK (itN x0 n0) ko v))) dn = some (noO P w dn (putK (itN x0 n0) ko v)) := upd_same
              have E50 := (E46.trans (Drawn.same D46.bag s49)).new (o := noO P w dn (putK (itN x0 n0) ko v)) hdn
              generalize upd H49 dn (noO P w dn (putK (itN x0 n0) ko v)) = H50 at D50 d50 dn50 E50 ⊢
              have upE : Same (hid R (hid g.b H43)) (hid R (hid g.b (upd H50 R (HO.lst (os.map V.ref ++ [V.ref dn]))))) := (hid_le (hid_fr E50.fr)).trans (hid2_put _)
              have q41E : Same (hid g.b H41) (hid g.b (upd H50 R (HO.lst (os.map V.ref ++ [V.ref dn])))) := fun x o e => by
                have m : x ≠ R := fun z => by rw [z, GR] at e; cases e
                have n := hid_none e
                have := hid_fr D50.fr x o e
                rw [hid_ne n] at this ⊢
                rw [upd_ne m]
                exact this
              have q41G := same_hid (same_hid q41E GR) Gq
              refine ⟨_, d50, ?_, os ++ [dn], ?_, D50.put bag41 hR, by rw [List.length_append, los]; rfl, fun o ho => ?_⟩
              · rw [List.length_map, los]
                exact Nat.lt_of_lt_of_le (show i < 100 by omega) (by decide)
              · rw [upd_same, List.map_append]
                rfl
              · rcases List.mem_append.mp ho with ho | ho
                · exact (X42 o ho).mono upE
                · rw [List.mem_singleton.mp ho]
                  refine odd_made L0.nd L0.sub (DxAll.same (z41.trans q41G) L0.dx) L0.sd hko (Dx.same q41G vd) vz vf ?_
                  rw [hid_ne ndR, hid_ne ndb, upd_ne ndR]
                  exact dn50
            · rintro H42 ⟨os, d42, D42, los, X42⟩
              have los : os.length = 24 := los.trans l41
              refine ⟨_, rfl, _, rfl, _, rfl, g, R, os.map V.ref, 0, 0, rfl, D42.bag, .inl (SqL.of d42), nR, by rw [List.length_map, los]; decide, fun q ys' H43 pm hq q43 D43 => ?_⟩
              obtain ⟨us, rfl, pu⟩ := perm_ref pm
              have X43 : ∀ o ∈ us, OddX P w K H43 o := fun o ho => (((X42 o (pu.mem_iff.mp ho)).mono (hid_same _ _)).mono (hid_fr D43.fr)).mono (hid_same _ _)
              have z43 : Same Gz H43 := z41.trans ((hid_fr (D42.trans D43).fr).trans (hid_same _ _))
              have bag43 := D43.bag
              have lus : us.length = 24 := pu.length_eq.trans los
              clear X42 d42 D42 D43 pm hq A41 q41 D0 hR GR npR nR pu z41
              refine ⟨_, rfl, q, us.map V.ref, rfl, SqL.of q43, fun r hr => ?_⟩
              have ec : cutV (us.map V.ref) none (some (9 : Int)) = (us.take 9).map V.ref := by
                rw [List.map_take]
                exact cut_to (us.map V.ref) (j := 9) (by rw [List.length_map, lus]; decide)
              rw [ec]
              have s44 := same_new (o := HO.lst ((us.take 9).map V.ref)) hr
              have r44 : (upd H43 r (HO.lst ((us.take 9).map V.ref))) r = some (.lst ((us.take 9).map V.ref)) := upd_same
              generalize upd H43 r (HO.lst ((us.take 9).map V.ref)) = H44 at s44 r44 ⊢
              have l9 : (us.take 9).length = 9 := by
                rw [List.length_take]
                omega
              refine ⟨D, r, [V.ref p0, V.ref p1, V.ref p2], (us.take 9).map V.ref, rfl, rfl, (z43.trans s44) _ _ dZ, r44, ?_, fun c1 hc1 => ?_⟩
              · rw [List.length_map, l9]
                show 3 + 9 ≤ sizeLine
                decide
              have s45 := s44.trans (same_new (o := HO.lst ([V.ref p0, V.ref p1, V.ref p2] ++ (us.take 9).map V.ref)) hc1)
              have c45 : (upd H44 c1 (HO.lst ([V.ref p0, V.ref p1, V.ref p2] ++ (us.take 9).map V.ref))) c1 = some (.lst ([V.ref p0, V.ref p1, V.ref p2] ++ (us.take 9).map V.ref)) := upd_same
              generalize upd H44 c1 (HO.lst ([V.ref p0, V.ref p1, V.ref p2] ++ (us.take 9).map V.ref)) = H45 at s45 c45 ⊢
              have z45 := z43.trans s45
              refine ⟨_, rfl, D, _, _, _, rfl, rfl, ixD z45, atI_nat (j := 0) rfl, p0, lay (stV x0) n0, rfl, z45 _ _ L0.at', fun H46 pl tl k46 _ _ _ q46 pr46 => ?_⟩
              have k46 : Same H45 H46 := k46
              refine ⟨_, rfl, le 3 (by decide), fun c2 hc2 => ?_⟩
              have s47 := k46.trans (same_new (o := HO.lst [V.non, V.ref pl, V.ref sa]) hc2)
              have q47 := upd_some (u := HO.lst [V.non, V.ref pl, V.ref sa]) q46 hc2
              have pr47 := pr46.mono fun t (e : Key × V) h => upd_some (u := HO.lst [V.non, V.ref pl, V.ref sa]) h hc2
              have c47 : (upd H46 c2 (HO.lst [V.non, V.ref pl, V.ref sa])) c2 = some (.lst [V.non, V.ref pl, V.ref sa]) := upd_same
              generalize upd H46 c2 (HO.lst [V.non, V.ref pl, V.ref sa]) = H47 at s47 q47 pr47 c47 ⊢
              refine ⟨c1, c2, _, _, rfl, rfl, s47 _ _ c45, c47, ?_, fun th hth => ?_⟩
              · rw [List.length_append, List.length_map, l9]
                show 3 + 9 + 3 ≤ sizeLine
                decide
              have s48 := (s45.trans s47).trans (same_new (o := HO.lst (([V.ref p0, V.ref p1, V.ref p2] ++ (us.take 9).map V.ref) ++ [V.non, V.ref pl, V.ref sa])) hth)
              have q48 := upd_some (u := HO.lst (([V.ref p0, V.ref p1, V.ref p2] ++ (us.take 9).map V.ref) ++ [V.non, V.ref pl, V.ref sa])) q47 hth
              have pr48 := pr47.mono fun t (e : Key × V) h => upd_some (u := HO.lst (([V.ref p0, V.ref p1, V.ref p2] ++ (us.take 9).map V.ref) ++ [V.non, V.ref pl, V.ref sa])) h hth
              have th48 : (upd H47 th (HO.lst (([V.ref p0, V.ref p1, V.ref p2] ++ (us.take 9).map V.ref) ++ [V.non, V.ref pl, V.ref sa]))) th = some (.lst (([V.ref p0, V.ref p1, V.ref p2] ++ (us.take 9).map V.ref) ++ [V.non, V.ref pl, V.ref sa])) := upd_same
              generalize upd H47 th (HO.lst (([V.ref p0, V.ref p1, V.ref p2] ++ (us.take 9).map V.ref) ++ [V.non, V.ref pl, V.ref sa])) = H48 at s48 q48 pr48 th48 ⊢
              have z48 := z43.trans s48
              have bag48 := bag43.same s48
              have all : ∀ x ∈ ([V.ref p0, V.ref p1, V.ref p2] ++ (us.take 9).map V.ref) ++ [V.non, V.ref pl, V.ref sa], ThX P w K H48 x := fun x hx => by
                rcases List.mem_append.mp hx with hx | hx
                · rcases List.mem_append.mp hx with hx | hx
                  · simp only [List.mem_cons, List.not_mem_nil, or_false] at hx
                    rcases hx with rfl | rfl | rfl
                    · exact .inr ⟨p0, rfl, (L0.mono z48).odd⟩
                    · exact .inr ⟨p1, rfl, (L1.mono z48).odd⟩
                    · exact .inr ⟨p2, rfl, (L2.mono z48).odd⟩
                  · obtain ⟨o, ho, rfl⟩ := List.mem_map.mp hx
                    exact .inr ⟨o, rfl, (X43 o (List.mem_of_mem_take ho)).mono s48⟩
                · simp only [List.mem_cons, List.not_mem_nil, or_false] at hx
                  rcases hx with rfl | rfl | rfl
                  · exact .inl ⟨.none, .non, ⟨rfl, Nat.zero_le _, by decide⟩, rfl⟩
                  · refine .inl ⟨.list (n0.map fun n => .tuple [.str n, dsF f0 n]), .lst (SqL.of q48) (its_dx (DxAll.same z48 L0.dx) pr48), okx_of ((SzX.lst (its_sz L0.sd L0.sub)).mono (Nat.le_refl _) (?_ : _ ≤ 8000)) (by decide) (by decide), rfl⟩
                    have : n0.length * 1200 ≤ 6 * 1200 := Nat.mul_le_mul_right _ L0.l6
                    omega
                  · exact .inl ⟨.tuple ds, .tup (sameT z48 sx) (DxAll.same z48 dx), okx_of (sz_sty sd) (by decide) (by decide), rfl⟩
              clear pr48 q48 pr47 q47 c47 c45 r44 q43 s44 s45 s47 k46 z45 z43 X43 bag43 hth hc2 hc1 hr
              generalize ([V.ref p0, V.ref p1, V.ref p2] ++ (us.take 9).map V.ref) ++ [V.non, V.ref pl, V.ref sa] = things at th48 all
              refine ⟨th, rfl, ⟨_, SqL.of th48⟩, for_it (walk_list (K := K) (a := th) (xs := things)) (fun i σ H' => ∃ v14 v15 : Option V, σ = [some (.ref a), some (.ref g.b), some (.int (0 + (ti : Nat))), some (.ref sa), some (.ref ta), some (.ref D), some (.str SH), some (.ref due), some (.ref B), v9, some (.ref told), some (.ref less), some (.ref dl), some (.ref R), v14, v15, w16, w17, w18, w19, w20, w21] ∧ Same H48 H')
                ⟨_, _, rfl, Same.refl _⟩ (fun i σ' H' _ ⟨_, _, _, h⟩ => SqL.of (h _ _ th48)) ?_ ?_⟩
              · rintro i x σ' H49 H50 hi9 ⟨v14, v15, rfl, s49⟩ ⟨rfl, hx⟩
                have tx := (all x (List.mem_of_getElem? hx)).mono s49
                have okb : ∀ b : Bool, OkX (.bool b) := fun b => ⟨rfl, Nat.zero_le _, by show 5 ≤ 16000000; decide⟩
                rcases tx with ⟨d, hd, okd, nd⟩ | ⟨o, rfl, X⟩
                · refine ⟨_, rfl, .inl ⟨x, d, rfl, hd, okd, ?_⟩⟩
                  refine ⟨_, rfl, x, rfl, .inl ⟨d, hd, nd, fun H51 s51 => ?_⟩⟩
                  refine ⟨_, rfl, x, rfl, .inl ⟨d, Dx.same s51 hd, nd, fun H52 s52 => ?_⟩⟩
                  refine ⟨.bl false, .bl false, .bool false, rfl, .bl _, .bl _, okb _, fun H53 s53 => ⟨_, rfl, ?_⟩⟩
                  have sA := s51.trans (s52.trans s53)
                  refine iteF ?_
                  refine ⟨_, rfl, .inl ⟨x, d, rfl, Dx.same sA hd, okd, _, rfl, rfl, ?_⟩⟩
                  rw [show decide (V.str d.shown = V.str d.shown) = true from decide_eq_true rfl]
                  refine ⟨_, rfl, ?_⟩
                  refine iteF ?_
                  exact ⟨_, _, rfl, s49.trans sA⟩
                · obtain ⟨ks, dks, N, nod, l100, DX, okN, rk⟩ := X.ex
                  refine ⟨_, rfl, .inr ⟨o, ks, dks, rfl, N.r, DxAll.same (hid_same _ _) DX, okN, ?_⟩⟩
                  refine ⟨_, rfl, .ref o, rfl, .inr ⟨o, ks, dks, rfl, N, nod, l100, DX, rk, fun H51 s51 => ?_⟩⟩
                  refine ⟨_, rfl, .ref o, rfl, .inr ⟨o, ks, dks, rfl, N.same s51, nod, l100, DxAll.same (hid_le s51) DX, rk, fun H52 s52 => ?_⟩⟩
                  refine ⟨.bl _, .bl _, .bool _, rfl, .bl _, .bl _, okb _, fun H53 s53 => ⟨_, rfl, ?_⟩⟩
                  have sA := s51.trans (s52.trans s53)
                  refine iteF ?_
                  refine ⟨_, rfl, .inr ⟨o, ks, dks, rfl, (N.same sA).r, DxAll.same sA (DxAll.same (hid_same _ _) DX), okN, _, rfl, rfl, ?_⟩⟩
                  rw [show decide (V.str (noD ks dks).shown = V.str (noD ks dks).shown) = true from decide_eq_true rfl]
                  refine ⟨_, rfl, ?_⟩
                  refine iteF ?_
                  exact ⟨_, _, rfl, s49.trans sA⟩
              · rintro σ' H49 ⟨v14, v15, rfl, s49⟩
                refine ⟨_, rfl, _, rfl, _, rfl, le 3 (by decide), fun le9 hle9 => ?_⟩
                have s50 := s49.trans (same_new (o := HO.lst [V.ref sa, V.ref ta, V.ref D]) hle9)
                refine .inl ⟨.ref le9, DD, rfl, dxD (z48.trans s50) upd_same, okD, _, rfl, rfl, ?_⟩
                rw [hsh, show decide (V.str SH = V.str SH) = true from decide_eq_true rfl]
                refine ⟨_, rfl, ?_⟩
                refine iteF ?_
                exact ⟨_, _, _, _, _, _, _, _, _, _, _, _, _, _, _, _, _, _, _, _, rfl, bag48.same s50⟩
    · rintro σ H5 ⟨w2, w3, w4, w5, w6, w7, w8, w9, w10, w11, w12, w13, w14, w15, w16, w17, w18, w19, w20, w21, rfl, B5⟩
      exact k H5

theorem law_all (T : Txt K mg w) (sb : ∃ o, base.get? sysModules = some o ∧ o.cls = .type "dict") {f : Addr} {fd : FuncData} (F : Fun K "law" "law" s_p_law f fd) : FnG P w K mg base 8 f fd ["_law_script"] (spLaw23 K) := by
  have take : Cal P w K mg base 1 "_law_take" spTake [] := c_l_take T
  have one : Cal P w K mg base 2 "_law_one" (spOne K) [] := c_l_one T take
  have mixed : Cal P w K mg base 2 "_law_mixed" (spMixed K) [] := c_l_mixed T take
  have alike : CalG P w K mg base 1 "_law_alike" (spAlikeV K) := c_l_alike T sb
  have wds : Cal P w K mg base 1 "_law_style_words" spWds [] := c_l_style_words T
  have sty : Cal P w K mg base 3 "_law_style" (spStyl K) [] := c_l_style T take one
  have nam : Cal P w K mg base 1 "named" (spNamed K) [] := c_p_named T
  have ovr : Cal P w K mg base 2 "over" spOver [] := c_p_over T (c_p_ascending T)
  have can : Cal P w K mg base 2 "can_be" (spCan K) [] := c_p_can_be T (c_p_is_integer T) (c_p_is_rank T)
  exact fn_law23 T sb F (c_l_bag T) one mixed alike sty (c_l_layer T wds sty mixed one) (c_l_laid T wds) wds (c_l_odd_values T) (c_p_laid T nam (c_p_style_of T) ovr) ovr (c_p_layer_between T nam) (c_p_is_layer T can) (c_l_is_layer T wds (c_l_is_value T (c_l_integer T)))

end
theorem all_mk {l : PySem.W.OpenLaw} {w : World} {K : PySem.W.Frag} {h : Heap} {mg : Str → Option Value} {fa : Addr} (X : K.In h) (G : h.Ns mainGlobals mg) (hfa : mg "law" = some (.ref fa))
    {f0 : Addr} {od0 an0 : Option Addr} {sl0 : Array (Option Value)} {oc0 kV0 dc0 pm0 cd0 ct0 : Value}
    {f1 : Addr} {od1 an1 : Option Addr} {sl1 : Array (Option Value)} {oc1 kV1 dc1 pm1 cd1 ct1 : Value}
    {f2 : Addr} {od2 an2 : Option Addr} {sl2 : Array (Option Value)} {oc2 kV2 dc2 pm2 cd2 ct2 : Value}
    {f3 : Addr} {od3 an3 : Option Addr} {sl3 : Array (Option Value)} {oc3 kV3 dc3 pm3 cd3 ct3 : Value}
    {f4 : Addr} {od4 an4 : Option Addr} {sl4 : Array (Option Value)} {oc4 kV4 dc4 pm4 cd4 ct4 : Value}
    {f5 : Addr} {od5 an5 : Option Addr} {sl5 : Array (Option Value)} {oc5 kV5 dc5 pm5 cd5 ct5 : Value}
    {f6 : Addr} {od6 an6 : Option Addr} {sl6 : Array (Option Value)} {oc6 kV6 dc6 pm6 cd6 ct6 : Value}
    {f7 : Addr} {od7 an7 : Option Addr} {sl7 : Array (Option Value)} {oc7 kV7 dc7 pm7 cd7 ct7 : Value}
    {f8 : Addr} {od8 an8 : Option Addr} {sl8 : Array (Option Value)} {oc8 kV8 dc8 pm8 cd8 ct8 : Value}
    {f9 : Addr} {od9 an9 : Option Addr} {sl9 : Array (Option Value)} {oc9 kV9 dc9 pm9 cd9 ct9 : Value}
    {f10 : Addr} {od10 an10 : Option Addr} {sl10 : Array (Option Value)} {oc10 kV10 dc10 pm10 cd10 ct10 : Value}
    {f11 : Addr} {od11 an11 : Option Addr} {sl11 : Array (Option Value)} {oc11 kV11 dc11 pm11 cd11 ct11 : Value}
    {f12 : Addr} {od12 an12 : Option Addr} {sl12 : Array (Option Value)} {oc12 kV12 dc12 pm12 cd12 ct12 : Value}
    {f13 : Addr} {od13 an13 : Option Addr} {sl13 : Array (Option Value)} {oc13 kV13 dc13 pm13 cd13 ct13 : Value}
    {f14 : Addr} {od14 an14 : Option Addr} {sl14 : Array (Option Value)} {oc14 kV14 dc14 pm14 cd14 ct14 : Value}
    {f15 : Addr} {od15 an15 : Option Addr} {sl15 : Array (Option Value)} {oc15 kV15 dc15 pm15 cd15 ct15 : Value}
    {f16 : Addr} {od16 an16 : Option Addr} {sl16 : Array (Option Value)} {oc16 kV16 dc16 pm16 cd16 ct16 : Value}
    {f17 : Addr} {od17 an17 : Option Addr} {sl17 : Array (Option Value)} {oc17 kV17 dc17 pm17 cd17 ct17 : Value}
    {f18 : Addr} {od18 an18 : Option Addr} {sl18 : Array (Option Value)} {oc18 kV18 dc18 pm18 cd18 ct18 : Value}
    {f19 : Addr} {od19 an19 : Option Addr} {sl19 : Array (Option Value)} {oc19 kV19 dc19 pm19 cd19 ct19 : Value}
    {f20 : Addr} {od20 an20 : Option Addr} {sl20 : Array (Option Value)} {oc20 kV20 dc20 pm20 cd20 ct20 : Value}
    {f21 : Addr} {od21 an21 : Option Addr} {sl21 : Array (Option Value)} {oc21 kV21 dc21 pm21 cd21 ct21 : Value}
    {f22 : Addr} {od22 an22 : Option Addr} {sl22 : Array (Option Value)} {oc22 kV22 dc22 pm22 cd22 ct22 : Value}
    {f23 : Addr} {od23 an23 : Option Addr} {sl23 : Array (Option Value)} {oc23 kV23 dc23 pm23 cd23 ct23 : Value}
    {e_BOUNDS : Addr} {es_BOUNDS : Array DictEntry} {en_BOUNDS : Nat}
    {b0_BOUNDS : Addr} {td0_BOUNDS : Option Addr} {its0_BOUNDS : Array Value} {tn0_BOUNDS : Nat} {ts0_BOUNDS : Array (Option Value)}
    {b1_BOUNDS : Addr} {td1_BOUNDS : Option Addr} {its1_BOUNDS : Array Value} {tn1_BOUNDS : Nat} {ts1_BOUNDS : Array (Option Value)}
    {b2_BOUNDS : Addr} {td2_BOUNDS : Option Addr} {its2_BOUNDS : Array Value} {tn2_BOUNDS : Nat} {ts2_BOUNDS : Array (Option Value)}
    {e_WORDS : Addr} {es_WORDS : Array DictEntry} {en_WORDS : Nat}
    {b0_WORDS : Addr} {td0_WORDS : Option Addr} {its0_WORDS : Array Value} {tn0_WORDS : Nat} {ts0_WORDS : Array (Option Value)}
    {b1_WORDS : Addr} {td1_WORDS : Option Addr} {its1_WORDS : Array Value} {tn1_WORDS : Nat} {ts1_WORDS : Array (Option Value)}
    {e_PARTS : Addr} {td_PARTS : Option Addr} {its_PARTS : Array Value} {tn_PARTS : Nat} {ts_PARTS : Array (Option Value)}
    {e_NAMES : Addr} {its_NAMES : Array Value} {tn_NAMES : Nat} {ts_NAMES : Array (Option Value)}
    (a0 : PySem.W.nsIn K mainGlobals "is_integer" = some (some (.ref f0))) (l0 : K.lookup f0 = some ⟨oc0, od0, .func (PySem.W.fnOf "is_integer" "is_integer" (defArgs s_p_is_integer) (defBody s_p_is_integer) (defScope s_p_is_integer) .none kV0 dc0 pm0 an0 cd0 ct0), sl0⟩) (c0 : PySem.W.codeIn K cd0 "is_integer" = true) (k0 : PySem.W.keepIn K (.ref f0) = true)
    (a1 : PySem.W.nsIn K mainGlobals "is_rank" = some (some (.ref f1))) (l1 : K.lookup f1 = some ⟨oc1, od1, .func (PySem.W.fnOf "is_rank" "is_rank" (defArgs s_p_is_rank) (defBody s_p_is_rank) (defScope s_p_is_rank) .none kV1 dc1 pm1 an1 cd1 ct1), sl1⟩) (c1 : PySem.W.codeIn K cd1 "is_rank" = true) (k1 : PySem.W.keepIn K (.ref f1) = true)
    (a2 : PySem.W.nsIn K mainGlobals "can_be" = some (some (.ref f2))) (l2 : K.lookup f2 = some ⟨oc2, od2, .func (PySem.W.fnOf "can_be" "can_be" (defArgs s_p_can_be) (defBody s_p_can_be) (defScope s_p_can_be) .none kV2 dc2 pm2 an2 cd2 ct2), sl2⟩) (c2 : PySem.W.codeIn K cd2 "can_be" = true) (k2 : PySem.W.keepIn K (.ref f2) = true)
    (a3 : PySem.W.nsIn K mainGlobals "named" = some (some (.ref f3))) (l3 : K.lookup f3 = some ⟨oc3, od3, .func (PySem.W.fnOf "named" "named" (defArgs s_p_named) (defBody s_p_named) (defScope s_p_named) .none kV3 dc3 pm3 an3 cd3 ct3), sl3⟩) (c3 : PySem.W.codeIn K cd3 "named" = true) (k3 : PySem.W.keepIn K (.ref f3) = true)
    (a4 : PySem.W.nsIn K mainGlobals "style_of" = some (some (.ref f4))) (l4 : K.lookup f4 = some ⟨oc4, od4, .func (PySem.W.fnOf "style_of" "style_of" (defArgs s_p_style_of) (defBody s_p_style_of) (defScope s_p_style_of) .none kV4 dc4 pm4 an4 cd4 ct4), sl4⟩) (c4 : PySem.W.codeIn K cd4 "style_of" = true) (k4 : PySem.W.keepIn K (.ref f4) = true)
    (a5 : PySem.W.nsIn K mainGlobals "is_layer" = some (some (.ref f5))) (l5 : K.lookup f5 = some ⟨oc5, od5, .func (PySem.W.fnOf "is_layer" "is_layer" (defArgs s_p_is_layer) (defBody s_p_is_layer) (defScope s_p_is_layer) .none kV5 dc5 pm5 an5 cd5 ct5), sl5⟩) (c5 : PySem.W.codeIn K cd5 "is_layer" = true) (k5 : PySem.W.keepIn K (.ref f5) = true)
    (a6 : PySem.W.nsIn K mainGlobals "_ascending" = some (some (.ref f6))) (l6 : K.lookup f6 = some ⟨oc6, od6, .func (PySem.W.fnOf "_ascending" "_ascending" (defArgs s_p_ascending) (defBody s_p_ascending) (defScope s_p_ascending) .none kV6 dc6 pm6 an6 cd6 ct6), sl6⟩) (c6 : PySem.W.codeIn K cd6 "_ascending" = true) (k6 : PySem.W.keepIn K (.ref f6) = true)
    (a7 : PySem.W.nsIn K mainGlobals "laid" = some (some (.ref f7))) (l7 : K.lookup f7 = some ⟨oc7, od7, .func (PySem.W.fnOf "laid" "laid" (defArgs s_p_laid) (defBody s_p_laid) (defScope s_p_laid) .none kV7 dc7 pm7 an7 cd7 ct7), sl7⟩) (c7 : PySem.W.codeIn K cd7 "laid" = true) (k7 : PySem.W.keepIn K (.ref f7) = true)
    (a8 : PySem.W.nsIn K mainGlobals "over" = some (some (.ref f8))) (l8 : K.lookup f8 = some ⟨oc8, od8, .func (PySem.W.fnOf "over" "over" (defArgs s_p_over) (defBody s_p_over) (defScope s_p_over) .none kV8 dc8 pm8 an8 cd8 ct8), sl8⟩) (c8 : PySem.W.codeIn K cd8 "over" = true) (k8 : PySem.W.keepIn K (.ref f8) = true)
    (a9 : PySem.W.nsIn K mainGlobals "layer_between" = some (some (.ref f9))) (l9 : K.lookup f9 = some ⟨oc9, od9, .func (PySem.W.fnOf "layer_between" "layer_between" (defArgs s_p_layer_between) (defBody s_p_layer_between) (defScope s_p_layer_between) .none kV9 dc9 pm9 an9 cd9 ct9), sl9⟩) (c9 : PySem.W.codeIn K cd9 "layer_between" = true) (k9 : PySem.W.keepIn K (.ref f9) = true)
    (a10 : PySem.W.nsIn K mainGlobals "_law_bag" = some (some (.ref f10))) (l10 : K.lookup f10 = some ⟨oc10, od10, .func (PySem.W.fnOf "_law_bag" "_law_bag" (defArgs s_l_bag) (defBody s_l_bag) (defScope s_l_bag) .none kV10 dc10 pm10 an10 cd10 ct10), sl10⟩) (c10 : PySem.W.codeIn K cd10 "_law_bag" = true) (k10 : PySem.W.keepIn K (.ref f10) = true)
    (a11 : PySem.W.nsIn K mainGlobals "_law_take" = some (some (.ref f11))) (l11 : K.lookup f11 = some ⟨oc11, od11, .func (PySem.W.fnOf "_law_take" "_law_take" (defArgs s_l_take) (defBody s_l_take) (defScope s_l_take) .none kV11 dc11 pm11 an11 cd11 ct11), sl11⟩) (c11 : PySem.W.codeIn K cd11 "_law_take" = true) (k11 : PySem.W.keepIn K (.ref f11) = true)
    (a12 : PySem.W.nsIn K mainGlobals "_law_one" = some (some (.ref f12))) (l12 : K.lookup f12 = some ⟨oc12, od12, .func (PySem.W.fnOf "_law_one" "_law_one" (defArgs s_l_one) (defBody s_l_one) (defScope s_l_one) .none kV12 dc12 pm12 an12 cd12 ct12), sl12⟩) (c12 : PySem.W.codeIn K cd12 "_law_one" = true) (k12 : PySem.W.keepIn K (.ref f12) = true)
    (a13 : PySem.W.nsIn K mainGlobals "_law_mixed" = some (some (.ref f13))) (l13 : K.lookup f13 = some ⟨oc13, od13, .func (PySem.W.fnOf "_law_mixed" "_law_mixed" (defArgs s_l_mixed) (defBody s_l_mixed) (defScope s_l_mixed) .none kV13 dc13 pm13 an13 cd13 ct13), sl13⟩) (c13 : PySem.W.codeIn K cd13 "_law_mixed" = true) (k13 : PySem.W.keepIn K (.ref f13) = true)
    (a14 : PySem.W.nsIn K mainGlobals "_law_alike" = some (some (.ref f14))) (l14 : K.lookup f14 = some ⟨oc14, od14, .func (PySem.W.fnOf "_law_alike" "_law_alike" (defArgs s_l_alike) (defBody s_l_alike) (defScope s_l_alike) .none kV14 dc14 pm14 an14 cd14 ct14), sl14⟩) (c14 : PySem.W.codeIn K cd14 "_law_alike" = true) (k14 : PySem.W.keepIn K (.ref f14) = true)
    (a15 : PySem.W.nsIn K mainGlobals "_law_integer" = some (some (.ref f15))) (l15 : K.lookup f15 = some ⟨oc15, od15, .func (PySem.W.fnOf "_law_integer" "_law_integer" (defArgs s_l_integer) (defBody s_l_integer) (defScope s_l_integer) .none kV15 dc15 pm15 an15 cd15 ct15), sl15⟩) (c15 : PySem.W.codeIn K cd15 "_law_integer" = true) (k15 : PySem.W.keepIn K (.ref f15) = true)
    (a16 : PySem.W.nsIn K mainGlobals "_law_style" = some (some (.ref f16))) (l16 : K.lookup f16 = some ⟨oc16, od16, .func (PySem.W.fnOf "_law_style" "_law_style" (defArgs s_l_style) (defBody s_l_style) (defScope s_l_style) .none kV16 dc16 pm16 an16 cd16 ct16), sl16⟩) (c16 : PySem.W.codeIn K cd16 "_law_style" = true) (k16 : PySem.W.keepIn K (.ref f16) = true)
    (a17 : PySem.W.nsIn K mainGlobals "_law_style_words" = some (some (.ref f17))) (l17 : K.lookup f17 = some ⟨oc17, od17, .func (PySem.W.fnOf "_law_style_words" "_law_style_words" (defArgs s_l_style_words) (defBody s_l_style_words) (defScope s_l_style_words) .none kV17 dc17 pm17 an17 cd17 ct17), sl17⟩) (c17 : PySem.W.codeIn K cd17 "_law_style_words" = true) (k17 : PySem.W.keepIn K (.ref f17) = true)
    (a18 : PySem.W.nsIn K mainGlobals "_law_is_value" = some (some (.ref f18))) (l18 : K.lookup f18 = some ⟨oc18, od18, .func (PySem.W.fnOf "_law_is_value" "_law_is_value" (defArgs s_l_is_value) (defBody s_l_is_value) (defScope s_l_is_value) .none kV18 dc18 pm18 an18 cd18 ct18), sl18⟩) (c18 : PySem.W.codeIn K cd18 "_law_is_value" = true) (k18 : PySem.W.keepIn K (.ref f18) = true)
    (a19 : PySem.W.nsIn K mainGlobals "_law_is_layer" = some (some (.ref f19))) (l19 : K.lookup f19 = some ⟨oc19, od19, .func (PySem.W.fnOf "_law_is_layer" "_law_is_layer" (defArgs s_l_is_layer) (defBody s_l_is_layer) (defScope s_l_is_layer) .none kV19 dc19 pm19 an19 cd19 ct19), sl19⟩) (c19 : PySem.W.codeIn K cd19 "_law_is_layer" = true) (k19 : PySem.W.keepIn K (.ref f19) = true)
    (a20 : PySem.W.nsIn K mainGlobals "_law_laid" = some (some (.ref f20))) (l20 : K.lookup f20 = some ⟨oc20, od20, .func (PySem.W.fnOf "_law_laid" "_law_laid" (defArgs s_l_laid) (defBody s_l_laid) (defScope s_l_laid) .none kV20 dc20 pm20 an20 cd20 ct20), sl20⟩) (c20 : PySem.W.codeIn K cd20 "_law_laid" = true) (k20 : PySem.W.keepIn K (.ref f20) = true)
    (a21 : PySem.W.nsIn K mainGlobals "_law_layer" = some (some (.ref f21))) (l21 : K.lookup f21 = some ⟨oc21, od21, .func (PySem.W.fnOf "_law_layer" "_law_layer" (defArgs s_l_layer) (defBody s_l_layer) (defScope s_l_layer) .none kV21 dc21 pm21 an21 cd21 ct21), sl21⟩) (c21 : PySem.W.codeIn K cd21 "_law_layer" = true) (k21 : PySem.W.keepIn K (.ref f21) = true)
    (a22 : PySem.W.nsIn K mainGlobals "_law_odd_values" = some (some (.ref f22))) (l22 : K.lookup f22 = some ⟨oc22, od22, .func (PySem.W.fnOf "_law_odd_values" "_law_odd_values" (defArgs s_l_odd_values) (defBody s_l_odd_values) (defScope s_l_odd_values) .none kV22 dc22 pm22 an22 cd22 ct22), sl22⟩) (c22 : PySem.W.codeIn K cd22 "_law_odd_values" = true) (k22 : PySem.W.keepIn K (.ref f22) = true)
    (a23 : PySem.W.nsIn K mainGlobals "law" = some (some (.ref f23))) (l23 : K.lookup f23 = some ⟨oc23, od23, .func (PySem.W.fnOf "law" "law" (defArgs s_p_law) (defBody s_p_law) (defScope s_p_law) .none kV23 dc23 pm23 an23 cd23 ct23), sl23⟩) (c23 : PySem.W.codeIn K cd23 "law" = true) (k23 : PySem.W.keepIn K (.ref f23) = true)
    (z_abs : PySem.W.nsIn K mainGlobals "abs" = some none)
    (z_int : PySem.W.nsIn K mainGlobals "int" = some none)
    (z_len : PySem.W.nsIn K mainGlobals "len" = some none)
    (z_range : PySem.W.nsIn K mainGlobals "range" = some none)
    (z_repr : PySem.W.nsIn K mainGlobals "repr" = some none)
    (z_isinstance : PySem.W.nsIn K mainGlobals "isinstance" = some none)
    (z_list : PySem.W.nsIn K mainGlobals "list" = some none)
    (z_enumerate : PySem.W.nsIn K mainGlobals "enumerate" = some none)
    (z_str : PySem.W.nsIn K mainGlobals "str" = some none)
    (z_tuple : PySem.W.nsIn K mainGlobals "tuple" = some none)
    (z_bool : PySem.W.nsIn K mainGlobals "bool" = some none)
    (z_all : PySem.W.nsIn K mainGlobals "all" = some none)
    (z_zip : PySem.W.nsIn K mainGlobals "zip" = some none)
    (z_sorted : PySem.W.nsIn K mainGlobals "sorted" = some none)
    (z_dict : PySem.W.nsIn K mainGlobals "dict" = some none)
    (da_BOUNDS : PySem.W.nsIn K mainGlobals "BOUNDS" = some (some (.ref e_BOUNDS))) (dl_BOUNDS : K.lookup e_BOUNDS = some ⟨.type "dict", none, .dict es_BOUNDS en_BOUNDS, #[]⟩) (dw_BOUNDS : (e_BOUNDS == sysModules) = false) (dk_BOUNDS : KdL w [(.inr "width", .ref b0_BOUNDS), (.inr "step", .ref b1_BOUNDS), (.inr "blanks", .ref b2_BOUNDS)] es_BOUNDS.toList)
    (vl0_BOUNDS : K.lookup b0_BOUNDS = some ⟨.type "tuple", td0_BOUNDS, .seq its0_BOUNDS tn0_BOUNDS, ts0_BOUNDS⟩) (vv0_BOUNDS : Vals [V.int 8, V.int 120] its0_BOUNDS.toList) (vz0_BOUNDS : its0_BOUNDS.size ≤ sizeLine)
    (vl1_BOUNDS : K.lookup b1_BOUNDS = some ⟨.type "tuple", td1_BOUNDS, .seq its1_BOUNDS tn1_BOUNDS, ts1_BOUNDS⟩) (vv1_BOUNDS : Vals [V.int 0, V.int 8] its1_BOUNDS.toList) (vz1_BOUNDS : its1_BOUNDS.size ≤ sizeLine)
    (vl2_BOUNDS : K.lookup b2_BOUNDS = some ⟨.type "tuple", td2_BOUNDS, .seq its2_BOUNDS tn2_BOUNDS, ts2_BOUNDS⟩) (vv2_BOUNDS : Vals [V.int 0, V.int 3] its2_BOUNDS.toList) (vz2_BOUNDS : its2_BOUNDS.size ≤ sizeLine)
    (da_WORDS : PySem.W.nsIn K mainGlobals "WORDS" = some (some (.ref e_WORDS))) (dl_WORDS : K.lookup e_WORDS = some ⟨.type "dict", none, .dict es_WORDS en_WORDS, #[]⟩) (dw_WORDS : (e_WORDS == sysModules) = false) (dk_WORDS : KdL w [(.inr "operators", .ref b0_WORDS), (.inr "lists", .ref b1_WORDS)] es_WORDS.toList)
    (vl0_WORDS : K.lookup b0_WORDS = some ⟨.type "tuple", td0_WORDS, .seq its0_WORDS tn0_WORDS, ts0_WORDS⟩) (vv0_WORDS : Vals [V.str "ahead", V.str "behind"] its0_WORDS.toList) (vz0_WORDS : its0_WORDS.size ≤ sizeLine)
    (vl1_WORDS : K.lookup b1_WORDS = some ⟨.type "tuple", td1_WORDS, .seq its1_WORDS tn1_WORDS, ts1_WORDS⟩) (vv1_WORDS : Vals [V.str "fill", V.str "rows"] its1_WORDS.toList) (vz1_WORDS : its1_WORDS.size ≤ sizeLine)
    (ta_PARTS : PySem.W.nsIn K mainGlobals "PARTS" = some (some (.ref e_PARTS))) (tl_PARTS : K.lookup e_PARTS = some ⟨.type "tuple", td_PARTS, .seq its_PARTS tn_PARTS, ts_PARTS⟩) (tv_PARTS : Vals (tp_PARTS.map V.str) its_PARTS.toList) (tz_PARTS : its_PARTS.size ≤ sizeLine)
    (ta_NAMES : PySem.W.nsIn K mainGlobals "NAMES" = some (some (.ref e_NAMES))) (tl_NAMES : K.lookup e_NAMES = some ⟨.type "tuple", none, .seq its_NAMES tn_NAMES, ts_NAMES⟩) (tv_NAMES : Vals (tp_NAMES.map V.str) its_NAMES.toList) (tz_NAMES : its_NAMES.size ≤ sizeLine) :
    ∃ (fd : FuncData) (L : List (Addr × Addr)), (∀ p ∈ L, PySem.W.codeHdIn K p.1 p.2 = true ∧ K.lookup p.2 = none) ∧ L.map (·.2) = [] ∧ (∀ (s : Shared) (v : Value), BindsTo s fd ⟨[v], []⟩ [("_law_script", v)]) ∧ ∀ base : Heap, K.In base → base.Ns mainGlobals mg → (True → ∃ o, base.get? sysModules = some o ∧ o.cls = .type "dict") → (∀ p ∈ L, LamX.TabB base mg p.1 p.2) → FnG l.prog w K mg base 8 fa fd ["_law_script"] (spLaw23 K) := by
  have e := hfa.symm.trans (PySem.W.mg_of X G a23)
  cases e
  have T : Txt K mg w := {
    d_p_is_integer := defIn_mk X G a0 l0 c0 k0 fun _ _ _ _ _ _ us hl => match us, hl with | [_], _ => rfl
    d_p_is_rank := defIn_mk X G a1 l1 c1 k1 fun _ _ _ _ _ _ us hl => match us, hl with | [_], _ => rfl
    d_p_can_be := defIn_mk X G a2 l2 c2 k2 fun _ _ _ _ _ _ us hl => match us, hl with | [_, _], _ => rfl
    d_p_named := defIn_mk X G a3 l3 c3 k3 fun _ _ _ _ _ _ us hl => match us, hl with | [_], _ => rfl
    d_p_style_of := defIn_mk X G a4 l4 c4 k4 fun _ _ _ _ _ _ us hl => match us, hl with | [_], _ => rfl
    d_p_is_layer := defIn_mk X G a5 l5 c5 k5 fun _ _ _ _ _ _ us hl => match us, hl with | [_], _ => rfl
    d_p_ascending := defIn_mk X G a6 l6 c6 k6 fun _ _ _ _ _ _ us hl => match us, hl with | [_], _ => rfl
    d_p_laid := defIn_mk X G a7 l7 c7 k7 fun _ _ _ _ _ _ us hl => match us, hl with | [_, _], _ => rfl
    d_p_over := defIn_mk X G a8 l8 c8 k8 fun _ _ _ _ _ _ us hl => match us, hl with | [_, _], _ => rfl
    d_p_layer_between := defIn_mk X G a9 l9 c9 k9 fun _ _ _ _ _ _ us hl => match us, hl with | [_, _], _ => rfl
    d_l_bag := defIn_mk X G a10 l10 c10 k10 fun _ _ _ _ _ _ us hl => match us, hl with | [_], _ => rfl
    d_l_take := defIn_mk X G a11 l11 c11 k11 fun _ _ _ _ _ _ us hl => match us, hl with | [_, _], _ => rfl
    d_l_one := defIn_mk X G a12 l12 c12 k12 fun _ _ _ _ _ _ us hl => match us, hl with | [_, _], _ => rfl
    d_l_mixed := defIn_mk X G a13 l13 c13 k13 fun _ _ _ _ _ _ us hl => match us, hl with | [_, _], _ => rfl
    d_l_alike := defIn_mk X G a14 l14 c14 k14 fun _ _ _ _ _ _ us hl => match us, hl with | [_, _], _ => rfl
    d_l_integer := defIn_mk X G a15 l15 c15 k15 fun _ _ _ _ _ _ us hl => match us, hl with | [_], _ => rfl
    d_l_style := defIn_mk X G a16 l16 c16 k16 fun _ _ _ _ _ _ us hl => match us, hl with | [_], _ => rfl
    d_l_style_words := defIn_mk X G a17 l17 c17 k17 fun _ _ _ _ _ _ us hl => match us, hl with | [], _ => rfl
    d_l_is_value := defIn_mk X G a18 l18 c18 k18 fun _ _ _ _ _ _ us hl => match us, hl with | [_, _], _ => rfl
    d_l_is_layer := defIn_mk X G a19 l19 c19 k19 fun _ _ _ _ _ _ us hl => match us, hl with | [_], _ => rfl
    d_l_laid := defIn_mk X G a20 l20 c20 k20 fun _ _ _ _ _ _ us hl => match us, hl with | [_, _], _ => rfl
    d_l_layer := defIn_mk X G a21 l21 c21 k21 fun _ _ _ _ _ _ us hl => match us, hl with | [_], _ => rfl
    d_l_odd_values := defIn_mk X G a22 l22 c22 k22 fun _ _ _ _ _ _ us hl => match us, hl with | [], _ => rfl
    d_p_law := defIn_mk X G a23 l23 c23 k23 fun _ _ _ _ _ _ us hl => match us, hl with | [_], _ => rfl
    n_abs := PySem.W.mg_none_of X G z_abs
    n_int := PySem.W.mg_none_of X G z_int
    n_len := PySem.W.mg_none_of X G z_len
    n_range := PySem.W.mg_none_of X G z_range
    n_repr := PySem.W.mg_none_of X G z_repr
    n_isinstance := PySem.W.mg_none_of X G z_isinstance
    n_list := PySem.W.mg_none_of X G z_list
    n_enumerate := PySem.W.mg_none_of X G z_enumerate
    n_str := PySem.W.mg_none_of X G z_str
    n_tuple := PySem.W.mg_none_of X G z_tuple
    n_bool := PySem.W.mg_none_of X G z_bool
    n_all := PySem.W.mg_none_of X G z_all
    n_zip := PySem.W.mg_none_of X G z_zip
    n_sorted := PySem.W.mg_none_of X G z_sorted
    n_dict := PySem.W.mg_none_of X G z_dict
    ti_NAMES := ⟨_, _, PySem.W.mg_of X G ta_NAMES, tl_NAMES, rfl, rfl, fun H => .inr ⟨_, _, _, tl_NAMES, rfl, rfl, tz_NAMES, tv_NAMES⟩⟩
    k_BOUNDS := ⟨_, _, _, _, PySem.W.mg_of X G da_BOUNDS, ⟨_, _, dl_BOUNDS, dw_BOUNDS, dk_BOUNDS⟩, fun H => .inr ⟨_, _, _, vl0_BOUNDS, rfl, rfl, vz0_BOUNDS, vv0_BOUNDS⟩, fun H => .inr ⟨_, _, _, vl1_BOUNDS, rfl, rfl, vz1_BOUNDS, vv1_BOUNDS⟩, fun H => .inr ⟨_, _, _, vl2_BOUNDS, rfl, rfl, vz2_BOUNDS, vv2_BOUNDS⟩⟩
    k_WORDS := ⟨_, _, _, PySem.W.mg_of X G da_WORDS, ⟨_, _, dl_WORDS, dw_WORDS, dk_WORDS⟩, fun H => .inr ⟨_, _, _, vl0_WORDS, rfl, rfl, vz0_WORDS, vv0_WORDS⟩, fun H => .inr ⟨_, _, _, vl1_WORDS, rfl, rfl, vz1_WORDS, vv1_WORDS⟩⟩
    t_PARTS := ⟨_, PySem.W.mg_of X G ta_PARTS, fun H => .inr ⟨_, _, _, tl_PARTS, rfl, rfl, tz_PARTS, tv_PARTS⟩⟩
    t_NAMES := ⟨_, PySem.W.mg_of X G ta_NAMES, fun H => .inr ⟨_, _, _, tl_NAMES, rfl, rfl, tz_NAMES, tv_NAMES⟩⟩
  }
  have F := fun_mk (st := s_p_law) l23 c23 k23
  refine ⟨_, [], fun p hp => ?_, rfl, fun s v => .of_eq rfl, fun base kin _ SB TB => law_all T (SB trivial) F   ⟩
  simp only [List.mem_cons, List.not_mem_nil, or_false] at hp
end Lw
open PySem PySem.W PyProof.Rows
local macro_rules | `(tactic| o_head ($f $a $b $c)) => `(tactic| o_head (Vf.sysHook ($f $a $b $c)))
set_option maxRecDepth 100000 in
set_option maxHeartbeats 0 in
theorem PySem.Challenge.cw_leastlaid_k23_layers_over_styles_holds : PySem.Challenge.rw_leastlaid_k23_layers_over_styles.Holds := by
  w_on; o_law; k_head; (case hw => w_witness2)
  k_fill
  refine Vf.walk_ofX (S := True) (l := PySem.Challenge.rw_leastlaid_k23_layers_over_styles) (n := 63) (k := 8) (x := "_law_script") (sp := fun w => Lw.spLaw23 _) (Ts := []) rfl (by decide) rfl ⟨rfl, by decide, by decide⟩ (fun w h Y => ⟨⟨PySem.W.kIn_of Y.1, fun _ h => nomatch h⟩, fun _ => Y.2⟩) ?F (fun _ _ a ns hl _ hS => ⟨a, ns, rfl, hS, hl, fun _ => rfl⟩)
  case F =>
    intro w mg fa h KX G hmg
    refine' Lw.all_mk KX G hmg ?a0 ?l0 ?c0 ?k0 ?a1 ?l1 ?c1 ?k1 ?a2 ?l2 ?c2 ?k2 ?a3 ?l3 ?c3 ?k3 ?a4 ?l4 ?c4 ?k4 ?a5 ?l5 ?c5 ?k5 ?a6 ?l6 ?c6 ?k6 ?a7 ?l7 ?c7 ?k7 ?a8 ?l8 ?c8 ?k8 ?a9 ?l9 ?c9 ?k9 ?a10 ?l10 ?c10 ?k10 ?a11 ?l11 ?c11 ?k11 ?a12 ?l12 ?c12 ?k12 ?a13 ?l13 ?c13 ?k13 ?a14 ?l14 ?c14 ?k14 ?a15 ?l15 ?c15 ?k15 ?a16 ?l16 ?c16 ?k16 ?a17 ?l17 ?c17 ?k17 ?a18 ?l18 ?c18 ?k18 ?a19 ?l19 ?c19 ?k19 ?a20 ?l20 ?c20 ?k20 ?a21 ?l21 ?c21 ?k21 ?a22 ?l22 ?c22 ?k22 ?a23 ?l23 ?c23 ?k23 ?z_abs ?z_int ?z_len ?z_range ?z_repr ?z_isinstance ?z_list ?z_enumerate ?z_str ?z_tuple ?z_bool ?z_all ?z_zip ?z_sorted ?z_dict ?da_BOUNDS ?dl_BOUNDS ?dw_BOUNDS ?dk_BOUNDS ?vl0_BOUNDS ?vv0_BOUNDS ?vz0_BOUNDS ?vl1_BOUNDS ?vv1_BOUNDS ?vz1_BOUNDS ?vl2_BOUNDS ?vv2_BOUNDS ?vz2_BOUNDS ?da_WORDS ?dl_WORDS ?dw_WORDS ?dk_WORDS ?vl0_WORDS ?vv0_WORDS ?vz0_WORDS ?vl1_WORDS ?vv1_WORDS ?vz1_WORDS ?ta_PARTS ?tl_PARTS ?tv_PARTS ?tz_PARTS ?ta_NAMES ?tl_NAMES ?tv_NAMES ?tz_NAMES
    (case a0 => k_is)
    (case l0 => k_is)
    (case c0 => k_is)
    (case k0 => k_is)
    (case a1 => k_is)
    (case l1 => k_is)
    (case c1 => k_is)
    (case k1 => k_is)
    (case a2 => k_is)
    (case l2 => k_is)
    (case c2 => k_is)
    (case k2 => k_is)
    (case a3 => k_is)
    (case l3 => k_is)
    (case c3 => k_is)
    (case k3 => k_is)
    (case a4 => k_is)
    (case l4 => k_is)
    (case c4 => k_is)
    (case k4 => k_is)
    (case a5 => k_is)
    (case l5 => k_is)
    (case c5 => k_is)
    (case k5 => k_is)
    (case a6 => k_is)
    (case l6 => k_is)
    (case c6 => k_is)
    (case k6 => k_is)
    (case a7 => k_is)
    (case l7 => k_is)
    (case c7 => k_is)
    (case k7 => k_is)
    (case a8 => k_is)
    (case l8 => k_is)
    (case c8 => k_is)
    (case k8 => k_is)
    (case a9 => k_is)
    (case l9 => k_is)
    (case c9 => k_is)
    (case k9 => k_is)
    (case a10 => k_is)
    (case l10 => k_is)
    (case c10 => k_is)
    (case k10 => k_is)
    (case a11 => k_is)
    (case l11 => k_is)
    (case c11 => k_is)
    (case k11 => k_is)
    (case a12 => k_is)
    (case l12 => k_is)
    (case c12 => k_is)
    (case k12 => k_is)
    (case a13 => k_is)
    (case l13 => k_is)
    (case c13 => k_is)
    (case k13 => k_is)
    (case a14 => k_is)
    (case l14 => k_is)
    (case c14 => k_is)
    (case k14 => k_is)
    (case a15 => k_is)
    (case l15 => k_is)
    (case c15 => k_is)
    (case k15 => k_is)
    (case a16 => k_is)
    (case l16 => k_is)
    (case c16 => k_is)
    (case k16 => k_is)
    (case a17 => k_is)
    (case l17 => k_is)
    (case c17 => k_is)
    (case k17 => k_is)
    (case a18 => k_is)
    (case l18 => k_is)
    (case c18 => k_is)
    (case k18 => k_is)
    (case a19 => k_is)
    (case l19 => k_is)
    (case c19 => k_is)
    (case k19 => k_is)
    (case a20 => k_is)
    (case l20 => k_is)
    (case c20 => k_is)
    (case k20 => k_is)
    (case a21 => k_is)
    (case l21 => k_is)
    (case c21 => k_is)
    (case k21 => k_is)
    (case a22 => k_is)
    (case l22 => k_is)
    (case c22 => k_is)
    (case k22 => k_is)
    (case a23 => k_is)
    (case l23 => k_is)
    (case c23 => k_is)
    (case k23 => k_is)
    (case z_abs => k_is)
    (case z_int => k_is)
    (case z_len => k_is)
    (case z_range => k_is)
    (case z_repr => k_is)
    (case z_isinstance => k_is)
    (case z_list => k_is)
    (case z_enumerate => k_is)
    (case z_str => k_is)
    (case z_tuple => k_is)
    (case z_bool => k_is)
    (case z_all => k_is)
    (case z_zip => k_is)
    (case z_sorted => k_is)
    (case z_dict => k_is)
    (case da_BOUNDS => k_is)
    (case dl_BOUNDS => k_is)
    (case dw_BOUNDS => first | rfl | decide | k_is)
    (case dk_BOUNDS => exact ⟨rfl, rfl, rfl, ⟨rfl, rfl, rfl, ⟨rfl, rfl, rfl, trivial⟩⟩⟩)
    (case vl0_BOUNDS => k_is)
    (case vv0_BOUNDS => exact .cons ⟨_, rfl⟩ (.cons ⟨_, rfl⟩ (.nil)))
    (case vz0_BOUNDS => decide)
    (case vl1_BOUNDS => k_is)
    (case vv1_BOUNDS => exact .cons ⟨_, rfl⟩ (.cons ⟨_, rfl⟩ (.nil)))
    (case vz1_BOUNDS => decide)
    (case vl2_BOUNDS => k_is)
    (case vv2_BOUNDS => exact .cons ⟨_, rfl⟩ (.cons ⟨_, rfl⟩ (.nil)))
    (case vz2_BOUNDS => decide)
    (case da_WORDS => k_is)
    (case dl_WORDS => k_is)
    (case dw_WORDS => first | rfl | decide | k_is)
    (case dk_WORDS => exact ⟨rfl, rfl, rfl, ⟨rfl, rfl, rfl, trivial⟩⟩)
    (case vl0_WORDS => k_is)
    (case vv0_WORDS => exact .cons ⟨_, rfl⟩ (.cons ⟨_, rfl⟩ (.nil)))
    (case vz0_WORDS => decide)
    (case vl1_WORDS => k_is)
    (case vv1_WORDS => exact .cons ⟨_, rfl⟩ (.cons ⟨_, rfl⟩ (.nil)))
    (case vz1_WORDS => decide)
    (case ta_PARTS => k_is)
    (case tl_PARTS => k_is)
    (case tv_PARTS => exact .cons ⟨_, rfl⟩ (.cons ⟨_, rfl⟩ (.cons ⟨_, rfl⟩ (.nil))))
    (case tz_PARTS => decide)
    (case ta_NAMES => k_is)
    (case tl_NAMES => k_is)
    (case tv_NAMES => exact .cons ⟨_, rfl⟩ (.cons ⟨_, rfl⟩ (.cons ⟨_, rfl⟩ (.cons ⟨_, rfl⟩ (.cons ⟨_, rfl⟩ (.cons ⟨_, rfl⟩ (.nil)))))))
    (case tz_NAMES => decide)
