import PyProof.Rows.All
import Wide.All
import OpenK.AllK
import Wide.FinOn
import HandS.ForMost
import HandS.Evl
import HandS.Codes
import HandS.RaiseMore
import PyProof.ReprRoads
import HandS.RaiseOp
import HandS.Walk
import PyProof.StrLawsRepr
import PyProof.FitsInt
import HandS.Lambda
import HandS.EndTab
import HandS.CallLocal
import HandS.EndOwn
import HandS.ExcInit
import HandS.ExcField
import HandS.ExcOwn
import HandS.WordsExc
import HandS.SortInts
import HandS.Style
import PyProof.StrLawsOcc
import HandS.StrMore
import PyProof.StrOps2
import HandS.DictComp
import HandS.SortRule
import HandS.More
import HandS.Deep
import KE.KEqNest
import KE.SortData
import KE.KDictLaw
import KE.KExcIs
import HandS.IsInst
import HandS.ExcIs
import HandS.ExcValue
import HandS.TupAny
import KE.KDictZip
import HandS.Zip0
import HandS.Zip
import HandS.SortOrd
import PyProof.TupleOfSeq
import HandS.Strs
import PyProof.DictUpdate
import PyProof.Rows.TupDisplay
import HandS.ReplaceLit
import HandS.TryMany
import PyProof.StrReplace2
import HandS.SortKw
import HandS.DictTup
import HandS.Finally
import KE.SortUse
import KE.GoesZip
import KE.GoesMore
import KE.KDictKeyed
import KE.KDictCopyH
import HandS.Set
import HandS.SetFor
import PyProof.Rows.SetFrom
import PySem.Challenge.RW_leastlaid_k25_whole_nearest_styles
set_option Elab.async false
set_option linter.all false
set_option maxRecDepth 100000
set_option maxHeartbeats 4000000
/-! Own words, for every law: defs whose promise is kept where no repr is under way (FnG), repr of data, a list's item changed by +=. -/
namespace Vf
open PySem PySem.Spec PyProof.Rows L2

/-- a def that keeps its promise wherever no repr is under way -/
structure FnG (P : Program) (w : World) (K : PySem.W.Frag)
    (mg : Str → Option Value) (base : Heap) (k : Nat) (f : Addr)
    (fd : FuncData) (ps : List Str) (sp : Sp) : Prop where
  many : ∀ vs H Q E, sp vs H Q E → vs.length = ps.length
  go : ∀ (A : Around) (outer : List Env) (s : Shared) (H : Hp)
    (args : Args) (us : List Value) (vs : List V) (Q : VK) (E : XK),
    Room k A → A.guards = some [] → Env0 P w K mg base A outer s H →
    BindsTo s fd args (ps.zip us) → Vals vs us → sp vs H Q E →
    codeAny (model P w) A (.call (.ref f) args)
      (CR CX0 outer P w H s Q E) s

section
variable {P : Program} {w : World} {K : PySem.W.Frag}
  {mg : Str → Option Value} {base : Heap}

theorem FnG.of_fn {k : Nat} {f : Addr} {fd : FuncData} {ps : List Str} {sp : Sp}
    (F : FnOk P w K mg base CX0 k f fd ps sp) : FnG P w K mg base k f fd ps sp :=
  ⟨F.len, fun A o s H a us vs Q E hr _ e b r q =>
    F.run A o s H a us vs Q E hr e b r q⟩

/-- by its body, as Fun.ok does it -/
theorem fnG_of {x qual : Str} {st : Stmt} {f : Addr} {fd : FuncData}
    {N ps : List Str} {k : Nat} {sp : Sp}
    (F : Fun K x qual st f fd) (S : FnScope N ps (defScope st))
    (many : ∀ vs H Q E, sp vs H Q E → vs.length = ps.length)
    (body : ∀ (cdv : Value) (A : Around) (outer : List Env)
      (s : Shared) (H : Hp) (vs : List V) (Q : VK) (E : XK),
      Room k (A.deeper (envOfC qual (defScope st)
        s.heap.objs.size f cdv)) →
      A.guards = some [] → sp vs H Q E →
      ∃ t, PSs (cxOf CX0 P w K mg base N qual (defScope st)
          f cdv A outer s H E).nox (defBody st) t ∧
        t { nx := fun _ H' => Q .non H', rt := Q }
          (start N vs) H) :
    FnG P w K mg base (k + 1) f fd ps sp := by
  obtain ⟨_, _, _, _, _, _, cdv, _, _, rfl, lk, hcd⟩ := F.ex
  refine ⟨many, fun A outer s H args us vs Q E hr hg e0 hb r hsp => ?_⟩
  have hlen := many _ _ _ _ hsp
  have KX : K.In s.heap := e0.mod.kin.keeps
    (fun b o e => (e0.bs b o e).1)
  have lim := e0.mod.nolimit.keeps
    (fun b o e => (e0.bs b o e).1)
  have kinds : ∀ y ∈ ps.zip us,
      (defScope st).names.lookup y.1 = some .local ∨
      ((defScope st).names.lookup y.1 = some .cell ∧
        ((cellsFrom (s.heap.objs.size + 1)
          (defScope st).names []).lookup y.1).isSome = true) := by
    rintro ⟨n, v⟩ hy
    cases S.par n (List.of_mem_zip hy).1 with
    | inl q => exact .inl q
    | inr q => exact .inr ⟨q, PySem.W.cellsFrom_some _ _ _ (.inl q)⟩
  refine codeAny_call_function hr.depth (KX _ _ lk) rfl
    S.co S.gen rfl (PySem.W.codeRec_of KX hcd) (hb _ _ _ _ ?_)
  refine wpAny_newFunctionEnv_cells S.kind kinds
    (fun env he s1 x => ?_)
  subst he
  refine ⟨lim.keeps x.toInCall.keep, codeAny_func ?_⟩
  obtain ⟨t, ht, hq⟩ := body cdv A outer s H vs Q E
    (hr.deeper _) hg hsp
  have I := inv_start (CX := CX0) (E := E) S hr.hd e0 hlen r x
  refine wpAny_mono (ht.nox.run [] s1 (start N vs) H _ I hq)
    (fun fl s' hs => ?_) (fun _ _ hs => hs)
  cases fl with
  | brk => exact (hs.choose_spec.choose_spec.2 : False).elim
  | cont => exact (hs.choose_spec.choose_spec.2 : False).elim
  | next =>
    obtain ⟨_, H', J, q⟩ := hs
    exact ⟨V.non, H', J.os, J.bare, J.base, J.hok, rfl, q⟩
  | ret u =>
    obtain ⟨v, _, H', J, rv, q⟩ := hs
    exact ⟨v, H', J.os, J.bare, J.base, J.hok, rv, q⟩
end

/-- a call of such a def -/
theorem pe_callG {X : Cx} {k : Nat} {f : Addr} {fd : FuncData}
    {ps : List Str} {sp : Sp} {x : Str} {p pos : Pos}
    {e : Expr} {es : List Expr} {t : TA}
    (F : FnG X.prog X.w X.K X.mg X.base k f fd ps sp)
    (hr : Room k X.A) (gd : X.A.guards = some [])
    (hg : Gl X x) (hm : X.mg x = some (.ref f))
    (hk : PySem.W.keepIn X.K (.ref f) = true)
    (hb : Binds X.K fd ps []) (ha : PA X (e :: es) t)
    (hdb : (x == ("__debug__" : Str)) = false := by decide)
    (he : starEach (e :: es) X.env =
      (false, eval e X.env) :: starEach es X.env := by rfl)
    (hpl : (backTo pos (starEach es X.env)).any (·.1) = false := by rfl) :
    PE X (.Call (.Name x p) (e :: es) [] pos) (tCall sp [] E0 t) := by
  refine ⟨fun pins s σ H Q I h => wpAny_Call_Name_kw (ld_glob I hg hm ?_ hdb)⟩
  refine PySem.W.callWith_K (h₀ := X.base) I.ok.mod.kin hk
    (thn (ha.run pos pins s σ H _ I h) ?_) he hpl
  rintro us s1 ⟨vs, H1, I1, r, q⟩
  refine ⟨I1.kIn, ?_⟩
  have q' : sp vs H1 Q E0 := by
    have := q
    rw [List.append_nil] at this
    exact this
  have hl : us.length = ps.length := by
    rw [← r.length]
    exact F.many _ _ _ _ q'
  have hb' := hb s1 us I1.kIn (by rw [List.append_nil]; exact hl)
  rw [List.append_nil] at hb'
  refine wpAny_call (codeAny_mono (F.go X.A X.stack s1 H1 ⟨us, []⟩ us vs
    Q E0 hr gd I1.env0 hb' r q') ?_)
  intro res s' hq
  cases res with
  | error e => exact (hq : False).elim
  | ok fl =>
    cases fl with
    | ret u => exact I1.after hq
    | next => exact (hq : False).elim
    | brk => exact (hq : False).elim
    | cont => exact (hq : False).elim

/-- repr of a list or a tuple of data -/
theorem call_reprD {X : Cx} (gd : X.A.guards = some []) (hu : X.A.units + 64 < cLine) :
    CallR X (.builtin "repr") (fun xs H Q => ∃ a d, xs = [.ref a] ∧
      Dp X.K H (.ref a) d ∧ d.showable = true ∧ d.hasDict = false ∧
      d.depth ≤ 60 ∧ d.shown.length ≤ sizeLine ∧ Q (.str d.shown) H) := by
  intro pins s σ H xs us Q I r h
  obtain ⟨a, d, rfl, hd, sh, nd, dp, sz, q⟩ := h
  cases r with
  | cons rv rn =>
    cases rn
    obtain rfl := rv
    obtain ⟨as, rd⟩ := Dp.reads I d _ _ hd rfl
    refine repr_of_reads' rd sh (PyData.noDict_hsm nd) gd (by omega)
      (fun _ _ e => e) (fun h' u tk hk => ?_) sz
    exact ⟨.str d.shown, H, I.kept hk, ⟨u, rfl⟩, q⟩

end Vf

set_option Elab.async false
set_option linter.all false
set_option maxRecDepth 100000
set_option maxHeartbeats 4000000
/-! The end of a law whose def is an FnG. -/
namespace Vf
open PySem PySem.Spec PyProof.Rows L2

section
variable {P : Program} {w : World} {K : PySem.W.Frag}
  {mg mb : Str → Option Value} {k : Nat} {fa a : Addr} {fd : FuncData}
  {x : Str} {sp : Sp} {s₁ : Shared} {vs : List Value} {ns : List Int}

/-- what must be true behind the call -/
abbrev LawEnd (s₁ : Shared) : Result → Shared → Prop := fun r s' =>
  r = .ok (.ret (.bool true)) ∧ OldK s₁.heap s'.heap ∧
    s'.os = s₁.os ∧ AllBare s'.gens

theorem law_goes (KX : K.In s₁.heap)
    (hns : s₁.heap.Ns mainGlobals mg) (hb : s₁.heap.Ns builtinsNs mb)
    (hbb : ∀ y : Str, y ≠ "__name__" → mb y = bootBuiltins y)
    (hlim : s₁.heap.NoLimit) (hgen : s₁.gens = #[])
    (ha : s₁.heap.get? a =
      some { cls := .type "list", data := .seq vs.toArray })
    (hr : Room k callerA)
    (F : ∀ base : Heap, K.In base → base.Ns mainGlobals mg →
      FnG P w K mg base k fa fd [x] sp)
    (bind : ∀ (s : Shared) (u : Value),
      BindsTo s fd ⟨[u], []⟩ [(x, u)])
    (H : Hp) (hO : Only H) (ok : HOk P w H s₁.heap)
    (alone : ∀ b, H b ≠ none → b = a)
    (notK : H a ≠ none → K.lookup a = none)
    (hs : sp [.ref a] H (fun v _ => v = .bl true) fun _ _ _ => False) :
    codeAny (model P w) callerA (.call (.ref fa) ⟨[.ref a], []⟩)
      (LawEnd s₁) s₁ := by
  have free : ∀ {b : Addr} {o : Obj} {es : Array DictEntry} {ep : Nat},
      s₁.heap.get? b = some o → o.data = .dict es ep → H b = none := by
    intro b o es ep e d
    cases q : H b with
    | none => rfl
    | some u =>
      have z : b = a := alone b (by rw [q]; exact Option.some_ne_none u)
      rw [z, ha] at e
      cases e
      cases d
  have ns' : ∀ {b : Addr} {m : Str → Option Value},
      s₁.heap.Ns b m → (hidT s₁.heap H).Ns b m := by
    rintro b m ⟨o, es, ep, e, d, r⟩
    exact ⟨o, es, ep, hidT_get e (free e d), d, r⟩
  have kin : K.In (hidT s₁.heap H) := by
    intro b o e
    refine hidT_get (KX b o e) ?_
    cases q : H b with
    | none => rfl
    | some u =>
      have z : b = a := alone b (by rw [q]; exact Option.some_ne_none u)
      have z2 := notK (by rw [← z, q]; exact Option.some_ne_none u)
      rw [z, z2] at e
      cases e
  have lim' : (hidT s₁.heap H).NoLimit := by
    obtain ⟨mc, h1, h2⟩ := hlim
    exact ⟨mc, ns' h1, h2⟩
  have M : Mod K mg (hidT s₁.heap H) :=
    ⟨kin, ns' hns, ⟨mb, ns' hb, hbb⟩, lim'⟩
  have none_in : ∀ b : Addr, b ∉ ([] : List Addr) := fun b => by simp
  have env : Env0 P w K mg (hidT s₁.heap H) callerA [] s₁ H :=
    ⟨rfl, M, fun b o e => of_hidT e, Nat.le_of_eq (hidT_size _ _),
      trivial, fun b z => absurd z (none_in b), ok, .of_eq hgen⟩
  refine codeAny_mono ((F _ kin (ns' hns)).go callerA [] s₁ H
    ⟨[.ref a], []⟩ [.ref a] [.ref a] _ _ hr rfl env
    (bind s₁ (.ref a)) (.cons rfl .nil) hs) ?_
  intro r s' h
  cases r with
  | error e => exact (h : False).elim
  | ok fl =>
    cases fl with
    | next => exact (h : False).elim
    | brk => exact (h : False).elim
    | cont => exact (h : False).elim
    | ret u =>
      obtain ⟨v, H', os, bare, un, ok', rv, q⟩ := h
      obtain rfl : v = .bl true := q
      obtain rfl : u = Value.bool true := rv
      refine ⟨rfl, OldK.of_keep (fun b o e => ?_), os, bare⟩
      cases q : H b with
      | none => exact un.keep b o e q (none_in b) (none_in b)
      | some u =>
        rcases hO b with z | ⟨ob, xs, z⟩
        · rw [q] at z
          cases z
        · obtain ⟨e1, _⟩ := ok b _ z
          obtain ⟨e2, _⟩ := ok' b _ (un.frzs b ob _ z)
          rw [e] at e1
          cases e1
          exact e2

theorem law_goes2 (KX : K.In s₁.heap)
    (hns : s₁.heap.Ns mainGlobals mg) (hb : s₁.heap.Ns builtinsNs mb)
    (hbb : ∀ y : Str, y ≠ "__name__" → mb y = bootBuiltins y)
    (hlim : s₁.heap.NoLimit) (hgen : s₁.gens = #[])
    (ha : s₁.heap.get? a =
      some { cls := .type "list", data := .seq vs.toArray })
    (hi : IntsAre vs ns) (hl : ns.length ≤ sizeLine)
    (hr : Room k callerA)
    (F : ∀ base : Heap, K.In base → base.Ns mainGlobals mg →
      FnG P w K mg base k fa fd [x] sp)
    (bind : ∀ (s : Shared) (u : Value),
      BindsTo s fd ⟨[u], []⟩ [(x, u)])
    (hs : ∀ H : Hp, Only H → SqL K H a (ns.map V.int) →
      sp [.ref a] H (fun v _ => v = .bl true) fun _ _ _ => False) :
    codeAny (model P w) callerA (.call (.ref fa) ⟨[.ref a], []⟩)
      (LawEnd s₁) s₁ := by
  have rv := vals_ints hi
  cases hk : K.lookup a with
  | some o =>
    have e := KX a o hk
    rw [ha] at e
    cases e
    refine law_goes KX hns hb hbb hlim hgen ha hr F bind
      (fun _ => none) (fun _ => .inl rfl) (fun b u z => by cases z)
      (fun b z => absurd rfl z) (fun z => absurd rfl z) (hs _ (fun _ => .inl rfl) ?_)
    refine .inr ⟨_, vs.toArray, _, hk, rfl, rfl, rfl, ?_, by simpa using rv⟩
    rw [List.size_toArray, hi.length]
    exact hl
  | none =>
    have only : Only (fun b => if b = a then some (.frz { cls := .type "list", data := .seq vs.toArray } (.lst (ns.map V.int))) else none) := by
      intro b
      by_cases q : b = a
      · exact .inr ⟨_, _, if_pos q⟩
      · exact .inl (if_neg q)
    refine law_goes KX hns hb hbb hlim hgen ha hr F bind _ only
      (fun b u z => ?_) (fun b z => ?_) (fun _ => hk)
      (hs _ only (.inl (.inr ⟨_, if_pos rfl⟩)))
    · by_cases q : b = a
      · have z' := (if_pos q).symm.trans z
        cases z'
        subst q
        exact ⟨ha, by rw [List.length_map]; exact hl, vs, _, rv, ha⟩
      · have z' := (if_neg q).symm.trans z
        cases z'
    · by_cases q : b = a
      · exact q
      · exact absurd (if_neg q) z
end

/-- the goal that the head leaves -/
theorem walk_ofG {l : PySem.W.OpenLaw} {n k : Nat} {q : Program}
    {loose : List Str} {XP : (Str → Option Value) → Heap → Prop}
    {YP : World → Heap → Prop} {d : DefRec}
    {K : Params → PySem.W.Frag} {sp : World → Sp} {x : Str}
    (hn : l.most = some n) (hn2 : n ≤ sizeLine)
    (hdf : d.params.defaults = []) (hr : Room k callerA)
    (hY : ∀ (w : World) (h : Heap), YP w h → (K w.params).In h)
    (F : ∀ (w : World) (mg : Str → Option Value) (fa : Addr) (h : Heap),
      (K w.params).In h → h.Ns mainGlobals mg →
      mg d.name = some (.ref fa) →
      ∃ fd : FuncData,
        (∀ (s : Shared) (u : Value), BindsTo s fd ⟨[u], []⟩ [(x, u)]) ∧
        ∀ base : Heap, (K w.params).In base → base.Ns mainGlobals mg →
          FnG l.prog w (K w.params) mg base k fa fd [x] (sp w))
    (hsp : ∀ (w : World) (H : Hp) (a : Addr) (ns : List Int),
      ns.length ≤ n → Only H → SqL (K w.params) H a (ns.map V.int) →
      sp w [.ref a] H (fun v _ => v = .bl true) fun _ _ _ => False) :
    PySem.W.WalkO q loose XP YP l.row.toRowW d []
      (fun f vs => PySem.call f vs) := by
  refine Att.attach_call hn hdf ?_
  intro w s₀ s₁ mg mb fa o pm cd doc a vs ns G Y ho hd hcd hmg hobj hints hlen hg
  have KX := hY w _ Y
  obtain ⟨fd, hb, hF⟩ := F w mg fa _ KX G.T.g hmg
  exact law_goes2 KX G.T.g G.T.b G.T.builtins G.T.nolimit hg hobj
    hints (Nat.le_trans hlen hn2) hr hF hb
    (fun H hO hS => hsp w H a ns hlen hO hS)
end Vf

set_option Elab.async false
set_option linter.all false
set_option maxRecDepth 100000
set_option maxHeartbeats 4000000
/-! Own words: defs of the module as they are called; a list's item by +=; the bag of a law's draws. -/
namespace Vf
open PySem PySem.Spec PyProof.Rows L2
open C8 (Cal pe_c pe_gc CalAt)

/-- a def of the text, as the top has laid it -/
structure DefIn (K : PySem.W.Frag) (mg : Str → Option Value) (x : Str) (st : Stmt) (ps : List Str) : Prop where
  ex : ∃ f fd, Fun K x x st f fd ∧ mg x = some (.ref f) ∧ Binds K fd ps []

section
variable {P : Program} {w : World} {K : PySem.W.Frag} {mg : Str → Option Value} {base : Heap}

theorem defIn_mk {x : Str} {st : Stmt} {ps : List Str} {h : Heap} {f : Addr} {oc : Value} {od an : Option Addr} {osl : Array (Option Value)} {kV doc pm cdv ct : Value}
    (X : K.In h) (G : h.Ns mainGlobals mg) (a : PySem.W.nsIn K mainGlobals x = some (some (.ref f)))
    (l : K.lookup f = some ⟨oc, od, .func (PySem.W.fnOf x x (defArgs st) (defBody st) (defScope st) .none kV doc pm an cdv ct), osl⟩)
    (c : PySem.W.codeIn K cdv x = true) (k : PySem.W.keepIn K (.ref f) = true)
    (b : ∀ (kV doc pm : Value) (an : Option Addr) (cdv ct : Value) (us : List Value), us.length = ps.length →
      bindArgs (PySem.W.fnOf x x (defArgs st) (defBody st) (defScope st) .none kV doc pm an cdv ct) ⟨us, []⟩ = pure (ps.zip us)) : DefIn K mg x st ps := by
  have F := fun_mk (st := st) l c k
  exact ⟨f, _, F, PySem.W.mg_of X G a, F.binds b⟩
theorem calOf {x : Str} {st : Stmt} {N ps : List Str} {k : Nat} {sp : Sp}
    (D : DefIn K mg x st ps) (S : FnScope N ps (defScope st))
    (many : ∀ vs H Q E, sp vs H Q E → vs.length = ps.length)
    (body : ∀ (f : Addr) (cdv : Value) (A : Around) (outer : List Env) (s : Shared) (H : Hp) (vs : List V) (Q : VK) (E : XK),
      Room k (A.deeper (envOfC x (defScope st) s.heap.objs.size f cdv)) → sp vs H Q E →
      ∃ t, PSs (cxOf CX0 P w K mg base N x (defScope st) f cdv A outer s H E).nox (defBody st) t ∧ t { nx := fun _ H' => Q .non H', rt := Q } (start N vs) H) :
    Cal P w K mg base (k + 1) x sp [] := by
  obtain ⟨f, fd, F, hm, hb⟩ := D.ex
  exact ⟨f, fd, ps, [], F.ok S many (fun cdv A o s H vs Q E hr h => body f cdv A o s H vs Q E hr h), hm, F.kp, hb, .nil⟩

/-- such a def, where no repr is under way -/
structure CalG (P : Program) (w : World) (K : PySem.W.Frag) (mg : Str → Option Value) (base : Heap) (k : Nat) (x : Str) (sp : Sp) : Prop where
  ex : ∃ (f : Addr) (fd : FuncData) (ps : List Str), FnG P w K mg base k f fd ps sp ∧ mg x = some (.ref f) ∧ PySem.W.keepIn K (.ref f) = true ∧ Binds K fd ps []
theorem calGOf {x : Str} {st : Stmt} {N ps : List Str} {k : Nat} {sp : Sp}
    (D : DefIn K mg x st ps) (S : FnScope N ps (defScope st))
    (many : ∀ vs H Q E, sp vs H Q E → vs.length = ps.length)
    (body : ∀ (f : Addr) (cdv : Value) (A : Around) (outer : List Env) (s : Shared) (H : Hp) (vs : List V) (Q : VK) (E : XK),
      Room k (A.deeper (envOfC x (defScope st) s.heap.objs.size f cdv)) → A.guards = some [] → sp vs H Q E →
      ∃ t, PSs (cxOf CX0 P w K mg base N x (defScope st) f cdv A outer s H E).nox (defBody st) t ∧ t { nx := fun _ H' => Q .non H', rt := Q } (start N vs) H) :
    CalG P w K mg base (k + 1) x sp := by
  obtain ⟨f, fd, F, hm, hb⟩ := D.ex
  exact ⟨f, fd, ps, fnG_of F S many (fun cdv A o s H vs Q E hr h => body f cdv A o s H vs Q E hr h), hm, F.kp, hb⟩
end

section
variable {X : Cx} {k j : Nat} {x : Str} {sp : Sp} {p pos : Pos} {e o i : Expr} {es : List Expr} {t : TA}
theorem pe_c0 (c : Cal X.prog X.w X.K X.mg X.base k x sp []) (hr : Room j X.A) (hk : k ≤ j) (hg : Gl X x)
    (hdb : (x == ("__debug__" : Str)) = false := by decide) : PE X (.Call (.Name x p) [] [] pos) (tCall sp [] E0 tNil) := by
  obtain ⟨f, fd, ps, ds, F, hm, kp, b, d⟩ := c.ex
  exact pe_call0 F (hr.mono hk) hg hm kp b d pass0 hdb
theorem pe_cG (c : CalG X.prog X.w X.K X.mg X.base k x sp) (hr : Room k X.A) (gd : X.A.guards = some []) (hg : Gl X x) (ha : PA X (e :: es) t)
    (hdb : (x == ("__debug__" : Str)) = false := by decide) (he : starEach (e :: es) X.env = (false, eval e X.env) :: starEach es X.env := by rfl) (hpl : (backTo pos (starEach es X.env)).any (·.1) = false := by rfl) :
    PE X (.Call (.Name x p) (e :: es) [] pos) (tCall sp [] E0 t) := by
  obtain ⟨f, fd, ps, F, hm, kp, b⟩ := c.ex
  exact pe_callG F hr gd hg hm kp b ha hdb he hpl

/-- xs[i] read on the way of xs[i] += .. -/
theorem get_list : PGet X (rIxL X.K) := by
  intro pins s σ H x y v u Q I rx ry h
  obtain ⟨p, xs, i, z, rfl, rfl, hq, he, q⟩ := h
  cases rx
  obtain ⟨t, rfl⟩ := ry
  obtain ⟨its, r, pl, hz⟩ := I.list hq
  obtain ⟨j, h1, h2, h3, h4, h5⟩ := atI_get he
  obtain ⟨w, ew, rw'⟩ := r.get h2
  have hl := r.length
  have hn := line63
  have fin : EP X pins σ Q w s := ⟨z, H, I, rw', q⟩
  by_cases h0 : 0 ≤ i
  · have hj : i.toNat = j := by
      rw [seqIndex_of h0 h5] at h1
      exact Option.some.inj h1
    exact wpAny_getItem_list pl.isList h0 (by omega) (by rw [hj]; simpa using ew) fin
  · have hj : (i + (its.toArray.size : Int)).toNat = j := by
      rw [seqIndex_neg (by omega) h4] at h1
      rw [List.size_toArray, ← hl]
      exact Option.some.inj h1
    exact wpAny_getItem_list_neg pl.isList (by omega) (by rw [List.size_toArray]; omega) (by omega) (by rw [hj]; simpa using ew) fin
end

/-! ### the bag -/
/-- all but b stands as it stood -/
def Fr (b : Addr) (H H' : Hp) : Prop := ∀ a o, a ≠ b → H a = some o → H' a = some o
theorem Fr.refl (b : Addr) (H : Hp) : Fr b H H := fun _ _ _ h => h
theorem Fr.trans {b : Addr} {H H1 H2 : Hp} (x : Fr b H H1) (y : Fr b H1 H2) : Fr b H H2 := fun a o n h => y a o n (x a o n h)
theorem Fr.new {b p : Addr} {H H' : Hp} {o : HO} (x : Fr b H H') (n : H' p = none) : Fr b H (upd H' p o) := fun a u na h => by
  have := x a u na h
  rw [upd_ne (ne_of_none this n)]
  exact this
theorem Fr.at {b : Addr} {H H' : Hp} {o : HO} (x : Fr b H H') : Fr b H (upd H' b o) := fun a u na h => by
  rw [upd_ne na]
  exact x a u na h
theorem Fr.put {b p : Addr} {H H' : Hp} {o : HO} (x : Fr b H H') (n : H p = none) : Fr b H (upd H' p o) := fun a u na h => by
  rw [upd_ne (ne_of_none h n)]
  exact x a u na h
/-- tuples stay -/
def Tk (H H' : Hp) : Prop := ∀ a xs, H a = some (.tup xs) → H' a = some (.tup xs)
theorem Tk.refl (H : Hp) : Tk H H := fun _ _ h => h
theorem Tk.trans {H H1 H2 : Hp} (x : Tk H H1) (y : Tk H1 H2) : Tk H H2 := fun a o h => y a o (x a o h)
theorem Tk.of {H H' : Hp} (x : Same H H') : Tk H H' := fun a o h => x a _ h
theorem Tk.new {p : Addr} {H H' : Hp} {o : HO} (x : Tk H H') (n : H' p = none) : Tk H (upd H' p o) := fun a u h => by
  have := x a u h
  rw [upd_ne (ne_of_none this n)]
  exact this
theorem Tk.put {p : Addr} {H H' : Hp} {o : HO} (x : Tk H H') (n : ∀ xs, H p ≠ some (.tup xs)) : Tk H (upd H' p o) := fun a u h => by
  by_cases q : a = p
  · rw [q] at h
    exact absurd h (n u)
  · rw [upd_ne q]
    exact x a u h

/-- a bag stands at b, its numbers at L -/
structure Bg where
  b : Addr
  L : Addr
/-- the six things in a bag: c and e the last two -/
structure Bag (H : Hp) (g : Bg) (c e : Int) : Prop where
  ex : ∃ (z m i : Int) (ns : List Int),
    H g.b = some (.lst [.int z, .int m, .int i, .ref g.L, .int c, .int e]) ∧ H g.L = some (.lst (ns.map V.int)) ∧
    0 ≤ z ∧ 0 ≤ m ∧ m < 2147483647 ∧ 0 ≤ i ∧ (∀ n ∈ ns, (0 : Int) ≤ n) ∧ ns.length ≤ 63
  ne : g.L ≠ g.b
theorem Bag.ob {H : Hp} {g : Bg} {c e : Int} (B : Bag H g c e) : ∃ o, H g.b = some (.lst o) := by
  obtain ⟨z, m, i, ns, h, _⟩ := B.ex
  exact ⟨_, h⟩
theorem Bag.obL {H : Hp} {g : Bg} {c e : Int} (B : Bag H g c e) : ∃ o, H g.L = some (.lst o) := by
  obtain ⟨z, m, i, ns, h, h2, _⟩ := B.ex
  exact ⟨_, h2⟩
theorem Bag.ne_new {H : Hp} {g : Bg} {p : Addr} {c e : Int} (B : Bag H g c e) (n : H p = none) : p ≠ g.b := fun z => by
  obtain ⟨o, h⟩ := B.ob
  rw [← z, n] at h
  cases h
theorem Bag.ne_newL {H : Hp} {g : Bg} {p : Addr} {c e : Int} (B : Bag H g c e) (n : H p = none) : p ≠ g.L := fun z => by
  obtain ⟨o, h⟩ := B.obL
  rw [← z, n] at h
  cases h
theorem Bag.put {H : Hp} {g : Bg} {p : Addr} {c e : Int} {o : HO} (B : Bag H g c e) (n : p ≠ g.b) (n2 : p ≠ g.L) : Bag (upd H p o) g c e := by
  obtain ⟨z, m, i, ns, h, h2, r⟩ := B.ex
  exact ⟨⟨z, m, i, ns, by rw [upd_ne n.symm]; exact h, by rw [upd_ne n2.symm]; exact h2, r⟩, B.ne⟩
theorem Bag.new {H : Hp} {g : Bg} {p : Addr} {c e : Int} {o : HO} (B : Bag H g c e) (n : H p = none) : Bag (upd H p o) g c e := B.put (B.ne_new n) (B.ne_newL n)
theorem Bag.same {H H' : Hp} {g : Bg} {c e : Int} (B : Bag H g c e) (n : Same H H') : Bag H' g c e := by
  obtain ⟨z, m, i, ns, h, h2, r⟩ := B.ex
  exact ⟨⟨z, m, i, ns, n _ _ h, n _ _ h2, r⟩, B.ne⟩
theorem Bag.tk {H H' : Hp} {g : Bg} {c e : Int} (B : Bag H g c e) (f : Fr g.b H H') : Tk H H' := fun a xs h => f a _ (fun z => by
  obtain ⟨o, h2⟩ := B.ob
  rw [← z, h] at h2
  cases h2) h
/-- behind a draw: the bag stands, and all else -/
structure Drawn (g : Bg) (H H' : Hp) (c e : Int) : Prop where
  bag : Bag H' g c e
  fr : Fr g.b H H'
  tk : Tk H H'
section
variable {g : Bg} {a p : Addr} {H H1 H2 H' : Hp} {c e c' e' : Int} {o : HO}
theorem Drawn.trans (x : Drawn g H H1 c e) (y : Drawn g H1 H2 c' e') : Drawn g H H2 c' e' := ⟨y.bag, x.fr.trans y.fr, x.tk.trans y.tk⟩
theorem Drawn.new (x : Drawn g H H' c e) (n : H' p = none) : Drawn g H (upd H' p o) c e := ⟨x.bag.new n, x.fr.new n, x.tk.new n⟩
theorem Drawn.of (B : Bag H g c e) : Drawn g H H c e := ⟨B, .refl _ _, .refl _⟩
theorem Drawn.mk' (B : Bag H g c' e') (B' : Bag H' g c e) (f : Fr g.b H H') : Drawn g H H' c e := ⟨B', f, B.tk f⟩
theorem Drawn.same (B : Bag H g c e) (n : Same H H') : Drawn g H H' c e := ⟨B.same n, fun a o _ h => n a o h, .of n⟩
/-- a store into what H did not know -/
theorem Drawn.put (x : Drawn g H H' c e) (B : Bag H g c' e') (n : H p = none) : Drawn g H (upd H' p o) c e :=
  ⟨x.bag.put (B.ne_new n) (B.ne_newL n), x.fr.put n, x.tk.put fun xs h => by rw [n] at h; cases h⟩
theorem Drawn.keep (x : Drawn g H H' c e) (n : a ≠ g.b) (h : H a = some o) : H' a = some o := x.fr a o n h
theorem upd_some {u : HO} (h : H a = some o) (n : H p = none) : upd H p u a = some o := by
  rw [upd_ne (ne_of_none h n)]
  exact h
theorem Drawn.seqL {K : PySem.W.Frag} {xs : List V} (x : Drawn g H H' c e) (n : a ≠ g.b) (h : SqL K H a xs) : SqL K H' a xs := by
  rcases h with (h | ⟨o, h⟩) | h
  · exact .inl (.inl (x.fr _ _ n h))
  · exact .inl (.inr ⟨o, x.fr _ _ n h⟩)
  · exact .inr h
theorem Drawn.seqT {K : PySem.W.Frag} {xs : List V} (x : Drawn g H H' c e) (n : a ≠ g.b) (h : SqT K H a xs) : SqT K H' a xs := by
  rcases h with (h | ⟨o, h⟩) | h
  · exact .inl (.inl (x.fr _ _ n h))
  · exact .inl (.inr ⟨o, x.fr _ _ n h⟩)
  · exact .inr h
end
/-- an item below the length -/
theorem at_of {α : Type} {xs : List α} {r : Int} (h0 : 0 ≤ r) (h1 : r < (xs.length : Int)) : ∃ v, v ∈ xs ∧ atI xs r = some v := by
  obtain ⟨j, rfl⟩ := Int.eq_ofNat_of_zero_le h0
  have hj : j < xs.length := by omega
  exact ⟨xs[j], List.getElem_mem hj, atI_nat (j := j) (List.getElem?_eq_getElem hj)⟩

/-! ### what defs that draw promise -/
/-- a draw below n -/
def spTake : Sp := fun vs H Q _ => ∃ (g : Bg) (n c e : Int), vs = [.ref g.b, .int n] ∧ Bag H g c e ∧ 0 < n ∧ n < 1073741824 ∧
  ∀ (r : Int) (H' : Hp), 0 ≤ r → r < n → Drawn g H H' c e → Q (.int r) H'
/-- a list, a tuple, or a text is handed in, one of its items comes back -/
def spOne (K : PySem.W.Frag) : Sp := fun vs H Q _ => ∃ (g : Bg) (x : V) (c e : Int), vs = [.ref g.b, x] ∧ Bag H g c e ∧
  ((∃ p xs, x = .ref p ∧ (SqL K H p xs ∨ SqT K H p xs) ∧ p ≠ g.b ∧ 0 < xs.length ∧ xs.length < 1000 ∧ ∀ (v : V) (H' : Hp), v ∈ xs → Drawn g H H' c e → Q v H') ∨
   (∃ z : Str, x = .str z ∧ 0 < z.length ∧ z.length < 1000 ∧ ∀ (h : Nat) (H' : Hp), h ∈ z.cps.toList → Drawn g H H' c e → Q (.str ⟨#[h]⟩) H'))

/-! ### data in tuples -/
mutual
/-- what stands there, and lies in tuples alone -/
inductive Tr (H : Hp) : V → PyData → Prop
  | non : Tr H .non .none
  | bl (b : Bool) : Tr H (.bl b) (.bool b)
  | int (i : Int) : Tr H (.int i) (.int i)
  | str (x : Str) : Tr H (.str x) (.str x)
  | tup {a : Addr} {xs : List V} {ds : List PyData} : H a = some (.tup xs) → TrAll H xs ds → Tr H (.ref a) (.tuple ds)
inductive TrAll (H : Hp) : List V → List PyData → Prop
  | nil : TrAll H [] []
  | cons {v : V} {vs : List V} {d : PyData} {ds : List PyData} : Tr H v d → TrAll H vs ds → TrAll H (v :: vs) (d :: ds)
end
mutual
theorem Tr.keep {H H' : Hp} (k : Tk H H') : ∀ {v : V} {d : PyData}, Tr H v d → Tr H' v d
  | _, _, .non => .non
  | _, _, .bl b => .bl b
  | _, _, .int i => .int i
  | _, _, .str x => .str x
  | _, _, .tup h r => .tup (k _ _ h) (TrAll.keep k r)
theorem TrAll.keep {H H' : Hp} (k : Tk H H') : ∀ {v : List V} {d : List PyData}, TrAll H v d → TrAll H' v d
  | _, _, .nil => .nil
  | _, _, .cons h r => .cons (Tr.keep k h) (TrAll.keep k r)
end
mutual
theorem Tr.dp {K : PySem.W.Frag} {H : Hp} : ∀ {v : V} {d : PyData}, Tr H v d → Dp K H v d
  | _, _, .non => .non
  | _, _, .bl b => .bl b
  | _, _, .int i => .int i
  | _, _, .str x => .str x
  | _, _, .tup h r => .tup (SqT.of h) (TrAll.dp r)
theorem TrAll.dp {K : PySem.W.Frag} {H : Hp} : ∀ {v : List V} {d : List PyData}, TrAll H v d → DpAll K H v d
  | _, _, .nil => .nil
  | _, _, .cons h r => .cons (Tr.dp h) (TrAll.dp r)
end
theorem TrAll.len {H : Hp} : ∀ {v : List V} {d : List PyData}, TrAll H v d → v.length = d.length
  | _, _, .nil => rfl
  | _, _, .cons _ r => congrArg (· + 1) (TrAll.len r)
theorem TrAll.app {H : Hp} : ∀ {v u : List V} {d f : List PyData}, TrAll H v d → TrAll H u f → TrAll H (v ++ u) (d ++ f)
  | _, _, _, _, .nil, q => q
  | _, _, _, _, .cons h r, q => .cons h (TrAll.app r q)
theorem TrAll.one {H : Hp} {v : V} {d : PyData} (h : Tr H v d) : TrAll H [v] [d] := .cons h .nil
theorem TrAll.strs {H : Hp} : ∀ l : List Str, TrAll H (l.map V.str) (l.map PyData.str)
  | [] => .nil
  | x :: r => .cons (.str x) (TrAll.strs r)
theorem TrAll.get {H : Hp} : ∀ {v : List V} {d : List PyData} {i : Nat} {x : V}, TrAll H v d → v[i]? = some x → ∃ y, d[i]? = some y ∧ Tr H x y
  | _, _, _, _, .nil, h => by simp at h
  | _, _, 0, x, .cons h r, q => ⟨_, rfl, by
    have e := Option.some.inj q
    rw [← e]
    exact h⟩
  | _, _, i + 1, x, .cons h r, q => by
    rw [List.getElem?_cons_succ] at q ⊢
    exact TrAll.get r q
end Vf

set_option Elab.async false
set_option linter.all false
set_option maxRecDepth 100000
set_option maxHeartbeats 4000000
/-! Own words: dicts that the top has written, asked by ints and texts; a list extended by a tuple. -/
namespace Vf
open PySem PySem.Spec PyProof.Rows L2

/-- the entries of a written dict, by keys and values -/
def KdL (w : World) : List (Key × V) → List DictEntry → Prop
  | [], [] => True
  | (k, v) :: r, e :: q => keyIs k e.key = true ∧ e.hash = keyH w k ∧ RelV v e.val ∧ KdL w r q
  | _, _ => False
theorem KdL.keys {P : Program} {w : World} : ∀ {kvs : List (Key × V)} {l : List DictEntry}, KdL w kvs l → ∀ e ∈ l, ∃ k, (mixKind P w).is k e.key = true ∧ e.hash = (mixKind P w).hash k
  | [], [], _, e, he => by cases he
  | (k, v) :: r, e :: q, h, e', he => by
    rcases List.mem_cons.mp he with rfl | he
    · exact ⟨k, h.1, h.2.1⟩
    · exact KdL.keys h.2.2.2 e' he
  | [], _ :: _, h, _, _ => h.elim
  | _ :: _, [], h, _, _ => h.elim
theorem KdL.val {w : World} : ∀ {kvs : List (Key × V)} {l : List DictEntry}, KdL w kvs l → ∀ k, RelO (valV kvs k) ((l.find? fun e => keyIs k e.key).map (·.val))
  | [], [], _, k => True.intro
  | (k', v) :: r, e :: q, h, k => by
    have ih := KdL.val h.2.2.2 k
    unfold valV at ih ⊢
    rw [List.find?_cons, List.find?_cons]
    by_cases hk : k' = k
    · subst hk
      rw [h.1, decide_eq_true rfl]
      exact h.2.2.1
    · have h1 : keyIs k e.key = false := by
        cases hb : keyIs k e.key with
        | false => rfl
        | true =>
          have a1 := h.1
          rcases keyIs_shape a1 with ⟨i, t, e1, e2⟩ | ⟨x, t, e1, e2⟩
          · rcases keyIs_shape hb with ⟨j, u, e3, e4⟩ | ⟨y, u, e3, e4⟩
            · rw [e2] at e4
              cases e4
              exact absurd (e1.trans e3.symm) hk
            · rw [e2] at e4
              cases e4
          · rcases keyIs_shape hb with ⟨j, u, e3, e4⟩ | ⟨y, u, e3, e4⟩
            · rw [e2] at e4
              cases e4
            · rw [e2] at e4
              cases e4
              exact absurd (e1.trans e3.symm) hk
      rw [h1, decide_eq_false hk]
      exact ih
  | [], _ :: _, h, _ => h.elim
  | _ :: _, [], h, _ => h.elim
/-- a dict of the module stands at d -/
def KD (K : PySem.W.Frag) (w : World) (d : Addr) (kvs : List (Key × V)) : Prop :=
  ∃ es n, K.lookup d = some ⟨.type "dict", none, .dict es n, #[]⟩ ∧ (d == sysModules) = false ∧ KdL w kvs es.toList
theorem KD.map {P : Program} {w : World} {K : PySem.W.Frag} {d : Addr} {kvs : List (Key × V)} {h : Heap} (D : KD K w d kvs) (X : K.In h) :
    ∃ f, h.MapOf (mixKind P w) d f ∧ ∀ k, RelO (valV kvs k) (f k) := by
  obtain ⟨es, n, hl, _, hk⟩ := D
  refine ⟨_, ⟨_, es, n, X _ _ hl, ⟨rfl, rfl, rfl⟩, rfl, fun e he => hk.keys e (Array.mem_toList_iff.mpr he), fun _ => rfl⟩, fun k => ?_⟩
  have q := hk.val k
  obtain ⟨l⟩ := es
  unfold findBy
  rw [List.find?_toArray]
  exact q
/-- d[k], there -/
def rKGet (K : PySem.W.Frag) (w : World) : R2 := fun x y H Q => ∃ d kvs k v, x = .ref d ∧ y = kV k ∧ KD K w d kvs ∧ valV kvs k = some v ∧ Q v H
/-- d.get(k, z) -/
def tKGet2 (K : PySem.W.Frag) (w : World) (td ty tx : TE) : TE := fun σ H Q => td σ H fun x H1 => ty σ H1 fun y H2 => tx σ H2 fun z H3 =>
  ∃ d kvs k, x = .ref d ∧ y = kV k ∧ KD K w d kvs ∧ Q ((valV kvs k).getD z) H3
section
variable {X : Cx} {o e f : Expr} {apos cpos : Pos} {td ty tx : TE}
theorem ix_kd : IxR X (rKGet X.K X.w) := by
  intro value slice pins s σ H x y v u Q I rx ry h hs
  obtain ⟨d, kvs, k, z, rfl, rfl, D, hv, q⟩ := h
  cases rx
  obtain ⟨g, hm, hg⟩ := D.map (P := X.prog) I.kIn
  have q2 := hg k
  rw [hv] at q2
  obtain ⟨z', e1, r1⟩ := q2.some_of
  exact tail_any hm.typeIs PySem.F.slot_dict_getitem.lookup (wpAny_getItem_of (kV_is ry) hm e1 ⟨z, H, I.tok _, r1, q⟩) hs
theorem pe_kget2 (ho : PE X o td) (he : PE X e ty) (hf : PE X f tx) (hD : ∀ σ H Q, td σ H Q → td σ H (fun x H1 => (∃ d kvs, x = .ref d ∧ KD X.K X.w d kvs) ∧ Q x H1)) (m : M2 X o "get" apos e f cpos) :
    PE X (.Call (.Attribute o "get" apos) [e, f] [] cpos) (tKGet2 X.K X.w td ty tx) := by
  refine ⟨fun pins s σ H Q I h => ?_⟩
  have h' := hD _ _ _ h
  refine wpAny_Call_method m.base m.few m.line PySem.F.plainAttrs_dict PySem.F.slot_dict_get PySem.F.type_dict_get (thn (ho.run pins s σ H _ I h') ?_)
  rintro u s1 ⟨x, H1, I1, rx, ⟨d, kvs0, rfl, D⟩, q1⟩
  cases rx
  obtain ⟨g, hm, hg⟩ := D.map (P := X.prog) I1.kIn
  obtain ⟨es, n, hl, low, _⟩ := D
  refine ⟨hm.typeIs, fun b z => ?_, ?_⟩
  · cases z
    exact ⟨_, I1.kIn _ _ hl, rfl⟩
  rw [m.trees]
  refine Calls.callWith_builtin rfl (Calls.evalArgs_plain (Calls.spliced_cons (thn (he.run pins s1 σ H1 _ I1 q1) ?_)))
  rintro iv s2 ⟨y, H2, I2, ry, q2⟩
  refine Calls.spliced_cons (thn (hf.run pins s2 σ H2 _ I2 q2) ?_)
  rintro fv s3 ⟨z, H3, I3, rz, d', kvs, k, ed, ey, D3, q3⟩
  cases ed
  subst ey
  refine Calls.spliced_nil ?_
  obtain ⟨g3, hm3, hg3⟩ := D3.map (P := X.prog) I3.kIn
  refine call_meetsIn PySem.F.slot_dict_get hm3.typeIs PySem.F.entry_dict_get (PySem.F.args_dict_get_3 _ _ _) (meets_dict_get_default (mixKind X.prog X.w) d (kV_is ry) low fv) ⟨_, hm3, ?_⟩
  exact ⟨_, H3, I3.tok _, (hg3 k).getD rz, q3⟩

/-- xs.extend(t), t a tuple -/
def rExtendT (K : PySem.W.Frag) : V → List V → Hp → VK → Prop := fun x vs H Q => ∃ l b xs zs, x = .ref l ∧ vs = [.ref b] ∧ H l = some (.lst xs) ∧ SqT K H b zs ∧ xs.length + zs.length ≤ sizeLine ∧ Q .non (upd H l (.lst (xs ++ zs)))
theorem extend_tuple (l b : Addr) (its its2 : Array Value) (n n2 : Nat) (dd : Option Addr) (sl : Array (Option Value))
    (h0 : ¬(!its.isEmpty && Builtin.List.listTooLong (its.size + its2.size)) = true)
    (h1 : its.size ≤ sizeLine) (h2 : its.size + its2.size ≤ sizeLine + 1) :
    Meets (Builtin.«list.extend» ⟨[.ref l, .ref b], []⟩) (fun _ R s =>
      s.heap.get? l = some { cls := .type "list", dict := none, data := .seq its n, slots := #[] } ∧
      s.heap.get? b = some { cls := .type "tuple", dict := dd, data := .seq its2 n2, slots := sl } ∧
      R (.ok (.ret Value.none)) { s with heap := s.heap.update l (Obj.mapSeq fun x => x ++ its2), toks := s.toks }) :=
  .of_wp fun prog w A R s h => by
    obtain ⟨hp, g, d, tk, os⟩ := s
    obtain ⟨hl, hb, h⟩ := h
    have f1 := AutoSeq1.idx_int
    have f2 := AutoSeq1.sub_tuple_tuple
    have f3 := AutoSeq1.sub_list_list
    have f4 := AutoSeq1.sub_tuple_list
    have f5 := AutoSeq1.sub_list_tuple
    have hz' : (its ++ its2).size ≤ sizeLine + 1 := by
      rw [Array.size_append]
      exact h2
    wp_walk using (wpAny_updateSeq hl rfl (hz := h1) (_hz' := hz')), AutoSeq1.wpAny_loadPart' hl, AutoSeq1.wpAny_loadPart' hb
    exact ⟨_, rfl, h⟩
theorem mt_extendT : MtM X "list.extend" (rExtendT X.K) := by
  intro pins s σ H x vs v us Q I rx rv h
  obtain ⟨l, b, xs, zs, rfl, rfl, hH, hB, hz, q⟩ := h
  cases rx
  obtain ⟨u, rfl, ru⟩ := rv.one
  cases ru
  obtain ⟨z, its, n, r, hl, e⟩ := I.lstM hH
  obtain ⟨its2, r2, ⟨⟨cls, dd, dat, sl⟩, ho, hc, n2, hd⟩, hz2⟩ := I.tuple hB
  simp only at hc hd
  subst hc hd
  have hl2 := r2.length
  have hsz : its.toArray.size + its2.toArray.size ≤ sizeLine := by
    rw [List.size_toArray, List.size_toArray]
    omega
  have hlong : ¬ (!its.toArray.isEmpty && Builtin.List.listTooLong (its.toArray.size + its2.toArray.size)) = true := by
    rw [notLongL hsz, Bool.and_false]
    exact Bool.false_ne_true
  refine call_meets PySem.F.slot_list_extend ⟨_, e, rfl⟩ PySem.F.entry_list_extend (PySem.F.args_list_extend_2 _ _)
    (extend_tuple l b its.toArray its2.toArray n n2 dd sl hlong (by rw [List.size_toArray]; omega) (by omega)) ⟨e, ho, ?_⟩
  refine ⟨.non, _, I.lset (its' := its ++ its2) hH e (by simp) (r.append r2) ?_, rfl, q⟩
  rw [List.length_append]
  omega
end
end Vf

set_option Elab.async false
set_option linter.all false
set_option maxRecDepth 100000
set_option maxHeartbeats 4000000
/-! Own words: data that are shown alike. -/
namespace Vf
open PySem PySem.Spec PyProof.Rows L2
mutual
/-- data without dicts, whose ints and texts may be shown -/
def tame : PyData → Bool
  | .none => true
  | .bool _ => true
  | .int i => decide (i.natAbs < 10 ^ 30)
  | .str x => x.cps.all (· < 0x110000)
  | .list xs => tameAll xs
  | .tuple xs => tameAll xs
  | .dict _ => false
def tameAll : List PyData → Bool
  | [] => true
  | x :: r => tame x && tameAll r
end
mutual
/-- no less than the length of what is shown -/
def wt : PyData → Nat
  | .none => 4
  | .bool _ => 5
  | .int _ => 32
  | .str x => 10 * x.length + 2
  | .list xs => wtAll xs + 4
  | .tuple xs => wtAll xs + 4
  | .dict _ => 0
def wtAll : List PyData → Nat
  | [] => 0
  | x :: r => wt x + 2 + wtAll r
end
theorem listText_le (ts : List Str) : (listText ts).length ≤ piled ts + 2 := by
  have e1 : (("[" : Str)).length = 1 := rfl
  have e2 : (("]" : Str)).length = 1 := rfl
  unfold listText
  rw [Str.length_append]
  have e2' : (("]" : String) : Str).length = 1 := rfl
  cases ts with
  | nil =>
    show (("[" : Str)).length + _ ≤ _
    rw [e1, piled_nil]
    exact Nat.le_refl _
  | cons t r =>
    show (textFrom (0 + 1) (("[" : Str) ++ _ ++ t) r).length + _ ≤ _
    rw [textFrom_length_pos r 1 _ (by decide), piled_cons, Str.length_append, Str.length_append, e1]
    have e3 : (Str.ofString (if 0 > 0 then ", " else "" : String)).length = 0 := rfl
    rw [e3, e2']
    omega
theorem tupleText_le (ts : List Str) : (tupleText ts).length ≤ piled ts + 3 := by
  unfold tupleText
  rw [Str.length_append, Str.length_append]
  have e1 : (("(" : Str)).length = 1 := rfl
  have e2 : (Str.ofString (if ts.length == 1 then ",)" else ")" : String)).length ≤ 2 := by
    split
    · exact Nat.le_refl _
    · exact Nat.le_succ 1
  have e3 : (Str.join ", " ts).length ≤ piled ts := by
    by_cases h : ts = []
    · subst h
      exact Nat.le_refl _
    · have := join_length_add ts h
      omega
  rw [e1]
  omega
theorem ofs_len (i : Int) (h : i.natAbs < 10 ^ 30) : (Str.ofString (toString i)).length ≤ 30 + 1 := by
  have e : (Str.ofString (toString i)).length = (toString i).length := PySem.ofString_length _
  rw [e]
  exact int_text_length_le10 (by decide) h
mutual
theorem shown_le : ∀ d : PyData, tame d = true → d.shown.length ≤ wt d
  | .none, _ => Nat.le_refl _
  | .bool b, _ => by
    cases b
    · exact Nat.le_refl _
    · exact Nat.le_succ 4
  | .int i, h => by
    have h' : i.natAbs < 10 ^ 30 := of_decide_eq_true h
    exact Nat.le_trans (ofs_len i h') (by show 30 + 1 ≤ 32; decide)
  | .str x, h => by
    refine Nat.le_trans (StrLaws.reprText_len x ?_) (Nat.le_refl _)
    intro c hc
    have h' : x.cps.all (· < 0x110000) = true := h
    rw [← Array.all_toList, List.all_eq_true] at h'
    have := of_decide_eq_true (h' c hc)
    omega
  | .list xs, h => by
    have := shownAll_le xs h
    have := listText_le (PyData.shownAll xs)
    show (listText (PyData.shownAll xs)).length ≤ wtAll xs + 4
    omega
  | .tuple xs, h => by
    have := shownAll_le xs h
    have := tupleText_le (PyData.shownAll xs)
    show (tupleText (PyData.shownAll xs)).length ≤ wtAll xs + 4
    omega
  | .dict _, h => by cases h
theorem shownAll_le : ∀ xs : List PyData, tameAll xs = true → piled (PyData.shownAll xs) ≤ wtAll xs
  | [], _ => Nat.le_refl _
  | x :: r, h => by
    have h' : (tame x && tameAll r) = true := h
    rw [Bool.and_eq_true] at h'
    have := shown_le x h'.1
    have := shownAll_le r h'.2
    show piled (x.shown :: PyData.shownAll r) ≤ wt x + 2 + wtAll r
    rw [piled_cons]
    omega
end
mutual
theorem tame_ok : ∀ d : PyData, tame d = true → d.showable = true ∧ d.hasDict = false ∧ d.canLay0 = true
  | .none, _ => ⟨rfl, rfl, rfl⟩
  | .bool b, _ => ⟨rfl, rfl, rfl⟩
  | .int i, h => by
    have h' : i.natAbs < 10 ^ 30 := of_decide_eq_true h
    refine ⟨?_, rfl, rfl⟩
    show decide (i.natAbs.log2 < 1920) = true
    refine decide_eq_true ?_
    by_cases h0 : i.natAbs = 0
    · rw [h0]
      decide
    · exact (Nat.log2_lt h0).mpr (Nat.lt_trans h' (by decide +kernel))
  | .str x, h => ⟨rfl, rfl, h⟩
  | .list xs, h => tameAll_ok xs h
  | .tuple xs, h => tameAll_ok xs h
  | .dict _, h => by cases h
theorem tameAll_ok : ∀ xs : List PyData, tameAll xs = true → PyData.showableAll xs = true ∧ PyData.hasDictAll xs = false ∧ PyData.canLayAll0 xs = true
  | [], _ => ⟨rfl, rfl, rfl⟩
  | x :: r, h => by
    have h' : (tame x && tameAll r) = true := h
    rw [Bool.and_eq_true] at h'
    obtain ⟨a1, a2, a3⟩ := tame_ok x h'.1
    obtain ⟨b1, b2, b3⟩ := tameAll_ok r h'.2
    refine ⟨?_, ?_, ?_⟩
    · show (PyData.showable x && PyData.showableAll r) = true
      rw [a1, b1] <;> rfl
    · show (PyData.hasDict x || PyData.hasDictAll r) = false
      rw [a2, b2] <;> rfl
    · show (PyData.canLay0 x && PyData.canLayAll0 r) = true
      rw [a3, b3] <;> rfl
end
/-- data of a size that may be shown -/
structure OkD (d : PyData) : Prop where
  tm : tame d = true
  dp : d.depth ≤ 60
  sz : wt d ≤ 16000000
theorem OkD.shaped {d : PyData} (h : OkD d) : SeqAt.shaped d = true := by
  unfold SeqAt.shaped
  rw [Bool.and_eq_true]
  exact ⟨(tame_ok d h.tm).2.2, decide_eq_true (Nat.le_trans h.dp (by decide))⟩
theorem OkD.show {d : PyData} (h : OkD d) : d.shown.length ≤ sizeLine := Nat.le_trans (shown_le d h.tm) (Nat.le_trans h.sz (by decide))
theorem OkD.refl {d : PyData} (h : OkD d) : PyData.eqv d d = true := SeqAt.eqv_refl d (tame_ok d h.tm).2.2
/-- repr of a list or a tuple, of a truth, of an int -/
theorem call_repr {X : Cx} (gd : X.A.guards = some []) (hu : X.A.units + 64 < cLine) :
    CallR X (.builtin "repr") (fun xs H Q => ∃ a d, xs = [.ref a] ∧ Dp X.K H (.ref a) d ∧ OkD d ∧ Q (.str d.shown) H) := by
  intro pins s σ H xs us Q I r h
  obtain ⟨a, d, rfl, hd, ok, q⟩ := h
  obtain ⟨h1, h2, h3⟩ := tame_ok d ok.tm
  exact call_reprD gd hu pins s σ H [.ref a] us Q I r ⟨a, d, rfl, hd, h1, h2, ok.dp, ok.show, q⟩
def rListOf (K : PySem.W.Frag) : List V → Hp → VK → Prop := fun xs H Q => ∃ p ys, xs = [.ref p] ∧ (SqL K H p ys ∨ SqT K H p ys) ∧ ∀ l, H l = none → Q (.ref l) (upd H l (.lst ys))
def rLenK (K : PySem.W.Frag) : List V → Hp → VK → Prop := fun xs H Q => ∃ x n, xs = [x] ∧ LenV K x H n ∧ Q (.int n) H
def rTupOf (K : PySem.W.Frag) : List V → Hp → VK → Prop := fun xs H Q => ∃ p ys, xs = [.ref p] ∧ ((SqL K H p ys ∧ ∀ l, H l = none → Q (.ref l) (upd H l (.tup ys))) ∨ (SqT K H p ys ∧ Q (.ref p) H))
/-- two things alike -/
def spAlike (K : PySem.W.Frag) : Sp := fun vs H Q _ => ∃ (a b : Addr) (d : PyData), vs = [.ref a, .ref b] ∧ Dp K H (.ref a) d ∧ Dp K H (.ref b) d ∧ OkD d ∧ ∀ H', Same H H' → Q (.bl true) H'
theorem same_new {H : Hp} {p : Addr} {o : HO} (h : H p = none) : Same H (upd H p o) := fun b u e => by
  rw [upd_ne (ne_of_none e h)]
  exact e
theorem Tr.new {H : Hp} {v : V} {d : PyData} {p : Addr} {o : HO} (t : Tr H v d) (h : H p = none) : Tr (upd H p o) v d := t.keep ((Tk.refl H).new h)
theorem TrAll.new {H : Hp} {v : List V} {d : List PyData} {p : Addr} {o : HO} (t : TrAll H v d) (h : H p = none) : TrAll (upd H p o) v d := t.keep ((Tk.refl H).new h)
theorem same_put {H H' : Hp} {p : Addr} {o : HO} (s : Same H H') (h : H p = none) : Same H (upd H' p o) := fun b u e => by
  rw [upd_ne (ne_of_none e h)]
  exact s b u e
end Vf

set_option Elab.async false
set_option linter.all false
set_option maxRecDepth 100000
set_option maxHeartbeats 4000000
/-! Own words: a lambda of one parameter, handed to a def; a local that holds such a one, or a def. -/
namespace Vf
open PySem PySem.Spec PyProof.Rows L2
open LamX (CodeO TabS Tabs ExtN TabB)
/-- the lambda that stands at f, its code at c -/
def LamO (f c : Addr) (q : Str) (ar : Arguments) (bd : Expr) (sc : Scope) : HO :=
  .ext fun h => ∃ pm ct : Value, h.get? f = some (PySem.W.kla_obj "<lambda>" q ar bd sc [] pm c ct)
/-- what a call takes at f -/
def Callee (K : PySem.W.Frag) (H : Hp) (f : Addr) : Prop :=
  (∃ oc od fd sl, K.lookup f = some ⟨oc, od, .func fd, sl⟩) ∨ ∃ c q ar bd sc, H f = some (LamO f c q ar bd sc)
/-- f, called with one thing, keeps the promise -/
def One (P : Program) (w : World) (K : PySem.W.Frag) (mg : Str → Option Value) (base : Heap) (k : Nat) (f : Addr) (sp : Sp) : Prop :=
  ∀ (A : Around) (outer : List Env) (s : Shared) (H : Hp) (u : Value) (v : V) (Q : VK) (E : XK),
    Room k A → Env0 P w K mg base A outer s H → RelV v u → sp [v] H Q E →
    codeAny (model P w) A (.call (.ref f) ⟨[u], []⟩) (CR CX0 outer P w H s Q E) s
section
variable {P : Program} {w : World} {K : PySem.W.Frag} {mg : Str → Option Value} {base : Heap}
/-- a def of the text -/
theorem one_def {k : Nat} {x : Str} {sp : Sp} (C : C8.Cal P w K mg base k x sp []) : ∃ f, mg x = some (.ref f) ∧ (∃ fd ps, FnOk P w K mg base CX0 k f fd ps sp) ∧ One P w K mg base k f sp := by
  obtain ⟨f, fd, ps, ds, F, hm, kp, b, d⟩ := C
  cases d
  refine ⟨f, hm, ⟨fd, ps, F⟩, fun A o s H u v Q E hr e0 rv h => ?_⟩
  have KX : K.In s.heap := e0.mod.kin.keeps fun b o e => (e0.bs b o e).1
  have hl : ([u] : List Value).length = ps.length := F.len _ _ _ _ h
  exact F.run A o s H ⟨[u], []⟩ [u] [v] Q E hr e0 (b s [u] KX hl) (.cons rv .nil) h
/-- a lambda, by its body -/
theorem one_lam {k : Nat} {q p : Str} {ar : Arguments} {bd : Expr} {sc : Scope} {N : List Str} {sp : Sp} (f c : Addr)
    (S : FnScope N [p] sc) (nc : ∀ y ∈ sc.names, y.2 ≠ .cell)
    (bind : ∀ (pm ct u : Value), bindArgs (PySem.W.kla_fn "<lambda>" q ar bd sc [] pm (.ref c) ct) ⟨[u], []⟩ = pure [(p, u)])
    (body : ∀ (A : Around) (outer : List Env) (s : Shared) (H : Hp) (v : V) (Q : VK) (E : XK),
      Room k (A.deeper (envOfC q sc s.heap.objs.size f (.ref c))) → sp [v] H Q E →
      ∃ te : TE, PE (cxOf CX0 P w K mg base N q sc f (.ref c) A outer s H E).nox bd te ∧ te (start N [v]) H Q) :
    One P w K mg base (k + 1) f fun vs H Q E => H f = some (LamO f c q ar bd sc) ∧ H c = some (CodeO c q) ∧ sp vs H Q E := by
  intro A outer s H u v Q E hr e0 rv h
  obtain ⟨hf, hc, hs⟩ := h
  obtain ⟨⟨pm, ct, of⟩, _, _⟩ := e0.hok f _ hf
  obtain ⟨⟨oc, vs, t, e1, e2, e3⟩, _, _⟩ := e0.hok c _ hc
  have lim : s.heap.NoLimit := e0.mod.nolimit.keeps fun b o e => (e0.bs b o e).1
  refine PySem.W.kla_callFunE hr.depth of rfl S.co S.gen rfl ⟨c, oc, vs, t, rfl, e1, e2, e3⟩ ?_
  rw [bind]
  refine wpAny_pure ?_
  refine wpAny_newFunctionEnv_cells S.kind (fun y hy => ?_) fun env he s1 x => ?_
  · obtain rfl : y = (p, u) := by simpa using hy
    exact (S.par p (by simp)).elim .inl fun z => absurd rfl (nc _ (PySem.mem_of_lookup z))
  subst he
  refine ⟨lim.keeps x.toInCall.keep, ?_⟩
  obtain ⟨te, ht, hq⟩ := body A outer s H v Q E (hr.deeper _) hs
  have I := inv_start (CX := CX0) (E := E) (us := [u]) (vs := [v]) S hr.hd e0 rfl (.cons rv .nil) x
  refine PySem.W.kla_codeExpr (wpAny_mono (ht.nox.run [] s1 (start N [v]) H Q I hq) (fun u' s' hs => ?_) fun _ _ hs => hs)
  obtain ⟨v', H', J, rv', q'⟩ := hs
  exact ⟨v', H', J.os, J.bare, J.base, J.hok, rv', q'⟩
end

/-! ### a lambda is made -/
/-- what the making of a lambda gives on -/
def tLamV (T : List (Addr × Str)) (q : Str) (ar : Arguments) (bd : Expr) (sc : Scope) : TE := fun _ H Q =>
  Tabs T H ∧ ∀ (f c : Addr) (H1 : Hp), ExtN H H1 → Tabs T H1 → H1 f = some (LamO f c q ar bd sc) → H1 c = some (CodeO c q) → H f = none → H c = none ∨ H c = some (CodeO c q) → Q (.ref f) H1
section
variable {X : Cx} {pins : List (Addr × Obj)} {σ : L2.St} {H : Hp} {s : Shared}
/-- a lambda's object, laid behind all others -/
theorem inv_lam {c : Addr} {q : Str} {ar : Arguments} {bd : Expr} {sc : Scope} {pm ct : Value} {h' : Heap} {tk : Nat} (I : Inv X pins σ H { s with heap := h', toks := tk }) :
    Inv X pins σ (upd H h'.objs.size (LamO h'.objs.size c q ar bd sc)) { s with heap := h'.push (PySem.W.kla_obj "<lambda>" q ar bd sc [] pm c ct), toks := tk } := by
  refine I.laid (fun b u e => Heap.get?_push_of_some _ e) (Nat.le_refl _) ?_
  refine ⟨⟨pm, ct, Heap.get?_push_size _ rfl⟩, ⟨_, Heap.get?_push_size _ rfl⟩, ?_⟩
  rintro h1 h2 ⟨pm', ct', e⟩ st
  exact ⟨pm', ct', st _ e⟩
theorem lam_ne_tbl {f c : Addr} {q : Str} {ar : Arguments} {bd : Expr} {sc : Scope} (ps : Array Value) : LamO f c q ar bd sc ≠ .tbl ps := fun z => by
  unfold LamO at z
  cases z
theorem tabs_new {T : List (Addr × Str)} {f : Addr} {o : HO} (t : Tabs T H) (n : H f = none) : Tabs T (upd H f o) :=
  t.ext fun b u e => by
    rw [upd_ne (ne_of_none e n)]
    exact e
theorem pe_lam {T : List (Addr × Str)} {c P : Addr} {ar : Arguments} {bd : Expr} {sc : Scope} {pos : Pos} (TB : TabB X.base X.mg c P) (hcode : X.env.code = .ref c)
    (hm : (P, X.env.qual ++ "<lambda>") ∈ T) (hu : ∀ p ∈ T, p.1 = P → p.2 = X.env.qual ++ "<lambda>") (hdef : defaultsOf ar X.env = ([], []))
    (hfree : ∀ y ∈ sc.names, y.2 ≠ .free) (hclo : cloFrom X.env.cells sc.names [] = []) :
    PE X (.Lambda ar bd sc pos) (tLamV T (X.env.qual ++ "<lambda>") ar bd sc) := by
  refine ⟨fun pins s σ H Q I h => ?_⟩
  obtain ⟨hT, go⟩ := h
  obtain ⟨ps, atP, tri, known⟩ := hT _ hm
  have oP : s.heap.get? P = some { cls := .none, data := .fields ps } := I.hok P _ atP
  have bP : s.heap.BuiltinsAt X.mg P := TB.bm.keeps I.bk
  have cl := closure_ok (scope := sc) (env := X.env) fun y hy e => absurd e (hfree y hy)
  rw [hclo] at cl
  refine PySem.W.kla_eval hdef ?_
  cases found : codeAmong pos ps.toList with
  | some cv =>
    obtain ⟨c1, rfl, known1⟩ := known pos cv found
    refine PySem.W.kla_makeFunctionHit (mg := X.mg) (c := c) (P := P) (ps := ps) cl I.ok.glob (I.mod.glob.keeps I.bk) hcode (TB.code.keeps I.bk) oP tri found bP ?_
    intro ct h' tk keep size
    have I1 : Inv X pins σ H { s with heap := h', toks := tk } := I.kept keep
    have nf : H h'.objs.size = none := I.hok.fresh size
    refine ⟨.ref h'.objs.size, _, inv_lam I1, rfl, go _ c1 _ (fun b o e _ => ?_) (tabs_new hT nf) upd_same ?_ nf (.inr known1)⟩
    · rw [upd_ne (ne_of_none e nf)]
      exact e
    · rw [upd_ne (ne_of_none known1 nf)]
      exact known1
  | none =>
    refine PySem.W.kla_makeFunction (mg := X.mg) (c := c) (P := P) (ps := ps) cl I.ok.glob (I.mod.glob.keeps I.bk) hcode (TB.code.keeps I.bk) oP tri found TB.gP bP ?_
    intro c1 ct h' tk but ge lt code tab
    obtain ⟨c2, oc, vs, t, ec, e1, e2, e3⟩ := code
    cases ec
    have nc : H c1 = none := I.hok.fresh ge
    have I1 := LamX.inv_table (t' := tk) (more := #[rawInt pos.line, rawInt pos.col, .ref c1]) I atP (fun b o nb e => but b o nb e) tab ge ⟨oc, vs, t, e1, e2, e3⟩
    have size : s.heap.objs.size ≤ h'.objs.size := Nat.le_trans ge (Nat.le_of_lt lt)
    have nP : P ≠ c1 := ne_of_none atP nc
    have nf : upd (upd H P (.tbl (ps ++ #[rawInt pos.line, rawInt pos.col, .ref c1]))) c1 (CodeO c1 (X.env.qual ++ "<lambda>")) h'.objs.size = none := I1.hok.fresh (Nat.le_refl _)
    have ext : ExtN H (upd (upd H P (.tbl (ps ++ #[rawInt pos.line, rawInt pos.col, .ref c1]))) c1 (CodeO c1 (X.env.qual ++ "<lambda>"))) := by
      intro b o e notTab
      have nbP : b ≠ P := fun z => by
        rw [z, atP] at e
        exact notTab ps (Option.some.inj e).symm
      rw [upd_ne (ne_of_none e nc), upd_ne nbP]
      exact e
    have tabs : Tabs T (upd (upd H P (.tbl (ps ++ #[rawInt pos.line, rawInt pos.col, .ref c1]))) c1 (CodeO c1 (X.env.qual ++ "<lambda>"))) := by
      rintro ⟨P', q'⟩ mem
      by_cases same : P' = P
      · subst same
        obtain rfl : q' = X.env.qual ++ "<lambda>" := hu _ mem rfl
        have list : (ps ++ #[rawInt pos.line, rawInt pos.col, .ref c1]).toList = ps.toList ++ [rawInt pos.line, rawInt pos.col, .ref c1] := by simp
        refine ⟨_, (by rw [upd_ne nP, upd_same]), ?_, fun p1 cv at1 => ?_⟩
        · rw [list]
          exact PySem.TriplesOk_snoc _ _ _ _ tri
        · rw [list] at at1
          rcases LamX.among_app _ tri at1 with z | z
          · obtain ⟨c2, y1, y2⟩ := known p1 cv z
            exact ⟨c2, y1, ext _ _ y2 LamX.codeO_ne⟩
          · exact ⟨c1, z, upd_same⟩
      · obtain ⟨ps2, a1, a2, a3⟩ := hT _ mem
        refine ⟨ps2, ?_, a2, fun p1 cv at1 => ?_⟩
        · show upd (upd H P _) c1 _ P' = _
          rw [upd_ne (ne_of_none a1 nc), upd_ne same]
          exact a1
        · obtain ⟨c2, y1, y2⟩ := a3 p1 cv at1
          exact ⟨c2, y1, ext _ _ y2 LamX.codeO_ne⟩
    refine ⟨.ref h'.objs.size, _, inv_lam I1, rfl, go _ c1 _ (fun b o e n => ?_) (tabs_new tabs nf) upd_same ?_ (I.hok.fresh size) (.inl nc)⟩
    · have e2 := ext b o e n
      rw [upd_ne (ne_of_none e2 nf)]
      exact e2
    · rw [upd_ne (Nat.ne_of_lt lt), upd_same]
/-- a call of a local that holds a def, or such a lambda -/
def tCallV (P : Program) (w : World) (K : PySem.W.Frag) (mg : Str → Option Value) (base : Heap) (k i : Nat) (t : TA) : TE := fun σ H Q =>
  ∃ f sp, σ[i]? = some (some (.ref f)) ∧ One P w K mg base k f sp ∧ Callee K H f ∧ t σ H fun vs H1 => Callee K H1 f ∧ (∃ v, vs = [v]) ∧ sp vs H1 Q E0
theorem Callee.at {f : Addr} (c : Callee X.K H f) (I : Inv X pins σ H s) : PySem.W.FnAt f s.heap := by
  rcases c with ⟨oc, od, fd, sl, e⟩ | ⟨c, q, ar, bd, sc, e⟩
  · exact ⟨oc, od, fd, sl, I.kIn _ _ e⟩
  · obtain ⟨⟨pm, ct, e⟩, _, _⟩ := I.hok f _ e
    exact ⟨_, _, _, _, e⟩
theorem pe_callV {k i : Nat} {x : Str} {p pos : Pos} {e : Expr} {es : List Expr} {t : TA} (hr : Room k X.A) (hN : X.N[i]? = some x) (hv : Vis X.env.scope x) (ha : PA X (e :: es) t)
    (hdb : (x == ("__debug__" : Str)) = false := by decide) (hcd : (x == ("__classdict__" : Str)) = false := by decide)
    (he : starEach (e :: es) X.env = (false, eval e X.env) :: starEach es X.env := by rfl) (hpl : (backTo pos (starEach es X.env)).any (·.1) = false := by rfl) :
    PE X (.Call (.Name x p) (e :: es) [] pos) (tCallV X.prog X.w X.K X.mg X.base k i t) := by
  refine ⟨fun pins s σ H Q I h => ?_⟩
  obtain ⟨f, sp, hs, F, cl, ht⟩ := h
  refine wpAny_Call_Name_kw (thn ((pe_var (pos := p) hN hv hdb hcd).run pins s σ H (fun v H1 => v = .ref f ∧ H1 = H) I ⟨.ref f, hs, rfl, rfl⟩) fun u s1 ⟨v, H1, I1, r1, q1⟩ => ?_)
  obtain ⟨rfl, rfl⟩ := q1
  cases r1
  refine PySem.W.callWith_F (cl.at I1) (thn (ha.run pos pins s1 σ _ _ I1 ht) fun us s2 ⟨vs, H2, I2, r, q⟩ => ?_) he hpl
  obtain ⟨cl2, ⟨v, rfl⟩, q⟩ := q
  refine ⟨cl2.at I2, ?_⟩
  cases r with
  | cons rv rn =>
    cases rn
    refine wpAny_call (codeAny_mono (F X.A X.stack s2 H2 _ _ Q E0 hr I2.env0 rv q) fun r s' hq => ?_)
    cases r with
    | error e => exact (hq : False).elim
    | ok fl =>
      cases fl with
      | ret u => exact I2.after hq
      | next => exact (hq : False).elim
      | brk => exact (hq : False).elim
      | cont => exact (hq : False).elim
end
end Vf

set_option Elab.async false
set_option linter.all false
set_option maxRecDepth 100000
set_option maxHeartbeats 4000000
/-! The end of a law one of whose defs makes lambdas: its code object at c, the table of what it made at P. -/
namespace Vf
open PySem PySem.Spec PyProof.Rows L2
open LamX (CodeO TabS Tabs ExtN TabB)
abbrev tab0 : Obj := { cls := .none, data := .fields #[] }
section
variable {P : Program} {w : World} {K : PySem.W.Frag}
  {mg mb : Str → Option Value} {k : Nat} {fa a : Addr} {fd : FuncData}
  {x : Str} {sp : Sp} {s₁ : Shared} {vs : List Value} {ns : List Int} {c T : Addr}

theorem law_goesT (KX : K.In s₁.heap)
    (hns : s₁.heap.Ns mainGlobals mg) (hb : s₁.heap.Ns builtinsNs mb)
    (hbb : ∀ y : Str, y ≠ "__name__" → mb y = bootBuiltins y)
    (hlim : s₁.heap.NoLimit) (hgen : s₁.gens = #[])
    (hT : s₁.heap.get? T = some tab0) (nT : K.lookup T = none) (C : PySem.W.CodeHd s₁.heap c T)
    (hbm : ∃ (bm : Addr) (ob : Obj), mg "__builtins__" = some (.ref bm) ∧ bm ≠ builtinsNs ∧ s₁.heap.get? bm = some ob ∧ ob.cls = .type "module" ∧ ob.dict = some builtinsNs ∧ ob.data = .plain)
    (ha : s₁.heap.get? a =
      some { cls := .type "list", data := .seq vs.toArray })
    (hr : Room k callerA)
    (F : ∀ base : Heap, K.In base → base.Ns mainGlobals mg → TabB base mg c T →
      FnG P w K mg base k fa fd [x] sp)
    (bind : ∀ (s : Shared) (u : Value),
      BindsTo s fd ⟨[u], []⟩ [(x, u)])
    (H : Hp) (hHT : H T = some (.tbl #[])) (hO : ∀ b, H b = none ∨ b = T ∨ ∃ o xs, H b = some (.frz o (.lst xs))) (ok : HOk P w H s₁.heap)
    (alone : ∀ b, H b ≠ none → b = a ∨ b = T)
    (notK : H a ≠ none → K.lookup a = none)
    (hs : sp [.ref a] H (fun v _ => v = .bl true) fun _ _ _ => False) :
    codeAny (model P w) callerA (.call (.ref fa) ⟨[.ref a], []⟩)
      (LawEnd s₁) s₁ := by
  have free : ∀ {b : Addr} {o : Obj}, s₁.heap.get? b = some o → (∀ xs n, o.data ≠ .seq xs n) → o.data ≠ .fields #[] → H b = none := by
    intro b o e d1 d2
    cases q : H b with
    | none => rfl
    | some u =>
      rcases alone b (by rw [q]; exact Option.some_ne_none u) with z | z
      · rw [z, ha] at e
        cases e
        exact absurd rfl (d1 _ _)
      · rw [z, hT] at e
        cases e
        exact absurd rfl d2
  have ns' : ∀ {b : Addr} {m : Str → Option Value},
      s₁.heap.Ns b m → (hidT s₁.heap H).Ns b m := by
    rintro b m ⟨o, es, ep, e, d, r⟩
    refine ⟨o, es, ep, hidT_get e (free e (fun xs n z => ?_) fun z => ?_), d, r⟩
    · rw [d] at z
      cases z
    · rw [d] at z
      cases z
  have kin : K.In (hidT s₁.heap H) := by
    intro b o e
    refine hidT_get (KX b o e) ?_
    cases q : H b with
    | none => rfl
    | some u =>
      rcases alone b (by rw [q]; exact Option.some_ne_none u) with z | z
      · have z2 := notK (by rw [← z, q]; exact Option.some_ne_none u)
        rw [z, z2] at e
        cases e
      · rw [z, nT] at e
        cases e
  have lim' : (hidT s₁.heap H).NoLimit := by
    obtain ⟨mc, h1, h2⟩ := hlim
    exact ⟨mc, ns' h1, h2⟩
  have M : Mod K mg (hidT s₁.heap H) :=
    ⟨kin, ns' hns, ⟨mb, ns' hb, hbb⟩, lim'⟩
  have notMain : mainGlobals ≠ T := fun z => by
    obtain ⟨o, es, ep, e, d, _⟩ := hns
    rw [z, hT] at e
    cases e
    cases d
  have TB : TabB (hidT s₁.heap H) mg c T := by
    refine ⟨?_, ?_, notMain⟩
    · obtain ⟨o, us, fl, tf, fg, tg, inF, tx, tt, e, r1, r2, r3, rest⟩ := C
      refine ⟨o, us, fl, tf, fg, tg, inF, tx, tt, hidT_get e (free e (fun xs n z => ?_) fun z => ?_), r1, r2, r3, rest⟩
      · rw [r2] at z
        cases z
      · rw [r2] at z
        cases z
        simp at r3
    · obtain ⟨bm, ob, m1, m2, m3, m4, m5, m6⟩ := hbm
      refine ⟨bm, ob, m1, m2, fun z => ?_, fun z => ?_, hidT_get m3 (free m3 (fun xs n z => ?_) fun z => ?_), m4, m5, m6⟩
      · obtain ⟨o, es, ep, e, d, _⟩ := hns
        rw [z, e] at m3
        cases m3
        rw [m6] at d
        cases d
      · rw [z, hT] at m3
        cases m3
        cases m6
      · rw [m6] at z
        cases z
      · rw [m6] at z
        cases z
  have none_in : ∀ b : Addr, b ∉ ([] : List Addr) := fun b => by simp
  have env : Env0 P w K mg (hidT s₁.heap H) callerA [] s₁ H :=
    ⟨rfl, M, fun b o e => of_hidT e, Nat.le_of_eq (hidT_size _ _),
      trivial, fun b z => absurd z (none_in b), ok, .of_eq hgen⟩
  refine codeAny_mono ((F _ kin (ns' hns) TB).go callerA [] s₁ H
    ⟨[.ref a], []⟩ [.ref a] [.ref a] _ _ hr rfl env
    (bind s₁ (.ref a)) (.cons rfl .nil) hs) ?_
  intro r s' h
  cases r with
  | error e => exact (h : False).elim
  | ok fl =>
    cases fl with
    | next => exact (h : False).elim
    | brk => exact (h : False).elim
    | cont => exact (h : False).elim
    | ret u =>
      obtain ⟨v, H', os, bare, un, ok', rv, q⟩ := h
      obtain rfl : v = .bl true := q
      obtain rfl : u = Value.bool true := rv
      have same : ∀ b o, b ≠ T → s₁.heap.get? b = some o → s'.heap.get? b = some o := by
        intro b o nb e
        cases q : H b with
        | none => exact un.keep b o e q (none_in b) (none_in b)
        | some u =>
          rcases hO b with z | z | ⟨ob, xs, z⟩
          · rw [q] at z
            cases z
          · exact absurd z nb
          · obtain ⟨e1, _⟩ := ok b _ z
            obtain ⟨e2, _⟩ := ok' b _ (un.frzs b ob _ z)
            rw [e] at e1
            cases e1
            exact e2
      obtain ⟨more, z⟩ := un.tbls T #[] hHT
      have grown : s'.heap.get? T = some { cls := .none, data := .fields (#[] ++ more) } := ok' T _ z
      refine ⟨rfl, ⟨fun b o e => ?_, fun b o e => ?_⟩, os, bare⟩
      · by_cases nb : b = T
        · subst nb
          rw [hT] at e
          cases e
          exact .inr (.inl ⟨(C.tab hT).isCodeTable, rfl, #[], more, rfl, grown⟩)
        · exact .inl (same b o nb e)
      · by_cases nb : b = T
        · subst nb
          exact ⟨_, grown⟩
        · exact ⟨o, same b o nb e⟩

theorem law_goesT2 (KX : K.In s₁.heap)
    (hns : s₁.heap.Ns mainGlobals mg) (hb : s₁.heap.Ns builtinsNs mb)
    (hbb : ∀ y : Str, y ≠ "__name__" → mb y = bootBuiltins y)
    (hlim : s₁.heap.NoLimit) (hgen : s₁.gens = #[])
    (hT : s₁.heap.get? T = some tab0) (nT : K.lookup T = none) (C : PySem.W.CodeHd s₁.heap c T)
    (hbm : ∃ (bm : Addr) (ob : Obj), mg "__builtins__" = some (.ref bm) ∧ bm ≠ builtinsNs ∧ s₁.heap.get? bm = some ob ∧ ob.cls = .type "module" ∧ ob.dict = some builtinsNs ∧ ob.data = .plain)
    (ha : s₁.heap.get? a =
      some { cls := .type "list", data := .seq vs.toArray })
    (hi : IntsAre vs ns) (hl : ns.length ≤ sizeLine)
    (hr : Room k callerA)
    (F : ∀ base : Heap, K.In base → base.Ns mainGlobals mg → TabB base mg c T →
      FnG P w K mg base k fa fd [x] sp)
    (bind : ∀ (s : Shared) (u : Value),
      BindsTo s fd ⟨[u], []⟩ [(x, u)])
    (hs : ∀ H : Hp, H T = some (.tbl #[]) → SqL K H a (ns.map V.int) →
      sp [.ref a] H (fun v _ => v = .bl true) fun _ _ _ => False) :
    codeAny (model P w) callerA (.call (.ref fa) ⟨[.ref a], []⟩)
      (LawEnd s₁) s₁ := by
  have rv := vals_ints hi
  have aT : a ≠ T := fun z => by
    rw [z, hT] at ha
    cases ha
  cases hk : K.lookup a with
  | some o =>
    have e := KX a o hk
    rw [ha] at e
    cases e
    refine law_goesT KX hns hb hbb hlim hgen hT nT C hbm ha hr F bind
      (fun b => if b = T then some (.tbl #[]) else none) (if_pos rfl) (fun b => ?_) (fun b u z => ?_)
      (fun b z => ?_) (fun z => absurd (if_neg aT) z) (hs _ (if_pos rfl) ?_)
    · by_cases q : b = T
      · exact .inr (.inl q)
      · exact .inl (if_neg q)
    · by_cases q : b = T
      · have z' := (if_pos q).symm.trans z
        cases z'
        subst q
        exact hT
      · have z' := (if_neg q).symm.trans z
        cases z'
    · by_cases q : b = T
      · exact .inr q
      · exact absurd (if_neg q) z
    refine .inr ⟨_, vs.toArray, _, hk, rfl, rfl, rfl, ?_, by simpa using rv⟩
    rw [List.size_toArray, hi.length]
    exact hl
  | none =>
    have e1 : ∀ {p q : Option HO}, (if T = a then p else if T = T then q else none) = q := fun {p q} => by
      rw [if_neg aT.symm, if_pos rfl]
    refine law_goesT KX hns hb hbb hlim hgen hT nT C hbm ha hr F bind
      (fun b => if b = a then some (.frz { cls := .type "list", data := .seq vs.toArray } (.lst (ns.map V.int))) else if b = T then some (.tbl #[]) else none) e1 (fun b => ?_)
      (fun b u z => ?_) (fun b z => ?_) (fun _ => hk)
      (hs _ e1 (.inl (.inr ⟨_, if_pos rfl⟩)))
    · by_cases q : b = a
      · exact .inr (.inr ⟨_, _, if_pos q⟩)
      · by_cases q2 : b = T
        · exact .inr (.inl q2)
        · exact .inl ((if_neg q).trans (if_neg q2))
    · by_cases q : b = a
      · have z' := (if_pos q).symm.trans z
        cases z'
        subst q
        exact ⟨ha, by rw [List.length_map]; exact hl, vs, _, rv, ha⟩
      · by_cases q2 : b = T
        · have z' := ((if_neg q).trans (if_pos q2)).symm.trans z
          cases z'
          subst q2
          exact hT
        · have z' := ((if_neg q).trans (if_neg q2)).symm.trans z
          cases z'
    · by_cases q : b = a
      · exact .inl q
      · by_cases q2 : b = T
        · exact .inr q2
        · exact absurd ((if_neg q).trans (if_neg q2)) z
end

/-- the goal that the head leaves -/
theorem walk_ofT {l : PySem.W.OpenLaw} {n k : Nat} {q : Program}
    {loose : List Str} {XP : (Str → Option Value) → Heap → Prop}
    {YP : World → Heap → Prop} {d : DefRec}
    {K : Params → PySem.W.Frag} {sp : World → Sp} {x : Str} {T : Addr}
    (hn : l.most = some n) (hn2 : n ≤ sizeLine)
    (hdf : d.params.defaults = []) (hr : Room k callerA)
    (hY : ∀ (w : World) (h : Heap), YP w h → (K w.params).In h ∧ h.get? T = some tab0)
    (F : ∀ (w : World) (mg : Str → Option Value) (fa : Addr) (h : Heap),
      (K w.params).In h → h.Ns mainGlobals mg →
      mg d.name = some (.ref fa) →
      ∃ (fd : FuncData) (c : Addr), PySem.W.codeHdIn (K w.params) c T = true ∧ (K w.params).lookup T = none ∧
        (∀ (s : Shared) (u : Value), BindsTo s fd ⟨[u], []⟩ [(x, u)]) ∧
        ∀ base : Heap, (K w.params).In base → base.Ns mainGlobals mg → TabB base mg c T →
          FnG l.prog w (K w.params) mg base k fa fd [x] (sp w))
    (hsp : ∀ (w : World) (H : Hp) (a : Addr) (ns : List Int),
      ns.length ≤ n → H T = some (.tbl #[]) → SqL (K w.params) H a (ns.map V.int) →
      sp w [.ref a] H (fun v _ => v = .bl true) fun _ _ _ => False) :
    PySem.W.WalkO q loose XP YP l.row.toRowW d []
      (fun f vs => PySem.call f vs) := by
  refine Att.attach_call hn hdf ?_
  intro w s₀ s₁ mg mb fa o pm cd doc a vs ns G Y ho hd hcd hmg hobj hints hlen hg
  obtain ⟨KX, hT⟩ := hY w _ Y
  obtain ⟨fd, c, hC, nT, hb, hF⟩ := F w mg fa _ KX G.T.g hmg
  exact law_goesT2 KX G.T.g G.T.b G.T.builtins G.T.nolimit hg hT nT (PySem.W.codeHd_of_K KX hC) G.T.bmain hobj
    hints (Nat.le_trans hlen hn2) hr hF hb
    (fun H hO hS => hsp w H a ns hlen hO hS)

/-- a def of the text whose code object is known -/
structure DefC (K : PySem.W.Frag) (mg : Str → Option Value) (x : Str) (st : Stmt) (ps : List Str) (cd : Value) : Prop where
  ex : ∃ (f : Addr) (oc : Value) (od an : Option Addr) (sl : Array (Option Value)) (kV dc pm ct : Value),
    K.lookup f = some ⟨oc, od, .func (PySem.W.fnOf x x (defArgs st) (defBody st) (defScope st) .none kV dc pm an cd ct), sl⟩ ∧
    PySem.W.codeIn K cd x = true ∧ PySem.W.keepIn K (.ref f) = true ∧ mg x = some (.ref f) ∧
    Binds K (PySem.W.fnOf x x (defArgs st) (defBody st) (defScope st) .none kV dc pm an cd ct) ps []
theorem calOfC {P : Program} {w : World} {K : PySem.W.Frag} {mg : Str → Option Value} {base : Heap} {x : Str} {st : Stmt} {N ps : List Str} {k : Nat} {sp : Sp} {cd : Value}
    (D : DefC K mg x st ps cd) (S : FnScope N ps (defScope st))
    (many : ∀ vs H Q E, sp vs H Q E → vs.length = ps.length)
    (body : ∀ (f : Addr) (A : Around) (outer : List Env) (s : Shared) (H : Hp) (vs : List V) (Q : VK) (E : XK),
      Room k (A.deeper (envOfC x (defScope st) s.heap.objs.size f cd)) → sp vs H Q E →
      ∃ t, PSs (cxOf CX0 P w K mg base N x (defScope st) f cd A outer s H E).nox (defBody st) t ∧ t { nx := fun _ H' => Q .non H', rt := Q } (start N vs) H) :
    C8.Cal P w K mg base (k + 1) x sp [] := by
  obtain ⟨f, oc, od, an, sl, kV, dc, pm, ct, lk, hcd, kp, hm, hb⟩ := D.ex
  refine ⟨f, _, ps, [], ⟨many, fun A outer s H args us vs Q E hr e0 hb r hsp => ?_⟩, hm, kp, hb, .nil⟩
  have hlen := many _ _ _ _ hsp
  have KX : K.In s.heap := e0.mod.kin.keeps fun b o e => (e0.bs b o e).1
  have lim := e0.mod.nolimit.keeps fun b o e => (e0.bs b o e).1
  have kinds : ∀ y ∈ ps.zip us, (defScope st).names.lookup y.1 = some .local ∨
      ((defScope st).names.lookup y.1 = some .cell ∧ ((cellsFrom (s.heap.objs.size + 1) (defScope st).names []).lookup y.1).isSome = true) := by
    rintro ⟨n, v⟩ hy
    cases S.par n (List.of_mem_zip hy).1 with
    | inl q => exact .inl q
    | inr q => exact .inr ⟨q, PySem.W.cellsFrom_some _ _ _ (.inl q)⟩
  refine codeAny_call_function hr.depth (KX _ _ lk) rfl S.co S.gen rfl (PySem.W.codeRec_of KX hcd) (hb _ _ _ _ ?_)
  refine wpAny_newFunctionEnv_cells S.kind kinds fun env he s1 y => ?_
  subst he
  refine ⟨lim.keeps y.toInCall.keep, codeAny_func ?_⟩
  obtain ⟨t, ht, hq⟩ := body f A outer s H vs Q E (hr.deeper _) hsp
  have I := inv_start (CX := CX0) (E := E) S hr.hd e0 hlen r y
  refine wpAny_mono (ht.nox.run [] s1 (start N vs) H _ I hq) (fun fl s' hs => ?_) (fun _ _ hs => hs)
  cases fl with
  | brk => exact (hs.choose_spec.choose_spec.2 : False).elim
  | cont => exact (hs.choose_spec.choose_spec.2 : False).elim
  | next =>
    obtain ⟨_, H', J, q⟩ := hs
    exact ⟨V.non, H', J.os, J.bare, J.base, J.hok, rfl, q⟩
  | ret u =>
    obtain ⟨v, _, H', J, rv, q⟩ := hs
    exact ⟨v, H', J.os, J.bare, J.base, J.hok, rv, q⟩
end Vf

set_option Elab.async false
set_option linter.all false
set_option maxRecDepth 100000
set_option maxHeartbeats 4000000
/-! Own words: an error class of one field; try whose first clause, with a name, takes all that comes. -/
namespace Vf
open PySem PySem.Spec PyProof.Rows L2

/-- the ends behind a suite; what stood in slot i is gone there -/
def clearE (i : Nat) (D : Ends) : Ends :=
  ⟨fun τ G => D.nx (τ.set i none) G, D.rt, fun τ G => D.bk (τ.set i none) G, fun τ G => D.ct (τ.set i none) G⟩
/-- wished of an exception of the body: it is the first clause's -/
def wHd (K : PySem.W.Frag) (c : Value) (i : Nat) (ts : Addr → Value → Option Addr → TS) (D : Ends) : WX :=
  fun z d τ G => PySem.W.exmOne K z c = some true ∧ ∀ a, G a = none → ts a z d (clearE i D) (τ.set i (some (.ref a))) G

section
variable {X : Cx} {x n : Str} {c : Value} {i : Nat} {body suite : List Stmt} {st : Stmt} {np pos q : Pos} {more : List ExceptHandler}
  {tb : WX → TS} {ts : Addr → Value → Option Addr → TS} {D : Ends} {pins : List (Addr × Obj)} {τ : L2.St} {G : Hp} {s : Shared}
/-- the suite runs with the exception in slot i, which is gone behind it -/
theorem hd_suite {a : Addr} {oe : Obj} {z : Value} {d : Option Addr} {vs : Array Value} (nd : X.N.Nodup) (hi : X.N[i]? = some n) (loc : X.env.kindOf n = some .local)
    (run : PSs (X.suite a ((a, oe) :: (X.pn ++ pins))) (st :: suite) (ts a z d)) (J : Inv X pins τ G s)
    {R : Flow → Shared → Prop} {Er Es : Value → Shared → Prop} (hR : ∀ fl t, wpAny (model X.prog X.w) X.A (do bindName X.env n .none; unbindBehindTheSuite X.env n q) (fun _ u => SP X pins D fl u) X.xe t → R fl t)
    (e : s.heap.get? a = some oe) (f : oe.data = .fields vs) (na : G a = none) (nl : a ≠ X.env.locals) (nf : a ∉ X.fs)
    (h : ts a z d (clearE i D) (τ.set i (some (.ref a))) G) :
    wpAny (model X.prog X.w) (X.A.mark (some (.ref a))) (storeName X.env n (.ref a))
      (fun _ t => wpAny (model X.prog X.w) (X.A.mark (some (.ref a))) (execs (st :: suite) X.env) R Er t) Es s := by
  have S := J.suite e f na nl nf
  refine store_ok (X := X.suite a ((a, oe) :: (X.pn ++ pins))) (v := .ref a) S nd hi (.inl loc) rfl (fun t T => ?_) (.inr loc)
  refine wpAny_mono (run.run [] t _ G _ T h) (fun fl u hu => hR fl u ?_) fun _ _ no => no.elim
  have away : ∀ {τ' : L2.St} {G' : Hp}, Inv (X.suite a ((a, oe) :: (X.pn ++ pins))) [] τ' G' u → (∀ u', Inv X pins (τ'.set i none) G' u' → SP X pins D fl u') →
      wpAny (model X.prog X.w) X.A (do bindName X.env n .none; unbindBehindTheSuite X.env n q) (fun _ u' => SP X pins D fl u') X.xe u :=
    fun I' k => gone_ok (I'.unsuite J.ok) nd hi loc k
  cases fl with
  | ret v =>
    obtain ⟨v', τ', G', I', r, w⟩ := hu
    exact away I' fun u' J' => ⟨v', _, G', J', r, w⟩
  | next =>
    obtain ⟨τ', G', I', w⟩ := hu
    exact away I' fun u' J' => ⟨_, G', J', w⟩
  | brk =>
    obtain ⟨τ', G', I', w⟩ := hu
    exact away I' fun u' J' => ⟨_, G', J', w⟩
  | cont =>
    obtain ⟨τ', G', I', w⟩ := hu
    exact away I' fun u' J' => ⟨_, G', J', w⟩
end
end Vf
namespace Vf
open PySem PySem.Spec PyProof.Rows L2
section
variable {X : Cx} {x n : Str} {c : Value} {i : Nat} {body suite : List Stmt} {st : Stmt} {np pos q : Pos} {more : List ExceptHandler}
  {tb : WX → TS} {ts : Addr → Value → Option Addr → TS} {D : Ends} {pins : List (Addr × Obj)} {s : Shared} {e : Value} {xo : Value → Shared → Prop}
/-- an exception that has landed is no frame -/
theorem no_frame {B : Heap} {es : List Env} {h : Heap} {a : Addr} {o : Obj} {vs : Array Value} (fr : h.FunFrames B es) (g : h.get? a = some o) (f : o.data = .fields vs) : a ∉ frs es := fun m => by
  obtain ⟨_, u, g', no⟩ := fr.mem m
  obtain rfl := Option.some.inj (g.symm.trans g')
  exact no _ f
/-- the name of the clause is read -/
theorem hd_name {a : Addr} {oe : Obj} {τ : L2.St} {G : Hp} {Q : Value → Shared → Prop} {Er : Value → Shared → Prop} (hc : Names X x c) (S : Inv (X.suite a ((a, oe) :: (X.pn ++ pins))) [] τ G s) (k : Q c s) :
    wpAny (model X.prog X.w) (X.A.mark (some (.ref a))) (eval (.Name x np) X.env) Q Er s := by
  rcases hc with ⟨gl, nb, own | ⟨free, boot, nn⟩⟩
  · exact ld_glob S gl own k nb
  · exact ld_blt S gl free boot k nn nb
theorem hd_catch (hs : X.stack = X.env :: X.outer) (hf : X.env.frame = some X.env.locals) (nd : X.N.Nodup) (hi : X.N[i]? = some n) (loc : X.env.kindOf n = some .local) (hc : Names X x c) (ok : X.Ok)
    (hsu : ∀ (a : Addr) (oe : Obj) (z : Value) (d : Option Addr) (pn : List (Addr × Obj)), Zc z d oe → (∃ vs, oe.data = .fields vs) → PSs (X.suite a ((a, oe) :: pn)) (st :: suite) (ts a z d))
    (air : XE (X.tr (X.pn ++ pins) xo) (wHd X.K c i ts D) e s) :
    wpAny (model X.prog X.w) X.A (noteFrame e X.env) (fun _ t => wpAny (model X.prog X.w) X.A (setFlight e none)
      (fun _ u => wpAny (model X.prog X.w) X.A (handleBy e X.env (.ExceptHandler (some (.Name x np)) (some n) (st :: suite) q :: more)) (SP X pins D) X.xe u) X.xe t) X.xe s := by
  obtain ⟨a, B, s0, pn, τ, G, z, d, rfl, J0, new, up, sky, na, os, bare, me, go⟩ := air
  have J : Inv X pins τ G s0 := J0.ofTry ok
  have frames : X.A.frames = some (X.env :: X.outer) := ok.frames.trans (congrArg some hs)
  refine Sky.land (B := B) Zc.steady frames hf (by rw [← hs]; exact sky) fun h1 fl1 up1 => ?_
  have J1 : Inv X pins τ G { s with heap := h1 } := J.landed new fl1.1 (up.trans up1) os bare
  obtain ⟨o1, v1, g1, z1, d1⟩ := fl1.there
  have nf := no_frame fl1.2.2.1 g1 d1
  have nl : a ≠ X.env.locals := fun eq => nf (List.mem_filterMap.mpr ⟨X.env, List.mem_cons_self, hf.trans (congrArg some eq.symm)⟩)
  have nfs : a ∉ X.fs := fun m => by
    obtain ⟨en, m1, m2⟩ := List.mem_filterMap.mp m
    exact nf (List.mem_filterMap.mpr ⟨en, List.mem_cons_of_mem _ m1, m2⟩)
  refine wpAny_handleBy_cons (codeAny_handlers_test (hd_name hc (J1.suite g1 d1 na nl nfs) ?_)) (fun no => by cases no)
  have lt : PySem.W.Looks (model X.prog X.w) h1 (typeOf (.ref a)) z := fun _ _ _ _ k w => wpAny_typeOf_ref (k _ _ g1) (by rw [z1.1]; exact w)
  refine (PySem.W.exm_one J1.kIn lt me).here (codeAny_handlers_suite_as (HandSPX.lands_againZ fl1 fun h2 fl2 up2 => ?_))
  obtain ⟨o2, v2, g2, z2, d2⟩ := fl2.there
  have J2 : Inv X pins τ G { s with heap := h2 } := J.landed new fl2.1 ((up.trans up1).trans up2) os bare
  exact hd_suite nd hi loc (hsu a o2 z d (X.pn ++ pins) z2 ⟨_, d2⟩) J2 (fun fl t w => w) g2 d2 na nl nfs (go a na)
/-- try: body, except x as n: suite, and more clauses that nothing comes to -/
theorem ps_try_hd (hs : X.stack = X.env :: X.outer) (hf : X.env.frame = some X.env.locals) (nd : X.N.Nodup) (hi : X.N[i]? = some n) (loc : X.env.kindOf n = some .local) (hc : Names X x c)
    (hb : ∀ (W : WX) (pn : List (Addr × Obj)) (xe : Value → Shared → Prop), Takes (X.tr pn xe) W → PSs (X.tr pn xe) body (tb W))
    (hsu : ∀ (a : Addr) (oe : Obj) (z : Value) (d : Option Addr) (pn : List (Addr × Obj)), Zc z d oe → (∃ vs, oe.data = .fields vs) → PSs (X.suite a ((a, oe) :: pn)) (st :: suite) (ts a z d)) :
    PS X (.Try body (.ExceptHandler (some (.Name x np)) (some n) (st :: suite) q :: more) [] [] pos) (fun D τ G => tb (wHd X.K c i ts D) D τ G) := by
  refine ⟨fun pins s τ G D I h => wpAny_Try_except ?_⟩
  have ok := I.ok
  have run := (hb (wHd X.K c i ts D) (X.pn ++ pins) _ fun u t air => hd_catch (np := np) (q := q) (more := more) hs hf nd hi loc hc ok hsu air).run [] s τ G D (I.toTry _) h
  refine wpAny_mono run (fun fl t w => ?_) fun _ _ w => w
  cases fl with
  | ret v =>
    obtain ⟨v', τ', G', J, r, w⟩ := w
    exact ⟨v', τ', G', J.ofTry ok, r, w⟩
  | next =>
    obtain ⟨τ', G', J, w⟩ := w
    exact wpAny_execs_nil ⟨τ', G', J.ofTry ok, w⟩
  | brk =>
    obtain ⟨τ', G', J, w⟩ := w
    exact ⟨τ', G', J.ofTry ok, w⟩
  | cont =>
    obtain ⟨τ', G', J, w⟩ := w
    exact ⟨τ', G', J.ofTry ok, w⟩
end
end Vf
namespace Vf
open PySem PySem.Spec PyProof.Rows L2
/-- an error class of the text that keeps one thing -/
structure XcT (K : PySem.W.Frag) (mg : Str → Option Value) (x fld : Str) (C fI : Addr) : Prop where
  gl : mg x = some (.ref C)
  cl : OexC K C
  ini : PySem.W.findIn K (.ref C) "__init__" = some (some (.ref fI))
  fn : PySem.W.typeIn K (.ref fI) = some (.type "function")
  no : PySem.W.findIn K (.ref C) fld = some none
  xf : XfC K C
  me : PySem.W.exmOne K (.ref C) (.ref C) = some true
/-- its __init__ -/
def spXi (C : Addr) (fld : Str) : Sp := fun vs H Q _ => ∃ (a : Addr) (v : V), vs = [.ref a, v] ∧ H a = some (exo a C none) ∧
  ∀ d, H d = none → d ≠ a → Q .non (upd (upd H d (exd d [(fld, v)])) a (exo a C (some d)))
theorem xi_ok {P : Program} {w : World} {K : PySem.W.Frag} {mg : Str → Option Value} {base : Heap} {x fld qual : Str} {C fI : Addr} {fd : FuncData} {sI : Stmt} {p1 p2 p3 p4 : Pos}
    (T : XcT K mg x fld C fI) (F : Fun K "__init__" qual sI fI fd) (S : FnScope ["self", fld] ["self", fld] (defScope sI))
    (hb : defBody sI = [.Assign [.Attribute (.Name "self" p1) fld p2] (.Name fld p3) p4])
    (v1 : Vis (defScope sI) "self") (v2 : Vis (defScope sI) fld) (nb : (fld == ("__debug__" : Str)) = false) (nc : (fld == ("__classdict__" : Str)) = false) :
    FnOk P w K mg base CX0 1 fI fd ["self", fld] (spXi C fld) := by
  refine F.ok S (fun vs H Q E h => ?_) (fun cdv A outer s H vs Q E hr h => ?_)
  · obtain ⟨a, v, rfl, _⟩ := h
    rfl
  · obtain ⟨a, v, rfl, ha, k⟩ := h
    rw [hb]
    refine ⟨_, pss_one (ps_ost (f := fld) (pe_var (i := 0) rfl v1 (by decide) (by decide)) (pe_var (i := 1) rfl v2 nb nc)), ?_⟩
    exact ⟨_, rfl, _, rfl, a, C, rfl, T.cl, T.no, .inl ⟨ha, fun d nd ne => k d nd ne⟩⟩
/-- the class, ready to be raised -/
structure XcR (P : Program) (w : World) (K : PySem.W.Frag) (mg : Str → Option Value) (base : Heap) (x fld : Str) (C : Addr) : Prop where
  ex : ∃ (fI : Addr) (fd : FuncData), XcT K mg x fld C fI ∧ FnOk P w K mg base CX0 1 fI fd ["self", fld] (spXi C fld) ∧ Binds K fd ["self", fld] []
theorem ps_raiseX {X : Cx} {W : WX} {x fld : Str} {C : Addr} {k : Nat} {e : Expr} {ta : TA} {p pos pos2 : Pos} (hc : X.calm = true) (R : XcR X.prog X.w X.K X.mg X.base x fld C) (hr : Room k X.A) (h2 : 2 ≤ k) (tk : Takes X W) (ha : PA X [e] ta) (hg : Gl X x := by rfl)
    (hdb : (x == ("__debug__" : Str)) = false := by decide) (he : starEach (e :: []) X.env = (false, eval e X.env) :: starEach [] X.env := by rfl) (hpl : (backTo pos (starEach [] X.env)).any (·.1) = false := by rfl) :
    PS X (.Raise (some (.Call (.Name x p) [e] [] pos)) none pos2) (fun _ σ H => tMkO C (spXi C fld) [] ta σ H fun cls d H' => W cls d σ H') := by
  obtain ⟨fI, fd, T, F, b⟩ := R.ex
  exact ps_raise hc tk (pmk_oex T.cl T.ini T.fn F (hr.mono h2) b .nil pass0 hg T.gl ha hdb he hpl)
/-- what is asked where it is made -/
theorem raiseX_in {C : Addr} {fld : Str} {H1 : Hp} {v : V} {Q : XK} (h : ∀ d H2, Same H1 H2 → H1 d = none → H2 d = some (.xd [(fld, v)]) → Q (.ref C) (some d) H2) :
    [v].length ≤ 1000 ∧ ∀ a, H1 a = none → spXi C fld (.ref a :: ([v] ++ [])) (upd H1 a (exo a C none))
      (fun u H2 => u = .non ∧ ∃ (d : Addr) (fs : List (Str × V)), H2 a = some (exo a C (some d)) ∧ H2 d = some (exd d fs) ∧ H1 d = none ∧ Q (.ref C) (some d) (upd (del H2 a) d (.xd fs))) (fun _ _ _ => False) := by
  refine ⟨Nat.le_trans (Nat.le_refl 1) (by decide), fun a na => ⟨a, v, rfl, upd_same, fun d nd ne => ⟨rfl, d, [(fld, v)], upd_same, ?_, ?_, h d _ (fun b o hb => ?_) ?_ upd_same⟩⟩⟩
  · rw [upd_ne ne, upd_same]
  · rw [upd_ne ne] at nd
    exact nd
  · rw [upd_ne ne] at nd
    rw [upd_ne (ne_of_none hb nd), del_ne (ne_of_none hb na), upd_ne (ne_of_none hb na), upd_ne (ne_of_none hb nd), upd_ne (ne_of_none hb na)]
    exact hb
  · rw [upd_ne ne] at nd
    exact nd
theorem sameT {K : PySem.W.Frag} {H H' : Hp} {a : Addr} {xs : List V} (e : Same H H') (h : SqT K H a xs) : SqT K H' a xs := by
  rcases h with (h | ⟨o, h⟩) | h
  · exact .inl (.inl (e _ _ h))
  · exact .inl (.inr ⟨o, e _ _ h⟩)
  · exact .inr h
/-- what a for walks: a list or a tuple -/
theorem pi_either {X : Cx} {tg l : Expr} {tl : TE} (hl : PE X l tl) : PI X tg l (fun σ H R => iList X.K tl σ H R ∨ iTup X.K tl σ H R) :=
  ⟨fun pins s σ H R I h => h.elim ((pi_list hl).run pins s σ H R I) ((pi_tup hl).run pins s σ H R I)⟩
/-- the turns over either -/
theorem for_either {K : PySem.W.Frag} {a : Addr} {xs : List V} {i : Nat} {g : TG} {tb : TS} {D : Ends} {σ : L2.St} {H0 H : Hp} (hq : SqL K H0 a xs ∨ SqT K H0 a xs) (hi : σ[i]? = some (some (.ref a)))
    (Pv : Nat → L2.St → Hp → Prop) (h0 : Pv 0 σ H) (hl : ∀ i σ' H', Pv i σ' H' → Same H0 H')
    (hs : ∀ i x σ H, xs[i]? = some x → Pv i σ H → g x σ H fun σ2 H2 => tb { D with nx := Pv (i + 1), ct := Pv (i + 1), bk := D.nx } σ2 H2) (hd : ∀ σ H, Pv xs.length σ H → D.nx σ H) :
    tFor (fun σ H R => iList K (tVar i) σ H R ∨ iTup K (tVar i) σ H R) g tb D σ H := by
  rcases hq with hq | hq
  · exact .inl ⟨.ref a, hi, a, rfl, ⟨xs, (hl 0 σ H h0).seq hq⟩, for_list (K := K) (a := a) (xs := xs) Pv h0 (fun j σ' H' _ p => (hl j σ' H' p).seq hq) hs hd⟩
  · exact .inr ⟨.ref a, hi, a, rfl, ⟨xs, sameT (hl 0 σ H h0) hq⟩, for_tup (K := K) (a := a) (xs := xs) Pv h0 (fun j σ' H' _ p => sameT (hl j σ' H' p) hq) hs hd⟩
end Vf
namespace Vf
open PySem PySem.Spec PyProof.Rows L2
/-- a def of the text that may raise -/
structure CalX (P : Program) (w : World) (K : PySem.W.Frag) (mg : Str → Option Value) (base : Heap) (k : Nat) (x : Str) (ps : List Str) (sp : Sp) : Prop where
  ex : ∃ (f : Addr) (fd : FuncData), FnOk P w K mg base (L2.CX P w) k f fd ps sp ∧ mg x = some (.ref f) ∧ PySem.W.keepIn K (.ref f) = true ∧ Binds K fd ps []
theorem calXOf {P : Program} {w : World} {K : PySem.W.Frag} {mg : Str → Option Value} {base : Heap} {x : Str} {st : Stmt} {N ps : List Str} {k : Nat} {sp : Sp}
    (D : DefIn K mg x st ps) (S : FnScope N ps (defScope st)) (many : ∀ vs H Q E, sp vs H Q E → vs.length = ps.length)
    (body : ∀ (f : Addr) (cdv : Value) (A : Around) (outer : List Env) (s : Shared) (H : Hp) (vs : List V) (Q : VK) (E : XK),
      Room k (A.deeper (envOfC x (defScope st) s.heap.objs.size f cdv)) → sp vs H Q E →
      ∃ t, PSs (cxOf (L2.CX P w) P w K mg base N x (defScope st) f cdv A outer s H E) (defBody st) t ∧ t { nx := fun _ H' => Q .non H', rt := Q } (start N vs) H) :
    CalX P w K mg base (k + 1) x ps sp := by
  obtain ⟨f, fd, F, hm, hb⟩ := D.ex
  exact ⟨f, fd, F.okX S many (fun cdv A o s H vs Q E hr h => body f cdv A o s H vs Q E hr h), hm, F.kp, hb⟩
theorem pe_cX {X : Cx} {k j : Nat} {x : Str} {ps : List Str} {sp : Sp} {W : WX} {p pos : Pos} {e : Expr} {es : List Expr} {t : TA} (c : CalX X.prog X.w X.K X.mg X.base k x ps sp) (hr : Room j X.A) (hk : k ≤ j) (hg : Gl X x) (tk : Takes X W) (ha : PA X (e :: es) t)
    (hdb : (x == ("__debug__" : Str)) = false := by decide) (he : starEach (e :: es) X.env = (false, eval e X.env) :: starEach es X.env := by rfl) (hpl : (backTo pos (starEach es X.env)).any (·.1) = false := by rfl) :
    PE X (.Call (.Name x p) (e :: es) [] pos) (tCallS sp (WE W) t) := by
  obtain ⟨f, fd, F, hm, kp, b⟩ := c.ex
  exact pe_callS F (hr.mono hk) hg hm kp b (fun σ => passAt tk σ) ha hdb he hpl
end Vf
namespace Vf
open PySem PySem.Spec PyProof.Rows L2
/-- an error of the class itself is what a clause of it names -/
theorem exm_me {K : PySem.W.Frag} {S : Addr} (sub : PySem.W.subIn K (.ref S) (.type "BaseException") = some true) (is : PySem.W.isClsIn K S = true) (ty : PySem.W.typeIn K (.ref S) = some (.type "type")) (own : PySem.W.subIn K (.ref S) (.ref S) = some true) :
    PySem.W.exmOne K (.ref S) (.ref S) = some true := by
  have is' : (PySem.W.clsIn K S).isSome = true := is
  unfold PySem.W.exmOne PySem.W.kitCls
  simp only [sub, is', ty, own, beq_self_eq_true, Bool.and_self, if_true]
end Vf

set_option Elab.async false
set_option linter.all false
set_option maxRecDepth 100000
set_option maxHeartbeats 4000000
/-! Own words: changes of texts. -/
namespace Vf
open PySem PySem.Spec PyProof.Rows L2
open TL (tl joinL tl_join join_eq)
theorem tl_inj {x y : Str} (h : tl x = tl y) : x = y := Str.ext' (Array.toList_inj.mp h)
theorem tl_cat (x y : Str) : tl (x ++ y) = tl x ++ tl y := by
  show (x ++ y).cps.toList = _
  rw [Str.cps_append, Array.toList_append]
theorem joinL_nil : ∀ l : List (List Nat), joinL [] l = l.flatten
  | [] => rfl
  | [p] => by simp [joinL]
  | p :: q :: r => by
    show p ++ ([] ++ joinL [] (q :: r)) = p ++ (q :: r).flatten
    rw [joinL_nil (q :: r)]
    rfl
theorem tl_glue (l : List Str) : tl (Txt.join "" l) = (l.map tl).flatten := by
  rw [join_eq, tl_join]
  exact joinL_nil _
theorem glue_snoc (l m : List Str) : Txt.join "" (l ++ m) = Txt.join "" l ++ Txt.join "" m := by
  apply tl_inj
  rw [tl_cat, tl_glue, tl_glue, tl_glue, List.map_append, List.flatten_append]
theorem glue_two (l : List Str) (x y : Str) : Txt.join "" (l ++ [x, y]) = Txt.join "" l ++ x ++ y := by
  apply tl_inj
  rw [glue_snoc, tl_cat, tl_cat, tl_cat, tl_glue [x, y]]
  simp
theorem str_len (x : Str) : x.length = (tl x).length := by
  simp [Str.length]
theorem glue_len (l : List Str) : (Txt.join "" l).length = (l.map (·.length)).sum := by
  rw [str_len, tl_glue, List.length_flatten, List.map_map]
  congr 1
theorem sum_le {n : Nat} : ∀ {l : List Str}, (∀ x ∈ l, x.length ≤ n) → (l.map (·.length)).sum ≤ l.length * n
  | [], _ => Nat.zero_le _
  | x :: r, h => by
    have a := h x (List.mem_cons_self ..)
    have b := sum_le fun y hy => h y (List.mem_cons_of_mem _ hy)
    simp only [List.map_cons, List.sum_cons, List.length_cons, Nat.succ_mul]
    omega
/-- signs that can be shown -/
def Nice (x : Str) : Prop := ∀ c ∈ tl x, c < 0x110000
theorem Nice.tame {x : Str} (h : Nice x) : Vf.tame (.str x) = true := by
  show x.cps.all _ = true
  rw [← Array.all_toList, List.all_eq_true]
  exact fun c hc => decide_eq_true (h c hc)
theorem Nice.cat {x y : Str} (a : Nice x) (b : Nice y) : Nice (x ++ y) := fun c hc => by
  rw [tl_cat, List.mem_append] at hc
  exact hc.elim (a c) (b c)
theorem Nice.glue {l : List Str} (h : ∀ x ∈ l, Nice x) : Nice (Txt.join "" l) := fun c hc => by
  rw [tl_glue, List.mem_flatten] at hc
  obtain ⟨p, hp, hc⟩ := hc
  obtain ⟨x, hx, rfl⟩ := List.mem_map.mp hp
  exact h x hx c hc
theorem cut_mem {x : Str} {lo hi : Option Int} {c : Nat} (h : c ∈ tl (cutS x lo hi)) : c ∈ tl x := by
  unfold cutS at h
  simp only [tl] at h ⊢
  first
    | exact List.mem_of_mem_drop (List.mem_of_mem_take (by simpa using h))
    | exact List.mem_of_mem_take (List.mem_of_mem_drop (by simpa using h))
theorem Nice.cut {x : Str} (h : Nice x) (lo hi : Option Int) : Nice (cutS x lo hi) := fun c hc => h c (cut_mem hc)
theorem nice_of {x : Str} (h : (tl x).all (· < 0x110000) = true) : Nice x := fun c hc => of_decide_eq_true (List.all_eq_true.mp h c hc)

/-- a change: its begin, its end, its string -/
structure Ch where
  b : Int
  e : Int
  s : Str
def chD (c : Ch) : PyData := .tuple [.int c.b, .int c.e, .str c.s]
/-- the first change that is refused, l being the end of the one ahead -/
def firstBad (n : Int) : Int → List Ch → Option Ch
  | _, [] => none
  | l, c :: r => if n < c.e ∨ c.b < l then some c else firstBad n c.e r
def stp (t : Str) (p : List Str × Int) (c : Ch) : List Str × Int := (p.1 ++ [cutS t (some p.2) (some c.b), c.s], c.e)
def stAt (t : Str) (cs : List Ch) (i : Nat) : List Str × Int := (cs.take i).foldl (stp t) ([], 0)
theorem stAt_succ {t : Str} {cs : List Ch} {i : Nat} {c : Ch} (h : cs[i]? = some c) : stAt t cs (i + 1) = stp t (stAt t cs i) c := by
  unfold stAt
  rw [List.take_add_one, h, List.foldl_append]
  rfl
theorem drop_at {α : Type} {cs : List α} {i : Nat} {c : α} (h : cs[i]? = some c) : cs.drop i = c :: cs.drop (i + 1) := by
  obtain ⟨hi, e⟩ := List.getElem?_eq_some_iff.mp h
  rw [List.drop_eq_getElem_cons hi, e]
/-- what all make -/
def allCh (t : Str) (cs : List Ch) : Str := Txt.join "" (stAt t cs cs.length).1 ++ cutS t (some (stAt t cs cs.length).2) none
def dueD (t : Str) (cs : List Ch) : PyData := match firstBad t.length 0 cs with
  | some c => .tuple [.str "no change", chD c]
  | none => .tuple [.str "told", .str (allCh t cs)]
theorem due_bad {t : Str} {cs : List Ch} {c : Ch} (h : firstBad t.length 0 cs = some c) : dueD t cs = .tuple [.str "no change", chD c] := by
  unfold dueD
  rw [h]
theorem due_ok {t : Str} {cs : List Ch} (h : firstBad t.length 0 cs = none) : dueD t cs = .tuple [.str "told", .str (allCh t cs)] := by
  unfold dueD
  rw [h]
/-- changes that are not too large -/
structure ChOk (c : Ch) : Prop where
  b : c.b.natAbs ≤ 1000
  e : c.e.natAbs ≤ 1000
  s : c.s.length ≤ 100
  n : Nice c.s
theorem parts_ok {t : Str} (nt : Nice t) (lt : t.length ≤ 1000) {cs : List Ch} (h : ∀ c ∈ cs, ChOk c) : ∀ i, (stAt t cs i).1.length ≤ 2 * i ∧ ∀ x ∈ (stAt t cs i).1, x.length ≤ 1000 ∧ Nice x
  | 0 => ⟨Nat.le_refl _, fun x hx => by cases hx⟩
  | i + 1 => by
    obtain ⟨a, b⟩ := parts_ok nt lt h i
    cases e : cs[i]? with
    | none =>
      have : stAt t cs (i + 1) = stAt t cs i := by
        unfold stAt
        rw [List.take_add_one, e]
        simp
      rw [this]
      exact ⟨by omega, b⟩
    | some c =>
      have k := h c (List.mem_of_getElem? e)
      rw [stAt_succ e]
      refine ⟨?_, fun x hx => ?_⟩
      · show ((stAt t cs i).1 ++ [_, _]).length ≤ _
        rw [List.length_append]
        simp only [List.length_cons, List.length_nil]
        omega
      · rcases List.mem_append.mp (show x ∈ (stAt t cs i).1 ++ [cutS t (some (stAt t cs i).2) (some c.b), c.s] from hx) with hx | hx
        · exact b x hx
        · rcases List.mem_cons.mp hx with rfl | hx
          · exact ⟨Nat.le_trans (cutS_length _ _ _) lt, nt.cut _ _⟩
          · cases List.mem_singleton.mp hx
            exact ⟨Nat.le_trans k.s (by decide), k.n⟩
theorem all_len {t : Str} (nt : Nice t) (lt : t.length ≤ 1000) {cs : List Ch} (h : ∀ c ∈ cs, ChOk c) (lc : cs.length ≤ 100) (i : Nat) (hi : i ≤ cs.length) :
    (Txt.join "" (stAt t cs i).1).length ≤ 200000 ∧ ((stAt t cs i).1.map (·.length)).sum ≤ 200000 := by
  obtain ⟨a, b⟩ := parts_ok nt lt h i
  have z := sum_le fun x hx => (b x hx).1
  rw [glue_len]
  omega
theorem chD_ok {c : Ch} (h : ChOk c) : tame (chD c) = true ∧ (chD c).depth = 1 ∧ wt (chD c) ≤ 2000 := by
  obtain ⟨hb, he, hs, hn⟩ := h
  refine ⟨?_, rfl, ?_⟩
  · show (decide (c.b.natAbs < 10 ^ 30) && (decide (c.e.natAbs < 10 ^ 30) && (tame (.str c.s) && true))) = true
    rw [hn.tame, decide_eq_true (Nat.lt_of_le_of_lt hb (by decide +kernel)), decide_eq_true (Nat.lt_of_le_of_lt he (by decide +kernel))] <;> rfl
  · show 32 + 2 + (32 + 2 + (10 * c.s.length + 2 + 2 + 0)) + 4 ≤ 2000
    omega
theorem firstBad_mem {n : Int} : ∀ {cs : List Ch} {l : Int} {c : Ch}, firstBad n l cs = some c → c ∈ cs
  | [], _, _, h => by cases h
  | x :: r, l, c, h => by
    unfold firstBad at h
    split at h
    · cases h
      exact List.mem_cons_self ..
    · exact List.mem_cons_of_mem _ (firstBad_mem h)
theorem due_okd {t : Str} (nt : Nice t) (lt : t.length ≤ 1000) {cs : List Ch} (h : ∀ c ∈ cs, ChOk c) (lc : cs.length ≤ 100) : OkD (dueD t cs) := by
  cases e : firstBad t.length 0 cs with
  | some c =>
    rw [due_bad e]
    obtain ⟨a1, a2, a3⟩ := chD_ok (h c (firstBad_mem e))
    refine ⟨?_, ?_, ?_⟩
    · show (tame (.str "no change") && (tame (chD c) && true)) = true
      rw [a1, show tame (.str "no change") = true by decide +kernel] <;> rfl
    · show max 0 (max (chD c).depth 0) + 1 ≤ 60
      rw [a2]
      decide
    · show 10 * ("no change" : Str).length + 2 + 2 + (wt (chD c) + 2 + 0) + 4 ≤ 16000000
      rw [show (("no change" : Str)).length = 9 from rfl]
      omega
  | none =>
    rw [due_ok e]
    obtain ⟨p1, p2⟩ := parts_ok nt lt h cs.length
    have q := (all_len nt lt h lc cs.length (Nat.le_refl _)).1
    have nn : Nice (allCh t cs) := (Nice.glue fun x hx => (p2 x hx).2).cat (nt.cut _ _)
    have ll : (allCh t cs).length ≤ 201000 := by
      unfold allCh
      have := cutS_length t (some (stAt t cs cs.length).2) none
      rw [Str.length_append]
      omega
    refine ⟨?_, Nat.le_trans (Nat.le_refl 1) (by decide), ?_⟩
    · show (tame (.str "told") && (tame (.str (allCh t cs)) && true)) = true
      rw [nn.tame, show tame (.str "told") = true by decide +kernel] <;> rfl
    · show 10 * ("told" : Str).length + 2 + 2 + (10 * (allCh t cs).length + 2 + 2 + 0) + 4 ≤ 16000000
      rw [show (("told" : Str)).length = 4 from rfl]
      omega
theorem chs_okd : ∀ {cs : List Ch}, (∀ c ∈ cs, ChOk c) → tameAll (cs.map chD) = true ∧ PyData.depthAll (cs.map chD) ≤ 1 ∧ wtAll (cs.map chD) ≤ cs.length * 2002
  | [], _ => ⟨rfl, Nat.zero_le _, Nat.le_refl _⟩
  | c :: r, h => by
    obtain ⟨a1, a2, a3⟩ := chD_ok (h c (List.mem_cons_self ..))
    obtain ⟨b1, b2, b3⟩ := chs_okd fun x hx => h x (List.mem_cons_of_mem _ hx)
    refine ⟨?_, ?_, ?_⟩
    · show (tame (chD c) && tameAll (r.map chD)) = true
      rw [a1, b1] <;> rfl
    · show max (chD c).depth (PyData.depthAll (r.map chD)) ≤ 1
      rw [a2]
      omega
    · show wt (chD c) + 2 + wtAll (r.map chD) ≤ (r.length + 1) * 2002
      omega
/-- what stands there for a change -/
theorem ch_at {H : Hp} {v : V} {c : Ch} (t : Tr H v (chD c)) : ∃ q, v = .ref q ∧ H q = some (.tup [.int c.b, .int c.e, .str c.s]) := by
  unfold chD at t
  cases t with
  | tup h r =>
    cases r with
    | cons h1 r =>
      cases h1
      cases r with
      | cons h2 r =>
        cases h2
        cases r with
        | cons h3 r =>
          cases h3
          cases r
          exact ⟨_, rfl, h⟩
theorem chs_at {H : Hp} {xs : List V} {cs : List Ch} (t : TrAll H xs (cs.map chD)) {i : Nat} {y : V} (h : xs[i]? = some y) : ∃ c q, cs[i]? = some c ∧ y = .ref q ∧ H q = some (.tup [.int c.b, .int c.e, .str c.s]) ∧ Tr H y (chD c) := by
  obtain ⟨d, hd, ty⟩ := t.get h
  rw [List.getElem?_map] at hd
  obtain ⟨c, hc, rfl⟩ := Option.map_eq_some_iff.mp hd
  obtain ⟨q, rfl, hq⟩ := ch_at ty
  exact ⟨c, q, hc, rfl, hq, ty⟩
end Vf
namespace Vf
open PySem PySem.Spec PyProof.Rows L2
/-- a text, and the changes of it in a list or a tuple -/
structure Chs (K : PySem.W.Frag) (H : Hp) (t : Str) (a : Addr) (xs : List V) (cs : List Ch) : Prop where
  sq : SqL K H a xs ∨ SqT K H a xs
  tr : TrAll H xs (cs.map chD)
  nt : Nice t
  lt : t.length ≤ 1000
  ok : ∀ c ∈ cs, ChOk c
  lc : cs.length ≤ 100
theorem Chs.len {K : PySem.W.Frag} {H : Hp} {t : Str} {a : Addr} {xs : List V} {cs : List Ch} (h : Chs K H t a xs cs) : xs.length = cs.length := by
  rw [h.tr.len, List.length_map]
theorem Chs.same {K : PySem.W.Frag} {H H' : Hp} {t : Str} {a : Addr} {xs : List V} {cs : List Ch} (h : Chs K H t a xs cs) (s : Same H H') : Chs K H' t a xs cs :=
  ⟨h.sq.elim (fun q => .inl (s.seq q)) (fun q => .inr (sameT s q)), h.tr.keep (Tk.of s), h.nt, h.lt, h.ok, h.lc⟩
def spAllX (K : PySem.W.Frag) (C : Addr) : Sp := fun vs H Q E => ∃ (t : Str) (a : Addr) (xs : List V) (cs : List Ch), vs = [.str t, .ref a] ∧ Chs K H t a xs cs ∧
  (∀ c v d H', firstBad t.length 0 cs = some c → Tr H' v (chD c) → Same H H' → H' d = some (.xd [(("change" : Str), v)]) → E (.ref C) (some d) H') ∧
  (firstBad t.length 0 cs = none → ∀ H', Same H H' → Q (.str (allCh t cs)) H')
/-- told, or refused -/
def spDue (K : PySem.W.Frag) : Sp := fun vs H Q _ => ∃ (t : Str) (a : Addr) (xs : List V) (cs : List Ch), vs = [.str t, .ref a] ∧ Chs K H t a xs cs ∧
  ∀ v H', Same H H' → Tr H' v (dueD t cs) → Q v H'
def spAllC (K : PySem.W.Frag) : Sp := fun vs H Q _ => ∃ (t : Str) (a : Addr) (xs : List V) (cs : List Ch), vs = [.str t, .ref a] ∧ Chs K H t a xs cs ∧ ∀ H', Same H H' → Q (.str (allCh t cs)) H'
end Vf
namespace Vf
open PySem PySem.Spec PyProof.Rows L2
/-- one of some written things -/
theorem pick_of {K : PySem.W.Frag} {g : Bg} {H1 : Hp} {c e : Int} {l : List V} {p : Addr} {Q : VK} (B : Bag H1 g c e) (hp : H1 p = none) (h0 : 0 < l.length) (h1 : l.length < 1000)
    (k : ∀ v H3, v ∈ l → Drawn g H1 H3 c e → Q v H3) : spOne K [.ref g.b, .ref p] (upd H1 p (.lst l)) Q E0 :=
  ⟨g, _, c, e, rfl, B.new hp, .inl ⟨p, l, rfl, .inl (SqL.of upd_same), B.ne_new hp, h0, h1, fun v H3 hv D => k v H3 hv (((Drawn.of B).new hp).trans D)⟩⟩
theorem strs_in {l : List Str} {v : V} (h : v ∈ l.map V.str) : ∃ z, z ∈ l ∧ v = .str z := by
  obtain ⟨z, hz, rfl⟩ := List.mem_map.mp h
  exact ⟨z, hz, rfl⟩
theorem ints_in {l : List Int} {v : V} (h : v ∈ l.map V.int) : ∃ z, z ∈ l ∧ v = .int z := by
  obtain ⟨z, hz, rfl⟩ := List.mem_map.mp h
  exact ⟨z, hz, rfl⟩
theorem TrAll.set' {H : Hp} {v : V} {d : PyData} (t : Tr H v d) : ∀ {vs : List V} {ds : List PyData} (j : Nat), TrAll H vs ds → TrAll H (vs.set j v) (ds.set j d)
  | _, _, _, .nil => .nil
  | _, _, 0, .cons _ r => .cons t r
  | _, _, j + 1, .cons h r => .cons h (TrAll.set' t j r)
theorem tr_due {H : Hp} {v : V} {t : Str} {cs : List Ch} (h : Tr H v (dueD t cs)) : ∃ p, v = .ref p := by
  cases e : firstBad t.length 0 cs with
  | some c =>
    rw [due_bad e] at h
    cases h
    exact ⟨_, rfl⟩
  | none =>
    rw [due_ok e] at h
    cases h
    exact ⟨_, rfl⟩
theorem lst_okd {cs : List Ch} (h : ∀ c ∈ cs, ChOk c) (l : cs.length ≤ 100) : OkD (.list (cs.map chD)) ∧ OkD (.tuple (cs.map chD)) := by
  obtain ⟨a, b, c⟩ := chs_okd h
  refine ⟨⟨a, ?_, ?_⟩, ⟨a, ?_, ?_⟩⟩
  · show PyData.depthAll (cs.map chD) + 1 ≤ 60
    omega
  · show wtAll (cs.map chD) + 4 ≤ 16000000
    omega
  · show PyData.depthAll (cs.map chD) + 1 ≤ 60
    omega
  · show wtAll (cs.map chD) + 4 ≤ 16000000
    omega
/-- where the item stood -/
theorem at_of_ix {α : Type} {xs : List α} {r : Int} (h0 : 0 ≤ r) (h1 : r < (xs.length : Int)) : ∃ (j : Nat) (v : α), xs[j]? = some v ∧ atI xs r = some v ∧ ixN xs.length r = some j := by
  obtain ⟨j, rfl⟩ := Int.eq_ofNat_of_zero_le h0
  have hj : j < xs.length := by omega
  refine ⟨j, xs[j], List.getElem?_eq_getElem hj, atI_nat (j := j) (List.getElem?_eq_getElem hj), ?_⟩
  first
    | exact ixN_nat hj
    | (unfold ixN; simp [hj])
theorem chs_set {cs : List Ch} {c : Ch} (j : Nat) (h : ∀ x ∈ cs, ChOk x) (hc : ChOk c) : ∀ x ∈ cs.set j c, ChOk x := fun x hx => by
  rcases List.mem_or_eq_of_mem_set hx with q | q
  · exact h x q
  · rw [q]
    exact hc
end Vf

set_option Elab.async false
set_option linter.all false
set_option maxRecDepth 100000
set_option maxHeartbeats 4000000
/-! The end of a law some of whose defs make lambdas: their code objects and the tables of what they made, in a list. -/
namespace Vf
open PySem PySem.Spec PyProof.Rows L2
open LamX (CodeO TabS Tabs ExtN TabB)
abbrev tabE : Obj := { cls := .none, data := .fields #[] }
section
variable {P : Program} {w : World} {K : PySem.W.Frag}
  {mg mb : Str → Option Value} {k : Nat} {fa a : Addr} {fd : FuncData}
  {x : Str} {sp : Sp} {s₁ : Shared} {vs : List Value} {ns : List Int} {L : List (Addr × Addr)}

theorem law_goesY {S : Prop} (hS : S → ∃ (o : Obj) (es : Array DictEntry) (n : Nat), s₁.heap.get? sysModules = some o ∧ o.cls = .type "dict" ∧ o.data = .dict es n) (KX : K.In s₁.heap)
    (hns : s₁.heap.Ns mainGlobals mg) (hb : s₁.heap.Ns builtinsNs mb)
    (hbb : ∀ y : Str, y ≠ "__name__" → mb y = bootBuiltins y)
    (hlim : s₁.heap.NoLimit) (hgen : s₁.gens = #[])
    (hT : ∀ p ∈ L, s₁.heap.get? p.2 = some tabE ∧ K.lookup p.2 = none ∧ PySem.W.CodeHd s₁.heap p.1 p.2)
    (hbm : ∃ (bm : Addr) (ob : Obj), mg "__builtins__" = some (.ref bm) ∧ bm ≠ builtinsNs ∧ s₁.heap.get? bm = some ob ∧ ob.cls = .type "module" ∧ ob.dict = some builtinsNs ∧ ob.data = .plain)
    (ha : s₁.heap.get? a =
      some { cls := .type "list", data := .seq vs.toArray })
    (hr : Room k callerA)
    (F : ∀ base : Heap, K.In base → base.Ns mainGlobals mg → (S → ∃ o, base.get? sysModules = some o ∧ o.cls = .type "dict") → (∀ p ∈ L, TabB base mg p.1 p.2) →
      FnG P w K mg base k fa fd [x] sp)
    (bind : ∀ (s : Shared) (u : Value),
      BindsTo s fd ⟨[u], []⟩ [(x, u)])
    (H : Hp) (hHT : ∀ p ∈ L, H p.2 = some (.tbl #[])) (hO : ∀ b, H b = none ∨ (∃ p ∈ L, b = p.2) ∨ ∃ o xs, H b = some (.frz o (.lst xs))) (ok : HOk P w H s₁.heap)
    (alone : ∀ b, H b ≠ none → b = a ∨ ∃ p ∈ L, b = p.2)
    (notK : H a ≠ none → K.lookup a = none)
    (hs : sp [.ref a] H (fun v _ => v = .bl true) fun _ _ _ => False) :
    codeAny (model P w) callerA (.call (.ref fa) ⟨[.ref a], []⟩)
      (LawEnd s₁) s₁ := by
  have free : ∀ {b : Addr} {o : Obj}, s₁.heap.get? b = some o → (∀ xs n, o.data ≠ .seq xs n) → o.data ≠ .fields #[] → H b = none := by
    intro b o e d1 d2
    cases q : H b with
    | none => rfl
    | some u =>
      rcases alone b (by rw [q]; exact Option.some_ne_none u) with z | ⟨p, hp, z⟩
      · rw [z, ha] at e
        cases e
        exact absurd rfl (d1 _ _)
      · rw [z, (hT p hp).1] at e
        cases e
        exact absurd rfl d2
  have ns' : ∀ {b : Addr} {m : Str → Option Value},
      s₁.heap.Ns b m → (hidT s₁.heap H).Ns b m := by
    rintro b m ⟨o, es, ep, e, d, r⟩
    refine ⟨o, es, ep, hidT_get e (free e (fun xs n z => ?_) fun z => ?_), d, r⟩
    · rw [d] at z
      cases z
    · rw [d] at z
      cases z
  have kin : K.In (hidT s₁.heap H) := by
    intro b o e
    refine hidT_get (KX b o e) ?_
    cases q : H b with
    | none => rfl
    | some u =>
      rcases alone b (by rw [q]; exact Option.some_ne_none u) with z | ⟨p, hp, z⟩
      · have z2 := notK (by rw [← z, q]; exact Option.some_ne_none u)
        rw [z, z2] at e
        cases e
      · rw [z, (hT p hp).2.1] at e
        cases e
  have lim' : (hidT s₁.heap H).NoLimit := by
    obtain ⟨mc, h1, h2⟩ := hlim
    exact ⟨mc, ns' h1, h2⟩
  have M : Mod K mg (hidT s₁.heap H) :=
    ⟨kin, ns' hns, ⟨mb, ns' hb, hbb⟩, lim'⟩
  have TB : ∀ p ∈ L, TabB (hidT s₁.heap H) mg p.1 p.2 := fun p hp => by
    obtain ⟨eT, nT, C⟩ := hT p hp
    have notMain : mainGlobals ≠ p.2 := fun z => by
      obtain ⟨o, es, ep, e, d, _⟩ := hns
      rw [z, eT] at e
      cases e
      cases d
    refine ⟨?_, ?_, notMain⟩
    · obtain ⟨o, us, fl, tf, fg, tg, inF, tx, tt, e, r1, r2, r3, rest⟩ := C
      refine ⟨o, us, fl, tf, fg, tg, inF, tx, tt, hidT_get e (free e (fun xs n z => ?_) fun z => ?_), r1, r2, r3, rest⟩
      · rw [r2] at z
        cases z
      · rw [r2] at z
        cases z
        simp at r3
    · obtain ⟨bm, ob, m1, m2, m3, m4, m5, m6⟩ := hbm
      refine ⟨bm, ob, m1, m2, fun z => ?_, fun z => ?_, hidT_get m3 (free m3 (fun xs n z => ?_) fun z => ?_), m4, m5, m6⟩
      · obtain ⟨o, es, ep, e, d, _⟩ := hns
        rw [z, e] at m3
        cases m3
        rw [m6] at d
        cases d
      · rw [z, eT] at m3
        cases m3
        cases m6
      · rw [m6] at z
        cases z
      · rw [m6] at z
        cases z
  have sb : S → ∃ o, (hidT s₁.heap H).get? sysModules = some o ∧ o.cls = .type "dict" := fun h => by
    obtain ⟨o, es, n, e, c, d⟩ := hS h
    refine ⟨o, hidT_get e (free e (fun xs n z => ?_) fun z => ?_), c⟩
    · rw [d] at z
      cases z
    · rw [d] at z
      cases z
  have none_in : ∀ b : Addr, b ∉ ([] : List Addr) := fun b => by simp
  have env : Env0 P w K mg (hidT s₁.heap H) callerA [] s₁ H :=
    ⟨rfl, M, fun b o e => of_hidT e, Nat.le_of_eq (hidT_size _ _),
      trivial, fun b z => absurd z (none_in b), ok, .of_eq hgen⟩
  refine codeAny_mono ((F _ kin (ns' hns) sb TB).go callerA [] s₁ H
    ⟨[.ref a], []⟩ [.ref a] [.ref a] _ _ hr rfl env
    (bind s₁ (.ref a)) (.cons rfl .nil) hs) ?_
  intro r s' h
  cases r with
  | error e => exact (h : False).elim
  | ok fl =>
    cases fl with
    | next => exact (h : False).elim
    | brk => exact (h : False).elim
    | cont => exact (h : False).elim
    | ret u =>
      obtain ⟨v, H', os, bare, un, ok', rv, q⟩ := h
      obtain rfl : v = .bl true := q
      obtain rfl : u = Value.bool true := rv
      have same : ∀ b o, (∀ p ∈ L, b ≠ p.2) → s₁.heap.get? b = some o → s'.heap.get? b = some o := by
        intro b o nb e
        cases q : H b with
        | none => exact un.keep b o e q (none_in b) (none_in b)
        | some u =>
          rcases hO b with z | ⟨p, hp, z⟩ | ⟨ob, xs, z⟩
          · rw [q] at z
            cases z
          · exact absurd z (nb p hp)
          · obtain ⟨e1, _⟩ := ok b _ z
            obtain ⟨e2, _⟩ := ok' b _ (un.frzs b ob _ z)
            rw [e] at e1
            cases e1
            exact e2
      have grown : ∀ p ∈ L, ∃ more, s'.heap.get? p.2 = some { cls := .none, data := .fields (#[] ++ more) } := fun p hp => by
        obtain ⟨more, z⟩ := un.tbls p.2 #[] (hHT p hp)
        exact ⟨more, ok' p.2 _ z⟩
      refine ⟨rfl, ⟨fun b o e => ?_, fun b o e => ?_⟩, os, bare⟩
      · by_cases nb : ∀ p ∈ L, b ≠ p.2
        · exact .inl (same b o nb e)
        · obtain ⟨p, hz⟩ := Classical.not_forall.mp nb
          obtain ⟨hp, e2⟩ := Classical.not_imp.mp hz
          obtain rfl := Classical.not_not.mp e2
          obtain ⟨more, g⟩ := grown p hp
          rw [(hT p hp).1] at e
          cases e
          exact .inr (.inl ⟨((hT p hp).2.2.tab (hT p hp).1).isCodeTable, rfl, #[], more, rfl, g⟩)
      · by_cases nb : ∀ p ∈ L, b ≠ p.2
        · exact ⟨o, same b o nb e⟩
        · obtain ⟨p, hz⟩ := Classical.not_forall.mp nb
          obtain ⟨hp, e2⟩ := Classical.not_imp.mp hz
          obtain rfl := Classical.not_not.mp e2
          obtain ⟨more, g⟩ := grown p hp
          exact ⟨_, g⟩

theorem law_goesY2 {S : Prop} (hS : S → ∃ (o : Obj) (es : Array DictEntry) (n : Nat), s₁.heap.get? sysModules = some o ∧ o.cls = .type "dict" ∧ o.data = .dict es n) (KX : K.In s₁.heap)
    (hns : s₁.heap.Ns mainGlobals mg) (hb : s₁.heap.Ns builtinsNs mb)
    (hbb : ∀ y : Str, y ≠ "__name__" → mb y = bootBuiltins y)
    (hlim : s₁.heap.NoLimit) (hgen : s₁.gens = #[])
    (hT : ∀ p ∈ L, s₁.heap.get? p.2 = some tabE ∧ K.lookup p.2 = none ∧ PySem.W.CodeHd s₁.heap p.1 p.2)
    (hbm : ∃ (bm : Addr) (ob : Obj), mg "__builtins__" = some (.ref bm) ∧ bm ≠ builtinsNs ∧ s₁.heap.get? bm = some ob ∧ ob.cls = .type "module" ∧ ob.dict = some builtinsNs ∧ ob.data = .plain)
    (ha : s₁.heap.get? a =
      some { cls := .type "list", data := .seq vs.toArray })
    (hi : IntsAre vs ns) (hl : ns.length ≤ sizeLine)
    (hr : Room k callerA)
    (F : ∀ base : Heap, K.In base → base.Ns mainGlobals mg → (S → ∃ o, base.get? sysModules = some o ∧ o.cls = .type "dict") → (∀ p ∈ L, TabB base mg p.1 p.2) →
      FnG P w K mg base k fa fd [x] sp)
    (bind : ∀ (s : Shared) (u : Value),
      BindsTo s fd ⟨[u], []⟩ [(x, u)])
    (hs : ∀ H : Hp, (∀ p ∈ L, H p.2 = some (.tbl #[])) → SqL K H a (ns.map V.int) →
      sp [.ref a] H (fun v _ => v = .bl true) fun _ _ _ => False) :
    codeAny (model P w) callerA (.call (.ref fa) ⟨[.ref a], []⟩)
      (LawEnd s₁) s₁ := by
  have rv := vals_ints hi
  have aT : a ∉ L.map (·.2) := fun z => by
    obtain ⟨p, hp, e⟩ := List.mem_map.mp z
    have e2 := (hT p hp).1
    rw [e, ha] at e2
    cases e2
  have into : ∀ {p : Addr × Addr}, p ∈ L → p.2 ∈ L.map (·.2) := fun hp => List.mem_map.mpr ⟨_, hp, rfl⟩
  have out : ∀ {b : Addr}, b ∈ L.map (·.2) → ∃ p ∈ L, b = p.2 := fun h => by
    obtain ⟨p, hp, e⟩ := List.mem_map.mp h
    exact ⟨p, hp, e.symm⟩
  cases hk : K.lookup a with
  | some o =>
    have e := KX a o hk
    rw [ha] at e
    cases e
    refine law_goesY hS KX hns hb hbb hlim hgen hT hbm ha hr F bind
      (fun b => if b ∈ L.map (·.2) then some (.tbl #[]) else none) (fun p hp => if_pos (into hp)) (fun b => ?_) (fun b u z => ?_)
      (fun b z => ?_) (fun z => absurd (if_neg aT) z) (hs _ (fun p hp => if_pos (into hp)) ?_)
    · by_cases q : b ∈ L.map (·.2)
      · exact .inr (.inl (out q))
      · exact .inl (if_neg q)
    · by_cases q : b ∈ L.map (·.2)
      · have z' := (if_pos q).symm.trans z
        cases z'
        obtain ⟨p, hp, rfl⟩ := out q
        exact (hT p hp).1
      · have z' := (if_neg q).symm.trans z
        cases z'
    · by_cases q : b ∈ L.map (·.2)
      · exact .inr (out q)
      · exact absurd (if_neg q) z
    refine .inr ⟨_, vs.toArray, _, hk, rfl, rfl, rfl, ?_, by simpa using rv⟩
    rw [List.size_toArray, hi.length]
    exact hl
  | none =>
    have e1 : ∀ p ∈ L, ∀ {u v : Option HO}, (if p.2 = a then u else if p.2 ∈ L.map (·.2) then v else none) = v := fun p hp {u v} => by
      rw [if_neg (fun z => aT (by rw [← z]; exact into hp)), if_pos (into hp)]
    refine law_goesY hS KX hns hb hbb hlim hgen hT hbm ha hr F bind
      (fun b => if b = a then some (.frz { cls := .type "list", data := .seq vs.toArray } (.lst (ns.map V.int))) else if b ∈ L.map (·.2) then some (.tbl #[]) else none) (fun p hp => e1 p hp) (fun b => ?_)
      (fun b u z => ?_) (fun b z => ?_) (fun _ => hk)
      (hs _ (fun p hp => e1 p hp) (.inl (.inr ⟨_, if_pos rfl⟩)))
    · by_cases q : b = a
      · exact .inr (.inr ⟨_, _, if_pos q⟩)
      · by_cases q2 : b ∈ L.map (·.2)
        · exact .inr (.inl (out q2))
        · exact .inl ((if_neg q).trans (if_neg q2))
    · by_cases q : b = a
      · have z' := (if_pos q).symm.trans z
        cases z'
        subst q
        exact ⟨ha, by rw [List.length_map]; exact hl, vs, _, rv, ha⟩
      · by_cases q2 : b ∈ L.map (·.2)
        · have z' := ((if_neg q).trans (if_pos q2)).symm.trans z
          cases z'
          obtain ⟨p, hp, rfl⟩ := out q2
          exact (hT p hp).1
        · have z' := ((if_neg q).trans (if_neg q2)).symm.trans z
          cases z'
    · by_cases q : b = a
      · exact .inl q
      · by_cases q2 : b ∈ L.map (·.2)
        · exact .inr (out q2)
        · exact absurd ((if_neg q).trans (if_neg q2)) z
end

/-- the goal that the head leaves -/
theorem walk_ofX {l : PySem.W.OpenLaw} {n k : Nat} {q : Program}
    {loose : List Str} {XP : (Str → Option Value) → Heap → Prop}
    {S : Prop} {YP : World → Heap → Prop} {d : DefRec}
    {K : Params → PySem.W.Frag} {sp : World → Sp} {x : Str} {Ts : List Addr}
    (hn : l.most = some n) (hn2 : n ≤ sizeLine)
    (hdf : d.params.defaults = []) (hr : Room k callerA)
    (hY : ∀ (w : World) (h : Heap), YP w h → ((K w.params).In h ∧ ∀ T ∈ Ts, h.get? T = some tabE) ∧ (S → ∃ (o : Obj) (es : Array DictEntry) (n : Nat), h.get? sysModules = some o ∧ o.cls = .type "dict" ∧ o.data = .dict es n))
    (F : ∀ (w : World) (mg : Str → Option Value) (fa : Addr) (h : Heap),
      (K w.params).In h → h.Ns mainGlobals mg →
      mg d.name = some (.ref fa) →
      ∃ (fd : FuncData) (L : List (Addr × Addr)), (∀ p ∈ L, PySem.W.codeHdIn (K w.params) p.1 p.2 = true ∧ (K w.params).lookup p.2 = none) ∧ L.map (·.2) = Ts ∧
        (∀ (s : Shared) (u : Value), BindsTo s fd ⟨[u], []⟩ [(x, u)]) ∧
        ∀ base : Heap, (K w.params).In base → base.Ns mainGlobals mg → (S → ∃ o, base.get? sysModules = some o ∧ o.cls = .type "dict") → (∀ p ∈ L, TabB base mg p.1 p.2) →
          FnG l.prog w (K w.params) mg base k fa fd [x] (sp w))
    (hsp : ∀ (w : World) (H : Hp) (a : Addr) (ns : List Int),
      ns.length ≤ n → (∀ T ∈ Ts, H T = some (.tbl #[])) → SqL (K w.params) H a (ns.map V.int) →
      sp w [.ref a] H (fun v _ => v = .bl true) fun _ _ _ => False) :
    PySem.W.WalkO q loose XP YP l.row.toRowW d []
      (fun f vs => PySem.call f vs) := by
  refine Att.attach_call hn hdf ?_
  intro w s₀ s₁ mg mb fa o pm cd doc a vs ns G Y ho hd hcd hmg hobj hints hlen hg
  obtain ⟨⟨KX, hT⟩, hS⟩ := hY w _ Y
  obtain ⟨fd, L, hC, hL, hb, hF⟩ := F w mg fa _ KX G.T.g hmg
  refine law_goesY2 hS KX G.T.g G.T.b G.T.builtins G.T.nolimit hg (L := L) (fun p hp => ⟨hT p.2 (hL ▸ List.mem_map.mpr ⟨p, hp, rfl⟩), (hC p hp).2, PySem.W.codeHd_of_K KX (hC p hp).1⟩) G.T.bmain hobj
    hints (Nat.le_trans hlen hn2) hr hF hb
    (fun H hO hS => hsp w H a ns hlen (fun T hT => ?_) hS)
  rw [← hL] at hT
  obtain ⟨p, hp, rfl⟩ := List.mem_map.mp hT
  exact hO p hp
/-- the goal that the head leaves -/
theorem walk_ofY {l : PySem.W.OpenLaw} {n k : Nat} {q : Program}
    {loose : List Str} {XP : (Str → Option Value) → Heap → Prop}
    {YP : World → Heap → Prop} {d : DefRec}
    {K : Params → PySem.W.Frag} {sp : World → Sp} {x : Str} {Ts : List Addr}
    (hn : l.most = some n) (hn2 : n ≤ sizeLine)
    (hdf : d.params.defaults = []) (hr : Room k callerA)
    (hY : ∀ (w : World) (h : Heap), YP w h → (K w.params).In h ∧ ∀ T ∈ Ts, h.get? T = some tabE)
    (F : ∀ (w : World) (mg : Str → Option Value) (fa : Addr) (h : Heap),
      (K w.params).In h → h.Ns mainGlobals mg →
      mg d.name = some (.ref fa) →
      ∃ (fd : FuncData) (L : List (Addr × Addr)), (∀ p ∈ L, PySem.W.codeHdIn (K w.params) p.1 p.2 = true ∧ (K w.params).lookup p.2 = none) ∧ L.map (·.2) = Ts ∧
        (∀ (s : Shared) (u : Value), BindsTo s fd ⟨[u], []⟩ [(x, u)]) ∧
        ∀ base : Heap, (K w.params).In base → base.Ns mainGlobals mg → (∀ p ∈ L, TabB base mg p.1 p.2) →
          FnG l.prog w (K w.params) mg base k fa fd [x] (sp w))
    (hsp : ∀ (w : World) (H : Hp) (a : Addr) (ns : List Int),
      ns.length ≤ n → (∀ T ∈ Ts, H T = some (.tbl #[])) → SqL (K w.params) H a (ns.map V.int) →
      sp w [.ref a] H (fun v _ => v = .bl true) fun _ _ _ => False) :
    PySem.W.WalkO q loose XP YP l.row.toRowW d []
      (fun f vs => PySem.call f vs) :=
  walk_ofX (S := False) hn hn2 hdf hr (fun w h y => ⟨hY w h y, fun f => f.elim⟩)
    (fun w mg fa h a b c => by
      obtain ⟨fd, L, h1, h2, h3, h4⟩ := F w mg fa h a b c
      exact ⟨fd, L, h1, h2, h3, fun base p q _ t => h4 base p q t⟩) hsp
/-- a hook that also looks at sys.modules -/
def sysHook (k : PySem.W.Hook) : PySem.W.Hook where
  α := k.α × Option (Value × Bool)
  obs := fun s => (k.obs s, (s.heap.get? sysModules).map fun o => (o.cls, match o.data with | .dict _ _ => true | _ => false))
  val := fun w => (k.val w, some (.type "dict", true))
  says := fun w h => k.says w h ∧ ∃ (o : Obj) (es : Array DictEntry) (n : Nat), h.get? sysModules = some o ∧ o.cls = .type "dict" ∧ o.data = .dict es n
  of := fun w s x => ⟨k.of w s (Prod.mk.inj x).1, by
    have y := (Prod.mk.inj x).2
    cases e : s.heap.get? sysModules with
    | none =>
      rw [e] at y
      cases y
    | some o =>
      rw [e] at y
      have y1 := (Prod.mk.inj (Option.some.inj y)).1
      have y2 := (Prod.mk.inj (Option.some.inj y)).2
      cases d : o.data with
      | dict es n => exact ⟨o, es, n, rfl, y1, d⟩
      | _ =>
        rw [d] at y2
        cases y2⟩
  keeps := fun w h h' x k2 => ⟨k.keeps w h h' x.1 k2, by
    obtain ⟨o, es, n, e, r⟩ := x.2
    exact ⟨o, es, n, k2 _ _ e, r⟩⟩
end Vf

set_option Elab.async false
set_option linter.all false
set_option maxRecDepth 100000
set_option maxHeartbeats 4000000
/-! Own words: how much two rows begin alike; the least change between two texts. -/
namespace Vf
open PySem PySem.Spec PyProof.Rows L2
open TL (tl joinL tl_join join_eq)
/-- how many begin alike -/
def lcp : List Nat → List Nat → Nat
  | a :: x, b :: y => if a = b then lcp x y + 1 else 0
  | _, _ => 0
theorem lcp_le : ∀ x y : List Nat, lcp x y ≤ x.length ∧ lcp x y ≤ y.length
  | [], _ => ⟨Nat.zero_le _, Nat.zero_le _⟩
  | _ :: _, [] => ⟨Nat.zero_le _, Nat.zero_le _⟩
  | a :: x, b :: y => by
    have ih := lcp_le x y
    unfold lcp
    split
    · simp only [List.length_cons]
      omega
    · exact ⟨Nat.zero_le _, Nat.zero_le _⟩
/-- one turn of a count: there are i that are alike; the next is too, or not -/
theorem lcp_more {x y : List Nat} {i : Nat} (h : lcp x y = i + lcp (x.drop i) (y.drop i)) {a : Nat} (ex : x[i]? = some a) (ey : y[i]? = some a) : lcp x y = (i + 1) + lcp (x.drop (i + 1)) (y.drop (i + 1)) := by
  rw [drop_at ex, drop_at ey] at h
  have : lcp (a :: x.drop (i + 1)) (a :: y.drop (i + 1)) = lcp (x.drop (i + 1)) (y.drop (i + 1)) + 1 := if_pos rfl
  omega
theorem lcp_end {x y : List Nat} {i : Nat} (h : lcp x y = i + lcp (x.drop i) (y.drop i)) {a b : Nat} (ex : x[i]? = some a) (ey : y[i]? = some b) (ne : a ≠ b) : lcp x y = i := by
  rw [drop_at ex, drop_at ey] at h
  have : lcp (a :: x.drop (i + 1)) (b :: y.drop (i + 1)) = 0 := if_neg ne
  omega
theorem lcp_end' {x y : List Nat} {i : Nat} (h : lcp x y = i + lcp (x.drop i) (y.drop i)) (hi : ¬ (i < x.length ∧ i < y.length)) : lcp x y = i := by
  have a := (lcp_le (x.drop i) (y.drop i)).1
  have b := (lcp_le (x.drop i) (y.drop i)).2
  rw [List.length_drop] at a b
  omega
theorem lcp_take : ∀ (x y : List Nat) (i : Nat), i ≤ lcp x y → x.take i = y.take i
  | _, _, 0, _ => by simp
  | [], _, i + 1, h => absurd h (by simp [lcp])
  | _ :: _, [], i + 1, h => absurd h (by simp [lcp])
  | a :: x, b :: y, i + 1, h => by
    unfold lcp at h
    split at h
    · rename_i e
      rw [List.take_succ_cons, List.take_succ_cons, e, lcp_take x y i (by omega)]
    · omega
theorem take_lcp : ∀ (x y : List Nat) (i : Nat), i ≤ x.length → i ≤ y.length → x.take i = y.take i → i ≤ lcp x y
  | _, _, 0, _, _, _ => Nat.zero_le _
  | [], _, i + 1, h, _, _ => by simp at h
  | _ :: _, [], i + 1, _, h, _ => by simp at h
  | a :: x, b :: y, i + 1, h1, h2, h => by
    rw [List.take_succ_cons, List.take_succ_cons] at h
    obtain ⟨e, h⟩ := List.cons.inj h
    have := take_lcp x y i (by simpa using h1) (by simpa using h2) h
    unfold lcp
    rw [if_pos e]
    omega
/-- the begin of the least change, and how much is alike behind it -/
def begB (x y : List Nat) : Nat := lcp x y
def sameB (x y : List Nat) : Nat := lcp (x.drop (begB x y)).reverse (y.drop (begB x y)).reverse
theorem begB_le (x y : List Nat) : begB x y ≤ x.length ∧ begB x y ≤ y.length := lcp_le x y
theorem sameB_le (x y : List Nat) : begB x y + sameB x y ≤ x.length ∧ begB x y + sameB x y ≤ y.length := by
  have a := lcp_le (x.drop (begB x y)).reverse (y.drop (begB x y)).reverse
  have b := begB_le x y
  rw [List.length_reverse, List.length_reverse, List.length_drop, List.length_drop] at a
  unfold sameB
  omega
/-- b, e may be begin and end of a change that leads from x to y -/
def Leads (x y : List Nat) (b e : Nat) : Prop := b ≤ e ∧ e ≤ x.length ∧ b + (x.length - e) ≤ y.length ∧ x.take b = y.take b ∧ x.drop e = y.drop (y.length - (x.length - e))
theorem leads_beg {x y : List Nat} {b e : Nat} (h : Leads x y b e) : b ≤ begB x y := by
  obtain ⟨h1, h2, h3, h4, _⟩ := h
  exact take_lcp x y b (by omega) (by omega) h4
theorem rev_take_drop {x : List Nat} {b k : Nat} (h : b + k ≤ x.length) : (x.drop b).reverse.take k = (x.drop (x.length - k)).reverse := by
  rw [List.take_reverse, List.length_drop, List.drop_drop]
  congr 2
  omega
theorem leads_end {x y : List Nat} {e : Nat} (h : Leads x y (begB x y) e) : x.length - sameB x y ≤ e := by
  obtain ⟨h1, h2, h3, _, h5⟩ := h
  have := take_lcp (x.drop (begB x y)).reverse (y.drop (begB x y)).reverse (x.length - e) (by rw [List.length_reverse, List.length_drop]; omega) (by rw [List.length_reverse, List.length_drop]; omega) (by
    rw [rev_take_drop (by omega), rev_take_drop (by omega)]
    rw [show x.length - (x.length - e) = e by omega, h5])
  have : x.length - e ≤ sameB x y := this
  omega
theorem leads_all (x y : List Nat) : Leads x y (begB x y) (x.length - sameB x y) := by
  have a := begB_le x y
  have b := sameB_le x y
  refine ⟨by omega, by omega, by omega, lcp_take x y _ (Nat.le_refl _), ?_⟩
  have h := lcp_take (x.drop (begB x y)).reverse (y.drop (begB x y)).reverse (sameB x y) (Nat.le_refl _)
  rw [rev_take_drop (by omega), rev_take_drop (by omega)] at h
  rw [show x.length - (x.length - sameB x y) = sameB x y by omega]
  exact List.reverse_inj.mp h
theorem leads_whole (x y : List Nat) : Leads x y (begB x y) x.length := by
  have a := begB_le x y
  refine ⟨a.1, Nat.le_refl _, by omega, lcp_take x y _ (Nat.le_refl _), ?_⟩
  rw [Nat.sub_self, Nat.sub_zero, List.drop_length, List.drop_length]
end Vf

set_option Elab.async false
set_option linter.all false
set_option maxRecDepth 100000
set_option maxHeartbeats 4000000
/-! Own words: repr of a text too; a def whose lambdas' code is known; what tables and drawn bags keep. -/
namespace Vf
open PySem PySem.Spec PyProof.Rows L2
open LamX (CodeO TabS Tabs ExtN TabB)
/-- an object, or a text -/
def ShowV (v : V) : Prop := (∃ a, v = .ref a) ∨ ∃ x, v = .str x
theorem call_repr2 {X : Cx} (gd : X.A.guards = some []) (hu : X.A.units + 64 < cLine) :
    CallR X (.builtin "repr") (fun xs H Q => ∃ v d, xs = [v] ∧ ShowV v ∧ Dp X.K H v d ∧ OkD d ∧ Q (.str d.shown) H) := by
  intro pins s σ H xs us Q I r h
  obtain ⟨v, d, rfl, sv, hd, ok, q⟩ := h
  rcases sv with ⟨a, rfl⟩ | ⟨x, rfl⟩
  · exact call_repr gd hu pins s σ H [.ref a] us Q I r ⟨a, d, rfl, hd, ok, q⟩
  · cases hd
    cases r with
    | cons rv rn =>
      cases rn
      obtain ⟨t, rfl⟩ := rv
      exact PySem.P.repr_of_str ⟨.str _, H, I.tok _, ⟨_, rfl⟩, q⟩ ok.show
/-- two things alike, objects or texts -/
def spAlike2 (K : PySem.W.Frag) : Sp := fun vs H Q _ => ∃ (u v : V) (d : PyData), vs = [u, v] ∧ ShowV u ∧ ShowV v ∧ Dp K H u d ∧ Dp K H v d ∧ OkD d ∧ ∀ H', Same H H' → Q (.bl true) H'
/-- a def of the text whose code object stands at c -/
structure DefK (K : PySem.W.Frag) (mg : Str → Option Value) (x : Str) (st : Stmt) (ps : List Str) (c : Addr) : Prop where
  ex : ∃ (f : Addr) (oc : Value) (od an : Option Addr) (sl : Array (Option Value)) (kV dc pm ct : Value),
    K.lookup f = some ⟨oc, od, .func (PySem.W.fnOf x x (defArgs st) (defBody st) (defScope st) .none kV dc pm an (.ref c) ct), sl⟩ ∧
    PySem.W.codeIn K (.ref c) x = true ∧ PySem.W.keepIn K (.ref f) = true ∧ mg x = some (.ref f) ∧
    Binds K (PySem.W.fnOf x x (defArgs st) (defBody st) (defScope st) .none kV dc pm an (.ref c) ct) ps []
section
variable {P : Program} {w : World} {K : PySem.W.Frag} {mg : Str → Option Value} {base : Heap}
theorem fnG_ofK {x : Str} {st : Stmt} {f c : Addr} {oc : Value} {od an : Option Addr} {sl : Array (Option Value)} {kV dc pm ct : Value} {N ps : List Str} {k : Nat} {sp : Sp}
    (lk : K.lookup f = some ⟨oc, od, .func (PySem.W.fnOf x x (defArgs st) (defBody st) (defScope st) .none kV dc pm an (.ref c) ct), sl⟩) (hcd : PySem.W.codeIn K (.ref c) x = true) (S : FnScope N ps (defScope st))
    (many : ∀ vs H Q E, sp vs H Q E → vs.length = ps.length)
    (body : ∀ (A : Around) (outer : List Env) (s : Shared) (H : Hp) (vs : List V) (Q : VK) (E : XK),
      Room k (A.deeper (envOfC x (defScope st) s.heap.objs.size f (.ref c))) → A.guards = some [] → sp vs H Q E →
      ∃ t, PSs (cxOf CX0 P w K mg base N x (defScope st) f (.ref c) A outer s H E).nox (defBody st) t ∧ t { nx := fun _ H' => Q .non H', rt := Q } (start N vs) H) :
    FnG P w K mg base (k + 1) f (PySem.W.fnOf x x (defArgs st) (defBody st) (defScope st) .none kV dc pm an (.ref c) ct) ps sp := by
  refine ⟨many, fun A outer s H args us vs Q E hr hg e0 hb r hsp => ?_⟩
  have hlen := many _ _ _ _ hsp
  have KX : K.In s.heap := e0.mod.kin.keeps (fun b o e => (e0.bs b o e).1)
  have lim := e0.mod.nolimit.keeps (fun b o e => (e0.bs b o e).1)
  have kinds : ∀ y ∈ ps.zip us, (defScope st).names.lookup y.1 = some .local ∨
      ((defScope st).names.lookup y.1 = some .cell ∧ ((cellsFrom (s.heap.objs.size + 1) (defScope st).names []).lookup y.1).isSome = true) := by
    rintro ⟨n, v⟩ hy
    cases S.par n (List.of_mem_zip hy).1 with
    | inl q => exact .inl q
    | inr q => exact .inr ⟨q, PySem.W.cellsFrom_some _ _ _ (.inl q)⟩
  refine codeAny_call_function hr.depth (KX _ _ lk) rfl S.co S.gen rfl (PySem.W.codeRec_of KX hcd) (hb _ _ _ _ ?_)
  refine wpAny_newFunctionEnv_cells S.kind kinds (fun env he s1 x => ?_)
  subst he
  refine ⟨lim.keeps x.toInCall.keep, codeAny_func ?_⟩
  obtain ⟨t, ht, hq⟩ := body A outer s H vs Q E (hr.deeper _) hg hsp
  have I := inv_start (CX := CX0) (E := E) S hr.hd e0 hlen r x
  refine wpAny_mono (ht.nox.run [] s1 (start N vs) H _ I hq) (fun fl s' hs => ?_) (fun _ _ hs => hs)
  cases fl with
  | brk => exact (hs.choose_spec.choose_spec.2 : False).elim
  | cont => exact (hs.choose_spec.choose_spec.2 : False).elim
  | next =>
    obtain ⟨_, H', J, q⟩ := hs
    exact ⟨V.non, H', J.os, J.bare, J.base, J.hok, rfl, q⟩
  | ret u =>
    obtain ⟨v, _, H', J, rv, q⟩ := hs
    exact ⟨v, H', J.os, J.bare, J.base, J.hok, rv, q⟩
theorem calGOfK {x : Str} {st : Stmt} {N ps : List Str} {k : Nat} {sp : Sp} {c : Addr}
    (D : DefK K mg x st ps c) (S : FnScope N ps (defScope st)) (many : ∀ vs H Q E, sp vs H Q E → vs.length = ps.length)
    (body : ∀ (f : Addr) (A : Around) (outer : List Env) (s : Shared) (H : Hp) (vs : List V) (Q : VK) (E : XK),
      Room k (A.deeper (envOfC x (defScope st) s.heap.objs.size f (.ref c))) → A.guards = some [] → sp vs H Q E →
      ∃ t, PSs (cxOf CX0 P w K mg base N x (defScope st) f (.ref c) A outer s H E).nox (defBody st) t ∧ t { nx := fun _ H' => Q .non H', rt := Q } (start N vs) H) :
    CalG P w K mg base (k + 1) x sp := by
  obtain ⟨f, oc, od, an, sl, kV, dc, pm, ct, lk, hcd, kp, hm, hb⟩ := D.ex
  exact ⟨f, _, ps, fnG_ofK lk hcd S many (fun A o s H vs Q E hr h => body f A o s H vs Q E hr h), hm, kp, hb⟩
end
/-! ### what is kept where lambdas are made -/
section
variable {g : Bg} {H H1 H2 : Hp} {c e : Int} {T : List (Addr × Str)} {p : Addr} {o : HO}
theorem ExtN.tk' (x : ExtN H H1) : Tk H H1 := fun a xs h => x a _ h (fun ps z => by cases z)
theorem ExtN.lst (x : ExtN H H1) {a : Addr} {xs : List V} (h : H a = some (.lst xs)) : H1 a = some (.lst xs) := x a _ h (fun ps z => by cases z)
theorem Bag.ext (B : Bag H g c e) (x : ExtN H H1) : Bag H1 g c e := by
  obtain ⟨z, m, i, ns, h, h2, r⟩ := B.ex
  exact ⟨⟨z, m, i, ns, ExtN.lst x h, ExtN.lst x h2, r⟩, B.ne⟩
theorem Tabs.drawn (t : Tabs T H) (B : Bag H g c e) (D : Drawn g H H1 c e) : Tabs T H1 := fun q hq => by
  obtain ⟨ps, h, tri, k⟩ := t q hq
  obtain ⟨ob, hb⟩ := B.ob
  have keep : ∀ {a : Addr} {u : HO}, H a = some u → (∀ ys, u ≠ .lst ys) → H1 a = some u := fun {a u} ha n => D.fr a u (fun z => by
    rw [z, hb] at ha
    exact n _ (Option.some.inj ha).symm) ha
  refine ⟨ps, keep h (fun ys z => by cases z), tri, fun pos cv hc => ?_⟩
  obtain ⟨c1, e1, e2⟩ := k pos cv hc
  exact ⟨c1, e1, keep e2 (fun ys z => by unfold CodeO at z; cases z)⟩
theorem Tabs.same' (t : Tabs T H) (s : Same H H1) : Tabs T H1 := t.ext s
theorem Tabs.new' (t : Tabs T H) (n : H p = none) : Tabs T (upd H p o) := t.ext (same_new n)
end
end Vf

set_option Elab.async false
set_option linter.all false
set_option maxRecDepth 100000
set_option maxHeartbeats 4000000
/-! Own words: a text's signs in the other order; slices of texts as lists. -/
namespace Vf
open PySem PySem.Spec PyProof.Rows L2
open TL (tl)
def revS (x : Str) : Str := ⟨(tl x).reverse.toArray⟩
theorem tl_revS (x : Str) : tl (revS x) = (tl x).reverse := by
  show ((tl x).reverse.toArray).toList = _
  rw [List.toList_toArray]
theorem rev_is (x : Str) (u : Tok) : Txt.sliceBy x none none (-1, u) = revS x := by
  refine tl_inj ?_
  rw [tl_revS]
  refine (step_rev_list x u).trans ?_
  apply List.ext_getElem
  · simp [Str.length]
  · intro i h1 h2
    simp only [List.length_map, List.length_range] at h1
    have hs : x.length = x.cps.size := rfl
    have h3 : x.cps.size - 1 - i < x.cps.size := by
      rw [hs] at h1
      omega
    simp [List.getElem_reverse, Array.getD, hs, h3]
theorem pe_revS {X : Cx} {e : Expr} {te : TE} {k : Nat} {p1 p2 p3 pos : Pos} (he : PE X e te) :
    PE X (.Subscript e (.Slice none none (some (.UnaryOp .USub (.Constant (.int 1) k p1) p2)) p3) pos) (fun τ G Q => te τ G fun v G1 => ∃ z, v = .str z ∧ z.length ≤ sizeLine ∧ Q (.str (revS z)) G1) := by
  refine ⟨fun pins s τ G Q I h => Subscript_ (thn (he.run pins s τ G _ I h) fun u t ⟨v, G1, J, rv, z, ev, lz, q⟩ => ?_)⟩
  subst ev
  obtain ⟨tk, rfl⟩ := rv
  have step : PO X (some (.UnaryOp .USub (.Constant (.int 1) k p1) p2)) (tPart (tUn (rU fun i => .int (-i)) (tC (.int 1)))) := po_some (pe_un un_neg pe_int)
  refine wpAny_Slice (thn (po_none.run pins t τ G1 (fun o F => o = none ∧ F = G1) J ⟨rfl, rfl⟩) fun a t1 ⟨oa, F1, J1, pa, ea, fa⟩ => ?_)
  subst ea fa
  refine thn (po_none.run pins t1 τ F1 (fun o F => o = none ∧ F = F1) J1 ⟨rfl, rfl⟩) fun b t2 ⟨ob, F2, J2, pb, eb, fb⟩ => ?_
  subst eb fb
  refine thn (step.run pins t2 τ F2 (fun o F => o = some (-1) ∧ F = F2) J2 ⟨1, rfl, -1, rfl, rfl, rfl⟩) fun c t3 ⟨oc, F3, J3, pc, ec, fc⟩ => ?_
  subst ec fc
  obtain ⟨l, rfl, el⟩ := IsPart.raw pa
  obtain ⟨m, rfl, em⟩ := IsPart.raw pb
  obtain ⟨n, rfl, en⟩ := IsPart.raw pc
  obtain rfl : l = none := by cases l <;> simp at el <;> rfl
  obtain rfl : m = none := by cases m <;> simp at em <;> rfl
  obtain ⟨n1, rfl⟩ : ∃ n1, n = some (-1, n1) := by
    cases n with
    | none => simp at en
    | some q =>
      obtain ⟨i, w⟩ := q
      simp at en
      subst en
      exact ⟨w, rfl⟩
  have c0 : ¬ ((((some ((-1 : Int), n1)).map (·.1)).getD 1 == 1 && (slicePicked z none none (some (-1, n1))).length == z.length) = true) := by
    rw [show ((((some ((-1 : Int), n1)).map (·.1)).getD 1 == 1)) = false from rfl]
    simp
  have er := rev_is z n1
  unfold Txt.sliceBy at er
  rw [if_neg c0] at er
  have J4 : Inv X pins τ F3 { t3 with heap := t3.heap.push { cls := .type "slice", data := .fields #[partValue none, partValue none, partValue (some (-1, n1))] } } := J3.kept (t' := t3.toks) fun b ob w => Heap.get?_push_of_some _ w
  refine tail_any (ops := [.str z tk, .ref t3.heap.objs.size]) (typeIs_str _ _ _) PySem.F.slot_str_getitem.lookup ?_ (by with_unfolding_all rfl)
  refine wpAny_getItem_str_slice (l := none) (u := none) (st := some (-1, n1)) ⟨_, Heap.get?_push_size _ rfl, rfl, rfl⟩ rfl ?_
  unfold sliceMade
  rw [if_neg c0, er]
  have lr : (revS z).length ≤ sizeLine := by
    rw [str_len, tl_revS, List.length_reverse, ← str_len]
    exact lz
  exact ⟨lr, .str _, F3, J4.tok _, ⟨_, rfl⟩, q⟩
/-! ### slices as lists -/
theorem tl_cutS (z : Str) (lo hi : Option Int) : tl (cutS z lo hi) = ((tl z).drop (HT.sIx z.length 0 lo)).take (HT.sIx z.length z.length hi - HT.sIx z.length 0 lo) := by
  show (List.toArray _).toList = _
  rw [List.toList_toArray]
theorem sIx_nat (n d : Nat) {i : Nat} : HT.sIx n d (some (i : Int)) = min i n := by
  show (if (i : Int) < 0 then ((i : Int) + n).toNat else min (i : Int).toNat n) = _
  rw [if_neg (by omega)]
  rfl
theorem tl_from (z : Str) (i : Nat) : tl (cutS z (some (i : Int)) none) = (tl z).drop i := by
  rw [tl_cutS, sIx_nat]
  show ((tl z).drop (min i z.length)).take (z.length - min i z.length) = _
  rw [str_len]
  by_cases h : i ≤ (tl z).length
  · rw [Nat.min_eq_left h]
    exact List.take_of_length_le (by rw [List.length_drop]; omega)
  · rw [Nat.min_eq_right (by omega), List.drop_of_length_le (by omega), List.drop_of_length_le (by omega)]
    simp
theorem tl_upto (z : Str) (i : Nat) : tl (cutS z none (some (i : Int))) = (tl z).take i := by
  rw [tl_cutS, sIx_nat]
  show ((tl z).drop 0).take (min i z.length - 0) = _
  rw [str_len, List.drop_zero, Nat.sub_zero]
  by_cases h : i ≤ (tl z).length
  · rw [Nat.min_eq_left h]
  · rw [Nat.min_eq_right (by omega), List.take_of_length_le (by omega), List.take_of_length_le (by omega)]
theorem tl_part (z : Str) (i j : Nat) (hj : j ≤ z.length) : tl (cutS z (some (i : Int)) (some (j : Int))) = ((tl z).take j).drop i := by
  rw [tl_cutS, sIx_nat, sIx_nat]
  rw [str_len] at hj ⊢
  rw [Nat.min_eq_left hj, List.drop_take]
  by_cases h : i ≤ (tl z).length
  · rw [Nat.min_eq_left h]
  · rw [Nat.min_eq_right (by omega), List.drop_of_length_le (by omega), List.drop_of_length_le (by omega)]
    simp
end Vf

set_option Elab.async false
set_option linter.all false
set_option maxRecDepth 100000
set_option maxHeartbeats 4000000
/-! Own words: where the words of a text end, as a function of its signs. -/
namespace Vf
open PySem PySem.Spec PyProof.Rows L2 PySem.Builtin PySem.Builtin.Str PySem.StrLaws
/-! ### the first place of a text in a text -/
def HitAt (x y : Str) (hi k : Nat) : Prop := k + y.length ≤ hi ∧ subAt x y k = true
theorem occ_full (x y : Str) (hi : Nat) : ∀ (l : List Nat) (st : Array Nat × Nat), st.fst.size = 1 → (forIn l st (occBody x y hi 1)).run.fst = st.fst
  | [], st, h => rfl
  | a :: l, st, h => by
    rw [List.forIn_cons]
    unfold occBody
    rw [if_neg (fun z => by
      have := z.1.1.1
      omega)]
    exact occ_full x y hi l _ h
theorem occ_first (x y : Str) (hi : Nat) : ∀ (l : List Nat) (free : Nat), (∀ i ∈ l, free ≤ i) →
    ((forIn l ((#[] : Array Nat), free) (occBody x y hi 1)).run.fst = #[] ∧ ∀ i ∈ l, ¬ HitAt x y hi i) ∨
    ∃ k l1 l2, l = l1 ++ k :: l2 ∧ (forIn l ((#[] : Array Nat), free) (occBody x y hi 1)).run.fst = #[k] ∧ HitAt x y hi k ∧ ∀ i ∈ l1, ¬ HitAt x y hi i
  | [], free, _ => .inl ⟨rfl, by simp⟩
  | a :: l, free, hf => by
    have ha : free ≤ a := hf a (List.mem_cons_self ..)
    rw [List.forIn_cons]
    by_cases hc : HitAt x y hi a
    · refine .inr ⟨a, [], l, rfl, ?_, hc, by simp⟩
      unfold occBody
      rw [if_pos ⟨⟨⟨by simp, ha⟩, hc.1⟩, hc.2⟩]
      exact occ_full x y hi l _ rfl
    · have e : occBody x y hi 1 a ((#[] : Array Nat), free) = pure (ForInStep.yield ((#[] : Array Nat), free)) := by
        unfold occBody
        rw [if_neg fun z => hc ⟨z.1.2, z.2⟩]
      rw [e]
      rcases occ_first x y hi l free (fun i h => hf i (List.mem_cons_of_mem _ h)) with ⟨h1, h2⟩ | ⟨k, l1, l2, h1, h2, h3, h4⟩
      · refine .inl ⟨h1, fun i hi' => ?_⟩
        rcases List.mem_cons.mp hi' with rfl | hm
        · exact hc
        · exact h2 i hm
      · refine .inr ⟨k, a :: l1, l2, by rw [h1]; rfl, h2, h3, fun i hi' => ?_⟩
        rcases List.mem_cons.mp hi' with rfl | hm
        · exact hc
        · exact h4 i hm
theorem from_nat (n i : Nat) : fromIndex n (i : Int) = i := by
  unfold fromIndex
  rw [if_neg (by omega)]
  omega
theorem find3_spec (x y : Str) (i : Nat) :
    (∃ k : Nat, Txt.find3 x y (i : Int) = (k : Int) ∧ i ≤ k ∧ HitAt x y x.length k ∧ ∀ j, i ≤ j → j < k → ¬ HitAt x y x.length j) ∨
    (Txt.find3 x y (i : Int) = -1 ∧ ∀ j, i ≤ j → ¬ HitAt x y x.length j) := by
  unfold Txt.find3
  rw [from_nat, occ_eq]
  have mem : ∀ j, j ∈ List.range' i (x.length + 1 - i) ↔ i ≤ j ∧ j ≤ x.length := fun j => by
    rw [List.mem_range'_1]
    omega
  have out : ∀ j, HitAt x y x.length j → j ≤ x.length := fun j h => Nat.le_trans (Nat.le_add_right _ _) h.1
  rcases occ_first x y x.length (List.range' i (x.length + 1 - i)) i (fun j h => ((mem j).mp h).1) with ⟨h1, h2⟩ | ⟨k, l1, l2, h1, h2, h3, h4⟩
  · rw [h1]
    exact .inr ⟨rfl, fun j hj h => h2 j ((mem j).mpr ⟨hj, out j h⟩) h⟩
  · rw [h2]
    have hk : k ∈ List.range' i (x.length + 1 - i) := by
      rw [h1]
      simp
    refine .inl ⟨k, rfl, ((mem k).mp hk).1, h3, fun j hj hjk h => ?_⟩
    have hm := (mem j).mpr ⟨hj, out j h⟩
    rw [h1] at hm
    rcases List.mem_append.mp hm with q | q
    · exact h4 j q h
    · have ps : (l1 ++ k :: l2).Pairwise (· < ·) := by
        rw [← h1]
        exact List.pairwise_lt_range'
      rcases List.mem_cons.mp q with q | q
      · omega
      · have := (List.pairwise_cons.mp (List.pairwise_append.mp ps).2.1).1 j q
        omega

/-! ### runs -/
def digC (c : Nat) : Bool := decide (48 ≤ c) && decide (c ≤ 57)
def letC (c : Nat) : Bool := (decide (97 ≤ c) && decide (c ≤ 122)) || ((decide (65 ≤ c) && decide (c ≤ 90)) || decide (c = 95))
def wrdC (c : Nat) : Bool := letC c || digC c
def notNl (c : Nat) : Bool := !decide (c = 10)
def runE (g : Nat → Bool) (L : List Nat) (i : Nat) : Nat := i + ((L.drop i).takeWhile g).length
theorem run_step {g : Nat → Bool} {L : List Nat} {i c : Nat} (h : L[i]? = some c) (hg : g c = true) : runE g L i = runE g L (i + 1) := by
  unfold runE
  rw [drop_at h, List.takeWhile_cons, if_pos hg, List.length_cons]
  omega
theorem run_stop {g : Nat → Bool} {L : List Nat} {i c : Nat} (h : L[i]? = some c) (hg : g c = false) : runE g L i = i := by
  unfold runE
  rw [drop_at h, List.takeWhile_cons, hg]
  rfl
theorem run_end {g : Nat → Bool} {L : List Nat} {i : Nat} (h : L.length ≤ i) : runE g L i = i := by
  unfold runE
  rw [List.drop_eq_nil_iff.mpr h]
  rfl
theorem run_le {g : Nat → Bool} {L : List Nat} {i : Nat} (h : i ≤ L.length) : runE g L i ≤ L.length := by
  unfold runE
  have h1 := (List.takeWhile_sublist (l := L.drop i) g).length_le
  rw [List.length_drop] at h1
  omega
theorem run_ge (g : Nat → Bool) (L : List Nat) (i : Nat) : i ≤ runE g L i := Nat.le_add_right _ _
theorem run_gt {g : Nat → Bool} {L : List Nat} {i c : Nat} (h : L[i]? = some c) (hg : g c = true) : i < runE g L i := by
  rw [run_step h hg]
  exact run_ge g L (i + 1)
/-! ### words -/
def numE (L : List Nat) (i : Nat) : Nat :=
  if L[runE digC L i]? = some 46 then
    (if runE digC L (runE digC L i + 1) > runE digC L i + 1 then runE digC L (runE digC L i + 1) else runE digC L i)
  else runE digC L i
def escC (c : Nat) : Bool := decide (c = 34) || (decide (c = 92) || (decide (c = 110) || decide (c = 116)))
/-- behind the mark that opens a quote -/
def quoE : List Nat → Nat → Option Nat
  | [], _ => none
  | c :: r, i => if c = 34 then some (i + 1) else if c = 10 then none else if c = 92 then
      (match r with
      | [] => none
      | d :: q => if escC d then quoE q (i + 2) else none)
    else quoE r (i + 1)
def clsE (t y : Str) (i : Nat) : Option Nat := if Txt.find3 t y (i : Int) < 0 then none else some ((Txt.find3 t y (i : Int)).toNat + y.length)
def twoL : List (List Nat) := [[61, 61], [33, 61], [60, 61], [62, 61], [45, 62]]
def oneL : List Nat := [40, 41, 91, 93, 123, 125, 44, 59, 58, 46, 61, 60, 62, 43, 45, 42, 47, 94]
def wrdE (t : Str) (i : Nat) : Option Nat :=
  match t.cps.toList[i]? with
  | none => none
  | some c =>
    if letC c then some (runE wrdC t.cps.toList i)
    else if digC c then some (numE t.cps.toList i)
    else if c = 34 then quoE (t.cps.toList.drop (i + 1)) (i + 1)
    else if c = 39 then (if (t.cps.toList.drop i).take 3 = [39, 39, 39] then clsE t "'''" (i + 3) else none)
    else if c = 35 then some (runE notNl t.cps.toList i)
    else if (t.cps.toList.drop i).take 2 = [60, 42] then clsE t "*>" (i + 2)
    else if (t.cps.toList.drop i).take 2 ∈ twoL then some (i + 2)
    else if c ∈ oneL then some (i + 1) else none
theorem quo_in : ∀ (n : Nat) (r : List Nat) (i e : Nat), r.length ≤ n → quoE r i = some e → i < e ∧ e ≤ i + r.length
  | _, [], i, e, _, h => by
    unfold quoE at h
    cases h
  | 0, c :: r, i, e, hn, _ => absurd hn (by simp)
  | n + 1, c :: r, i, e, hn, h => by
    rw [List.length_cons] at hn ⊢
    unfold quoE at h
    split at h
    · cases h
      omega
    · split at h
      · cases h
      · split at h
        · cases r with
          | nil => cases h
          | cons d q =>
            have h' : (if escC d then quoE q (i + 2) else none) = some e := h
            rw [List.length_cons] at hn ⊢
            split at h'
            · have := quo_in n q (i + 2) e (by omega) h'
              omega
            · cases h'
        · have := quo_in n r (i + 1) e (by omega) h
          omega
theorem cls_in {t y : Str} {i e : Nat} (h : clsE t y i = some e) : i + y.length ≤ e ∧ e ≤ t.length := by
  unfold clsE at h
  rcases find3_spec t y i with ⟨k, h1, h2, h3, _⟩ | ⟨h1, _⟩
  · rw [h1, if_neg (by omega)] at h
    cases h
    have := h3.1
    exact ⟨by omega, by omega⟩
  · rw [h1] at h
    cases h
theorem len_at {L : List Nat} {i c : Nat} (h : L[i]? = some c) : i < L.length := (List.getElem?_eq_some_iff.mp h).1
theorem take_len {L l : List Nat} {i n : Nat} (h : (L.drop i).take n = l) (hl : l.length = n) (h0 : 0 < n) : i + n ≤ L.length := by
  have := congrArg List.length h
  rw [List.length_take, List.length_drop, hl] at this
  omega
theorem num_in {L : List Nat} {i c : Nat} (h : L[i]? = some c) (hd : digC c = true) : i < numE L i ∧ numE L i ≤ L.length := by
  have h1 := run_gt h hd
  have h2 := run_le (g := digC) (Nat.le_of_lt (len_at h))
  unfold numE
  split
  · rename_i q
    have h3 := run_le (g := digC) (i := runE digC L i + 1) (len_at q)
    split <;> omega
  · omega
theorem wrd_in {t : Str} {i e : Nat} (h : wrdE t i = some e) : i < e ∧ e ≤ t.length := by
  have hL : t.length = t.cps.toList.length := by simp [Str.length]
  rw [hL]
  unfold wrdE at h
  split at h
  · cases h
  · rename_i c hc
    have hl := len_at hc
    split at h
    · rename_i q
      cases h
      exact ⟨run_gt hc (by unfold wrdC; rw [q] <;> rfl), run_le (Nat.le_of_lt hl)⟩
    · split at h
      · rename_i q
        cases h
        exact num_in hc q
      · split at h
        · have := quo_in _ _ _ _ (Nat.le_refl _) h
          rw [List.length_drop] at this
          omega
        · split at h
          · split at h
            · have := cls_in h
              omega
            · cases h
          · split at h
            · rename_i q
              cases h
              refine ⟨run_gt hc ?_, run_le (Nat.le_of_lt hl)⟩
              rw [q] <;> rfl
            · split at h
              · have := cls_in h
                omega
              · split at h
                · rename_i q
                  cases h
                  have q2 : i + 2 ≤ t.cps.toList.length := by
                    have all : ∀ l ∈ twoL, l.length = 2 := by decide
                    exact take_len rfl (all _ q) (by decide)
                  omega
                · split at h
                  · cases h
                    omega
                  · cases h
end Vf

set_option Elab.async false
set_option linter.all false
set_option maxRecDepth 100000
set_option maxHeartbeats 4000000
/-! Own words: a text so many times. -/
namespace Vf
open PySem PySem.Spec PyProof.Rows L2
open TL (tl)
theorem fold_tl (x : Array Nat) : ∀ (n : Nat) (a : Array Nat), ((List.replicate n x).foldl (· ++ ·) a).toList = a.toList ++ (List.replicate n x.toList).flatten
  | 0, a => by simp
  | n + 1, a => by
    rw [List.replicate_succ, List.foldl_cons, fold_tl x n, List.replicate_succ, List.flatten_cons, Array.toList_append, List.append_assoc]
theorem op_rep_str {X : Cx} : OpR X (binaryOp .Mult) (fun x y H Q => ∃ z n, x = .str z ∧ y = .int n ∧ 0 ≤ n ∧ n ≤ 100000 ∧ z.length ≤ 100 ∧ ∀ r : Str, tl r = (List.replicate n.toNat (tl z)).flatten → Q (.str r) H) := by
  intro pins s σ H x y v u Q I rx ry h
  obtain ⟨z, n, rfl, rfl, h0, h1, hz, q⟩ := h
  obtain ⟨t, rfl⟩ := rx
  obtain ⟨t', rfl⟩ := ry
  have sz : z.length * n.toNat ≤ sizeLine := Nat.le_trans (Nat.mul_le_mul hz (show n.toNat ≤ 100000 by omega)) (by decide)
  have fin : ∀ (r : Str) (tk : Nat), tl r = (List.replicate n.toNat (tl z)).flatten → EP X pins σ Q (.str r s.toks) { s with toks := s.toks + 1 } := fun r _ e => ⟨.str r, H, I.tok _, ⟨_, rfl⟩, q r e⟩
  refine PySem.P.mul_str ?_ ?_ ?_ ?_
  · rw [decide_eq_false (by omega), decide_eq_false (by omega)]
    rfl
  · intro a _ c
    have : (100 : Int) ≤ (2 ^ 63 - 1) / n := Int.le_ediv_of_mul_le (by omega) (by omega)
    omega
  · intro _ _
    exact decide_eq_false (Nat.not_lt.mpr sz)
  · split
    · rename_i hn
      have : n = 0 := by omega
      subst this
      exact ⟨by decide, fin Str.empty 0 rfl⟩
    · split
      · rename_i hn hc
        refine ⟨.str z, H, I, ⟨_, rfl⟩, q z ?_⟩
        rw [Bool.or_eq_true] at hc
        rcases hc with hc | hc
        · have : n = 1 := by simpa using hc
          subst this
          simp
        · have : tl z = [] := by
            have : z.length = 0 := by simpa using hc
            exact List.length_eq_zero_iff.mp (by rw [← this]; simp [Str.length])
          rw [this]
          simp
      · refine ⟨?_, fin _ 0 ?_⟩
        · have e : ((List.replicate n.toNat z.cps).foldl (· ++ ·) #[]).size = z.length * n.toNat := by
            rw [← Array.length_toList, fold_tl, List.length_append, List.length_flatten, List.map_replicate]
            simp [Str.length, Nat.mul_comm]
          show ((List.replicate n.toNat z.cps).foldl (· ++ ·) #[]).size ≤ sizeLine
          rw [e]
          exact sz
        · show ((List.replicate n.toNat z.cps).foldl (· ++ ·) #[]).toList = _
          rw [fold_tl]
          rfl
end Vf

set_option Elab.async false
set_option linter.all false
set_option maxRecDepth 100000
set_option maxHeartbeats 4000000
namespace Vf
open PySem PySem.Spec PyProof.Rows L2
/-- sorted of a dict with whole numbers as keys, any number of them -/
theorem call_sortedDA {X : Cx} (hcalm : X.calm = true) : CallR X (.builtin "sorted") fun xs H Q => ∃ (a : Addr) (kvs : List (Key × V)) (ks : List Int), xs = [.ref a] ∧ Rd H a (.dK kvs) ∧ kvs.map (·.1) = ks.map Sum.inl ∧
    ∀ (ys : List Int) (p : Addr), ys.Perm ks → ys.Pairwise (· ≤ ·) → H p = none → Q (.ref p) (upd H p (.lst (ys.map V.int))) := by
  rintro pins s σ H xs us Q hI hv ⟨a, kvs, ks, rfl, hR, hk, k⟩
  obtain ⟨u, rfl, hu⟩ := vals1 hv
  cases hu
  obtain ⟨hn, hd, vs, hKV, hD⟩ := dk_rd hI.hok hR
  obtain ⟨ep, hA⟩ := hD.dictAt
  have lv : vs.length = kvs.length := by
    have := congrArg List.length hKV.keys
    rw [List.length_map, List.length_map] at this
    exact this.symm
  refine PySem.Calls.call_function_entry kind_sorted plain_sorted entry_sorted (args_sorted1 _) ?_
  show wpAny _ _ (Builtin.sorted { pos := [Value.ref a] }) _ _ _
  unfold Builtin.sorted
  refine wpAny_bind (wpAny_pure ?_)
  refine wpAny_bind (PySem.W.kdu_collect (PySem.W.kdl_dict hd) (hI.ok.hd hcalm) hA (by rw [lv]; exact hn) fun h' tk acc hh hit => ?_)
  have la : acc.size = vs.length := hit.1
  have lk : ks.length = vs.length := by
    have := congrArg List.length hk
    rw [List.length_map, List.length_map] at this
    omega
  have hints : IntsAre acc.toList ks := by
    refine ints_each (by rw [Array.length_toList, la, lk]) fun j v hj => ?_
    rw [Array.getElem?_toList] at hj
    obtain ⟨key, x, h1, h2⟩ := hit.2 j v hj
    have e1 : (vs.map (·.1))[j]? = some key := by rw [List.getElem?_map, h1] <;> rfl
    rw [← hKV.keys, hk, List.getElem?_map] at e1
    obtain ⟨i, hi, rfl⟩ := Option.map_eq_some_iff.mp e1
    rcases keyIs_shape (show keyIs (Sum.inl i) v = true from h2) with ⟨i', t, e, rfl⟩ | ⟨_, _, e, _⟩
    · cases e
      exact ⟨_, _, hi, rfl⟩
    · cases e
  have lz : acc.toList.length ≤ sizeLine := by
    rw [Array.length_toList, la, lv]
    exact hn
  refine wpAny_bind (wpAny_newList ?_ lz)
  have hp := Heap.get?_push_size h' (o := { cls := .type "list", data := .seq acc.toList.toArray }) rfl
  have old : ∀ (b : Addr) (u : Obj), s.heap.get? b = some u → b < h'.objs.size ∧ h'.get? b = some u := fun b u hb => ⟨Heap.lt_size (hh b u hb), hh b u hb⟩
  refine wpAny_bind (wpAny_holding (wpAny_call_entry slot_list_sort ⟨_, hp, rfl⟩ entry_list_sort ?_ (args_list_sort _)))
  refine SrtO.list_sort_ord SrtO.swo_int (vs := acc.toList) (n := 0) hp lz (fun h2 => SrtO.ints_sortable hints h2) fun out h1 h2 => ?_
  obtain ⟨o1, o2, o3⟩ := SrtO.ints_out hints h1 h2
  obtain ⟨e, he⟩ := sortedHeap_at (out := out.toArray) hp
  refine ⟨_, rfl, wpAny_pure ⟨_, rfl, ?_⟩⟩
  have hI2 := hI.kept (t' := tk) hh
  refine ⟨.ref h'.objs.size, _, hI2.laid (a := h'.objs.size) (o := .lst ((out.map SrtO.iv).map V.int)) (fun b u hb => ?_) (Nat.le_refl _) ?_, rfl, k _ _ o2 o3 (hI2.hok.fresh (Nat.le_refl _))⟩
  · have x1 := Heap.lt_size hb
    rw [sortedHeap_old (Nat.ne_of_lt x1) (Nat.lt_of_lt_of_eq (Nat.lt_succ_of_lt x1) (size_push' _ _).symm)]
    exact Heap.get?_push_of_some _ hb
  · refine ⟨?_, out, e, vals_of_ints o1, he⟩
    rw [List.length_map, o2.length_eq, lk, lv]
    exact hn
end Vf

set_option Elab.async false
set_option linter.all false
set_option maxRecDepth 100000
set_option maxHeartbeats 4000000
namespace Vf
open PySem PySem.Spec PyProof.Rows L2
/-! Own words: a tuple, walked with its numbers. -/
theorem next_tup_item {prog : Program} {w : World} {A : Around} {E : Value → Shared → Prop} {s : Shared} {it l : Addr} {i : Nat} {items : Array Value} {x : Value} {Q : Value → Shared → Prop}
    (h1 : s.heap.IsTupleIter it l i) (h2 : s.heap.IsTuple l items) (hx : items[i]? = some x)
    (k : ∀ h' : Heap, h'.IsTupleIter it l (i + 1) → Heap.SameBut it s.heap h' → Q x { heap := h', gens := s.gens, drawn := s.drawn, toks := s.toks, os := s.os }) :
    wpAny (model prog w) A (Builtin.SmallTypes.nextOf (.ref it)) Q E s := by
  have ht := h1.typeIs
  obtain ⟨o, ho, hc, hd⟩ := h1
  obtain ⟨o2, ho2, hc2, n, hd2⟩ := h2
  unfold Builtin.SmallTypes.nextOf
  refine wpAny_bind (wpAny_callSpecial?_slot ht F.slot_tuple_iterator_next (wpAny_call_entry F.slot_tuple_iterator_next ht F.entry_tuple_iterator_next ?_ (F.args_tuple_iterator_next_1 _)))
  refine wpAny_bind (wpAny_pure ?_)
  refine wpAny_bind (wpAny_field ho hd rfl ?_)
  refine wpAny_bind (wpAny_field ho hd rfl ?_)
  refine wpAny_bind (wpAny_seqItems ho2 hd2 ?_)
  show wpAny _ _ (match items[(i : Int).toNat]? with
    | some x => _
    | none => _) _ _ _
  rw [Int.toNat_natCast, hx]
  refine wpAny_bind (wpAny_setField ho hd (by show 1 < 2; decide) (wpAny_pure ⟨_, rfl, ?_⟩))
  refine wpAny_pure (k _ ⟨_, Heap.get?_update_self _ ho ?_, ?_, ?_⟩ (Heap.SameBut.update _ _ _))
  · exact Obj.isFreed_of_fields (Obj.data_mapFields hd _)
  · exact (Obj.cls_mapFields _ _).trans hc
  · exact Obj.data_mapFields hd _
theorem next_tup_end {prog : Program} {w : World} {A : Around} {E : Value → Shared → Prop} {s : Shared} {it l : Addr} {i : Nat} {items : Array Value} {Q : Value → Shared → Prop}
    (hA : A.handled = none) (h1 : s.heap.IsTupleIter it l i) (h2 : s.heap.IsTuple l items) (hx : items[i]? = none)
    (k : ∀ (h' : Heap) (e : Addr), Heap.ExtBut it s.heap h' → (∃ o, h'.get? e = some o ∧ o.cls = .type "StopIteration") → E (.ref e) { heap := h', gens := s.gens, drawn := s.drawn, toks := s.toks, os := s.os }) :
    wpAny (model prog w) A (Builtin.SmallTypes.nextOf (.ref it)) Q E s := by
  have ht := h1.typeIs
  obtain ⟨o, ho, hc, hd⟩ := h1
  obtain ⟨o2, ho2, hc2, n, hd2⟩ := h2
  unfold Builtin.SmallTypes.nextOf
  refine wpAny_bind (wpAny_callSpecial?_slot ht F.slot_tuple_iterator_next (wpAny_call_entry F.slot_tuple_iterator_next ht F.entry_tuple_iterator_next ?_ (F.args_tuple_iterator_next_1 _)))
  refine wpAny_bind (wpAny_pure ?_)
  refine wpAny_bind (wpAny_field ho hd rfl ?_)
  refine wpAny_bind (wpAny_field ho hd rfl ?_)
  refine wpAny_bind (wpAny_seqItems ho2 hd2 ?_)
  show wpAny _ _ (match items[(i : Int).toNat]? with
    | some x => _
    | none => _) _ _ _
  rw [Int.toNat_natCast, hx]
  refine wpAny_bind (wpAny_rule ?_)
  refine wpAny_bind (wpAny_setField ho hd (by show 0 < 2; decide) ?_)
  unfold Builtin.SmallTypes.stopIteration newExc
  refine wpAny_bind (wpAny_bind (wpAny_newObj_type ?_ (by show 0 ≤ sizeLine; exact Nat.zero_le _)))
  have fm : firstArgMember (.type "StopIteration") [] = pure .none := by
    unfold firstArgMember
    show (pure (if _ then Value.none else Value.none) : Sem Value) = pure .none
    rw [ite_self]
  refine wpAny_bind (wpAny_of_eq fm ?_)
  refine wpAny_newObj_type ?_ (sizeOk_excFields _ _ _ _ _ _ _ _)
  unfold raiseNew
  refine wpAny_bind (wpAny_handled ?_)
  rw [show A.in1.handled = none from hA]
  refine wpAny_throw (k _ _ (Heap.ExtBut.push (Heap.ExtBut.push (Heap.SameBut.update _ _ _).extBut _) _) ⟨_, Heap.get?_push_size _ rfl, rfl⟩)
theorem isTup_at {h h' : Heap} {a : Addr} {items : Array Value} (x : h.IsTuple a items) (k : ∀ o, h.get? a = some o → h'.get? a = some o) : h'.IsTuple a items := by
  obtain ⟨o, ho, r⟩ := x
  exact ⟨o, k o ho, r⟩
theorem draws_tup {prog : Program} {w : World} {A : Around} (hA : A.handled = none) (it l : Addr) (n : l ≠ it) (items : Array Value) :
    Draws prog w A it [it, l] items.size (fun i v => items[i]? = some v) fun i h => h.IsTupleIter it l i ∧ h.IsTuple l items where
  live := fun i h x => by
    obtain ⟨⟨o, ho, _⟩, _⟩ := x
    exact ⟨o, ho⟩
  frame := fun i h h' x k => ⟨x.1.at (k it (by simp)), isTup_at x.2 (k l (by simp))⟩
  item := fun i s Q E hi x k => by
    refine next_tup_item x.1 x.2 (Array.getElem?_eq_getElem hi) fun h' h1 h2 => ?_
    exact k _ h' s.toks (Array.getElem?_eq_getElem hi) ⟨h1, isTup_at x.2 fun o ho => by rw [h2.2 l n]; exact ho⟩ h2
  done := fun s Q E x k => by
    refine next_tup_end hA x.1 x.2 (by simp) fun h' e h1 h2 => k h' e h1 h2
theorem wp_ite2 {α : Type} {M : Model} {A : Around} {E : Value → Shared → Prop} {s : Shared} {c : Prop} [Decidable c] {a b : Sem α} {Q : α → Shared → Prop} (ha : wpAny M A a Q E s) (hb : wpAny M A b Q E s) : wpAny M A (if c then a else b) Q E s := by
  split
  · exact ha
  · exact hb
theorem meets_enum_tup (l : Addr) (items : Array Value) : Meets (Builtin.«enumerate.__new__» { pos := [.type "enumerate", .ref l] }) fun x R s =>
    s.heap.IsTuple l items ∧ R (.ok (.ret (.ref (s.heap.push { cls := .type "tuple_iterator", data := .fields #[.ref l, .int 0 0] }).objs.size)))
      { heap := (s.heap.push { cls := .type "tuple_iterator", data := .fields #[.ref l, .int 0 0] }).push
          { cls := .type "enumerate", data := .fields #[.none, .bool false, .ref s.heap.objs.size, rawInt 0, .none, .none] },
        gens := s.gens, drawn := s.drawn, toks := s.toks, os := s.os } := by
  intro prog w A R s h
  obtain ⟨ht, k⟩ := h
  have nc : Builtin.SmallTypes.newClass "enumerate" { pos := [.type "enumerate", .ref l] } = pure (Value.type "enumerate", [Value.ref l]) := by
    unfold Builtin.SmallTypes.newClass
    show (isSubtype (.type "enumerate") (.type "enumerate") >>= fun b => if (!b) = true then _ else pure (Value.type "enumerate", [Value.ref l])) = _
    rw [sub_enumerate]
    rfl
  unfold Builtin.«enumerate.__new__»
  refine wpAny_bind (wpAny_of_eq nc ?_)
  refine wpAny_ite_true (by decide) ?_
  unfold Builtin.SmallTypes.calledThroughType
  refine wpAny_bind (wpAny_bind (wpAny_stack_any fun st => wpAny_pure ?_))
  refine wp_ite2 ?_ ?_
  all_goals
    refine wpAny_bind (wpAny_of_eq (a := (Value.ref l, none)) rfl ?_)
    refine wpAny_bind (wpAny_pyIter_tuple ht ?_)
    refine wpAny_bind (wpAny_newObj_type (data := .fields #[.none, .bool false, .ref s.heap.objs.size, rawInt 0, .none, .none]) ?_ (by show 6 ≤ sizeLine + 2; rw [sizeLine_eq]; decide))
    exact wpAny_pure k
theorem call_enum_tup {prog : Program} {w : World} {A : Around} {E : Value → Shared → Prop} {s : Shared} {l : Addr} {items : Array Value} {Q : Value → Shared → Prop} (ht : s.heap.IsTuple l items)
    (k : ∀ h' : Heap, IsEnum h' (s.heap.objs.size + 1) s.heap.objs.size 0 .none → h'.IsTupleIter s.heap.objs.size l 0 → h'.objs.size = s.heap.objs.size + 2 → (∀ (b : Addr) (o : Obj), s.heap.get? b = some o → h'.get? b = some o) →
      Q (.ref (s.heap.objs.size + 1)) { heap := h', gens := s.gens, drawn := s.drawn, toks := s.toks, os := s.os }) :
    wpAny (model prog w) A (call (.type "enumerate") [.ref l]) Q E s := by
  have e1 : (s.heap.push { cls := .type "tuple_iterator", data := .fields #[.ref l, .int 0 0] }).objs.size = s.heap.objs.size + 1 := size_push' _ _
  have g1 := Heap.get?_push_size (s.heap.push { cls := .type "tuple_iterator", data := .fields #[.ref l, .int 0 0] }) (o := { cls := .type "enumerate", data := .fields #[.none, .bool false, .ref s.heap.objs.size, rawInt 0, .none, .none] }) rfl
  rw [e1] at g1
  refine callType_new F.called_enumerate (by decide) (F.typeCall_enumerate_1 _) (F.newCall_enumerate_1 _) (fun obj => F.args_object_init_2 _ _) F.entry_enumerate_new (meets_enum_tup l items) ⟨ht, ?_⟩
  show Shared.TypeIs _ (.ref _) "enumerate" ∧ Q (.ref _) _
  rw [e1]
  refine ⟨⟨_, g1, rfl⟩, k _ g1 ⟨_, Heap.get?_push_of_some _ (Heap.get?_push_size _ rfl), rfl, rfl⟩ ?_ fun b o hb => Heap.get?_push_of_some _ (Heap.get?_push_of_some _ hb)⟩
  rw [size_push', e1]
theorem enum_tup_end {prog : Program} {w : World} {A : Around} {E : Value → Shared → Prop} {s : Shared} {e it l : Addr} {i : Nat} {items : Array Value} {old : Value} {Q : Option Value → Shared → Prop}
    (hA : A.handled = none) (he : IsEnum s.heap e it (i : Nat) old) (h1 : s.heap.IsTupleIter it l i) (h2 : s.heap.IsTuple l items) (n : l ≠ it) (hx : items[i]? = none)
    (k : ∀ h' : Heap, Heap.ExtBut it s.heap h' → Q none { heap := h', gens := s.gens, drawn := s.drawn, toks := s.toks, os := s.os }) : wpAny (model prog w) A (pyNext (.ref e)) Q E s := by
  have d : Draws prog w A.in1 it [it, l] i (fun _ _ => True) (fun j h => j = i ∧ h.IsTupleIter it l j ∧ h.IsTuple l items) :=
    { live := fun j h x => by
        obtain ⟨_, ⟨o, ho, _⟩, _⟩ := x
        exact ⟨o, ho⟩
      frame := fun j h h' x k => ⟨x.1, x.2.1.at (k it (by simp)), isTup_at x.2.2 (k l (by simp))⟩
      item := fun j s Q E hj x k => absurd x.1 (Nat.ne_of_lt hj)
      done := fun s Q E x k => next_tup_end (show A.in1.handled = none from hA) x.2.1 x.2.2 hx fun h' e h1 h2 => k h' e h1 h2 }
  exact wpAny_pyNext_enum_endD d he ⟨rfl, h1, h2⟩ k
/-- the turns of enumerate(t), t a tuple -/
def Itet (K : PySem.W.Frag) (a : Addr) : It where
  go := fun i H => ∃ xs x, SqT K H a xs ∧ xs[i]? = some x
  yld := fun i H v H' => ∃ T x, v = .ref T ∧ H T = none ∧ H' = upd H T (.tup [.int (i : Nat), x]) ∧ ∀ xs, SqT K H a xs → xs[i]? = some x
  stop := fun i H => ∃ xs, SqT K H a xs ∧ xs.length ≤ i
theorem turn_enumT {P : Program} {w : World} {K : PySem.W.Frag} {elts : List Expr} {kk : Nat} {tpos : Pos} (a e it : Addr) :
    Turn P w K (.Tuple elts kk tpos) (Itet K a) [e, it] e fun i h => (∃ old, IsEnum h e it (i : Nat) old) ∧ h.IsTupleIter it a i ∧ e ≠ it where
  mem := by simp
  obj := fun i h x b hb => by
    obtain ⟨⟨old, x1⟩, ⟨o, x2, _, x3⟩, _⟩ := x
    rcases List.mem_cons.mp hb with rfl | hb
    · exact ⟨_, x1, fun v hv => by cases hv⟩
    · rw [List.mem_singleton.mp hb]
      exact ⟨_, x2, fun v hv => by rw [x3] at hv; cases hv⟩
  keep := fun i h h' x k => ⟨⟨x.1.choose, k e (by simp) _ x.1.choose_spec⟩, x.2.1.at (k it (by simp)), x.2.2⟩
  item := by
    rintro X rfl rfl rfl hc i pins s σ H E I fp ⟨⟨old, he⟩, hit, ne⟩ ⟨xs, x, hs, hx⟩
    obtain ⟨its, hv, ht, hl⟩ := I.tuple hs
    obtain ⟨u, hu, ru⟩ := hv.get hx
    have hA : X.A.handled = none := I.ok.hd hc
    obtain ⟨o1, h1, hc1, n1, hd1⟩ := ht
    obtain ⟨o2, h2, hc2, hd2⟩ := hit
    have na : a ≠ it := fun z => by
      rw [z, h2] at h1
      cases h1
      rw [hc2] at hc1
      injection hc1 with hc1
      exact absurd hc1 (by decide)
    have nea : e ≠ a := fun z => by
      have he : s.heap.get? e = _ := he
      rw [z, h1] at he
      injection he with he
      rw [he] at hc1
      injection hc1 with hc1
      exact absurd hc1 (by decide)
    have hi : i < its.toArray.size := by
      rw [List.size_toArray]
      exact (List.getElem?_eq_some_iff.mp hu).1
    refine wpAny_pyNext_enum_itemD (draws_tup (show X.A.in1.handled = none from hA) it a na its.toArray) he ⟨⟨o2, h2, hc2, hd2⟩, ⟨o1, h1, hc1, n1, hd1⟩⟩ hi ne (by simp [ne, nea]) fun x' h' tk px hout hst htup hsz hold => ?_
    refine ⟨_, rfl, wpAny_letOwnedTupleGo_enum hout fun h2' hen hsb => ?_⟩
    have ex : x' = u := by
      rw [List.getElem?_toArray, hu] at px
      cases px
      rfl
    subst ex
    have se : s.heap.objs.size ≠ e := fun z => by
      have := Heap.lt_size (show s.heap.get? e = _ from he)
      rw [z] at this
      exact Nat.lt_irrefl _ this
    have fresh : ∀ b, s.heap.objs.size ≤ b → H b = none := fun b hb => I.hok.fresh hb
    refine ⟨.ref s.heap.objs.size, upd H s.heap.objs.size (.tup [.int (i : Nat), x]), ?_, rfl, ⟨_, x, rfl, fresh _ (Nat.le_refl _), rfl, fun ys hys => ?_⟩, ⟨⟨_, hen⟩, hst.1.at fun o ho => ?_, ne⟩, fun b hb => ?_⟩
    · refine I.turnedNew (ch := [e, it]) (fun b o hb ho => ?_) fp (Nat.le_refl _) ⟨by show 2 ≤ sizeLine; rw [sizeLine_eq]; decide, [.int i tk, x'], ?_, ?_⟩
      · have n1 : b ≠ e := fun z => hb (by rw [z]; simp)
        have n2 : b ≠ it := fun z => hb (by rw [z]; simp)
        rw [hsb.2 b n1]
        exact hold b o n1 n2 ho
      · exact .cons ⟨tk, rfl⟩ (.cons ru .nil)
      · exact ⟨_, (hsb.2 _ se).trans htup, rfl, _, rfl⟩
    · rw [I.tuple_inj hys hs]
      exact hx
    · rw [hsb.2 it (Ne.symm ne)]
      exact ho
    · have hf := (fp b hb).1
      have lt : b < s.heap.objs.size := by
        rcases List.mem_cons.mp hb with rfl | hb
        · exact Heap.lt_size (show s.heap.get? b = _ from he)
        · rw [List.mem_singleton.mp hb]
          exact Heap.lt_size h2
      rw [upd_ne (Nat.ne_of_lt lt)]
      exact hf
  done := by
    rintro X rfl rfl rfl hc i pins s σ H E I fp ⟨⟨old, he⟩, hit, ne⟩ ⟨xs, hs, hx⟩
    obtain ⟨its, hv, ht, hl⟩ := I.tuple hs
    have hA : X.A.handled = none := I.ok.hd hc
    obtain ⟨o1, h1, hc1, n1, hd1⟩ := ht
    have hit2 := hit
    obtain ⟨o2, h2, hc2, hd2⟩ := hit
    have na : a ≠ it := fun z => by
      rw [z, h2] at h1
      cases h1
      rw [hc2] at hc1
      injection hc1 with hc1
      exact absurd hc1 (by decide)
    have f := fp it (by simp)
    refine enum_tup_end hA he hit2 ⟨o1, h1, hc1, n1, hd1⟩ na ?_ fun h' hx' => ?_
    · rw [List.getElem?_toArray]
      exact List.getElem?_eq_none_iff.mpr (by rw [← hv.length]; exact hx)
    · exact ⟨rfl, I.turned (it := it) (fun b o n h => hx' b o n h) f.1 f.2.1 f.2.2.2.1 f.2.2.2.2.1 f.2.2.2.2.2⟩
  self := fun A i s Q E x q => wpAny_pyIter_enum x.1.choose_spec q
def iEnumT (K : PySem.W.Frag) (ta : TA) : TI := fun σ H R => ta σ H fun vs H1 => ∃ a xs, vs = [V.ref a] ∧ SqT K H1 a xs ∧ R (Itet K a) H1
theorem pi_enumT {X : Cx} {e : Expr} {ta : TA} {p pos tpos : Pos} {elts : List Expr} {kk : Nat} (hg : Gl X "enumerate") (hm : X.mg "enumerate" = none) (ha : PA X [e] ta)
    (st : starEach [e] X.env = [(false, eval e X.env)] := by rfl) : PI X (.Tuple elts kk tpos) (.Call (.Name "enumerate" p) [e] [] pos) (iEnumT X.K ta) := by
  refine ⟨fun pins s σ H R I h => ?_⟩
  refine Call_ (ld_blt I hg hm boot_enumerate ?_) (by rfl)
  refine callWith_type1 ?_ st (by rfl)
  refine thn (ha.run pos pins s σ H _ I h) ?_
  rintro us s1 ⟨vs, H1, I1, rv, a, xs, rfl, hs, hr⟩
  obtain ⟨u, rfl, hu⟩ := vals1 rv
  cases hu
  obtain ⟨its, hv, ht, hl⟩ := I1.tuple hs
  refine call_enum_tup ht fun h' h1 h2 h3 h4 => ?_
  refine wpAny_pyIter_enum h1 ⟨_, [s1.heap.objs.size + 1, s1.heap.objs.size], _, _, H1, rfl, I1.kept h4, turn_enumT a _ s1.heap.objs.size, ⟨⟨_, h1⟩, h2, Nat.succ_ne_self _⟩, fun b hb => ?_, hr⟩
  have le : s1.heap.objs.size ≤ b := by
    rcases List.mem_cons.mp hb with rfl | hb
    · exact Nat.le_succ _
    · rw [List.mem_singleton.mp hb]
      exact Nat.le_refl _
  exact I1.fpOk le (I1.hok.fresh le)
theorem walk_enumT {K : PySem.W.Frag} {a : Addr} {xs : List V} : Walk (Itet K a) xs.length (fun H => SqT K H a xs) (YPair (fun i => some (.int (i : Nat))) (fun i => xs[i]?)) where
  goes := fun i H hi h => ⟨xs, xs[i], h, List.getElem?_eq_getElem hi⟩
  stops := fun H h => ⟨xs, h, Nat.le_refl _⟩
  yields := fun i H v H' hi h y => by
    obtain ⟨T, x, rfl, hT, rfl, hx⟩ := y
    exact ⟨T, _, x, rfl, hT, rfl, rfl, hx xs h⟩
/-- k in d, d a dict that the top has written -/
theorem op_in_kdw {X : Cx} : OpR X (compareOp .In) fun x y H Q => ∃ d kvs k, x = kV k ∧ y = .ref d ∧ KD X.K X.w d kvs ∧ Q (.bl (valV kvs k).isSome) H := by
  rintro pins s σ H x y v u Q I rx ry ⟨d, kvs, k, rfl, rfl, D, q⟩
  cases ry
  obtain ⟨g, hm, hg⟩ := D.map (P := X.prog) I.kIn
  obtain ⟨es, n, hl, low, _⟩ := D
  refine wpAny_in_of (kV_is rx) low hm ⟨_, H, I.tok _, ?_, q⟩
  rw [(hg k).isSome_eq]
  rfl
theorem dc_itv {J : It} {n : Nat} {G : Hp → Prop} {Y : Nat → Hp → V → Hp → Prop} (w : Walk J n G Y) {g : TG} {tt : TT} {tk tv : TE} {vs : List Nat} {σ : L2.St} {H1 : Hp} {D : Addr} {Qd : Hp → Prop}
    (Pv : Nat → Hp → Prop) (h0 : Pv 0 (upd H1 D (.dK []))) (hl : ∀ (i : Nat) (H : Hp), i ≤ n → Pv i H → G H)
    (hs : ∀ (i : Nat) (x : V) (H H' : Hp), i < n → Pv i H → Y i H x H' → g x (wipe σ vs) H' fun σ2 H2 => wipe σ2 vs = wipe σ vs ∧ tt σ2 H2 fun b H3 =>
      if b = true then tk σ2 H3 fun y H4 => tv σ2 H4 fun z H5 => ∃ kvs k, y = kV k ∧ H5 D = some (.dK kvs) ∧ kvs.length < sizeLine ∧ Pv (i + 1) (upd H5 D (.dK (putK kvs k z))) else Pv (i + 1) H3)
    (hd : ∀ H, Pv n H → Qd H) :
    ∃ W : Nat → Nat → Hp → Prop, (∃ m, W 0 m (upd H1 D (.dK []))) ∧ ∀ (i m : Nat) (H : Hp), W i m H → J.stop i H ∧ Qd H ∨ J.go i H ∧ ∃ Nx : Hp → Prop, (∀ H', Nx H' → ∃ m', m' < m ∧ W (i + 1) m' H') ∧
      ∀ (x : V) (H' : Hp), J.yld i H x H' → g x (wipe σ vs) H' fun σ2 H2 => wipe σ2 vs = wipe σ vs ∧ tt σ2 H2 fun b H3 =>
        if b = true then tk σ2 H3 fun y H4 => tv σ2 H4 fun z H5 => ∃ kvs k, y = kV k ∧ H5 D = some (.dK kvs) ∧ kvs.length < sizeLine ∧ Nx (upd H5 D (.dK (putK kvs k z))) else Nx H3 := by
  refine ⟨fun i m H => i ≤ n ∧ m = n - i ∧ Pv i H, ⟨n, Nat.zero_le _, rfl, h0⟩, fun i m H ⟨hi, hm, hp⟩ => ?_⟩
  have hg := hl i H hi hp
  rcases Nat.lt_or_ge i n with q | q
  · refine .inr ⟨w.goes i H q hg, Pv (i + 1), fun H' h' => ⟨n - (i + 1), by omega, q, rfl, h'⟩, fun x H' hy => hs i x H H' q hp (w.yields i H x H' q hg hy)⟩
  · obtain rfl : i = n := by omega
    exact .inl ⟨w.stops H hg, hd H hp⟩
end Vf

set_option Elab.async false
set_option linter.all false
set_option maxRecDepth 100000
set_option maxHeartbeats 4000000
/-! Own words: data with dicts in it. -/
namespace Vf
open PySem PySem.Spec PyProof.Rows L2
def keyD : Key → PyData
  | .inl i => .int i
  | .inr x => .str x
mutual
/-- data, dicts with whole numbers and texts as keys among it -/
inductive Dx (K : PySem.W.Frag) (H : Hp) : V → PyData → Prop
  | non : Dx K H .non .none
  | bl (b : Bool) : Dx K H (.bl b) (.bool b)
  | int (i : Int) : Dx K H (.int i) (.int i)
  | str (x : Str) : Dx K H (.str x) (.str x)
  | lst {a : Addr} {xs : List V} {ds : List PyData} : SqL K H a xs → DxAll K H xs ds → Dx K H (.ref a) (.list ds)
  | tup {a : Addr} {xs : List V} {ds : List PyData} : SqT K H a xs → DxAll K H xs ds → Dx K H (.ref a) (.tuple ds)
  | dic {a : Addr} {kvs : List (Key × V)} {ds : List PyData} : Rd H a (.dK kvs) → (kvs.map (·.1)).Nodup → DxAll K H (kvs.map (·.2)) ds → Dx K H (.ref a) (.dict ((kvs.map fun q => keyD q.1).zip ds))
inductive DxAll (K : PySem.W.Frag) (H : Hp) : List V → List PyData → Prop
  | nil : DxAll K H [] []
  | cons {v : V} {vs : List V} {d : PyData} {ds : List PyData} : Dx K H v d → DxAll K H vs ds → DxAll K H (v :: vs) (d :: ds)
end
mutual
theorem Dp.dx {K : PySem.W.Frag} {H : Hp} : ∀ {v : V} {d : PyData}, Dp K H v d → Dx K H v d
  | _, _, .non => .non
  | _, _, .bl b => .bl b
  | _, _, .int i => .int i
  | _, _, .str x => .str x
  | _, _, .lst h a => .lst h (DpAll.dx a)
  | _, _, .tup h a => .tup h (DpAll.dx a)
theorem DpAll.dx {K : PySem.W.Frag} {H : Hp} : ∀ {vs : List V} {ds : List PyData}, DpAll K H vs ds → DxAll K H vs ds
  | _, _, .nil => .nil
  | _, _, .cons a b => .cons (Dp.dx a) (DpAll.dx b)
end
theorem keys_read {P : Program} {w : World} {h : Heap} : ∀ {es : List DictEntry} {vs : List (Key × Value)} {kvs : List (Key × V)}, Pairs (mixKind P w) es vs → KV kvs vs →
    ReadsAll h (es.map (·.key)) (kvs.map fun q => keyD q.1) [] ∧ Vals (kvs.map (·.2)) (es.map (·.val))
  | _, _, _, .nil, hk => by
    cases hk
    exact ⟨.nil, .nil⟩
  | _, _, _, .cons (e := e) (kv := kv) h1 h2 h3, hk => by
    cases hk with
    | cons q r =>
      obtain ⟨i1, i2⟩ := keys_read (h := h) h3 r
      refine ⟨?_, .cons (by show L2.RelV _ e.val; rw [h2]; exact q.2) i2⟩
      have h1 : keyIs kv.1 e.key = true := h1
      rw [← q.1] at h1
      have one : ∀ k : Key, keyIs k e.key = true → Reads h e.key (keyD k) [] := fun k hk => by
        rcases keyIs_shape hk with ⟨i, t, e1, e2⟩ | ⟨x, t, e1, e2⟩
        · rw [e1, e2]
          exact .int i t
        · rw [e1, e2]
          exact .str x t
      exact .cons (one _ h1) i1
theorem zip_fst : ∀ {a b : List PyData}, a.length = b.length → (a.zip b).map (·.1) = a ∧ (a.zip b).map (·.2) = b
  | [], [], _ => ⟨rfl, rfl⟩
  | x :: a, y :: b, h => by
    obtain ⟨h1, h2⟩ := zip_fst (a := a) (b := b) (by rw [List.length_cons, List.length_cons] at h; omega)
    exact ⟨congrArg (x :: ·) h1, congrArg (y :: ·) h2⟩
theorem DxAll.len {K : PySem.W.Frag} {H : Hp} : ∀ {vs : List V} {ds : List PyData}, DxAll K H vs ds → vs.length = ds.length
  | _, _, .nil => rfl
  | _, _, .cons _ r => congrArg (· + 1) r.len
/-- no tracked object is sys.modules, once that stands in the law's own heap -/
theorem sys_free {X : Cx} {pins : List (Addr × Obj)} {σ : L2.St} {H : Hp} {s : Shared} {o : Obj} (hb : X.base.get? sysModules = some o) (I : L2.Inv X pins σ H s) : H sysModules = none :=
  I.base.free _ _ (I.ok.bs _ _ hb).1 (I.ok.bs _ _ hb).2 (I.ok.noex _ _ hb)
theorem rd_sys {X : Cx} {pins : List (Addr × Obj)} {σ : L2.St} {H : Hp} {s : Shared} {o : Obj} (hb : X.base.get? sysModules = some o) (I : L2.Inv X pins σ H s) {a : Addr} {u : HO} (h : Rd H a u) : a ≠ sysModules := fun z => by
  have n := sys_free hb I
  rw [← z] at n
  rcases h with h | ⟨_, h⟩ <;> (rw [n] at h; cases h)
theorem list_sys {X : Cx} {pins : List (Addr × Obj)} {σ : L2.St} {H : Hp} {s : Shared} (hb : ∃ o, X.base.get? sysModules = some o ∧ o.cls = .type "dict") (I : L2.Inv X pins σ H s) {a : Addr} {xs : List V} (h : SqL X.K H a xs) : a ≠ sysModules := by
  obtain ⟨o, h1, h2⟩ := hb
  rcases h with h | ⟨o', its, n, h3, h4, _⟩
  · exact rd_sys h1 I h
  · intro z
    have := I.ok.mod.kin _ _ h3
    rw [z, h1] at this
    cases this
    rw [h2] at h4
    injection h4 with h4
    exact absurd h4 (by decide)
section
variable {X : Cx} {pins : List (Addr × Obj)} {σ : L2.St} {H : Hp} {s : Shared}
mutual
theorem Dx.reads (I : L2.Inv X pins σ H s) : ∀ {v : V} {d : PyData} {u : Value}, Dx X.K H v d → L2.RelV v u → ∃ as, Reads s.heap u d as ∧ ((∃ o, X.base.get? sysModules = some o ∧ o.cls = .type "dict") → sysModules ∉ as)
  | _, _, _, .non, r => by
    cases r
    exact ⟨_, .none, fun _ => by simp⟩
  | _, _, _, .bl b, r => by
    cases r
    exact ⟨_, .bool b, fun _ => by simp⟩
  | _, _, _, .int i, r => by
    obtain ⟨t, rfl⟩ := r
    exact ⟨_, .int i t, fun _ => by simp⟩
  | _, _, _, .str x, r => by
    obtain ⟨t, rfl⟩ := r
    exact ⟨_, .str x t, fun _ => by simp⟩
  | _, _, _, .lst h a, r => by
    cases r
    obtain ⟨its, hv, ⟨o, n, h1, h2, _, h3⟩, _⟩ := I.list h
    obtain ⟨as, ha, hn⟩ := DxAll.reads I a hv
    refine ⟨_, .list h1 h2 h3 ha, fun hb hm => ?_⟩
    rcases List.mem_cons.mp hm with q | q
    · exact list_sys hb I h q.symm
    · exact hn hb q
  | _, _, _, .tup h a, r => by
    cases r
    obtain ⟨its, hv, ⟨o, h1, h2, n, h3⟩, _⟩ := I.tuple h
    obtain ⟨as, ha, hn⟩ := DxAll.reads I a hv
    exact ⟨_, .tuple h1 h2 h3 ha, hn⟩
  | _, _, _, .dic (kvs := kvs) (ds := ds) h _ a, r => by
    cases r
    obtain ⟨_, _, vs, hKV, o, es, ep, h1, h2, h3, _, hp, _⟩ := dk_rd I.hok h
    obtain ⟨r1, r2⟩ := keys_read (h := s.heap) hp hKV
    obtain ⟨as, ha, hn⟩ := DxAll.reads I a r2
    have l := a.len
    rw [List.length_map] at l
    obtain ⟨z1, z2⟩ := zip_fst (a := kvs.map fun q => keyD q.1) (b := ds) (by rw [List.length_map]; exact l)
    refine ⟨_, .dict h1 h2.1 h3 (by rw [z1]; exact r1) (by rw [z2]; exact ha), fun hb hm => ?_⟩
    obtain ⟨o', hb1, _⟩ := hb
    rcases List.mem_append.mp hm with q | q
    · exact rd_sys hb1 I h (List.mem_singleton.mp q).symm
    · exact hn ⟨o', hb1, by assumption⟩ q
theorem DxAll.reads (I : L2.Inv X pins σ H s) : ∀ {vs : List V} {ds : List PyData} {us : List Value}, DxAll X.K H vs ds → Vals vs us → ∃ as, ReadsAll s.heap us ds as ∧ ((∃ o, X.base.get? sysModules = some o ∧ o.cls = .type "dict") → sysModules ∉ as)
  | _, _, _, .nil, r => by
    cases r
    exact ⟨_, .nil, fun _ => by simp⟩
  | _, _, _, .cons a b, r => by
    cases r with
    | cons r1 r2 =>
      obtain ⟨as, h1, n1⟩ := Dx.reads I a r1
      obtain ⟨bs, h2, n2⟩ := DxAll.reads I b r2
      exact ⟨_, .cons h1 h2, fun hb hm => (List.mem_append.mp hm).elim (n1 hb) (n2 hb)⟩
end
end
/-- repr of data with dicts in it -/
def rReprX (K : PySem.W.Frag) (b : Heap) : List V → Hp → VK → Prop := fun xs H Q => ∃ (p : Addr) (d : PyData), xs = [.ref p] ∧ Dx K H (.ref p) d ∧ d.showable = true ∧ d.depth ≤ 60 ∧ d.shown.length ≤ sizeLine ∧ (∃ o, b.get? sysModules = some o ∧ o.cls = .type "dict") ∧ Q (.str d.shown) H
theorem call_reprX {X : Cx} (hu : X.A.units + 65 < cLine) (gd : X.A.guards = some []) : CallR X (.builtin "repr") (rReprX X.K X.base) := by
  rintro pins s σ H xs us Q I hv ⟨p, d, rfl, hd, sh, dp, sz, hb, k⟩
  obtain ⟨u, rfl, hu2⟩ := vals1 hv
  cases hu2
  obtain ⟨as, ha, hn⟩ := hd.reads I rfl
  exact repr_of_reads' ha sh (fun _ => hn hb) gd (by omega) (fun b o h => h) (fun h' u tk hh => ⟨.str d.shown, H, I.kept hh, ⟨u, rfl⟩, k⟩) sz
end Vf

set_option Elab.async false
set_option linter.all false
set_option maxRecDepth 100000
set_option maxHeartbeats 4000000
/-! Own words: == of data with dicts in it, their sizes; sorted of any data. -/
namespace Vf
open PySem PySem.Spec PyProof.Rows L2
open PySem.W (EqTree EachIs AllAlike Sortable)
theorem u70 {k : Nat} {A : Around} (r : Room k A) : A.units + 70 < cLine := by
  have := r.un
  omega
theorem u65 {k : Nat} {A : Around} (r : Room k A) : A.units + 65 < cLine := by
  have := r.un
  omega
theorem u1 {k : Nat} {A : Around} (r : Room k A) : A.units + 1 < cLine := by
  have := r.un
  omega
/-- y in d, d not in d -/
theorem op_inDict {X : Cx} (hu : X.A.units + 1 < cLine) : OpR X (compareOp .In) fun y x H Q => ∃ a o, x = .ref a ∧ DGet H a y o ∧ Q (.bl o.isSome) H := by
  rintro pins s σ H y x u v Q I ry rx ⟨a, o, rfl, g, q⟩
  cases rx
  exact d_in hu I g ry fun s2 I2 => ⟨.bl _, H, I2, rfl, q⟩
theorem op_notInDict {X : Cx} (hu : X.A.units + 1 < cLine) : OpR X (compareOp .NotIn) fun y x H Q => ∃ a o, x = .ref a ∧ DGet H a y o ∧ Q (.bl (!o.isSome)) H := by
  rintro pins s σ H y x u v Q I ry rx ⟨a, o, rfl, g, q⟩
  cases rx
  exact d_notIn hu I g ry fun s2 I2 => ⟨.bl _, H, I2, rfl, q⟩
theorem valV_some (k : Key) : ∀ kvs : List (Key × V), (valV kvs k).isSome = true ↔ k ∈ kvs.map (·.1)
  | [] => by simp [valV]
  | p :: r => by
    rw [List.map_cons, List.mem_cons]
    by_cases e : p.1 = k
    · rw [valV_pos e]
      exact ⟨fun _ => .inl e.symm, fun _ => rfl⟩
    · rw [valV_neg e, valV_some k r]
      exact ⟨.inr, fun h => h.resolve_left fun z => e z.symm⟩
theorem putK_new {kvs : List (Key × V)} {k : Key} (v : V) (h : k ∉ kvs.map (·.1)) : putK kvs k v = kvs ++ [(k, v)] := by
  unfold putK
  rw [if_neg]
  intro z
  obtain ⟨p, hp, e⟩ := List.any_eq_true.mp z
  exact h (by rw [← of_decide_eq_true e]; exact List.mem_map_of_mem hp)
theorem valV_mem : ∀ {kvs : List (Key × V)} {k : Key} {v : V}, (kvs.map (·.1)).Nodup → (k, v) ∈ kvs → valV kvs k = some v
  | p :: r, k, v, n, h => by
    rw [List.map_cons, List.nodup_cons] at n
    rcases List.mem_cons.mp h with e | h
    · rw [← e]
      exact valV_pos rfl
    · rw [valV_neg (fun e => n.1 (by rw [e]; exact List.mem_map_of_mem (f := fun q : Key × V => q.1) h))]
      exact valV_mem n.2 h
theorem merge_new : ∀ {more kvs : List (Key × V)}, ((kvs ++ more).map (·.1)).Nodup → mergeK kvs more = kvs ++ more
  | [], kvs, _ => (List.append_nil kvs).symm
  | p :: r, kvs, h => by
    show mergeK (putK kvs p.1 p.2) r = kvs ++ p :: r
    have e : kvs ++ p :: r = (kvs ++ [p]) ++ r := by rw [List.append_assoc] <;> rfl
    rw [e] at h ⊢
    rw [putK_new p.2 (fun z => by
      rw [List.map_append, List.nodup_append, List.map_append, List.nodup_append] at h
      exact h.1.2.2 p.1 z p.1 (by simp) rfl)]
    exact merge_new h
/-! ### == -/
theorem dx_lst {K : PySem.W.Frag} {H : Hp} {x : V} {d : PyData} {ds : List PyData} (h : Dx K H x d) (e : d = .list ds) : ∃ a xs, x = .ref a ∧ SqL K H a xs ∧ DxAll K H xs ds := by
  cases h <;> try (cases e)
  exact ⟨_, _, rfl, ‹_›, ‹_›⟩
theorem dx_tup {K : PySem.W.Frag} {H : Hp} {x : V} {d : PyData} {ds : List PyData} (h : Dx K H x d) (e : d = .tuple ds) : ∃ a xs, x = .ref a ∧ SqT K H a xs ∧ DxAll K H xs ds := by
  cases h <;> try (cases e)
  exact ⟨_, _, rfl, ‹_›, ‹_›⟩
theorem dx_dic {K : PySem.W.Frag} {H : Hp} {x : V} {d : PyData} {l : List (PyData × PyData)} (h : Dx K H x d) (e : d = .dict l) : ∃ (a : Addr) (kvs : List (Key × V)), x = .ref a ∧ Rd H a (.dK kvs) ∧ (kvs.map (·.1)).Nodup ∧ DxAll K H (kvs.map (·.2)) (l.map (·.2)) ∧ (kvs.map fun q => keyD q.1) = l.map (·.1) := by
  cases h with
  | @dic _ kvs ds h n a =>
    injection e with e
    have hl : (kvs.map fun q => keyD q.1).length = ds.length := by
      rw [List.length_map]
      have := a.len
      rw [List.length_map] at this
      exact this
    have z := zip_fst hl
    rw [e] at z
    refine ⟨_, _, rfl, h, n, ?_, z.1.symm⟩
    rw [z.2]
    exact a
  | _ => cases e
theorem keyD_inj {a b : Key} (h : keyD a = keyD b) : a = b := by
  cases a with
  | inl i =>
    cases b with
    | inl j =>
      injection h with h
      rw [h]
    | inr _ => cases h
  | inr i =>
    cases b with
    | inl j => cases h
    | inr _ =>
      injection h with h
      rw [h]
theorem keys_inj : ∀ {a b : List (Key × V)}, (a.map fun q => keyD q.1) = (b.map fun q => keyD q.1) → a.map (·.1) = b.map (·.1)
  | [], [], _ => rfl
  | [], _ :: _, h => by cases h
  | _ :: _, [], h => by cases h
  | x :: a, y :: b, h => by
    rw [List.map_cons, List.map_cons] at h ⊢
    injection h with h1 h2
    rw [keyD_inj h1, keys_inj h2]
theorem kv_vals : ∀ {ks : List (Key × V)} {vs : List (Key × Value)}, KV ks vs → Vals (ks.map (·.2)) (vs.map (·.2))
  | _, _, .nil => .nil
  | _, _, .cons h r => .cons h.2 (kv_vals r)
section
variable {X : Cx} {pins : List (Addr × Obj)} {σ : L2.St} {H : Hp} {s : Shared}
mutual
theorem Dx.eqT (I : L2.Inv X pins σ H s) : ∀ (d : PyData) (n : Nat) {x y : V} {v u : Value}, d.depth ≤ n → Dx X.K H x d → Dx X.K H y d → L2.RelV x v → L2.RelV y u → EqTree X.prog X.w s n v u true
  | .none, n, _, _, _, _, _, h1, h2, r1, r2 => by
    cases h1
    cases h2
    exact .leaf fun A _ => eqAt_same r1 r2 rfl
  | .bool b, n, _, _, _, _, _, h1, h2, r1, r2 => by
    cases h1
    cases h2
    exact .leaf fun A _ => eqAt_same r1 r2 rfl
  | .int i, n, _, _, _, _, _, h1, h2, r1, r2 => by
    cases h1
    cases h2
    exact .leaf fun A _ => eqAt_same r1 r2 rfl
  | .str z, n, _, _, _, _, _, h1, h2, r1, r2 => by
    cases h1
    cases h2
    exact .leaf fun A _ => eqAt_same r1 r2 rfl
  | .list ds, n, _, _, _, _, hn, h1, h2, r1, r2 => by
    obtain ⟨a, xs, rfl, sa, da⟩ := dx_lst h1 rfl
    obtain ⟨b, ys, rfl, sb, db⟩ := dx_lst h2 rfl
    cases r1
    cases r2
    by_cases e : a = b
    · subst e
      exact .same
    · cases n with
      | zero => exact absurd hn (Nat.not_succ_le_zero _)
      | succ m =>
        obtain ⟨us, v1, p1, _⟩ := I.list sa
        obtain ⟨ws, v2, p2, _⟩ := I.list sb
        have t := EqTree.lists (e := fun _ => true) e p1.isList p2.isList (by
          rw [List.size_toArray, List.size_toArray, ← v1.length, ← v2.length, da.len, db.len]) (fun j g1 g2 => by
          have := Dx.eqTAll I ds m (Nat.le_of_succ_le_succ hn) da db v1 v2 j (by simpa using g1) (by simpa using g2)
          simpa using this)
        rw [show ((List.range us.toArray.size).all fun _ => true) = true from List.all_eq_true.mpr fun _ _ => rfl] at t
        exact t
  | .tuple ds, n, _, _, _, _, hn, h1, h2, r1, r2 => by
    obtain ⟨a, xs, rfl, sa, da⟩ := dx_tup h1 rfl
    obtain ⟨b, ys, rfl, sb, db⟩ := dx_tup h2 rfl
    cases r1
    cases r2
    by_cases e : a = b
    · subst e
      exact .same
    · cases n with
      | zero => exact absurd hn (Nat.not_succ_le_zero _)
      | succ m =>
        obtain ⟨us, v1, p1, _⟩ := I.tuple sa
        obtain ⟨ws, v2, p2, _⟩ := I.tuple sb
        have t := EqTree.tuples (e := fun _ => true) e p1 p2 (fun j g1 g2 => by
          have := Dx.eqTAll I ds m (Nat.le_of_succ_le_succ hn) da db v1 v2 j (by simpa using g1) (by simpa using g2)
          simpa using this)
        have es : us.toArray.size = ws.toArray.size := by
          rw [List.size_toArray, List.size_toArray, ← v1.length, ← v2.length, da.len, db.len]
        rw [show ((List.range (min us.toArray.size ws.toArray.size)).all fun _ => true) = true from List.all_eq_true.mpr fun _ _ => rfl, es, beq_self_eq_true] at t
        exact t
  | .dict l, n, _, _, _, _, hn, h1, h2, r1, r2 => by
    obtain ⟨a, ka, rfl, sa, na, da, ea⟩ := dx_dic h1 rfl
    obtain ⟨b, kb, rfl, sb, nb, db, eb⟩ := dx_dic h2 rfl
    cases r1
    cases r2
    by_cases e : a = b
    · subst e
      exact .same
    · cases n with
      | zero => exact absurd hn (Nat.not_succ_le_zero _)
      | succ m =>
        have ek := keys_inj (ea.trans eb.symm)
        obtain ⟨_, ga, va, KA, DA⟩ := dk_rd I.hok sa
        obtain ⟨_, gb, vb, KB, DB⟩ := dk_rd I.hok sb
        have kk : va.map (·.1) = vb.map (·.1) := by rw [← KA.keys, ← KB.keys, ek]
        have nv : (vb.map (·.1)).Nodup := by rw [← KB.keys]; exact nb
        have vA : Vals (ka.map (·.2)) (va.map (·.2)) := kv_vals KA
        have vB : Vals (kb.map (·.2)) (vb.map (·.2)) := kv_vals KB
        have t := EqTree.dicts (e := fun _ => true) e ga gb DA DB (fun k v y hm hv => by
          obtain ⟨j, hj, ej⟩ := List.getElem_of_mem hm
          have hl : va.length = vb.length := by
            have := congrArg List.length kk
            rw [List.length_map, List.length_map] at this
            exact this
          have hj2 : j < vb.length := by omega
          have k1 : (va.map (·.1))[j]'(by rw [List.length_map]; exact hj) = k := by rw [List.getElem_map, ej]
          have k2 : vb[j].1 = k := by
            rw [← k1]
            simp only [kk, List.getElem_map]
          have q : valueAt vb k = some vb[j].2 := PySem.valueAt_of_mem nv (by rw [← k2]; exact List.getElem_mem hj2)
          rw [q] at hv
          injection hv with hv
          have := Dx.eqTKv I l m (Nat.le_of_succ_le_succ hn) da db vA vB j (by rw [List.length_map]; exact hj) (by rw [List.length_map]; exact hj2)
          rw [List.getElem_map, List.getElem_map, ej, hv] at this
          exact this)
        have hl : (va.length == vb.length) = true := by
          have := congrArg List.length kk
          rw [List.length_map, List.length_map] at this
          rw [this]
          exact beq_self_eq_true _
        have hall : (va.all fun p => (valueAt vb p.1).isSome && true) = true := List.all_eq_true.mpr fun p hp => by
          have : p.1 ∈ vb.map (·.1) := by
            rw [← kk]
            exact List.mem_map_of_mem hp
          rw [PySem.valueAt_isSome.mpr this]
          rfl
        rw [hl, hall] at t
        exact t
theorem Dx.eqTAll (I : L2.Inv X pins σ H s) : ∀ (ds : List PyData) (n : Nat) {xs ys : List V} {us ws : List Value}, PyData.depthAll ds ≤ n → DxAll X.K H xs ds → DxAll X.K H ys ds → Vals xs us → Vals ys ws → ∀ (j : Nat) (h1 : j < us.length) (h2 : j < ws.length), EqTree X.prog X.w s n us[j] ws[j] true
  | [], n, _, _, _, _, _, h1, h2, r1, r2, j, g, _ => by
    cases h1
    cases r1
    exact absurd g (Nat.not_lt_zero _)
  | d :: ds, n, _, _, _, _, hn, h1, h2, r1, r2, j, g1, g2 => by
    cases h1 with
    | cons a1 b1 =>
      cases h2 with
      | cons a2 b2 =>
        cases r1 with
        | cons c1 e1 =>
          cases r2 with
          | cons c2 e2 =>
            have hn : max d.depth (PyData.depthAll ds) ≤ n := hn
            cases j with
            | zero => exact Dx.eqT I d n (by omega) a1 a2 c1 c2
            | succ j => exact Dx.eqTAll I ds n (by omega) b1 b2 e1 e2 j (Nat.lt_of_succ_lt_succ g1) (Nat.lt_of_succ_lt_succ g2)
theorem Dx.eqTKv (I : L2.Inv X pins σ H s) : ∀ (l : List (PyData × PyData)) (n : Nat) {xs ys : List V} {us ws : List Value}, PyData.depthKv l ≤ n → DxAll X.K H xs (l.map (·.2)) → DxAll X.K H ys (l.map (·.2)) → Vals xs us → Vals ys ws → ∀ (j : Nat) (h1 : j < us.length) (h2 : j < ws.length), EqTree X.prog X.w s n us[j] ws[j] true
  | [], n, _, _, _, _, _, h1, h2, r1, r2, j, g, _ => by
    cases h1
    cases r1
    exact absurd g (Nat.not_lt_zero _)
  | (k, d) :: l, n, _, _, _, _, hn, h1, h2, r1, r2, j, g1, g2 => by
    cases h1 with
    | cons a1 b1 =>
      cases h2 with
      | cons a2 b2 =>
        cases r1 with
        | cons c1 e1 =>
          cases r2 with
          | cons c2 e2 =>
            have hn : max (max k.depth d.depth) (PyData.depthKv l) ≤ n := hn
            cases j with
            | zero => exact Dx.eqT I d n (by omega) a1 a2 c1 c2
            | succ j => exact Dx.eqTKv I l n (by omega) b1 b2 e1 e2 j (Nat.lt_of_succ_lt_succ g1) (Nat.lt_of_succ_lt_succ g2)
end
end
end Vf
namespace Vf
open PySem PySem.Spec PyProof.Rows L2
open PySem.W (EqTree EachIs AllAlike Sortable)
/-- x == y, both lists, both tuples or both dicts, of the same data -/
def rEqX (K : PySem.W.Frag) (f : Bool → Bool) : R2 := fun x y H Q => ∃ a b d, x = .ref a ∧ y = .ref b ∧ Dx K H x d ∧ Dx K H y d ∧ d.depth ≤ 60 ∧ Q (.bl (f true)) H
theorem op_eqX {X : Cx} (hu : X.A.units + 64 < cLine) : OpR X (compareOp .Eq) (rEqX X.K id) := by
  rintro pins s σ H x y u v Q I rx ry ⟨a, b, d, rfl, rfl, hx, hy, dp, q⟩
  cases rx
  cases ry
  have fin : EP X pins σ Q (.bool true) s := ⟨.bl true, H, I, rfl, q⟩
  cases d with
  | none => cases hx
  | bool _ => cases hx
  | int _ => cases hx
  | str _ => cases hx
  | list ds =>
    obtain ⟨a', xs, e1, sa, da⟩ := dx_lst hx rfl
    obtain ⟨b', ys, e2, sb, db⟩ := dx_lst hy rfl
    cases e1
    cases e2
    obtain ⟨us, v1, p1, _⟩ := I.list sa
    obtain ⟨ws, v2, p2, _⟩ := I.list sb
    refine PySem.W.eq_listsT (n := 60) (e := fun _ => true) p1.isList p2.isList (by
      rw [List.size_toArray, List.size_toArray, ← v1.length, ← v2.length, da.len, db.len]) (fun j g1 g2 => by
      have := Dx.eqTAll I ds 60 (by have dp : PyData.depthAll ds + 1 ≤ 60 := dp; omega) da db v1 v2 j (by simpa using g1) (by simpa using g2)
      simpa using this) (by omega) ?_
    rw [show ((List.range us.toArray.size).all fun _ => true) = true from List.all_eq_true.mpr fun _ _ => rfl]
    exact fin
  | tuple ds =>
    obtain ⟨a', xs, e1, sa, da⟩ := dx_tup hx rfl
    obtain ⟨b', ys, e2, sb, db⟩ := dx_tup hy rfl
    cases e1
    cases e2
    obtain ⟨us, v1, p1, _⟩ := I.tuple sa
    obtain ⟨ws, v2, p2, _⟩ := I.tuple sb
    refine PySem.W.eq_tuplesT (n := 60) (e := fun _ => true) p1 p2 (fun j g1 g2 => by
      have := Dx.eqTAll I ds 60 (by have dp : PyData.depthAll ds + 1 ≤ 60 := dp; omega) da db v1 v2 j (by simpa using g1) (by simpa using g2)
      simpa using this) (by omega) ?_
    have es : us.toArray.size = ws.toArray.size := by
      rw [List.size_toArray, List.size_toArray, ← v1.length, ← v2.length, da.len, db.len]
    rw [show ((List.range (min us.toArray.size ws.toArray.size)).all fun _ => true) = true from List.all_eq_true.mpr fun _ _ => rfl, es, beq_self_eq_true]
    exact fin
  | dict l =>
    by_cases e : a = b
    · subst e
      have t := Dx.eqT I (.dict l) 61 (by omega) hx hy rfl rfl
      obtain ⟨a', ka, e1, sa, na, da, ea⟩ := dx_dic hx rfl
      cases e1
      obtain ⟨_, ga, va, KA, DA⟩ := dk_rd I.hok sa
      have nv : (va.map (·.1)).Nodup := by rw [← KA.keys]; exact na
      refine PySem.W.eq_dictsT (n := 60) (e := fun _ => true) ga ga DA DA (fun k v y hm hv => ?_) (by omega) ?_
      · rw [PySem.valueAt_of_mem nv hm] at hv
        cases hv
        exact .same
      · have hall : (va.all fun p => (valueAt va p.1).isSome && true) = true := List.all_eq_true.mpr fun p hp => by
          rw [PySem.valueAt_isSome.mpr (List.mem_map_of_mem hp)]
          rfl
        rw [hall, beq_self_eq_true]
        exact fin
    · obtain ⟨a', ka, e1, sa, na, da, ea⟩ := dx_dic hx rfl
      obtain ⟨b', kb, e2, sb, nb, db, eb⟩ := dx_dic hy rfl
      cases e1
      cases e2
      have ek := keys_inj (ea.trans eb.symm)
      obtain ⟨_, ga, va, KA, DA⟩ := dk_rd I.hok sa
      obtain ⟨_, gb, vb, KB, DB⟩ := dk_rd I.hok sb
      have kk : va.map (·.1) = vb.map (·.1) := by rw [← KA.keys, ← KB.keys, ek]
      have nv : (vb.map (·.1)).Nodup := by rw [← KB.keys]; exact nb
      have vA : Vals (ka.map (·.2)) (va.map (·.2)) := kv_vals KA
      have vB : Vals (kb.map (·.2)) (vb.map (·.2)) := kv_vals KB
      refine PySem.W.eq_dictsT (n := 60) (e := fun _ => true) ga gb DA DB (fun k v y hm hv => ?_) (by omega) ?_
      · obtain ⟨j, hj, ej⟩ := List.getElem_of_mem hm
        have hl : va.length = vb.length := by
          have := congrArg List.length kk
          rw [List.length_map, List.length_map] at this
          exact this
        have hj2 : j < vb.length := by omega
        have k1 : (va.map (·.1))[j]'(by rw [List.length_map]; exact hj) = k := by rw [List.getElem_map, ej]
        have k2 : vb[j].1 = k := by
          rw [← k1]
          simp only [kk, List.getElem_map]
        have q : valueAt vb k = some vb[j].2 := PySem.valueAt_of_mem nv (by rw [← k2]; exact List.getElem_mem hj2)
        rw [q] at hv
        injection hv with hv
        have := Dx.eqTKv I l 60 (by have dp : PyData.depthKv l + 1 ≤ 60 := dp; omega) da db vA vB j (by rw [List.length_map]; exact hj) (by rw [List.length_map]; exact hj2)
        rw [List.getElem_map, List.getElem_map, ej, hv] at this
        exact this
      · have hl : (va.length == vb.length) = true := by
          have := congrArg List.length kk
          rw [List.length_map, List.length_map] at this
          rw [this]
          exact beq_self_eq_true _
        have hall : (va.all fun p => (valueAt vb p.1).isSome && true) = true := List.all_eq_true.mpr fun p hp => by
          rw [PySem.valueAt_isSome.mpr (by rw [← kk]; exact List.mem_map_of_mem hp)]
          rfl
        rw [hl, hall]
        exact fin
/-! ### sizes -/
mutual
/-- data whose ints and texts may be shown -/
def tmx : PyData → Bool
  | .none => true
  | .bool _ => true
  | .int i => decide (i.natAbs < 10 ^ 60)
  | .str x => x.cps.all (· < 0x110000)
  | .list xs => tmxAll xs
  | .tuple xs => tmxAll xs
  | .dict l => tmxKv l
def tmxAll : List PyData → Bool
  | [] => true
  | x :: r => tmx x && tmxAll r
def tmxKv : List (PyData × PyData) → Bool
  | [] => true
  | (k, v) :: r => tmx k && (tmx v && tmxKv r)
end
mutual
/-- no less than the length of what is shown -/
def wtx : PyData → Nat
  | .none => 4
  | .bool _ => 5
  | .int _ => 62
  | .str x => 10 * x.length + 2
  | .list xs => wtxAll xs + 4
  | .tuple xs => wtxAll xs + 4
  | .dict l => wtxKv l + 4
def wtxAll : List PyData → Nat
  | [] => 0
  | x :: r => wtx x + 2 + wtxAll r
def wtxKv : List (PyData × PyData) → Nat
  | [] => 0
  | (k, v) :: r => wtx k + wtx v + 4 + wtxKv r
end
theorem dictText_le (ts : List Str) : (dictText ts).length ≤ piled ts + 2 := by
  unfold dictText
  rw [Str.length_append, Str.length_append]
  have e1 : (("{" : Str)).length = 1 := rfl
  have e2 : (("}" : Str)).length = 1 := rfl
  have e3 : (Str.join ", " ts).length ≤ piled ts := by
    by_cases h : ts = []
    · subst h
      exact Nat.le_refl _
    · have := join_length_add ts h
      omega
  rw [e1, e2]
  omega
mutual
theorem shownx_le : ∀ d : PyData, tmx d = true → d.shown.length ≤ wtx d
  | .none, _ => Nat.le_refl _
  | .bool b, _ => by
    cases b
    · exact Nat.le_refl _
    · exact Nat.le_succ 4
  | .int i, h => by
    have h' : i.natAbs < 10 ^ 60 := of_decide_eq_true h
    have e : (Str.ofString (toString i)).length = (toString i).length := PySem.ofString_length _
    have : (Str.ofString (toString i)).length ≤ 60 + 1 := by
      rw [e]
      exact int_text_length_le10 (by decide) h'
    exact Nat.le_trans this (by show 60 + 1 ≤ 62; decide)
  | .str x, h => by
    refine Nat.le_trans (StrLaws.reprText_len x ?_) (Nat.le_refl _)
    intro c hc
    have h' : x.cps.all (· < 0x110000) = true := h
    rw [← Array.all_toList, List.all_eq_true] at h'
    have := of_decide_eq_true (h' c hc)
    omega
  | .list xs, h => by
    have := shownxAll_le xs h
    have := listText_le (PyData.shownAll xs)
    show (listText (PyData.shownAll xs)).length ≤ wtxAll xs + 4
    omega
  | .tuple xs, h => by
    have := shownxAll_le xs h
    have := tupleText_le (PyData.shownAll xs)
    show (tupleText (PyData.shownAll xs)).length ≤ wtxAll xs + 4
    omega
  | .dict l, h => by
    have := shownxKv_le l h
    have := dictText_le (PyData.shownKv l)
    show (dictText (PyData.shownKv l)).length ≤ wtxKv l + 4
    omega
theorem shownxAll_le : ∀ xs : List PyData, tmxAll xs = true → piled (PyData.shownAll xs) ≤ wtxAll xs
  | [], _ => Nat.le_refl _
  | x :: r, h => by
    have h' : (tmx x && tmxAll r) = true := h
    rw [Bool.and_eq_true] at h'
    have := shownx_le x h'.1
    have := shownxAll_le r h'.2
    show piled (x.shown :: PyData.shownAll r) ≤ wtx x + 2 + wtxAll r
    rw [piled_cons]
    omega
theorem shownxKv_le : ∀ l : List (PyData × PyData), tmxKv l = true → piled (PyData.shownKv l) ≤ wtxKv l
  | [], _ => Nat.le_refl _
  | (k, v) :: r, h => by
    have h' : (tmx k && (tmx v && tmxKv r)) = true := h
    rw [Bool.and_eq_true, Bool.and_eq_true] at h'
    have := shownx_le k h'.1
    have := shownx_le v h'.2.1
    have := shownxKv_le r h'.2.2
    show piled ((k.shown ++ ": " ++ v.shown) :: PyData.shownKv r) ≤ wtx k + wtx v + 4 + wtxKv r
    rw [piled_cons, Str.length_append, Str.length_append]
    have e1 : ((": " : Str)).length = 2 := rfl
    rw [e1]
    omega
end
mutual
theorem tmx_ok : ∀ d : PyData, tmx d = true → d.showable = true
  | .none, _ => rfl
  | .bool b, _ => rfl
  | .int i, h => by
    have h' : i.natAbs < 10 ^ 60 := of_decide_eq_true h
    show decide (i.natAbs.log2 < 1920) = true
    refine decide_eq_true ?_
    by_cases h0 : i.natAbs = 0
    · rw [h0]
      decide
    · exact (Nat.log2_lt h0).mpr (Nat.lt_trans h' (by decide +kernel))
  | .str x, h => rfl
  | .list xs, h => tmxAll_ok xs h
  | .tuple xs, h => tmxAll_ok xs h
  | .dict l, h => tmxKv_ok l h
theorem tmxAll_ok : ∀ xs : List PyData, tmxAll xs = true → PyData.showableAll xs = true
  | [], _ => rfl
  | x :: r, h => by
    have h' : (tmx x && tmxAll r) = true := h
    rw [Bool.and_eq_true] at h'
    show (PyData.showable x && PyData.showableAll r) = true
    rw [tmx_ok x h'.1, tmxAll_ok r h'.2] <;> rfl
theorem tmxKv_ok : ∀ l : List (PyData × PyData), tmxKv l = true → PyData.showableKv l = true
  | [], _ => rfl
  | (k, v) :: r, h => by
    have h' : (tmx k && (tmx v && tmxKv r)) = true := h
    rw [Bool.and_eq_true, Bool.and_eq_true] at h'
    show (PyData.showable k && PyData.showable v && PyData.showableKv r) = true
    rw [tmx_ok k h'.1, tmx_ok v h'.2.1, tmxKv_ok r h'.2.2] <;> rfl
end
/-- data of a size that may be shown -/
structure OkX (d : PyData) : Prop where
  tm : tmx d = true
  dp : d.depth ≤ 60
  sz : wtx d ≤ 16000000
theorem OkX.show {d : PyData} (h : OkX d) : d.shown.length ≤ sizeLine := Nat.le_trans (shownx_le d h.tm) (Nat.le_trans h.sz (by decide))
/-- two things alike -/
def spAlikeX (K : PySem.W.Frag) : Sp := fun vs H Q _ => ∃ (a b : Addr) (d : PyData), vs = [.ref a, .ref b] ∧ Dx K H (.ref a) d ∧ Dx K H (.ref b) d ∧ OkX d ∧ ∀ H', Same H H' → Q (.bl true) H'
/-- repr of a list, a tuple or a dict -/
def rReprO (K : PySem.W.Frag) : List V → Hp → VK → Prop := fun xs H Q => ∃ (p : Addr) (d : PyData), xs = [.ref p] ∧ Dx K H (.ref p) d ∧ OkX d ∧ Q (.str d.shown) H
theorem call_reprO {X : Cx} (hu : X.A.units + 65 < cLine) (gd : X.A.guards = some []) (sb : ∃ o, X.base.get? sysModules = some o ∧ o.cls = .type "dict") : CallR X (.builtin "repr") (rReprO X.K) := by
  rintro pins s σ H xs us Q I hv ⟨p, d, rfl, hd, ok, k⟩
  exact call_reprX hu gd pins s σ H [.ref p] us Q I hv ⟨p, d, rfl, hd, tmx_ok d ok.tm, ok.dp, ok.show, sb, k⟩
mutual
/-- what holds of data without dicts -/
theorem tmx_of : ∀ d : PyData, tame d = true → tmx d = true ∧ wtx d ≤ 2 * wt d
  | .none, _ => ⟨rfl, by decide⟩
  | .bool b, _ => ⟨rfl, by show 5 ≤ 2 * 5; decide⟩
  | .int i, h => by
    have h' : i.natAbs < 10 ^ 30 := of_decide_eq_true h
    exact ⟨decide_eq_true (Nat.lt_trans h' (by decide +kernel)), by show 62 ≤ 2 * 32; decide⟩
  | .str x, h => ⟨h, by show 10 * x.length + 2 ≤ 2 * (10 * x.length + 2); omega⟩
  | .list xs, h => by
    obtain ⟨a, b⟩ := tmxAll_of xs h
    exact ⟨a, by show wtxAll xs + 4 ≤ 2 * (wtAll xs + 4); omega⟩
  | .tuple xs, h => by
    obtain ⟨a, b⟩ := tmxAll_of xs h
    exact ⟨a, by show wtxAll xs + 4 ≤ 2 * (wtAll xs + 4); omega⟩
  | .dict _, h => by cases h
theorem tmxAll_of : ∀ xs : List PyData, tameAll xs = true → tmxAll xs = true ∧ wtxAll xs ≤ 2 * wtAll xs
  | [], _ => ⟨rfl, Nat.le_refl _⟩
  | x :: r, h => by
    have h' : (tame x && tameAll r) = true := h
    rw [Bool.and_eq_true] at h'
    obtain ⟨a1, a2⟩ := tmx_of x h'.1
    obtain ⟨b1, b2⟩ := tmxAll_of r h'.2
    refine ⟨?_, ?_⟩
    · show (tmx x && tmxAll r) = true
      rw [a1, b1] <;> rfl
    · show wtx x + 2 + wtxAll r ≤ 2 * (wt x + 2 + wtAll r)
      omega
end
/-! ### sorted -/
theorem each_of_vals {R : V → PyData → Prop} : ∀ {xs : List V} {us : List Value} {ds : List PyData}, Vals xs us → Paired R xs ds → EachIs (fun u d => ∃ x, L2.RelV x u ∧ R x d) us ds
  | _, _, _, .nil, h => by
    cases h
    exact .nil
  | _, _, _, .cons a b, h => by
    cases h with
    | cons p q => exact .cons ⟨_, a, p⟩ (each_of_vals b q)
theorem vals_of_each {R : V → PyData → Prop} : ∀ {us : List Value} {ds : List PyData}, EachIs (fun u d => ∃ x, L2.RelV x u ∧ R x d) us ds → ∃ xs, Vals xs us ∧ Paired R xs ds
  | _, _, .nil => ⟨[], .nil, .nil⟩
  | _, _, .cons ⟨x, a, p⟩ r => by
    obtain ⟨xs, b, q⟩ := vals_of_each r
    exact ⟨x :: xs, .cons a b, .cons p q⟩
/-- data, ascending -/
noncomputable def srtD (ds : List PyData) : List PyData := ds.mergeSort (PySem.W.dataLe false id)
theorem srtD_perm (ds : List PyData) : (srtD ds).Perm ds := List.mergeSort_perm _ _
theorem call_sortedX {X : Cx} (hu : X.A.units + 70 < cLine) : CallR X (.builtin "sorted") (fun vs H Q => ∃ (a : Addr) (xs : List V) (ds : List PyData) (R : V → PyData → Prop), vs = [.ref a] ∧ SqL X.K H a xs ∧ Paired R xs ds ∧ (∀ x d, R x d → Dx X.K H x d) ∧ AllAlike ds ∧ Sortable ds ∧ (∀ d ∈ ds, d.depth ≤ 60) ∧
    ∀ (ys : List V) (p : Addr), Paired R ys (srtD ds) → H p = none → Q (.ref p) (upd H p (.lst ys))) := by
  rintro pins s σ H vs us Q I r ⟨a, xs, ds, R, rfl, hs, hp, hR, hal, hk, hd, q⟩
  obtain ⟨its, rv, hl, hz⟩ := I.list hs
  obtain ⟨u, rfl, ru⟩ := vals1 r
  obtain rfl : u = Value.ref a := ru
  have e := each_of_vals rv hp
  have em : (ds.map id) = ds := List.map_id ds
  have er : EachIs (fun v b => ∃ as, Reads s.heap v (id b) as) its ds := e.mono fun u d hh => by
    obtain ⟨x, rx, h⟩ := hh
    obtain ⟨as, ha, _⟩ := (hR x d h).reads I rx
    exact ⟨as, ha⟩
  have ld := Paired.length hp
  refine PySem.W.sorted_data (enc := id) (bs := ds) hl.isList e er (by rw [em]; exact hal) (by rw [em]; exact hk) (by omega) (fun d hm => by
    have := hd d hm
    show X.A.units + 2 + d.depth < cLine
    omega) fun out lo eo => ?_
  obtain ⟨ys, vy, py⟩ := vals_of_each eo
  obtain ⟨ep, he'⟩ := PyProof.Rows.sortedAll_at s.heap its out.toArray
  have ly : ys.length = xs.length := by
    have := vy.length
    omega
  exact ⟨.ref _, upd H (s.heap.objs.size + 1) (.lst ys), I.laid (t' := s.toks) (fun _ _ => PyProof.Rows.sortedAll_old) (Nat.le_succ _) ⟨by omega, out, ep, vy, he'⟩, rfl, q ys _ py (I.hok.fresh (Nat.le_succ _))⟩
end Vf
namespace Vf
open PySem PySem.Spec PyProof.Rows L2
/-! ### a name set to a dict comprehension on one line -/
theorem ps_setDc {X : Cx} {j : Nat} {z : Str} {pz : Pos} {kx vx tg it : Expr} {tests : List Expr} {sco : Scope} {ow : List (Str × Nat)} {p1 p2 : Pos} {wi : TI} {g : TG} {tt : TT} {tk tv : TE} (calm : X.calm = true) (nd : X.N.Nodup) (hj : X.N[j]? = some z) (hz : X.env.scope.names.lookup z = some .local)
    (sw : swapsWith (.DictComp kx vx [⟨tg, it, tests, 0⟩] sco p1) (some (.Name z pz)) p2.line X.env = pure true) (wit : PI X tg it wi) (blk : BlkOk X.N X.env.scope sco ow)
    (ptg : ∀ (t : Shared) (G : Hp) (B : Addr) (cs : List (Str × Addr)) (pp : List Addr), PG (X.blk t G sco (compEnvC sco cs B X.env) pp) tg g) (pte : ∀ (t : Shared) (G : Hp) (B : Addr) (cs : List (Str × Addr)) (pp : List Addr), PTs (X.blk t G sco (compEnvC sco cs B X.env) pp) tests tt)
    (pkx : ∀ (t : Shared) (G : Hp) (B : Addr) (cs : List (Str × Addr)) (pp : List Addr), PE (X.blk t G sco (compEnvC sco cs B X.env) pp) kx tk) (pvx : ∀ (t : Shared) (G : Hp) (B : Addr) (cs : List (Str × Addr)) (pp : List Addr), PE (X.blk t G sco (compEnvC sco cs B X.env) pp) vx tv)
    (fs : ∀ x, foldedSetIterable it X.env x = pure x := by intro _; rfl) :
    PS X (.Assign [.Name z pz] (.DictComp kx vx [⟨tg, it, tests, 0⟩] sco p1) p2) (tAsg (tDc wi g tt tk tv (ow.map (·.2))) (gName j)) := by
  refine ⟨fun pins s σ H D I w => ?_⟩
  rw [exec_Assign_Name_used _ _ _ _ sw]
  refine wpAny_bind (wpAny_standAt (wpAny_bind ?_))
  have w' : tDc wi g tt tk tv (ow.map (·.2)) σ H (fun x H1 => gName j x σ H1 D.nx) := w
  refine wpAny_bind (thn (dc_core (Qf := fun _ u => SP X pins D .next u) (use := some (assign (.Name z pz) X.env)) calm nd I wit blk ptg pte pkx pvx fs w' fun L C u m H' I' q hn f => ?_) fun _ u hq => wpAny_pure (wpAny_pure hq))
  show wpAny _ _ (assign (.Name z pz) X.env (.ref L)) _ _ _
  refine wpAny_assign_Name (store_ok2 (v := V.ref L) I' nd hj (.inl hz) rfl (fun u2 I2 ⟨a, sb, ha⟩ => ?_) (.inr hz))
  obtain ⟨g0, g1, g2, g3, g4, g5⟩ := f
  have ne : C ≠ a := ha.elim (fun e => by rw [e]; exact g1) fun e h => g4 z a e h.symm
  exact ⟨m, hn.sameBut sb ne, fun h3 sb3 => ⟨_, H', I2.turned (t' := u2.toks) (fun b o hb e => (sb3.2 b hb).trans e) g0 g1 g3 g4 g5, q⟩⟩
theorem swd_true {kx vx : Expr} {gs : List Comprehension} {sco : Scope} {p1 pz : Pos} {z : Str} {n : Nat} {env : Env} (kd : env.scope.kind = .function) (hz : env.scope.names.lookup z = some .local) (ln : (pz.line == p1.line) = true)
    (no : (sco.names.any fun q => q.1 == z && (q.2 == .local || q.2 == .cell)) = false) : swapsWith (.DictComp kx vx gs sco p1) (some (.Name z pz)) n env = pure true := by
  have e1 : env.kindOf z = some .local := hz
  have e2 : env.blockKind = .function := by
    unfold Env.blockKind
    rw [kd] <;> rfl
  have e3 : (sco.names.any fun (x, k) => x == z && (k == .local || k == .cell)) = false := no
  unfold swapsWith
  simp only [e2, e1, e3, Expr.pos, ln]
  rfl
end Vf

set_option Elab.async false
set_option linter.all false
set_option maxRecDepth 100000
set_option maxHeartbeats 4000000
/-! Errors as values: made, asked for their classes, their fields read. -/
namespace Vf
open PySem PySem.Spec PyProof.Rows L2
/-- at a: an error of the class at C, not raised; fs: its fields -/
def ErA (H : Hp) (a C : Addr) (fs : List (Str × V)) : Prop := (fs = [] ∧ H a = some (exo a C none)) ∨ ∃ d, H a = some (exo a C (some d)) ∧ H d = some (exd d fs)
theorem ErA.same {H H' : Hp} {a C : Addr} {fs : List (Str × V)} (e : Same H H') (h : ErA H a C fs) : ErA H' a C fs := by
  rcases h with ⟨h1, h2⟩ | ⟨d, h1, h2⟩
  · exact .inl ⟨h1, e _ _ h2⟩
  · exact .inr ⟨d, e _ _ h1, e _ _ h2⟩
section
variable {X : Cx} {pins : List (Addr × Obj)} {σ : L2.St} {H : Hp} {s : Shared} {a C : Addr} {fs : List (Str × V)}
theorem ErA.inst (I : L2.Inv X pins σ H s) (h : ErA H a C fs) : ∃ (ox : Obj) (od : Option Obj), PySem.W.InstAt s.heap a ox C od ∧
    ∀ (n : Str) (v : V), fs.lookup n = some v → ∃ (o : Obj) (u : Value), od = some o ∧ PySem.W.lookIn n o = some (some u) ∧ L2.RelV v u := by
  rcases h with ⟨h1, h2⟩ | ⟨d, h1, h2⟩
  · obtain ⟨t1, e⟩ := exo_at I.hok h2
    exact ⟨_, none, ⟨e, rfl, rfl, trivial⟩, fun n v q => by rw [h1] at q; cases q⟩
  · obtain ⟨t1, e⟩ := exo_at I.hok h1
    obtain ⟨mA, hns, hr⟩ := exd_at I.hok h2
    obtain ⟨o, ho, hl⟩ := lookIn_ns hns
    refine ⟨_, some o, ⟨e, rfl, rfl, ho⟩, fun n v q => ?_⟩
    obtain ⟨u, hu, ru⟩ := RelO.some_of (v := v) (o := mA n) (by rw [← q]; exact hr n)
    exact ⟨o, u, rfl, by rw [hl, hu], ru⟩
end
/-- isinstance of an error -/
def rIsO (K : PySem.W.Frag) : List V → Hp → VK → Prop := fun xs H Q => ∃ (a C : Addr) (fs : List (Str × V)) (c : V) (u : Value) (b : Bool), xs = [.ref a, c] ∧ ClsV c u ∧ ErA H a C fs ∧ ExcC K C ∧ PySem.W.kitOne K (.ref C) u = some b ∧ Q (.bl b) H
theorem call_isO {X : Cx} : CallR X (.builtin "isinstance") (rIsO X.K) := by
  intro pins s σ H xs us Q I r h
  obtain ⟨a, C, fs, c, u, b, rfl, k, er, E, e, q⟩ := h
  obtain ⟨u1, u2, rfl, r1, r2⟩ := vals2 r
  obtain rfl := k.eq r2
  cases r1
  obtain ⟨ox, od, J, _⟩ := er.inst I
  have Z : PySem.W.KitX X.K (.ref a) (.ref C) (fun h => PySem.W.InstAt h a ox C od) := PySem.W.kitx_exc (by
    obtain ⟨cd, hc, _⟩ := PySem.W.any_some E.hd
    rw [hc] <;> rfl) E.hg E.hk E.hs E.ha E.hn E.ht E.hm
  exact PySem.W.kia_one Z I.kIn J e (fun z => nomatch z) fun tk => ⟨.bl b, H, I.tok tk, rfl, q⟩
/-- the field of an error -/
def tErF (K : PySem.W.Frag) (f : Str) (te : TE) : TE := fun σ H Q => te σ H fun x H1 => ∃ (a C : Addr) (fs : List (Str × V)) (v : V), x = .ref a ∧ ErA H1 a C fs ∧ XfC K C ∧ PySem.W.findIn K (.ref C) f = some none ∧ fs.lookup f = some v ∧ Q v H1
theorem pe_erf {X : Cx} {e : Expr} {te : TE} {pos : Pos} {n : Str} (he : PE X e te) (hb : attributeBase e n X.env (eval e X.env) = eval e X.env := by rfl) : PE X (.Attribute e n pos) (tErF X.K n te) := by
  refine ⟨fun pins s σ H Q I h => attr_of hb (thn (he.run pins s σ H _ I h) fun u s1 hh => ?_)⟩
  obtain ⟨x, H1, I1, rx, a, C, fs, v, rfl, er, T, hno, l, q⟩ := hh
  cases rx
  obtain ⟨ox, od, J, F⟩ := er.inst I1
  obtain ⟨o, w, rfl, hl, rw'⟩ := F n v l
  exact HandSPX.exc_get I1.kIn J T.ga T.gg T.exC (PySem.W.findObj_own T.hdC hno rfl hl) (handed_of rw') ⟨v, H1, I1.tok _, rw', q⟩
/-- an error is made of one thing -/
def tErX (C : Addr) (fld : Str) (ta : TA) : TE := fun σ H Q => ta σ H fun vs H1 => ∃ v : V, vs = [v] ∧ ∀ (a : Addr) (H2 : Hp), H1 a = none → Same H1 H2 → ErA H2 a C [(fld, v)] → Q (.ref a) H2
theorem pe_errX {X : Cx} {x fld : Str} {C : Addr} {k : Nat} {e : Expr} {ta : TA} {p pos : Pos} (R : XcR X.prog X.w X.K X.mg X.base x fld C) (hr : Room k X.A) (h2 : 2 ≤ k) (ha : PA X [e] ta) (hg : Gl X x := by rfl)
    (hdb : (x == ("__debug__" : Str)) = false := by decide) (he : starEach (e :: []) X.env = (false, eval e X.env) :: starEach [] X.env := by rfl) (hpl : (backTo pos (starEach [] X.env)).any (·.1) = false := by rfl) :
    PE X (.Call (.Name x p) [e] [] pos) (tErX C fld ta) := by
  obtain ⟨fI, fd, T, F1, bnd⟩ := R.ex
  obtain ⟨nm, q, N, bs, bm, sn, sub, ab, col, dd, k0, k1, k2, k3, k5, hC, hbm⟩ := T.cl.cls
  refine ⟨fun pins s σ H Q I h => wpAny_Call_Name_kw (ld_glob I hg T.gl ?_ hdb)⟩
  refine PySem.W.callWith_K (h₀ := X.base) I.ok.mod.kin T.cl.kC (thn (ha.run pos pins s σ H _ I h) fun us s1 ⟨vs, H1, I1, r1, v, ev, qq⟩ => ⟨I1.kIn, ?_⟩) he hpl
  subst ev
  show wpAny _ _ (call (.ref C) us) _ _ _
  obtain ⟨hp, g, dr, tk, os⟩ := s1
  let a : Addr := hp.objs.size + 1
  have sz : hp.objs.size ≤ a := Nat.le_succ _
  have na : H1 a = none := I1.hok.fresh sz
  let hp2 : Heap := (hp.push (PySem.W.kdv_tup us)).push (PySem.HandSPX.excO C hp.objs.size)
  have kp : ∀ b o, hp.get? b = some o → hp2.get? b = some o := fun b o z => Heap.get?_push_of_some _ (Heap.get?_push_of_some _ z)
  have at2 : hp2.get? a = some (PySem.HandSPX.excO C hp.objs.size) := by
    show ((hp.push (PySem.W.kdv_tup us)).push (PySem.HandSPX.excO C hp.objs.size)).get? (hp.objs.size + 1) = _
    heap_get
  have J : L2.Inv X pins σ (upd H1 a (exo a C none)) ⟨hp2, g, dr, tk, os⟩ := I1.laid (t' := tk) (a := a) (o := exo a C none) (h' := hp2) kp sz (exo_ok at2)
  have r2 : Vals [V.ref a, v] (Value.ref a :: us) := .cons rfl r1
  have hl : (Value.ref a :: us).length = 2 := by rw [← r2.length] <;> rfl
  have one : us.length = 1 := by
    rw [List.length_cons] at hl
    omega
  refine wpAny_call (PySem.HandSPX.call_own F.excBase_ValueError (fun Y => PySem.HandSPX.refsVE_contains Y bm hbm) (I1.kIn _ _ hC) (PySem.W.looks_findIn I1.kIn T.ini) (fun self => PySem.W.bind_fn I1.kIn self T.fn) (by rw [one, sizeLine_eq] <;> decide)
    (codeAny_mono (F1.run _ X.stack _ _ ⟨Value.ref a :: us, []⟩ (Value.ref a :: us) [V.ref a, v] (fun u H2 => u = .non ∧ Same H1 H2 ∧ ErA H2 a C [(fld, v)]) (fun _ _ _ => False) ((hr.mono h2).make C us []) (J.env0.make C us [])
      (by
        have z := bnd _ (Value.ref a :: us) J.kIn (by rw [List.append_nil]; exact hl)
        rw [List.append_nil] at z
        exact z) r2 ?_) fun r s' hq' => ?_))
  · refine ⟨a, v, rfl, upd_same, fun d nd ne => ⟨rfl, fun b o hb => ?_, .inr ⟨d, upd_same, ?_⟩⟩⟩
    · rw [upd_ne ne] at nd
      rw [upd_ne (ne_of_none hb na), upd_ne (ne_of_none hb nd), upd_ne (ne_of_none hb na)]
      exact hb
    · rw [upd_ne ne, upd_same]
  · cases r with
    | error er => exact False.elim hq'
    | ok fl =>
      cases fl with
      | ret u =>
        obtain ⟨v2, H2, os2, bare2, un2, hok2, rv, ev, sm, ea⟩ := hq'
        subst ev
        cases rv
        exact ⟨rfl, .ref a, H2, J.call' (ch := []) os2 un2 hok2 bare2 (fun b z => absurd z (by simp)), rfl, qq a H2 na sm ea⟩
      | next => exact False.elim hq'
      | brk => exact False.elim hq'
      | cont => exact False.elim hq'
/-- a class of errors without an __init__ of its own -/
structure XcN (K : PySem.W.Frag) (mg : Str → Option Value) (x : Str) (C : Addr) (bm : List Value) (nw : String) : Prop where
  gl : mg x = some (.ref C)
  q : PySem.W.excIn K C bm nw = true
  kp : PySem.W.keepIn K (.ref C) = true
/-- an error is made of nothing -/
theorem pe_err0 {X : Cx} {x : Str} {C : Addr} {bmB : List Value} {B newId initId : String} {p pos : Pos} (F : ExcBaseFacts B newId initId bmB) (N : XcN X.K X.mg x C bmB newId) (hg : Gl X x := by rfl) (hdb : (x == ("__debug__" : Str)) = false := by decide) :
    PE X (.Call (.Name x p) [] [] pos) (fun σ H Q => ∀ a, H a = none → Q (.ref a) (upd H a (exo a C none))) := by
  refine ⟨fun pins s σ H Q I h => wpAny_Call_Name_kw (ld_glob I hg N.gl ?_ hdb)⟩
  refine PySem.W.callWith_K0 I.kIn N.kp ?_
  show wpAny _ _ (call (.ref C) []) _ _ _
  obtain ⟨bm, ns, nm, qn, bs, hdct, sn, sub, ab, col, dd, k0, k1, k2, k3, k5, mN, hC, hN, hni, T⟩ := exc_obj I.kIn N.q
  refine wpAny_call_exc_subT F T hC hN hni (fun h' a hm => ?_) (by show 0 ≤ sizeLine; rw [sizeLine_eq]; omega)
  have hn : H a = none := I.hok.gone hm.new
  obtain ⟨t, ht, _, _⟩ := hm.there
  exact ⟨.ref a, upd H a (exo a C none), I.laidN hm.keeps hm.new hn (exo_ok ht), rfl, h a hn⟩
end Vf
namespace Vf
open PySem PySem.Spec PyProof.Rows L2
section
variable {prog : Program} {w : World} {A : Around} {E : Value → Shared → Prop} {s : Shared}
theorem adj_rev (n : Nat) : Builtin.Slice.sliceAdjust none none (-1) (n : Int) = ((n : Int) - 1, -1) := rfl
theorem plc_rev (n : Nat) : Builtin.Slice.slicePlaces ((n : Int) - 1) (-1) (-1) = n := by
  unfold Builtin.Slice.slicePlaces
  rw [if_neg (by decide)]
  by_cases h : n = 0
  · subst h
    rfl
  · rw [if_pos (by omega)]
    show (((n : Int) - 1 - -1 - 1) / 1 + 1).toNat = n
    rw [Int.ediv_one]
    omega
theorem fm_congr {α β : Type} {f g : α → Option β} : ∀ {l : List α}, (∀ x ∈ l, f x = g x) → l.filterMap f = l.filterMap g
  | [], _ => rfl
  | x :: r, h => by
    have e := fm_congr (l := r) fun y hy => h y (List.mem_cons_of_mem _ hy)
    rw [List.filterMap_cons, List.filterMap_cons, h x List.mem_cons_self, e]
theorem pick_rev (xs : Array Value) : ((List.range xs.size).filterMap fun (m : Nat) => xs[(((xs.size : Int) - 1) + (m : Int) * (-1)).toNat]?) = xs.toList.reverse := by
  have e := PySem.W.krv_all xs
  have r := PySem.W.krv_range xs.size
  have z : xs.toList.reverse = ((List.range xs.size).map fun k => xs.size - 1 - k).filterMap (xs[·]?) := by
    rw [r, List.filterMap_reverse, e]
  rw [z, List.filterMap_map]
  refine fm_congr fun m hm => ?_
  have hm' := List.mem_range.mp hm
  have q : (((xs.size : Int) - 1) + (m : Int) * (-1)).toNat = xs.size - 1 - m := by omega
  rw [q]
  rfl
theorem applied_rev {sl : Addr} {vl vu vs : Value} {n : Nat} {Q : Int × Int × Nat → Shared → Prop} (hs : s.heap.IsSliceOf sl vl vu vs) (pl : IsPart vl none) (pu : IsPart vu none) (ps : IsPart vs (some (-1)))
    (h : Q ((n : Int) - 1, -1, n) s) : wpAny (model prog w) A (Builtin.Slice.sliceApplied (.ref sl) (pure (n : Int))) Q E s := by
  obtain ⟨o, e, c, d⟩ := hs
  unfold Builtin.Slice.sliceApplied Builtin.Slice.sliceFields
  refine wpAny_bind (wpAny_bind (wpAny_field e d (x := vl) rfl ?_))
  refine wpAny_bind (wpAny_field e d (x := vu) rfl (wpAny_bind (wpAny_field e d (x := vs) rfl (wpAny_pure ?_))))
  refine wpAny_bind (HT.slicePart_ ps ?_)
  show wpAny _ _ (if ((-1 : Int) == 0) = true then _ else _) _ _ s
  rw [if_neg (by decide)]
  refine wpAny_bind (HT.slicePart_ pl ?_)
  refine wpAny_bind (HT.slicePart_ pu (wpAny_bind (wpAny_pure ?_)))
  show wpAny _ _ (match Builtin.Slice.sliceAdjust none none (-1) (n : Int) with | (lo, hi) => pure (lo, (-1 : Int), Builtin.Slice.slicePlaces lo hi (-1))) _ _ s
  rw [adj_rev n]
  show wpAny _ _ (pure ((n : Int) - 1, (-1 : Int), Builtin.Slice.slicePlaces ((n : Int) - 1) (-1) (-1))) _ _ s
  rw [plc_rev]
  exact wpAny_pure h
theorem getItem_revT {t sl : Addr} {items : Array Value} {vl vu vs : Value} {Q : Value → Shared → Prop} (ht : IsTup s.heap t items) (hs : s.heap.IsSliceOf sl vl vu vs) (pl : IsPart vl none) (pu : IsPart vu none) (ps : IsPart vs (some (-1)))
    (h : Q (.ref s.heap.objs.size) { s with heap := s.heap.push { cls := .type "tuple", data := .seq items.toList.reverse.toArray } }) (hsz : items.size ≤ sizeLine) : wpAny (model prog w) A (getItem (.ref t) (.ref sl)) Q E s := by
  have fits : sizeOk (.seq items.toList.reverse.toArray) := by
    show items.toList.reverse.toArray.size ≤ sizeLine
    rw [List.size_toArray, List.length_reverse, Array.length_toList]
    exact hsz
  have ts : s.TypeIs (.ref sl) "slice" := by
    obtain ⟨o, e, c, _⟩ := id hs
    exact ⟨o, e, c⟩
  unfold getItem
  (try with_reducible refine wpAny_holding ?_); (first | refine wpAny_bind (wpAny_pure ?_) | skip)
  refine wpAny_bind (wpAny_sequenceKey ht.typeIs (by decide) (wpAny_bind ?_))
  refine wpAny_callSpecial?_slot (name := Str.ofString "__getitem__") ht.typeIs PyProof.Rows.slot_tuple_getitem ?_
  refine wpAny_call_entry PyProof.Rows.slot_tuple_getitem ht.typeIs entry_tuple_getitem ?_ (args_tuple_getitem _ _)
  refine (show wpAny _ _ (Builtin.Tuple.tupleItemsOf (Value.ref t) >>= _) _ _ s from ?_)
  refine wpAny_bind (tupleItemsOf_ ht (wpAny_bind (wpAny_typeOf ts ?_)))
  rw [if_pos (by decide)]
  refine wpAny_bind (applied_rev hs pl pu ps ?_)
  have no : ¬ ((((items.size : Int) - 1) == 0 && (-1 : Int) == 1 && items.size == items.size) = true) := by
    rw [show (((-1 : Int) == 1)) = false from rfl, Bool.and_false, Bool.false_and]
    exact Bool.false_ne_true
  show wpAny _ _ (if (((items.size : Int) - 1) == 0 && (-1 : Int) == 1 && items.size == items.size) = true then _ else _) _ _ s
  rw [if_neg no, pick_rev]
  first
    | exact wpAny_bind (m := Builtin.Tuple.tupleExact _) (wpAny_newObj_type (wpAny_pure ⟨_, rfl, wpAny_pure h⟩) fits)
    | exact wpAny_bind (m := Builtin.Tuple.tupleExact _) (wpAny_newObj_type (wpAny_bind (wpAny_pure (wpAny_pure ⟨_, rfl, wpAny_pure h⟩))) fits)
    | exact wpAny_bind (wpAny_bind (m := Builtin.Tuple.tupleExact _) (wpAny_newObj_type (wpAny_pure (wpAny_pure ⟨_, rfl, wpAny_pure h⟩)) fits))
    | exact wpAny_bind (wpAny_bind (m := Builtin.Tuple.tupleExact _) (wpAny_newObj_type (wpAny_pure ⟨_, rfl, wpAny_pure h⟩) fits))
end
/-! ### tuples cut, joined, turned: a tuple of these items comes out -/
def tRevT (K : PySem.W.Frag) (te : TE) : TE := fun σ H Q => te σ H fun x H1 => ∃ (a : Addr) (xs : List V), x = .ref a ∧ SqT K H1 a xs ∧ ∀ (r : Addr) (H2 : Hp), Same H1 H2 → SqT K H2 r xs.reverse → Q (.ref r) H2
theorem pe_revT {X : Cx} {e : Expr} {te : TE} {k : Nat} {p1 p2 p3 pos : Pos} (he : PE X e te) : PE X (.Subscript e (.Slice none none (some (.UnaryOp .USub (.Constant (.int 1) k p1) p2)) p3) pos) (tRevT X.K te) := by
  refine ⟨fun pins s τ G Q I h => Subscript_ (thn (he.run pins s τ G _ I h) fun u t ⟨v, G1, J, rv, a, xs, ev, hx, q⟩ => ?_)⟩
  subst ev
  cases rv
  have step : PO X (some (.UnaryOp .USub (.Constant (.int 1) k p1) p2)) (tPart (tUn (rU fun i => .int (-i)) (tC (.int 1)))) := po_some (pe_un un_neg pe_int)
  refine wpAny_Slice (thn (po_none.run pins t τ G1 (fun o F => o = none ∧ F = G1) J ⟨rfl, rfl⟩) fun a1 t1 ⟨oa, F1, J1, pa, ea, fa⟩ => ?_)
  subst ea fa
  refine thn (po_none.run pins t1 τ F1 (fun o F => o = none ∧ F = F1) J1 ⟨rfl, rfl⟩) fun b t2 ⟨ob, F2, J2, pb, eb, fb⟩ => ?_
  subst eb fb
  refine thn (step.run pins t2 τ F2 (fun o F => o = some (-1) ∧ F = F2) J2 ⟨1, rfl, -1, rfl, rfl, rfl⟩) fun c t3 ⟨oc, F3, J3, pc, ec, fc⟩ => ?_
  subst ec fc
  have J4 : Inv X pins τ F3 { t3 with heap := t3.heap.push { cls := .type "slice", data := .fields #[a1, b, c] } } := J3.kept (t' := t3.toks) fun b ob w => Heap.get?_push_of_some _ w
  obtain ⟨its, r, ht, hz⟩ := J4.tuple hx
  have hl := r.length
  show wpAny (model X.prog X.w) X.A (subscriptTail e (.Slice none none (some (.UnaryOp .USub (.Constant (.int 1) k p1) p2)) p3) (.ref a) (.ref t3.heap.objs.size)) (EP X pins τ Q) X.xe { t3 with heap := t3.heap.push { cls := .type "slice", data := .fields #[a1, b, c] } }
  refine tail_any (ops := [.ref a, .ref t3.heap.objs.size]) ht.typeIs PyProof.Rows.slot_tuple_getitem.lookup ?_ (by with_unfolding_all rfl)
  refine getItem_revT ht (Heap.IsSliceOf.new _ a1 b c) pa pb pc ?_ (by rw [List.size_toArray]; omega)
  have nw : F3 ({ t3 with heap := t3.heap.push { cls := .type "slice", data := .fields #[a1, b, c] } } : Shared).heap.objs.size = none := J4.hok.fresh (Nat.le_refl _)
  refine ⟨.ref _, _, J4.laid (t' := t3.toks) (o := .tup xs.reverse) (fun b ob q => Heap.get?_push_of_some _ q) (Nat.le_refl _) ?_, rfl, q _ _ (same_new nw) (.inl (.inl upd_same))⟩
  exact ⟨by rw [List.length_reverse]; exact hz, _, r.reverse, IsTup.new _ _⟩
theorem sl_tupU {X : Cx} : SlR X (fun x lo hi H Q => ∃ (a : Addr) (xs : List V), x = .ref a ∧ SqT X.K H a xs ∧ ∀ (r : Addr) (H2 : Hp), Same H H2 → SqT X.K H2 r (cutV xs lo hi) → Q (.ref r) H2) := by
  intro pins s σ H x v vl vu lo hi sl Q I rx hs pl pu h
  obtain ⟨a, xs, rfl, hx, q⟩ := h
  refine sl_tupA pins s σ H _ v vl vu lo hi sl Q I rx hs pl pu ⟨a, xs, rfl, hx, fun w => q a H (Same.refl H) ?_, fun _ p hp => q p _ (same_new hp) (.inl (.inl upd_same))⟩
  have e : cutV xs lo hi = xs := by
    unfold cutV
    rw [w.1, w.2, List.drop_zero, Nat.sub_zero, List.take_length]
  rw [e]
  exact hx
theorem op_catU {X : Cx} : OpR X (binaryOp .Add) (fun x y H Q => ∃ (a b : Addr) (xs ys : List V), x = .ref a ∧ y = .ref b ∧ SqT X.K H a xs ∧ SqT X.K H b ys ∧ xs.length + ys.length ≤ sizeLine ∧
    ∀ (r : Addr) (H2 : Hp), Same H H2 → SqT X.K H2 r (xs ++ ys) → Q (.ref r) H2) := by
  intro pins s σ H x y v u Q I rx ry h
  obtain ⟨a, b, xs, ys, rfl, rfl, ha, hb, hz, q⟩ := h
  refine op_catA pins s σ H _ _ v u Q I rx ry ⟨a, b, xs, ys, rfl, rfl, ha, hb, hz, fun e => ?_, fun _ e => ?_, fun _ _ p hp => q p _ (same_new hp) (.inl (.inl upd_same))⟩
  · subst e
    exact q b H (Same.refl H) hb
  · subst e
    exact q a H (Same.refl H) (by rw [List.append_nil]; exact ha)
/-- a tuple against the empty one -/
theorem op_eqE {X : Cx} (hu : X.A.units + 64 < cLine) : OpR X (compareOp .Eq) (fun x y H Q => ∃ (a b : Addr) (xs : List V), x = .ref a ∧ y = .ref b ∧ SqT X.K H a xs ∧ SqT X.K H b [] ∧ Q (.bl (decide (xs = []))) H) := by
  intro pins s σ H x y v u Q I rx ry h
  obtain ⟨a, b, xs, rfl, rfl, ha, hb, q⟩ := h
  cases rx
  cases ry
  obtain ⟨its, r1, p1, _⟩ := I.tuple ha
  obtain ⟨its2, r2, p2, _⟩ := I.tuple hb
  cases r2
  refine PySem.W.eq_tuplesT (n := 60) (e := fun _ => true) p1 p2 (fun j g1 g2 => absurd g2 (by simp)) (by omega) ?_
  refine ⟨.bl (decide (xs = [])), H, I, ?_, q⟩
  show Value.bool _ = Value.bool _
  congr 1
  cases xs with
  | nil =>
    cases r1
    rfl
  | cons x r =>
    cases r1
    simp
end Vf
namespace Vf
open PySem PySem.Spec PyProof.Rows L2
/-! ### data with dicts that doesn't touch one place -/
def hid (b : Addr) (H : Hp) : Hp := fun a => if a = b then none else H a
theorem hid_ne {b a : Addr} {H : Hp} (h : a ≠ b) : hid b H a = H a := if_neg h
theorem hid_same (b : Addr) (H : Hp) : Same (hid b H) H := fun a u e => by
  unfold hid at e
  split at e
  · cases e
  · exact e
section
variable {K : PySem.W.Frag} {H H' : Hp}
theorem same_rd (e : Same H H') {a : Addr} {u : HO} (h : Rd H a u) : Rd H' a u := h.elim (fun h => .inl (e _ _ h)) fun ⟨o, h⟩ => .inr ⟨o, e _ _ h⟩
mutual
theorem Dx.same (e : Same H H') : ∀ {v : V} {d : PyData}, Dx K H v d → Dx K H' v d
  | _, _, .non => .non
  | _, _, .bl b => .bl b
  | _, _, .int i => .int i
  | _, _, .str x => .str x
  | _, _, .lst h a => .lst (e.seq h) (DxAll.same e a)
  | _, _, .tup h a => .tup (sameT e h) (DxAll.same e a)
  | _, _, .dic h n a => .dic (same_rd e h) n (DxAll.same e a)
theorem DxAll.same (e : Same H H') : ∀ {vs : List V} {ds : List PyData}, DxAll K H vs ds → DxAll K H' vs ds
  | _, _, .nil => .nil
  | _, _, .cons a b => .cons (Dx.same e a) (DxAll.same e b)
end
/-- the type of data -/
def tyD : PyData → String
  | .none => "NoneType"
  | .bool _ => "bool"
  | .int _ => "int"
  | .str _ => "str"
  | .list _ => "list"
  | .tuple _ => "tuple"
  | .dict _ => "dict"
theorem Dx.ty {v : V} {d : PyData} (h : Dx K H v d) : TyX K H v (.type (tyD d)) := by
  cases h with
  | non => exact .base .non
  | bl b => exact .base (.bl b)
  | int i => exact .base (.int i)
  | str x => exact .base (.str x)
  | lst h _ =>
    rcases h with (h | ⟨o, h⟩) | ⟨o, its, n, h, c, _⟩
    · exact .base (.lst h)
    · exact .base (.frz h)
    · exact .kList h c
  | tup h _ =>
    rcases h with (h | ⟨o, h⟩) | ⟨o, its, n, h, c, _⟩
    · exact .base (.tup h)
    · exact .fTuple h
    · exact .kTuple h c
  | dic h _ _ =>
    rcases h with h | ⟨o, h⟩
    · exact .base (.dK h)
    · exact .fDict h
theorem kit_strD (K : PySem.W.Frag) (d : PyData) : PySem.W.kitOne K (.type (tyD d)) (.type "str") = some (decide (tyD d = "str")) := by
  cases d <;> rfl
theorem kit_tupD (K : PySem.W.Frag) (d : PyData) : PySem.W.kitOne K (.type (tyD d)) (.type "tuple") = some (decide (tyD d = "tuple")) := by
  cases d <;> rfl
end
/-- data that doesn't touch what lies at b -/
def DX (K : PySem.W.Frag) (b : Addr) (H : Hp) (v : V) (d : PyData) : Prop := Dx K (hid b H) v d
section
variable {K : PySem.W.Frag} {b : Addr} {H H' : Hp} {v : V} {d : PyData}
theorem DX.dx (h : DX K b H v d) : Dx K H v d := Dx.same (hid_same b H) h
theorem hid_fr (f : Fr b H H') : Same (hid b H) (hid b H') := fun a u e => by
  by_cases n : a = b
  · rw [n] at e
    unfold hid at e
    rw [if_pos rfl] at e
    cases e
  · rw [hid_ne n] at e ⊢
    exact f _ _ n e
theorem DX.fr (f : Fr b H H') (h : DX K b H v d) : DX K b H' v d := Dx.same (hid_fr f) h
theorem DX.up {p : Addr} {o : HO} (n : H p = none) (h : DX K b H v d) : DX K b (upd H p o) v d := h.fr ((Fr.refl b H).new n)
theorem hid_new {p : Addr} {o : HO} (n : p ≠ b) : hid b (upd H p o) p = some o := by rw [hid_ne n, upd_same]
theorem hid_up {p : Addr} {o : HO} (n : H p = none) : Same (hid b H) (hid b (upd H p o)) := hid_fr ((Fr.refl b H).new n)
theorem DX.newT {p : Addr} {xs : List V} {ds : List PyData} (hp : H p = none) (n : p ≠ b) (h : DxAll K (hid b H) xs ds) : DX K b (upd H p (.tup xs)) (.ref p) (.tuple ds) :=
  .tup (.inl (.inl (hid_new n))) (DxAll.same (hid_up hp) h)
theorem DX.newL {p : Addr} {xs : List V} {ds : List PyData} (hp : H p = none) (n : p ≠ b) (h : DxAll K (hid b H) xs ds) : DX K b (upd H p (.lst xs)) (.ref p) (.list ds) :=
  .lst (.inl (.inl (hid_new n))) (DxAll.same (hid_up hp) h)
theorem DX.newD {p : Addr} {kvs : List (Key × V)} {ds : List PyData} (hp : H p = none) (n : p ≠ b) (nd : (kvs.map (·.1)).Nodup) (h : DxAll K (hid b H) (kvs.map (·.2)) ds) : DX K b (upd H p (.dK kvs)) (.ref p) (.dict ((kvs.map fun q => keyD q.1).zip ds)) :=
  .dic (.inl (hid_new n)) nd (DxAll.same (hid_up hp) h)
end
/-! ### sizes -/
structure SzX (n M : Nat) (d : PyData) : Prop where
  tm : tmx d = true
  dp : d.depth ≤ n
  wz : wtx d ≤ M
structure SzL (n M : Nat) (ds : List PyData) : Prop where
  tm : tmxAll ds = true
  dp : PyData.depthAll ds ≤ n
  wz : wtxAll ds ≤ M
theorem SzX.mono {n M n' M' : Nat} {d : PyData} (h : SzX n M d) (a : n ≤ n') (b : M ≤ M') : SzX n' M' d := ⟨h.tm, Nat.le_trans h.dp a, Nat.le_trans h.wz b⟩
theorem SzL.mono {n M n' M' : Nat} {ds : List PyData} (h : SzL n M ds) (a : n ≤ n') (b : M ≤ M') : SzL n' M' ds := ⟨h.tm, Nat.le_trans h.dp a, Nat.le_trans h.wz b⟩
theorem SzL.nil {n M : Nat} : SzL n M [] := ⟨rfl, Nat.zero_le _, Nat.zero_le _⟩
theorem SzL.cons {n M M' : Nat} {d : PyData} {ds : List PyData} (a : SzX n M d) (b : SzL n M' ds) : SzL n (M + 2 + M') (d :: ds) :=
  ⟨by show (tmx d && tmxAll ds) = true; rw [a.tm, b.tm] <;> rfl, Nat.max_le.mpr ⟨a.dp, b.dp⟩, by
    have := a.wz
    have := b.wz
    show wtx d + 2 + wtxAll ds ≤ _
    omega⟩
theorem SzX.tup {n M : Nat} {ds : List PyData} (h : SzL n M ds) : SzX (n + 1) (M + 4) (.tuple ds) := ⟨h.tm, Nat.succ_le_succ h.dp, Nat.add_le_add_right h.wz 4⟩
theorem SzX.lst {n M : Nat} {ds : List PyData} (h : SzL n M ds) : SzX (n + 1) (M + 4) (.list ds) := ⟨h.tm, Nat.succ_le_succ h.dp, Nat.add_le_add_right h.wz 4⟩
theorem SzX.items {n M : Nat} {ds : List PyData} (h : SzX (n + 1) M (.tuple ds)) : SzL n M ds := ⟨h.tm, Nat.le_of_succ_le_succ h.dp, by
  have : wtxAll ds + 4 ≤ M := h.wz
  omega⟩
theorem SzL.split {n M : Nat} {as bs : List PyData} (h : SzL n M (as ++ bs)) : ∃ A B : Nat, SzL n A as ∧ SzL n B bs ∧ A + B ≤ M := by
  induction as generalizing M with
  | nil => exact ⟨0, M, .nil, h, by omega⟩
  | cons x r ih =>
    have t : (tmx x && tmxAll (r ++ bs)) = true := h.tm
    rw [Bool.and_eq_true] at t
    have dp := Nat.max_le.mp (show max (PyData.depth x) (PyData.depthAll (r ++ bs)) ≤ n from h.dp)
    have wz : wtx x + 2 + wtxAll (r ++ bs) ≤ M := h.wz
    obtain ⟨A, B, a, b, l⟩ := ih (M := wtxAll (r ++ bs)) ⟨t.2, dp.2, Nat.le_refl _⟩
    exact ⟨wtx x + 2 + A, B, .cons ⟨t.1, dp.1, Nat.le_refl _⟩ a, b, by omega⟩
theorem SzL.app {n A B : Nat} {as bs : List PyData} (a : SzL n A as) (b : SzL n B bs) : SzL n (A + B) (as ++ bs) := by
  induction as generalizing A with
  | nil => exact b.mono (Nat.le_refl _) (Nat.le_add_left _ _)
  | cons x r ih =>
    have t : (tmx x && tmxAll r) = true := a.tm
    rw [Bool.and_eq_true] at t
    have dp := Nat.max_le.mp (show max (PyData.depth x) (PyData.depthAll r) ≤ n from a.dp)
    have wz : wtx x + 2 + wtxAll r ≤ A := a.wz
    have q := ih (A := wtxAll r) ⟨t.2, dp.2, Nat.le_refl _⟩
    exact (SzL.cons (M := wtx x) ⟨t.1, dp.1, Nat.le_refl _⟩ q).mono (Nat.le_refl _) (by omega)
theorem SzL.rev {n M : Nat} {as : List PyData} (a : SzL n M as) : SzL n M as.reverse := by
  induction as generalizing M with
  | nil => exact a
  | cons x r ih =>
    have t : (tmx x && tmxAll r) = true := a.tm
    rw [Bool.and_eq_true] at t
    have dp := Nat.max_le.mp (show max (PyData.depth x) (PyData.depthAll r) ≤ n from a.dp)
    have wz : wtx x + 2 + wtxAll r ≤ M := a.wz
    rw [List.reverse_cons]
    have q := ih (M := wtxAll r) ⟨t.2, dp.2, Nat.le_refl _⟩
    exact (q.app (SzL.cons (M := wtx x) ⟨t.1, dp.1, Nat.le_refl _⟩ SzL.nil (M' := 0))).mono (Nat.le_refl _) (by omega)
theorem SzL.at {n M : Nat} {as bs : List PyData} {d : PyData} (h : SzL n M (as ++ d :: bs)) : ∃ A B C : Nat, SzL n A as ∧ SzX n B d ∧ SzL n C bs ∧ A + (B + 2 + C) ≤ M := by
  obtain ⟨A, R, a, r, l⟩ := h.split
  have t : (tmx d && tmxAll bs) = true := r.tm
  rw [Bool.and_eq_true] at t
  have dp := Nat.max_le.mp (show max (PyData.depth d) (PyData.depthAll bs) ≤ n from r.dp)
  have wz : wtx d + 2 + wtxAll bs ≤ R := r.wz
  exact ⟨A, wtx d, wtxAll bs, a, ⟨t.1, dp.1, Nat.le_refl _⟩, ⟨t.2, dp.2, Nat.le_refl _⟩, by omega⟩
section
variable {K : PySem.W.Frag} {H : Hp}
theorem DxAll.app {as bs : List V} {ds es : List PyData} (a : DxAll K H as ds) (b : DxAll K H bs es) : DxAll K H (as ++ bs) (ds ++ es) := by
  induction as generalizing ds with
  | nil =>
    cases a
    exact b
  | cons x r ih =>
    cases a with
    | cons h t => exact .cons h (ih t)
theorem DxAll.rev {as : List V} {ds : List PyData} (a : DxAll K H as ds) : DxAll K H as.reverse ds.reverse := by
  induction as generalizing ds with
  | nil =>
    cases a
    exact .nil
  | cons x r ih =>
    cases a with
    | cons h t =>
      rw [List.reverse_cons, List.reverse_cons]
      exact (ih t).app (.cons h .nil)
/-- an item, and what lies on its sides -/
theorem DxAll.at {as : List V} {ds : List PyData} (a : DxAll K H as ds) {i : Nat} {v : V} (h : as[i]? = some v) : ∃ (d : PyData) (xs ys : List PyData), ds = xs ++ d :: ys ∧ DxAll K H (as.take i) xs ∧ Dx K H v d ∧ DxAll K H (as.drop (i + 1)) ys := by
  induction as generalizing ds i with
  | nil => cases h
  | cons x r ih =>
    cases a with
    | @cons _ _ d es p t =>
      cases i with
      | zero =>
        cases h
        exact ⟨d, [], es, rfl, .nil, p, t⟩
      | succ i =>
        obtain ⟨e, xs, ys, rfl, h1, h2, h3⟩ := ih t h
        exact ⟨e, d :: xs, ys, rfl, .cons p h1, h2, h3⟩
end
end Vf

set_option Elab.async false
set_option linter.all false
set_option maxRecDepth 100000
set_option maxHeartbeats 4000000
/-! list(zip(t, u)) of two tuples: the zip's tuple that went out first is held by the list, so each turn makes a new one. -/
namespace Vf
open PySem PySem.Spec PyProof.Rows L2
theorem zip_len0 : typeLookup (.type "zip") "__len__" = pure none := by rw [typeLookup_type, builtinLookup_eq_fast]; kernel_rfl
theorem zip_hint0 : typeLookup (.type "zip") "__length_hint__" = pure none := by rw [typeLookup_type, builtinLookup_eq_fast]; kernel_rfl
section
variable {prog : Program} {w : World} {A : Around} {E : Value → Shared → Prop} {s : Shared}
/-- ahead of draw i, the tuple at T went out first -/
structure ZHd (h : Heap) (z TI TO i1 i2 a b : Addr) (xs ys : Array Value) (i : Nat) (T : Addr) : Prop where
  zp : ∃ f, IsZipHeld h z TI TO T f
  al : ∃ o, h.get? T = some o
  ti : IsPair h TI (.ref i1) (.ref i2)
  j1 : h.IsTupleIter i1 a i
  j2 : h.IsTupleIter i2 b i
  t1 : h.IsTuple a xs
  t2 : h.IsTuple b ys
theorem isTupE {h h' : Heap} {it a : Addr} {xs : Array Value} (x : h.IsTuple a xs) (k : Heap.SameBut it h h') (n : a ≠ it) : h'.IsTuple a xs := isTup_at x fun o e => k.extBut _ _ n e
theorem isTupIE {h h' : Heap} {it c a : Addr} {i : Nat} (x : h.IsTupleIter c a i) (k : Heap.SameBut it h h') (n : c ≠ it) : h'.IsTupleIter c a i := x.at fun o e => k.extBut _ _ n e
theorem zipT_item {z TI TO T i1 i2 a b : Addr} {i : Nat} {xs ys : Array Value} {x y : Value} {Q : Value → Shared → Prop} (D : ZipApart z TI TO i1 i2 a b) (Z : ZHd s.heap z TI TO i1 i2 a b xs ys i T) (hx : xs[i]? = some x) (hy : ys[i]? = some y)
    (na : a ≠ z ∧ a ≠ i1 ∧ a ≠ i2) (nb : b ≠ z ∧ b ≠ i1 ∧ b ≠ i2) (nT : T ≠ z ∧ T ≠ i1 ∧ T ≠ i2)
    (q : ∀ h', ZHd h' z TI TO i1 i2 a b xs ys (i + 1) T → IsPair h' s.heap.objs.size x y → h'.objs.size = s.heap.objs.size + 1 → (∀ c o, c ≠ z → c ≠ i1 → c ≠ i2 → s.heap.get? c = some o → h'.get? c = some o) → Q (.ref s.heap.objs.size) { s with heap := h' }) :
    wpAny (model prog w) A (Builtin.«zip.__next__» ⟨[.ref z], []⟩) (fun fin s' => ∃ v, fin = .done (.ret v) ∧ Q v s') E s := by
  obtain ⟨⟨f, hz⟩, ⟨oT, hT⟩, hTI, h1, h2, ht1, ht2⟩ := Z
  refine (show wpAny _ _ (field (.ref z) 2 >>= _) _ _ _ from wpAny_bind (wpAny_field hz rfl (x := .bool false) rfl ?_))
  refine (show wpAny _ _ (field (.ref z) 3 >>= _) _ _ _ from wpAny_bind (wpAny_field hz rfl (x := .ref TI) rfl ?_))
  refine wpAny_bind (wpAny_seqItems hTI rfl ?_)
  refine (show wpAny _ _ (Builtin.SmallTypes.ownedTupleIsFree (.ref z) >>= _) _ _ _ from wpAny_bind (wpAny_tupleHeld_zip hz hT fun h3 hz3 s3 => ?_))
  simp only [Bool.false_eq_true, if_false]
  rw [← Array.forIn_toList]
  simp only [List.forIn_cons, List.forIn_nil]
  refine wpAny_bind (wpAny_bind (wpAny_bind (wpAny_holding ?_)))
  refine (show wpAny _ _ (Builtin.SmallTypes.nextOf (.ref i1) >>= _) _ _ _ from wpAny_bind (next_tup_item (s := { s with heap := h3 }) (isTupIE h1 s3 D.i1z) (isTupE ht1 s3 na.1) hx fun h4 g4 s4 => wpAny_pure (wpAny_pure ?_)))
  refine wpAny_bind (wpAny_bind (wpAny_holding ?_))
  have g2 : h4.IsTupleIter i2 b i := isTupIE (isTupIE h2 s3 D.i2z) s4 (Ne.symm D.i12)
  refine (show wpAny _ _ (Builtin.SmallTypes.nextOf (.ref i2) >>= _) _ _ _ from wpAny_bind (next_tup_item (s := { s with heap := h4 }) g2 (isTupE (isTupE ht2 s3 nb.1) s4 nb.2.1) hy fun h5 g5 s5 => wpAny_pure (wpAny_pure (wpAny_pure ?_))))
  refine (show wpAny _ _ (newTuple [x, y] >>= _) _ _ _ from wpAny_bind (wpAny_newTuple ?_))
  have sz : h5.objs.size = s.heap.objs.size := by rw [s5.1, s4.1, s3.1]
  have hz5 : IsZipHeld h5 z TI TO T true := s5.extBut _ _ (Ne.symm D.i2z) (s4.extBut _ _ (Ne.symm D.i1z) hz3)
  have kp : ∀ c o, c ≠ z → c ≠ i1 → c ≠ i2 → s.heap.get? c = some o → h5.get? c = some o := fun c o c1 c2 c3 e => s5.extBut _ _ c3 (s4.extBut _ _ c2 (s3.extBut _ _ c1 e))
  have j1 : h5.IsTupleIter i1 a (i + 1) := isTupIE g4 s5 D.i12
  have pu : ∀ c o, h5.get? c = some o → (h5.push { cls := .type "tuple", data := .seq #[x, y] }).get? c = some o := fun c o e => Heap.get?_push_of_some _ e
  have new : IsPair (h5.push { cls := .type "tuple", data := .seq #[x, y] }) h5.objs.size x y := Heap.get?_push_size _ rfl
  have sz2 : (h5.push { cls := .type "tuple", data := .seq #[x, y] }).objs.size = h5.objs.size + 1 := Heap.size_push ..
  refine wpAny_pure ⟨_, rfl, (show Q (.ref h5.objs.size) _ from ?_)⟩
  rw [sz] at new sz2 ⊢
  refine q _ ⟨⟨true, pu _ _ hz5⟩, ⟨oT, pu _ _ (kp _ _ nT.1 nT.2.1 nT.2.2 hT)⟩, pu _ _ (kp _ _ D.TIz D.TIi1 D.TIi2 hTI), j1.at fun o e => pu _ _ e, g5.at fun o e => pu _ _ e,
    isTup_at ht1 fun o e => pu _ _ (kp _ _ na.1 na.2.1 na.2.2 e), isTup_at ht2 fun o e => pu _ _ (kp _ _ nb.1 nb.2.1 nb.2.2 e)⟩ new sz2 fun c o c1 c2 c3 e => pu _ _ (kp c o c1 c2 c3 e)
theorem zipT_end {z TI TO T i1 i2 a b : Addr} {i : Nat} {xs ys : Array Value} {Q : Fin → Shared → Prop} (hh : A.handled = none) (D : ZipApart z TI TO i1 i2 a b) (Z : ZHd s.heap z TI TO i1 i2 a b xs ys i T) (hx : xs[i]? = none) (na : a ≠ z)
    (q : ∀ h' e, (∀ c o, c ≠ z → c ≠ i1 → c ≠ i2 → s.heap.get? c = some o → h'.get? c = some o) → (∃ o, h'.get? e = some o ∧ o.cls = .type "StopIteration") → E (.ref e) { s with heap := h' }) :
    wpAny (model prog w) A (Builtin.«zip.__next__» ⟨[.ref z], []⟩) Q E s := by
  obtain ⟨⟨f, hz⟩, ⟨oT, hT⟩, hTI, h1, h2, ht1, ht2⟩ := Z
  refine (show wpAny _ _ (field (.ref z) 2 >>= _) _ _ _ from wpAny_bind (wpAny_field hz rfl (x := .bool false) rfl ?_))
  refine (show wpAny _ _ (field (.ref z) 3 >>= _) _ _ _ from wpAny_bind (wpAny_field hz rfl (x := .ref TI) rfl ?_))
  refine wpAny_bind (wpAny_seqItems hTI rfl ?_)
  refine (show wpAny _ _ (Builtin.SmallTypes.ownedTupleIsFree (.ref z) >>= _) _ _ _ from wpAny_bind (wpAny_tupleHeld_zip hz hT fun h3 hz3 s3 => ?_))
  simp only [Bool.false_eq_true, if_false]
  rw [← Array.forIn_toList]
  simp only [List.forIn_cons, List.forIn_nil]
  refine wpAny_bind (wpAny_bind (wpAny_bind (wpAny_holding ?_)))
  exact (show wpAny _ _ (Builtin.SmallTypes.nextOf (.ref i1) >>= _) _ _ _ from wpAny_bind (next_tup_end (s := { s with heap := h3 }) hh (isTupIE h1 s3 D.i1z) (isTupE ht1 s3 na) hx fun h4 e s4 he => q h4 e (fun c o c1 c2 _ x => s4 _ _ c2 (s3.extBut _ _ c1 x)) he))
theorem zipT_next {z TI TO T i1 i2 a b : Addr} {i : Nat} {xs ys : Array Value} {x y : Value} {Q : Option Value → Shared → Prop} (D : ZipApart z TI TO i1 i2 a b) (Z : ZHd s.heap z TI TO i1 i2 a b xs ys i T) (hx : xs[i]? = some x) (hy : ys[i]? = some y)
    (na : a ≠ z ∧ a ≠ i1 ∧ a ≠ i2) (nb : b ≠ z ∧ b ≠ i1 ∧ b ≠ i2) (nT : T ≠ z ∧ T ≠ i1 ∧ T ≠ i2)
    (q : ∀ h', ZHd h' z TI TO i1 i2 a b xs ys (i + 1) T → IsPair h' s.heap.objs.size x y → h'.objs.size = s.heap.objs.size + 1 → (∀ c o, c ≠ z → c ≠ i1 → c ≠ i2 → s.heap.get? c = some o → h'.get? c = some o) → Q (some (.ref s.heap.objs.size)) { s with heap := h' }) :
    wpAny (model prog w) A (pyNext (.ref z)) Q E s := by
  have ty : s.TypeIs (.ref z) "zip" := by
    obtain ⟨f, hz⟩ := Z.zp
    exact ⟨_, hz, rfl⟩
  unfold pyNext
  refine wpAny_bind (wpAny_attempt (wpAny_callSpecial?_slot (name := Str.ofString "__next__") ty F.slot_zip_next ?_))
  exact wpAny_call_entry F.slot_zip_next ty F.entry_zip_next (zipT_item D Z hx hy na nb nT fun h' q1 q2 q3 q4 => wpAny_pure (q h' q1 q2 q3 q4)) (F.args_zip_next_1 _)
theorem zipT_over {z TI TO T i1 i2 a b : Addr} {i : Nat} {xs ys : Array Value} {Q : Option Value → Shared → Prop} (hh : A.handled = none) (D : ZipApart z TI TO i1 i2 a b) (Z : ZHd s.heap z TI TO i1 i2 a b xs ys i T) (hx : xs[i]? = none) (na : a ≠ z)
    (q : ∀ h', (∀ c o, c ≠ z → c ≠ i1 → c ≠ i2 → s.heap.get? c = some o → h'.get? c = some o) → Q none { s with heap := h' }) : wpAny (model prog w) A (pyNext (.ref z)) Q E s := by
  have ty : s.TypeIs (.ref z) "zip" := by
    obtain ⟨f, hz⟩ := Z.zp
    exact ⟨_, hz, rfl⟩
  unfold pyNext
  refine wpAny_bind (wpAny_attempt (wpAny_callSpecial?_slot (name := Str.ofString "__next__") ty F.slot_zip_next ?_))
  refine wpAny_call_entry F.slot_zip_next ty F.entry_zip_next (zipT_end hh D Z hx na fun h' e k he => ?_) (F.args_zip_next_1 _)
  obtain ⟨o, ho, hc⟩ := he
  exact wpAny_bind (wpAny_isInstance (T := "StopIteration") (b := true) ⟨o, ho, hc⟩ isSubtype_stop (wpAny_pure (q _ k)))
end
/-- where what is walked lies, and where nothing of it does -/
structure ZAp (z TI TO i1 i2 a b S m : Addr) : Prop where
  D : ZipApart z TI TO i1 i2 a b
  na : a ≠ z ∧ a ≠ i1 ∧ a ≠ i2
  nb : b ≠ z ∧ b ≠ i1 ∧ b ≠ i2
  nS : z ≠ S ∧ TI ≠ S ∧ i1 ≠ S ∧ i2 ≠ S ∧ a ≠ S ∧ b ≠ S
  lt : z < m ∧ i1 < m ∧ i2 < m ∧ S < m
theorem ZHd.frame {h h' : Heap} {z TI TO i1 i2 a b S T m : Addr} {xs ys : Array Value} {i : Nat} (P : ZAp z TI TO i1 i2 a b S m) (Z : ZHd h z TI TO i1 i2 a b xs ys i T) (nT : T ≠ S) (k : ∀ c o, c ≠ S → h.get? c = some o → h'.get? c = some o) :
    ZHd h' z TI TO i1 i2 a b xs ys i T := by
  obtain ⟨⟨f, hz⟩, ⟨oT, hT⟩, hTI, h1, h2, ht1, ht2⟩ := Z
  obtain ⟨n1, n2, n3, n4, n5, n6⟩ := P.nS
  exact ⟨⟨f, k _ _ n1 hz⟩, ⟨oT, k _ _ nT hT⟩, k _ _ n2 hTI, h1.at fun o e => k _ _ n3 e, h2.at fun o e => k _ _ n4 e, isTup_at ht1 fun o e => k _ _ n5 e, isTup_at ht2 fun o e => k _ _ n6 e⟩
/-- the pairs made so far -/
def PrsAt (h : Heap) (m : Addr) (xs ys : Array Value) (i : Nat) : Prop := ∀ j, j < i → ∃ x y, xs[j]? = some x ∧ ys[j]? = some y ∧ IsPair h (m + j) x y
section
variable {prog : Program} {w : World} {A : Around} {s : Shared} {R : Result → Shared → Prop} {z TI TO i1 i2 a b S m : Addr} {xs ys : Array Value}
theorem loopZ (hh : A.handled = none) (P : ZAp z TI TO i1 i2 a b S m) (le : xs.size = ys.size) (hn : xs.size ≤ sizeLine) (res : Value) {h0 : Heap}
    (q : ∀ h' acc c, (∀ c o, c < m → c ≠ S → c ≠ z → c ≠ i1 → c ≠ i2 → h0.get? c = some o → h'.get? c = some o) → h'.get? S = some { cls := .type "list", dict := none, data := .seq acc c, slots := #[] } →
      acc.toList = (List.range xs.size).map (fun j => Value.ref (m + j)) → PrsAt h' m xs ys xs.size → R (.ok (.ret res)) { s with heap := h' }) :
    ∀ (k i : Nat) (h : Heap) (c : Nat) (acc : Array Value), xs.size - i = k → 0 < i → i ≤ xs.size → ZHd h z TI TO i1 i2 a b xs ys i m → h.objs.size = m + i →
      (∀ c o, c < m → c ≠ S → c ≠ z → c ≠ i1 → c ≠ i2 → h0.get? c = some o → h.get? c = some o) → h.get? S = some { cls := .type "list", dict := none, data := .seq acc c, slots := #[] } →
      acc.toList = (List.range i).map (fun j => Value.ref (m + j)) → PrsAt h m xs ys i →
      codeAny (model prog w) A (.builtin "list.extend.loop" ⟨[.ref S, .ref z, res], []⟩) R { s with heap := h } := by
  obtain ⟨lz, l1, l2, lS⟩ := P.lt
  have nm : m ≠ z ∧ m ≠ i1 ∧ m ≠ i2 := ⟨Ne.symm (Nat.ne_of_lt lz), Ne.symm (Nat.ne_of_lt l1), Ne.symm (Nat.ne_of_lt l2)⟩
  have ns : z ≠ S := P.nS.1
  have far : ∀ {c : Addr} (l : c < m) (j : Nat), m + j ≠ c := fun {c} l j e => Nat.not_lt.mpr (Nat.le_add_right m j) (by rw [e]; exact l)
  intro k
  induction k with
  | zero =>
    intro i h c acc hk h0' hi Z sz kp hS ha pr
    have ei : i = xs.size := by omega
    subst ei
    refine codeAny_builtin PySem.F.entry_extend_loop ?_
    rw [Around.under_plainId PySem.F.plain_extend_loop _]
    refine (show wpAny _ A.in1 (pyNext (.ref z) >>= _) _ _ _ from wpAny_bind (zipT_over (s := { s with heap := h }) hh P.D Z (by simp) P.na.1 fun h' kz => ?_))
    refine wpAny_pure (q h' acc c (fun c o c0 c1 c2 c3 c4 e => kz c o c2 c3 c4 (kp c o c0 c1 c2 c3 c4 e)) (kz S _ (Ne.symm P.nS.1) (Ne.symm P.nS.2.2.1) (Ne.symm P.nS.2.2.2.1) hS) ha fun j hj => ?_)
    obtain ⟨x, y, e1, e2, e3⟩ := pr j hj
    exact ⟨x, y, e1, e2, kz _ _ (far lz j) (far l1 j) (far l2 j) e3⟩
  | succ k ih =>
    intro i h c acc hk h0' hi Z sz kp hS ha pr
    have lt : i < xs.size := by omega
    have las : acc.size = i := by rw [← Array.length_toList, ha, List.length_map, List.length_range]
    have ex : xs[i]? = some xs[i] := Array.getElem?_eq_getElem lt
    have ey : ys[i]? = some (ys[i]'(by omega)) := Array.getElem?_eq_getElem (by omega)
    refine codeAny_builtin PySem.F.entry_extend_loop ?_
    rw [Around.under_plainId PySem.F.plain_extend_loop _]
    refine (show wpAny _ A.in1 (pyNext (.ref z) >>= _) _ _ _ from wpAny_bind (zipT_next (s := { s with heap := h }) P.D Z ex ey P.na P.nb nm fun h' Z' pr' sz' kz => ?_))
    dsimp only at pr' sz' kz
    have hS' := kz S _ (Ne.symm P.nS.1) (Ne.symm P.nS.2.2.1) (Ne.symm P.nS.2.2.2.1) hS
    rw [sz] at pr' sz'
    have up : ∀ b o, b ≠ S → h'.get? b = some o → (h'.update S (Obj.mapSeq (·.push (Value.ref h.objs.size)))).get? b = some o := fun b o hb e => (Heap.get?_update_other _ _ (Ne.symm hb)).trans e
    refine (show wpAny _ A.in1 (updateSeq S (·.push (Value.ref h.objs.size)) >>= _) _ _ _ from wpAny_bind ?_)
    refine wpAny_updateSeq hS' rfl (wpAny_pure ⟨plainId_quiet PySem.F.plain_extend_loop _, ih (i + 1) _ _ (acc.push (Value.ref h.objs.size)) (by omega) (Nat.succ_pos _) lt (Z'.frame P (far lS 0) up) ?_ (fun c o c0 c1 c2 c3 c4 e => up c o c1 (kz c o c2 c3 c4 (kp c o c0 c1 c2 c3 c4 e))) (Heap.get?_update_self _ hS' rfl) ?_ fun j hj => ?_⟩) (by rw [las]; omega) (by show (acc.push _).size ≤ sizeLine + 1; rw [Array.size_push, las]; omega)
    · rw [Heap.size_update, sz']
      omega
    · rw [Array.toList_push, ha, List.range_succ, List.map_append, sz]
      rfl
    · rcases Nat.lt_succ_iff_lt_or_eq.mp hj with hj | ej
      · obtain ⟨x, y, e1, e2, e3⟩ := pr j hj
        exact ⟨x, y, e1, e2, up _ _ (far lS j) (kz _ _ (far lz j) (far l1 j) (far l2 j) e3)⟩
      · rw [ej]
        exact ⟨_, _, ex, ey, up _ _ (far lS i) pr'⟩
/-- the whole loop, from the first draw -/
theorem loopZ0 (hh : A.handled = none) (P : ZAp z TI TO i1 i2 a b S m) (nTO : TO ≠ S) (le : xs.size = ys.size) (pos : 0 < xs.size) (hn : xs.size ≤ sizeLine) (res : Value) {h0 h : Heap} {c1 : Nat} {u v : Value}
    (hz : IsZip h z TI TO .none) (hTI : IsPair h TI (.ref i1) (.ref i2)) (hTO : IsPair h TO u v) (j1 : h.IsTupleIter i1 a 0) (j2 : h.IsTupleIter i2 b 0) (t1 : h.IsTuple a xs) (t2 : h.IsTuple b ys) (sz : h.objs.size = m) (aTO : a ≠ TO ∧ b ≠ TO)
    (kp : ∀ c o, c < m → c ≠ S → c ≠ z → c ≠ i1 → c ≠ i2 → c ≠ TO → h0.get? c = some o → h.get? c = some o) (hS : h.get? S = some { cls := .type "list", data := .seq #[] c1 })
    (q : ∀ h' acc c, (∀ c o, c < m → c ≠ S → c ≠ z → c ≠ i1 → c ≠ i2 → c ≠ TO → h0.get? c = some o → h'.get? c = some o) → h'.get? S = some { cls := .type "list", dict := none, data := .seq acc c, slots := #[] } →
      acc.toList = (List.range xs.size).map (fun j => Value.ref (m + j)) → PrsAt h' m xs ys xs.size → R (.ok (.ret res)) { s with heap := h' }) :
    codeAny (model prog w) A (.builtin "list.extend.loop" ⟨[.ref S, .ref z, res], []⟩) R { s with heap := h } := by
  obtain ⟨lz, l1, l2, lS⟩ := P.lt
  have far : ∀ {c : Addr} (l : c < m) (j : Nat), m + j ≠ c := fun {c} l j e => Nat.not_lt.mpr (Nat.le_add_right m j) (by rw [e]; exact l)
  have ex : xs[0]? = some xs[0] := Array.getElem?_eq_getElem pos
  have ey : ys[0]? = some (ys[0]'(by omega)) := Array.getElem?_eq_getElem (by omega)
  refine codeAny_builtin PySem.F.entry_extend_loop ?_
  rw [Around.under_plainId PySem.F.plain_extend_loop _]
  refine (show wpAny _ A.in1 (pyNext (.ref z) >>= _) _ _ _ from wpAny_bind (RZ.pyNext_zipT_item (s := { s with heap := h }) P.D hz hTI hTO j1 j2 t1 t2 ex ey fun h' hz' hTO' j1' j2' pr' sz' kz => ?_))
  dsimp only at hz' pr' sz' kz
  have hS' := kz S _ (Ne.symm P.nS.1) (Ne.symm nTO) (Ne.symm P.nS.2.2.1) (Ne.symm P.nS.2.2.2.1) hS
  rw [sz] at hz' pr' sz'
  have up : ∀ b o, b ≠ S → h'.get? b = some o → (h'.update S (Obj.mapSeq (·.push (Value.ref h.objs.size)))).get? b = some o := fun b o hb e => (Heap.get?_update_other _ _ (Ne.symm hb)).trans e
  refine (show wpAny _ A.in1 (updateSeq S (·.push (Value.ref h.objs.size)) >>= _) _ _ _ from wpAny_bind ?_)
  have Z : ZHd h' z TI TO i1 i2 a b xs ys 1 m := ⟨⟨false, hz'⟩, ⟨_, pr'⟩, kz _ _ P.D.TIz P.D.TITO P.D.TIi1 P.D.TIi2 hTI, j1', j2', isTup_at t1 fun o e => kz _ _ P.na.1 aTO.1 P.na.2.1 P.na.2.2 e, isTup_at t2 fun o e => kz _ _ P.nb.1 aTO.2 P.nb.2.1 P.nb.2.2 e⟩
  refine wpAny_updateSeq hS' rfl (wpAny_pure ⟨plainId_quiet PySem.F.plain_extend_loop _, loopZ (xs := xs) (ys := ys) (h0 := h') hh P le hn res (fun h2 acc c k2 => q h2 acc c fun c o c0 c1 c2 c3 c4 c5 e => k2 c o c0 c1 c2 c3 c4 (kz c o c2 c5 c3 c4 (kp c o c0 c1 c2 c3 c4 c5 e))) (xs.size - 1) 1 _ _ (#[].push (Value.ref h.objs.size)) rfl Nat.one_pos pos (Z.frame P (far lS 0) up) ?_ (fun c o c0 c1 _ _ _ e => up c o c1 e) (Heap.get?_update_self _ hS' rfl) ?_ fun j hj => ?_⟩) (by show 0 ≤ sizeLine; omega) (by show 1 ≤ sizeLine + 1; omega)
  · rw [Heap.size_update, sz']
  · rw [sz]
    rfl
  · obtain rfl : j = 0 := by omega
    exact ⟨_, _, ex, ey, up _ _ (far lS 0) pr'⟩
end
section
variable {prog : Program} {w : World} {A : Around} {E : Value → Shared → Prop} {s : Shared} {xs ys : Array Value} {a b : Addr}
/-- list(z), z just made -/
theorem call_list_zipT {z TI TO i1 i2 : Addr} {u v : Value} {Q : Value → Shared → Prop} (hh : A.handled = none) (D : ZipApart z TI TO i1 i2 a b) (na : a ≠ z ∧ a ≠ i1 ∧ a ≠ i2) (nb : b ≠ z ∧ b ≠ i1 ∧ b ≠ i2) (aTO : a ≠ TO ∧ b ≠ TO)
    (hz : IsZip s.heap z TI TO .none) (hTI : IsPair s.heap TI (.ref i1) (.ref i2)) (hTO : IsPair s.heap TO u v) (j1 : s.heap.IsTupleIter i1 a 0) (j2 : s.heap.IsTupleIter i2 b 0) (t1 : s.heap.IsTuple a xs) (t2 : s.heap.IsTuple b ys)
    (le : xs.size = ys.size) (pos : 0 < xs.size) (hn : xs.size ≤ sizeLine)
    (q : ∀ h' acc c, (∀ c o, c ≠ z → c ≠ i1 → c ≠ i2 → c ≠ TO → s.heap.get? c = some o → h'.get? c = some o) → h'.get? s.heap.objs.size = some { cls := .type "list", dict := none, data := .seq acc c, slots := #[] } →
      acc.toList = (List.range xs.size).map (fun j => Value.ref (s.heap.objs.size + 1 + j)) → PrsAt h' (s.heap.objs.size + 1) xs ys xs.size → Q (.ref s.heap.objs.size) { s with heap := h' }) :
    wpAny (model prog w) A (call (.type "list") [.ref z]) Q E s := by
  refine callType_codes (Q₁ := fun obj s₁ => obj = .ref s.heap.objs.size ∧ s₁ = { s with heap := s.heap.push { cls := .type "list", data := .seq #[] } }) F.called_list (F.typeCall_list_1 _) F.entry_list_init (code_list_new _ ⟨rfl, rfl⟩) fun obj s₁ h₁ => ?_
  obtain ⟨rfl, rfl⟩ := h₁
  have lt : ∀ {c o}, s.heap.get? c = some o → c < s.heap.objs.size := fun e => Heap.lt_size e
  have ltz := lt hz
  have ltTI := lt hTI
  have ltTO := lt hTO
  have lt1 : i1 < s.heap.objs.size := by obtain ⟨_, e, _⟩ := j1; exact lt e
  have lt2 : i2 < s.heap.objs.size := by obtain ⟨_, e, _⟩ := j2; exact lt e
  have lta : a < s.heap.objs.size := by obtain ⟨_, e, _⟩ := t1; exact lt e
  have ltb : b < s.heap.objs.size := by obtain ⟨_, e, _⟩ := t2; exact lt e
  have hS : (s.heap.push { cls := .type "list", data := .seq #[] }).get? s.heap.objs.size = some { cls := .type "list", data := .seq #[] } := Heap.get?_push_size _ rfl
  have pu : ∀ c o, s.heap.get? c = some o → (s.heap.push { cls := .type "list", data := .seq #[] }).get? c = some o := fun c o e => Heap.get?_push_of_some _ e
  have psz : (s.heap.push { cls := .type "list", data := .seq #[] }).objs.size = s.heap.objs.size + 1 := Heap.size_push ..
  have ne : ∀ {c : Addr}, c < s.heap.objs.size → c ≠ s.heap.objs.size := fun l => Nat.ne_of_lt l
  have up1 : ∀ {c : Addr}, c < s.heap.objs.size → c < s.heap.objs.size + 1 := fun l => Nat.lt_succ_of_lt l
  have P : ZAp z TI TO i1 i2 a b s.heap.objs.size (s.heap.objs.size + 1) := ⟨D, na, nb, ⟨ne ltz, ne ltTI, ne lt1, ne lt2, ne lta, ne ltb⟩, ⟨up1 ltz, up1 lt1, up1 lt2, Nat.lt_succ_self _⟩⟩
  have key : ∀ (h : Heap) (c1 : Nat), (∀ c o, c ≠ s.heap.objs.size → (s.heap.push { cls := .type "list", data := .seq #[] }).get? c = some o → h.get? c = some o) → h.objs.size = s.heap.objs.size + 1 → h.get? s.heap.objs.size = some { cls := .type "list", data := .seq #[] c1 } →
      codeAny (model prog w) A.in1 (.builtin "list.extend.loop" ⟨[.ref s.heap.objs.size, .ref z, .none], []⟩) (fun r s' => r = .ok (.ret .none) ∧ Q (.ref s.heap.objs.size) s') { s with heap := h } := fun h c1 k hsz hS1 =>
    loopZ0 (A := A.in1) (h0 := s.heap) hh P (ne ltTO) le pos hn .none (k _ _ (ne ltz) (pu _ _ hz)) (k _ _ (ne ltTI) (pu _ _ hTI)) (k _ _ (ne ltTO) (pu _ _ hTO)) (j1.at fun o e => k _ _ (ne lt1) (pu _ _ e)) (j2.at fun o e => k _ _ (ne lt2) (pu _ _ e))
      (isTup_at t1 fun o e => k _ _ (ne lta) (pu _ _ e)) (isTup_at t2 fun o e => k _ _ (ne ltb) (pu _ _ e)) hsz aTO (fun c o _ c1 _ _ _ _ e => k _ _ c1 (pu _ _ e)) hS1
      fun h' acc c kp hS' ha pr => ⟨rfl, q h' acc c (fun c o c2 c3 c4 c5 e => kp c o (up1 (lt e)) (ne (lt e)) c2 c3 c4 c5 e) hS' ha pr⟩
  refine ⟨⟨_, hS, rfl⟩, F.args_list_init_2 _ _, ?_⟩
  refine (show wpAny _ _ (do let old ← Builtin.List.listItems (.ref s.heap.objs.size); Builtin.List.listUpdate (.ref s.heap.objs.size) (fun _ => #[]); letGo old.toList.reverse; Builtin.List.listExtendWith (.ref s.heap.objs.size) (.ref z) .none) _ _ _ from wpAny_bind ?_)
  unfold Builtin.List.listItems
  refine wpAny_bind (wpAny_seqItems hS rfl (wpAny_pure ?_))
  refine (show wpAny _ _ (updateSeq s.heap.objs.size (fun _ => #[]) >>= fun _ => letGo (#[] : Array Value).toList.reverse >>= fun _ => Builtin.List.listExtendWith (.ref s.heap.objs.size) (.ref z) .none) _ _ _ from wpAny_bind (wpAny_updateSeq hS rfl ?_))
  have hS2 := Heap.get?_update_self (Obj.mapSeq (fun _ => (#[] : Array Value))) hS rfl
  have oth : ∀ c o, c ≠ s.heap.objs.size → (s.heap.push { cls := .type "list", data := .seq #[] }).get? c = some o → ((s.heap.push { cls := .type "list", data := .seq #[] }).update s.heap.objs.size (Obj.mapSeq (fun _ => (#[] : Array Value)))).get? c = some o := fun c o hb e => (Heap.get?_update_other _ _ (Ne.symm hb)).trans e
  refine wpAny_bind (wpAny_letGo ?_)
  generalize hg : (s.heap.push { cls := .type "list", data := .seq #[] }).update s.heap.objs.size (Obj.mapSeq (fun _ => (#[] : Array Value))) = g at hS2 oth
  have gsz : g.objs.size = s.heap.objs.size + 1 := by rw [← hg, Heap.size_update, psz]
  have gz : IsZip g z TI TO .none := oth _ _ (ne ltz) (pu _ _ hz)
  have ty : ({ s with heap := g } : Shared).TypeIs (.ref z) "zip" := ⟨_, gz, rfl⟩
  unfold Builtin.List.listExtendWith
  refine wpAny_bind (wpAny_typeOf ty ?_)
  have h1 : Builtin.List.listSameRef (.ref s.heap.objs.size) (.ref z) = false := by simp [Builtin.List.listSameRef, Ne.symm (ne ltz)]
  have h2 : (Value.type "zip" == Value.type "list") = false := by decide
  have h3 : (Value.type "zip" == Value.type "tuple") = false := by decide
  simp only [h1, h2, h3, Bool.or_false, Bool.false_eq_true, if_false]
  refine wpAny_bind (wpAny_pyIter_zip gz (wpAny_bind (wpAny_holding ?_)))
  unfold Builtin.List.listLengthHint
  refine wpAny_bind (wpAny_specialOf ty zip_len0 ?_)
  refine (show wpAny _ _ (specialOf (Value.ref z) (Str.ofString "__length_hint__") >>= _) _ _ _ from wpAny_bind (wpAny_specialOf ty zip_hint0 (wpAny_pure ?_)))
  refine wpAny_ite_true rfl (wpAny_bind (wpAny_rule ?_))
  refine wpAny_bind (show wpAny _ _ (updateSeq s.heap.objs.size (·.push .none) >>= fun _ => updateSeq s.heap.objs.size (·.pop)) _ _ _ from wpAny_bind (wpAny_updateSeq hS2 rfl ?_))
  have hS3 := Heap.get?_update_self (Obj.mapSeq (·.push Value.none)) hS2 rfl
  refine wpAny_updateSeq (hz := by seq_fits) hS3 rfl ?_
  have hS4 := Heap.get?_update_self (Obj.mapSeq (·.pop)) hS3 rfl
  refine wpAny_pure ⟨plainId_quiet F.plain_extend_loop _, codeAny_mono (key _ _ (fun c o hc e => (Heap.get?_update_other _ _ (Ne.symm hc)).trans ((Heap.get?_update_other _ _ (Ne.symm hc)).trans (oth c o hc e))) (by rw [Heap.size_update, Heap.size_update, gsz]) hS4) fun r s' hr => ?_⟩
  obtain ⟨rfl, hq⟩ := hr
  exact ⟨rfl, hq⟩
end
/-- many new objects laid and tracked at once -/
theorem inv_many {X : Cx} {pins : List (Addr × Obj)} {σ : L2.St} {H H2 : Hp} {s : Shared} {h2 : Heap} {t' : Nat} (I : L2.Inv X pins σ H s) (kp : ∀ b o, s.heap.get? b = some o → h2.get? b = some o)
    (old : ∀ b, b < s.heap.objs.size → H2 b = H b) (new : ∀ b u, s.heap.objs.size ≤ b → H2 b = some u → ObjOk X.prog X.w H2 h2 b u) : L2.Inv X pins σ H2 { s with heap := h2, toks := t' } := by
  have up : ∀ {b : Addr} {u : HO}, H b = some u → H2 b = some u := fun {b u} e => by
    by_cases l : b < s.heap.objs.size
    · rw [old b l]
      exact e
    · rw [I.hok.fresh (Nat.not_lt.mp l)] at e
      cases e
  refine I.un (t' := t') ⟨fun b o e _ _ _ => kp b o e, fun b o e _ _ _ => ⟨o.slots, kp b o e⟩, fun b o e n _ => by rw [old b (Heap.lt_size e)]; exact n, fun b o e _ => ⟨o, kp b o e⟩, fun b xs e => up e, fun b o u e => up e, fun b ps e => ⟨#[], by rw [up e]; simp⟩⟩ fun b u e => ?_
  by_cases l : b < s.heap.objs.size
  · rw [old b l] at e
    exact (I.hok b u e).stay (fun c v _ z => kp c v z) (fun c hc => up hc) (fun c xs hc => up hc)
  · exact new b u (Nat.not_lt.mp l) e
/-- list(zip(t, u)) -/
def tLz (K : PySem.W.Frag) (ta : TA) : TE := fun σ H Q => ta σ H fun vs H1 => ∃ (a b : Addr) (xs ys : List V), vs = [.ref a, .ref b] ∧ SqT K H1 a xs ∧ SqT K H1 b ys ∧ xs.length = ys.length ∧ 0 < xs.length ∧
  ∀ (p m : Addr) (H2 : Hp), H1 p = none → (∀ j, H1 (m + j) = none) → Same H1 H2 → H2 p = some (.lst ((List.range xs.length).map fun j => V.ref (m + j))) → (∀ (j : Nat) (x y : V), xs[j]? = some x → ys[j]? = some y → H2 (m + j) = some (.tup [x, y])) → Q (.ref p) H2
theorem pe_listZip {X : Cx} {e1 e2 : Expr} {ta : TA} {p p2 pos pos2 : Pos} (hc : X.calm = true) (hgl : Gl X "list") (hml : X.mg "list" = none) (hgz : Gl X "zip") (hmz : X.mg "zip" = none) (ha : PA X [e1, e2] ta)
    (hs : starEach [e1, e2] X.env = (false, eval e1 X.env) :: starEach [e2] X.env := by rfl) (hpl : (backTo pos2 (starEach [e2] X.env)).any (·.1) = false := by rfl)
    (hs1 : starEach [Expr.Call (.Name "zip" p2) [e1, e2] [] pos2] X.env = (false, eval (.Call (.Name "zip" p2) [e1, e2] [] pos2) X.env) :: starEach [] X.env := by rfl) (hpl1 : (backTo pos (starEach [] X.env)).any (·.1) = false := by rfl) :
    PE X (.Call (.Name "list" p) [.Call (.Name "zip" p2) [e1, e2] [] pos2] [] pos) (tLz X.K ta) := by
  refine ⟨fun pins s σ H Q I h => ?_⟩
  refine Call_ (ld_blt I hgl hml PyProof.Rows.boot_list (PyProof.Rows.callWith_type1 ?_ hs1 hpl1))
  rw [hs1]
  refine Calls.spliced_cons ?_
  refine Call_ (ld_blt I hgz hmz PyProof.Rows.boot_zip (PyProof.Rows.callWith_type1 (thn (ha.run pos2 pins s σ H _ I h) fun us s1 ⟨vs, H1, I1, r1, q1⟩ => ?_) hs hpl))
  obtain ⟨a, b, xs, ys, rfl, hx, hy, hl, hp, q⟩ := q1
  obtain ⟨u1, u2, rfl, e1, e2⟩ := vals2 r1
  cases e1
  cases e2
  obtain ⟨its, rv, t1, z1⟩ := I1.tuple hx
  obtain ⟨its2, rv2, t2, z2⟩ := I1.tuple hy
  have la : a < s1.heap.objs.size := by obtain ⟨_, e, _⟩ := t1; exact Heap.lt_size e
  have lb : b < s1.heap.objs.size := by obtain ⟨_, e, _⟩ := t2; exact Heap.lt_size e
  refine RZ.call_zipT (show s1.heap.IsTuple a its.toArray from t1) (show s1.heap.IsTuple b its2.toArray from t2) fun h' hz hTI hTO j1 j2 hsz hk => ?_
  refine Calls.spliced_nil ?_
  have hlen : its.toArray.size = xs.length := by rw [List.size_toArray]; exact rv.length.symm
  have hlen2 : its2.toArray.size = ys.length := by rw [List.size_toArray]; exact rv2.length.symm
  have nz : ∀ {c : Addr} (k : Nat), c < s1.heap.objs.size → c ≠ s1.heap.objs.size + k := fun k l => Nat.ne_of_lt (Nat.lt_of_lt_of_le l (Nat.le_add_right _ k))
  refine call_list_zipT (s := { s1 with heap := h' }) (I1.ok.hd hc) (PySem.W.ktu_apart s1.heap.objs.size a b la lb) ⟨nz 4 la, nz 0 la, nz 1 la⟩ ⟨nz 4 lb, nz 0 lb, nz 1 lb⟩ ⟨nz 3 la, nz 3 lb⟩ hz hTI hTO j1 j2
    (isTup_at (show s1.heap.IsTuple a its.toArray from t1) fun o e => hk _ _ e) (isTup_at (show s1.heap.IsTuple b its2.toArray from t2) fun o e => hk _ _ e) (by rw [hlen, hlen2, hl]) (by rw [hlen]; exact hp) (by rw [hlen]; exact z1) fun h2 acc c kp hS hacc pr => ?_
  dsimp only at hS hacc pr ⊢
  rw [hsz] at hS hacc pr ⊢
  rw [hlen] at hacc pr
  have keep : ∀ b o, s1.heap.get? b = some o → h2.get? b = some o := fun b o e => kp b o (nz 4 (Heap.lt_size e)) (nz 0 (Heap.lt_size e)) (nz 1 (Heap.lt_size e)) (nz 3 (Heap.lt_size e)) (hk b o e)
  have geV : ∀ j, j < xs.length → ∃ x y, xs[j]? = some x ∧ ys[j]? = some y := fun j l => ⟨xs[j], ys[j]'(by omega), List.getElem?_eq_getElem l, List.getElem?_eq_getElem (by omega)⟩
  let H2 : Hp := fun b => if b < s1.heap.objs.size then H1 b else if b = s1.heap.objs.size + 5 then some (.lst ((List.range xs.length).map fun j => V.ref (s1.heap.objs.size + 5 + 1 + j)))
    else if s1.heap.objs.size + 5 + 1 ≤ b ∧ b - (s1.heap.objs.size + 5 + 1) < xs.length then some (.tup [xs.getD (b - (s1.heap.objs.size + 5 + 1)) .non, ys.getD (b - (s1.heap.objs.size + 5 + 1)) .non]) else none
  have eP : H2 (s1.heap.objs.size + 5) = some (.lst ((List.range xs.length).map fun j => V.ref (s1.heap.objs.size + 5 + 1 + j))) := by
    show (if _ then _ else _) = _
    rw [if_neg (show ¬ (s1.heap.objs.size + 5 < s1.heap.objs.size) by omega), if_pos rfl]
  have eT : ∀ (j : Nat) (x y : V), xs[j]? = some x → ys[j]? = some y → H2 (s1.heap.objs.size + 5 + 1 + j) = some (.tup [x, y]) := fun j x y ex ey => by
    have l := (List.getElem?_eq_some_iff.mp ex).1
    show (if _ then _ else _) = _
    rw [if_neg (show ¬ (s1.heap.objs.size + 5 + 1 + j < s1.heap.objs.size) by omega), if_neg (show ¬ (s1.heap.objs.size + 5 + 1 + j = s1.heap.objs.size + 5) by omega), if_pos (show s1.heap.objs.size + 5 + 1 ≤ s1.heap.objs.size + 5 + 1 + j ∧ s1.heap.objs.size + 5 + 1 + j - (s1.heap.objs.size + 5 + 1) < xs.length by omega)]
    have e : s1.heap.objs.size + 5 + 1 + j - (s1.heap.objs.size + 5 + 1) = j := by omega
    rw [e, List.getD_eq_getElem?_getD, List.getD_eq_getElem?_getD, ex, ey]
    rfl
  have I2 : L2.Inv X pins σ H2 { s1 with heap := h2, toks := s1.toks } := by
    refine inv_many I1 keep (fun b l => if_pos l) fun b u l e => ?_
    have e' : (if b = s1.heap.objs.size + 5 then some (HO.lst ((List.range xs.length).map fun j => V.ref (s1.heap.objs.size + 5 + 1 + j)))
      else if s1.heap.objs.size + 5 + 1 ≤ b ∧ b - (s1.heap.objs.size + 5 + 1) < xs.length then some (.tup [xs.getD (b - (s1.heap.objs.size + 5 + 1)) .non, ys.getD (b - (s1.heap.objs.size + 5 + 1)) .non]) else none) = some u := by
      rw [← e]
      exact (if_neg (Nat.not_lt.mpr l)).symm
    split at e'
    · rename_i eb
      cases e'
      rw [eb]
      refine ⟨by rw [List.length_map, List.length_range]; exact z1, acc.toList, c, ?_, by rw [Array.toArray_toList]; exact hS⟩
      rw [hacc]
      have vs : ∀ l : List Nat, Vals (l.map fun j => V.ref (s1.heap.objs.size + 5 + 1 + j)) (l.map fun j => Value.ref (s1.heap.objs.size + 5 + 1 + j)) := fun l => by
        induction l with
        | nil => exact .nil
        | cons x r ih => exact .cons rfl ih
      exact vs _
    · split at e'
      · rename_i hb
        cases e'
        obtain ⟨j, rfl⟩ : ∃ j, b = s1.heap.objs.size + 5 + 1 + j := ⟨b - (s1.heap.objs.size + 5 + 1), by omega⟩
        have ej : s1.heap.objs.size + 5 + 1 + j - (s1.heap.objs.size + 5 + 1) = j := by omega
        rw [ej] at hb ⊢
        obtain ⟨x, y, ex, ey⟩ := geV j hb.2
        obtain ⟨u, v, g1, g2, g3⟩ := pr j hb.2
        obtain ⟨u', hu, ru⟩ := rv.get ex
        obtain ⟨v', hv, rw'⟩ := rv2.get ey
        have : u' = u := by
          have g1 : its[j]? = some u := by simpa using g1
          rw [hu] at g1
          exact Option.some.inj g1
        subst this
        have : v' = v := by
          have g2 : its2[j]? = some v := by simpa using g2
          rw [hv] at g2
          exact Option.some.inj g2
        subst this
        rw [List.getD_eq_getElem?_getD, List.getD_eq_getElem?_getD, ex, ey]
        exact ⟨by show 2 ≤ sizeLine; decide, [u', v'], .cons ru (.cons rw' .nil), ⟨_, g3, rfl, _, rfl⟩⟩
      · cases e'
  refine ⟨.ref (s1.heap.objs.size + 5), H2, I2, rfl, q _ (s1.heap.objs.size + 5 + 1) H2 (I1.hok.fresh (Nat.le_add_right _ _)) (fun j => I1.hok.fresh (by omega)) (fun b o e => ?_) eP eT⟩
  by_cases l : b < s1.heap.objs.size
  · exact (if_pos l).trans e
  · rw [I1.hok.fresh (Nat.not_lt.mp l)] at e
    cases e
end Vf
namespace Vf
open PySem PySem.Spec PyProof.Rows L2
/-! ### sorted, by texts -/
def ltS (a b : Str) : Bool := decide (a.cps.toList < b.cps.toList)
theorem swo_ltS (k : Value → Str) : SrtO.Swo fun v u => ltS (k v) (k u) := by
  refine ⟨fun x y h => ?_, fun x y z h1 h2 => ?_⟩
  · exact decide_eq_false (List.lt_asymm (of_decide_eq_true h))
  · have a := List.not_lt.mp (of_decide_eq_false h1)
    have b := List.not_lt.mp (of_decide_eq_false h2)
    exact decide_eq_false (List.not_lt.mpr (List.le_trans a b))
theorem vals_perm {us out : List Value} (p : us.Perm out) : ∀ {xs : List V}, Vals xs us → ∃ ys, ys.Perm xs ∧ Vals ys out := by
  induction p with
  | nil => exact fun h => ⟨_, List.Perm.refl _, h⟩
  | cons x _ ih =>
    intro xs h
    cases h with
    | cons a b =>
      obtain ⟨ys, q, v⟩ := ih b
      exact ⟨_ :: ys, q.cons _, .cons a v⟩
  | swap x y l =>
    intro xs h
    cases h with
    | cons a b =>
      cases b with
      | cons c d => exact ⟨_, List.Perm.swap _ _ _, .cons c (.cons a d)⟩
  | trans _ _ ih1 ih2 =>
    intro xs h
    obtain ⟨ys, q, v⟩ := ih1 h
    obtain ⟨zs, q2, v2⟩ := ih2 v
    exact ⟨zs, q2.trans q, v2⟩
/-- sorted of a list or a tuple, once its items compare -/
theorem sortedV {X : Cx} {pins : List (Addr × Obj)} {s : Shared} {σ : L2.St} {H : Hp} {Q : VK} {a : Addr} {xs : List V} {ltv : Value → Value → Bool} (I : L2.Inv X pins σ H s) (hq : SqL X.K H a xs ∨ SqT X.K H a xs) (O : SrtO.Swo ltv)
    (hS : ∀ (us : List Value) (h' : Heap) (b : Addr), Vals xs us → (∀ c o, s.heap.get? c = some o → c ≠ b ∧ h'.get? c = some o) → (∀ o, h'.get? b = some o → o.cls = .type "list") → 2 ≤ us.length → SrtO.SortableO X.prog X.w X.A.in1.in1 { s with heap := h' } b us ltv)
    (k : ∀ (us out : List Value) (ys : List V) (p : Addr), Vals xs us → Vals ys out → ys.Perm xs → SrtO.Srtd ltv out → out.Perm us → H p = none → Q (.ref p) (upd H p (.lst ys))) :
    wpAny (model X.prog X.w) X.A (call (.builtin "sorted") [.ref a]) (EP X pins σ Q) X.xe s := by
  obtain ⟨us, rv, T, o, n, hT, ho, hc, hd, hz⟩ : ∃ (us : List Value) (_ : Vals xs us) (T : String) (o : Obj) (n : Nat), (T = "list" ∨ T = "tuple") ∧ s.heap.get? a = some o ∧ o.cls = .type T ∧ o.data = .seq us.toArray n ∧ us.length ≤ sizeLine := by
    rcases hq with h | h
    · obtain ⟨us, rv, hl, hz⟩ := I.list h
      obtain ⟨o, n, e1, e2, _, e3⟩ := hl
      exact ⟨us, rv, "list", o, n, .inl rfl, e1, e2, e3, by rw [← rv.length]; exact hz⟩
    · obtain ⟨us, rv, hl, hz⟩ := I.tuple h
      obtain ⟨o, e1, e2, n, e3⟩ := hl
      exact ⟨us, rv, "tuple", o, n, .inr rfl, e1, e2, e3, by rw [← rv.length]; exact hz⟩
  refine PySem.Calls.call_function_entry kind_sorted plain_sorted entry_sorted (args_sorted1 _) ?_
  refine (show wpAny _ _ (Builtin.sorted { pos := [Value.ref a] }) _ _ _ from ?_)
  unfold Builtin.sorted
  refine wpAny_bind (wpAny_pure ?_)
  refine wpAny_bind (wpAny_collect_seq a hT ho hc hd (fun h' hh => ?_) (by rw [List.size_toArray]; exact hz))
  rw [List.toList_toArray]
  refine wpAny_bind (wpAny_newList ?_ hz)
  have hp := Heap.get?_push_size h' (o := { cls := .type "list", data := .seq us.toArray }) rfl
  have old : ∀ (b : Addr) (u : Obj), s.heap.get? b = some u → b ≠ h'.objs.size ∧ (h'.push { cls := .type "list", data := .seq us.toArray }).get? b = some u := fun b u hb => ⟨Nat.ne_of_lt (Heap.lt_size (hh b u hb)), Heap.get?_push_of_some _ (hh b u hb)⟩
  refine wpAny_bind (wpAny_holding (wpAny_call_entry slot_list_sort ⟨_, hp, rfl⟩ entry_list_sort ?_ (args_list_sort _)))
  refine SrtO.list_sort_ord O (vs := us) (n := 0) hp hz (fun h2 => hS us _ _ rv old (fun o e => by rw [hp] at e; cases e; rfl) h2) fun out h1 h2 => ?_
  obtain ⟨ys, yp, vy⟩ := vals_perm h2.perm.symm rv
  obtain ⟨e, he⟩ := sortedHeap_at (out := out.toArray) hp
  refine ⟨_, rfl, wpAny_pure ⟨_, rfl, ?_⟩⟩
  have I2 := I.kept (t' := s.toks) hh
  refine ⟨.ref h'.objs.size, _, I2.laid (a := h'.objs.size) (o := .lst ys) (fun b u hb => ?_) (Nat.le_refl _) ?_, rfl, k us out ys _ rv vy yp h1 h2.perm (I2.hok.fresh (Nat.le_refl _))⟩
  · have x1 := Heap.lt_size hb
    rw [sortedHeap_old (Nat.ne_of_lt x1) (Nat.lt_of_lt_of_eq (Nat.lt_succ_of_lt x1) (size_push' _ _).symm)]
    exact Heap.get?_push_of_some _ hb
  · refine ⟨?_, out, e, vy, he⟩
    rw [yp.length_eq, rv.length]
    exact hz
/-- the text of a value -/
def strV : Value → Str
  | .str x _ => x
  | _ => ""
theorem vals_strs : ∀ {zs : List Str} {us : List Value}, Vals (zs.map V.str) us → StrsAre us zs ∧ us.map strV = zs
  | [], _, h => by
    cases h
    exact ⟨.nil, rfl⟩
  | z :: r, _, h => by
    cases h with
    | cons a b =>
      obtain ⟨t, rfl⟩ := a
      obtain ⟨h1, h2⟩ := vals_strs b
      exact ⟨.cons z t h1, congrArg (z :: ·) h2⟩
/-- sorted of texts -/
theorem call_sortedS {X : Cx} : CallR X (.builtin "sorted") fun vs H Q => ∃ (a : Addr) (zs : List Str), vs = [.ref a] ∧ (SqL X.K H a (zs.map V.str) ∨ SqT X.K H a (zs.map V.str)) ∧
    ∀ (ys : List Str) (p : Addr), ys.Perm zs → ys.Pairwise (fun x y => ltS y x = false) → H p = none → Q (.ref p) (upd H p (.lst (ys.map V.str))) := by
  rintro pins s σ H vs us Q I r ⟨a, zs, rfl, hq, k⟩
  obtain ⟨u, rfl, ru⟩ := vals1 r
  cases ru
  refine sortedV I hq (swo_ltS strV) (fun us h' b rv old lb h2 => ?_) fun us out ys p rv vy yp hs hp hn => ?_
  · obtain ⟨sa, _⟩ := vals_strs rv
    have mem : ∀ {us : List Value} {zs : List Str}, StrsAre us zs → ∀ v ∈ us, ∃ x t, v = Value.str x t := by
      intro us zs h
      induction h with
      | nil => exact fun v hv => absurd hv (by simp)
      | cons y t _ ih =>
        intro v hv
        rcases List.mem_cons.mp hv with rfl | hv
        · exact ⟨y, t, rfl⟩
        · exact ih v hv
    refine fun h3 _ => ⟨oneType', fun Q E hq => ?_, fun p q hm hm' => ?_⟩
    · match us, sa, h2 with
      | v1 :: v2 :: rest, sa, _ =>
        rw [keyKind_strs sa]
        exact wpAny_pure hq
    · obtain ⟨x, t, e⟩ := mem sa _ hm
      obtain ⟨y, t', e'⟩ := mem sa _ hm'
      refine (show wpAny _ _ (keyLt' oneType' p.1 q.1) (fun r s' => s' = _ ∧ r = ltS (strV p.1) (strV q.1)) (fun _ _ => False) _ from ?_)
      rw [e, e', keyLt'_oneType]
      exact oneLt_str ⟨rfl, rfl⟩
  · obtain ⟨zs', rfl⟩ : ∃ zs' : List Str, ys = zs'.map V.str := by
      have all : ∀ y ∈ ys, ∃ z, y = V.str z := fun y hy => by
        obtain ⟨z, _, e⟩ := List.mem_map.mp (yp.mem_iff.mp hy)
        exact ⟨z, e.symm⟩
      clear yp vy
      induction ys with
      | nil => exact ⟨[], rfl⟩
      | cons y r ih =>
        obtain ⟨z, rfl⟩ := all y List.mem_cons_self
        obtain ⟨l, rfl⟩ := ih fun y hy => all y (List.mem_cons_of_mem _ hy)
        exact ⟨z :: l, rfl⟩
    obtain ⟨_, e⟩ := vals_strs vy
    refine k zs' p ?_ ?_ hn
    · have := yp.map fun v : V => match v with | .str z => z | _ => ""
      simpa [List.map_map, Function.comp_def] using this
    · rw [← e]
      exact List.pairwise_map.mpr (hs.imp fun {x y} h => h)
end Vf
namespace Vf
open PySem PySem.Spec PyProof.Rows L2
/-- a tuple of a text and something -/
def IsTS (h : Heap) (t : Addr) (x : Str) : Prop := ∃ o tk y n, h.get? t = some o ∧ o.cls = .type "tuple" ∧ o.data = .seq #[.str x tk, y] n
theorem IsTS.at {h h' : Heap} {t : Addr} {x : Str} (p : IsTS h t x) (k : ∀ o, h.get? t = some o → h'.get? t = some o) : IsTS h' t x := by
  obtain ⟨o, tk, y, n, e, r⟩ := p
  exact ⟨o, tk, y, n, k o e, r⟩
theorem firstsS {h : Heap} {kf : Addr → Str} : ∀ {ts : List Addr}, (∀ t ∈ ts, IsTS h t (kf t)) → ∃ fs : List Value, PySem.W.KatTups h (ts.map Value.ref) fs ∧ fs.length = ts.length ∧ ∀ f ∈ fs, ∃ x t, f = Value.str x t
  | [], _ => ⟨[], PySem.W.KatTups.nil, rfl, fun _ hm => by simp at hm⟩
  | t :: r, hp => by
    obtain ⟨fs, h1, h2, h3⟩ := firstsS (ts := r) fun v hm => hp v (List.mem_cons_of_mem _ hm)
    obtain ⟨o, tk, y, n, ho, hc, hd⟩ := hp t List.mem_cons_self
    refine ⟨.str (kf t) tk :: fs, PySem.W.KatTups.cons ho hc hd rfl h1, by rw [List.length_cons, List.length_cons, h2], fun f hm => ?_⟩
    rcases List.mem_cons.mp hm with rfl | hm
    · exact ⟨_, _, rfl⟩
    · exact h3 f hm
theorem cmp_ts {prog : Program} {w : World} {A : Around} {s : Shared} {a b : Addr} {x y : Str} (ha : IsTS s.heap a x) (hb : IsTS s.heap b y) (inj : x = y → a = b) :
    wpAny (model prog w) A (keyLt' (tuples' true) (.ref a) (.ref b)) (fun r s' => s' = s ∧ r = ltS x y) (fun _ _ => False) s := by
  obtain ⟨o, tk, u, n, ho, hc, hd⟩ := ha
  obtain ⟨o', tk', u', n', ho', hc', hd'⟩ := hb
  refine PySem.W.kat_lt ho hd ho' hd' ?_
  show PySem.W.KatLex prog w A true (decide (2 < 2)) _ [(.str x tk, .str y tk'), (u, u')] 0 s
  refine PySem.W.kat_cons (SeqAt.EqAt.str_str x tk y tk' prog w _ _ ?_)
  refine PySem.W.kat_go (fun e1 => ?_) (fun e1 => ?_)
  · have ex : x = y := by simpa using e1
    have eab := inj ex
    subst eab
    rw [ho] at ho'
    cases ho'
    rw [hd] at hd'
    cases hd'
    refine PySem.W.kat_yes (PySem.W.kat_cons (SeqAt.EqAt.same u prog w _ _ ?_))
    refine PySem.W.kat_go (fun e2 => ?_) (fun e2 => by cases e2)
    have e3 : ltS x x = false := decide_eq_false (List.lt_irrefl _)
    exact PySem.W.kat_yes (PySem.W.kat_nil ⟨rfl, e3.symm⟩)
  · exact PySem.W.kat_no (oneLt_str ⟨rfl, rfl⟩)
/-- sorted of pairs whose texts differ -/
theorem call_sortedP {X : Cx} : CallR X (.builtin "sorted") fun vs H Q => ∃ (a : Addr) (ts : List Addr) (kf : Addr → Str) (vf : Addr → V), vs = [.ref a] ∧ SqL X.K H a (ts.map V.ref) ∧ (∀ t ∈ ts, H t = some (.tup [.str (kf t), vf t])) ∧ (∀ t ∈ ts, ∀ u ∈ ts, kf t = kf u → t = u) ∧
    ∀ (ys : List Addr) (p : Addr), ys.Perm ts → ys.Pairwise (fun x y => ltS (kf y) (kf x) = false) → H p = none → Q (.ref p) (upd H p (.lst (ys.map V.ref))) := by
  rintro pins s σ H vs us Q I r ⟨a, ts, kf, vf, rfl, hq, ht, inj, k⟩
  obtain ⟨u, rfl, ru⟩ := vals1 r
  cases ru
  have refs : ∀ {l : List Addr} {us : List Value}, Vals (l.map V.ref) us → us = l.map Value.ref := by
    intro l
    induction l with
    | nil =>
      intro us h
      cases h
      rfl
    | cons x r ih =>
      intro us h
      cases h with
      | cons a b =>
        cases a
        rw [ih b] <;> rfl
  have tsS : ∀ t ∈ ts, IsTS s.heap t (kf t) := fun t hm => by
    obtain ⟨_, its, rv, o, e1, e2, n, e3⟩ := (show ObjOk X.prog X.w H s.heap t (.tup [.str (kf t), vf t]) from I.hok t _ (ht t hm))
    obtain ⟨u1, u2, rfl, r1, r2⟩ := vals2 rv
    obtain ⟨tk, rfl⟩ := r1
    exact ⟨o, tk, u2, n, e1, e2, e3⟩
  let kv : Value → Str := fun v => match v with
    | .ref t => kf t
    | _ => ""
  refine sortedV I (.inl hq) (swo_ltS kv) (fun us h' b rv old lb h2 => ?_) fun us out ys p rv vy yp hs hp hn => ?_
  · have eu := refs rv
    subst eu
    intro h3 keep
    have ts3 : ∀ t ∈ ts, IsTS h3 t (kf t) := fun t hm => (tsS t hm).at fun o e => keep t o (old t o e).1 (old t o e).2
    obtain ⟨fs, f1, f2, f3⟩ := firstsS ts3
    refine ⟨tuples' true, fun Q E hq => ?_, fun p q hm hm' => ?_⟩
    · refine PySem.W.kat_kind (T := .type "str") f1 (by rw [List.length_map] at h2; omega) (fun f hm => ?_) (by rfl) ?_
      · obtain ⟨x, t, rfl⟩ := f3 f hm
        exact PySem.W.Looks.now
      · have e : (Value.type "str" != Value.type "tuple") = true := by first | decide +kernel | rfl | decide
        rw [e]
        exact hq
    · obtain ⟨t1, m1, e1⟩ := List.mem_map.mp hm
      obtain ⟨t2, m2, e2⟩ := List.mem_map.mp hm'
      refine (show wpAny _ _ (keyLt' (tuples' true) p.1 q.1) (fun r s' => s' = _ ∧ r = ltS (kv p.1) (kv q.1)) (fun _ _ => False) _ from ?_)
      rw [← e1, ← e2]
      exact cmp_ts (s := { s with heap := h3 }) (ts3 t1 m1) (ts3 t2 m2) (inj t1 m1 t2 m2)
  · obtain ⟨zs, rfl⟩ : ∃ zs : List Addr, ys = zs.map V.ref := by
      have all : ∀ y ∈ ys, ∃ z, y = V.ref z := fun y hy => by
        obtain ⟨z, _, e⟩ := List.mem_map.mp (yp.mem_iff.mp hy)
        exact ⟨z, e.symm⟩
      clear yp vy
      induction ys with
      | nil => exact ⟨[], rfl⟩
      | cons y r ih =>
        obtain ⟨z, rfl⟩ := all y List.mem_cons_self
        obtain ⟨l, rfl⟩ := ih fun y hy => all y (List.mem_cons_of_mem _ hy)
        exact ⟨z :: l, rfl⟩
    have eo := refs vy
    subst eo
    refine k zs p ?_ ?_ hn
    · have := yp.map fun v : V => match v with | .ref z => z | _ => 0
      simpa [List.map_map, Function.comp_def] using this
    · have := List.pairwise_map.mp hs
      exact this
end Vf
namespace Vf
open PySem PySem.Spec PyProof.Rows L2
/-! ### any data, == and repr -/
theorem op_eqV {X : Cx} (hu : X.A.units + 64 < cLine) : OpR X (compareOp .Eq) fun x y H Q => ∃ d, Dx X.K H x d ∧ Dx X.K H y d ∧ d.depth ≤ 60 ∧ Q (.bl true) H := by
  rintro pins s σ H x y u v Q I rx ry ⟨d, hx, hy, dp, q⟩
  have atom : ∀ z : V, x = z → y = z → scal z z = true → wpAny (model X.prog X.w) X.A (compareOp .Eq u v) (EP X pins σ Q) X.xe s := fun z e1 e2 hz => by
    subst e1
    subst e2
    refine op_eq pins s σ H _ _ u v Q I rx ry ⟨hz, ?_⟩
    rw [decide_eq_true rfl]
    exact q
  cases hx with
  | non =>
    cases hy
    exact atom .non rfl rfl rfl
  | bl b =>
    cases hy
    exact atom (.bl b) rfl rfl rfl
  | int i =>
    cases hy
    exact atom (.int i) rfl rfl rfl
  | str z =>
    cases hy
    exact atom (.str z) rfl rfl rfl
  | lst a b =>
    obtain ⟨a', _, rfl, _⟩ := dx_lst hy rfl
    exact op_eqX hu pins s σ H _ _ u v Q I rx ry ⟨_, _, _, rfl, rfl, .lst a b, hy, dp, q⟩
  | tup a b =>
    obtain ⟨a', _, rfl, _⟩ := dx_tup hy rfl
    exact op_eqX hu pins s σ H _ _ u v Q I rx ry ⟨_, _, _, rfl, rfl, .tup a b, hy, dp, q⟩
  | dic a n b =>
    obtain ⟨a', _, rfl, _⟩ := dx_dic hy rfl
    exact op_eqX hu pins s σ H _ _ u v Q I rx ry ⟨_, _, _, rfl, rfl, .dic a n b, hy, dp, q⟩
theorem call_reprV {X : Cx} (hu : X.A.units + 65 < cLine) (gd : X.A.guards = some []) (sb : ∃ o, X.base.get? sysModules = some o ∧ o.cls = .type "dict") : CallR X (.builtin "repr") fun xs H Q => ∃ (x : V) (d : PyData), xs = [x] ∧ Dx X.K H x d ∧ OkX d ∧ Q (.str d.shown) H := by
  rintro pins s σ H xs us Q I r ⟨x, d, rfl, hx, ok, q⟩
  have rr := r
  obtain ⟨u, rfl, ru⟩ := vals1 r
  cases hx with
  | non =>
    cases ru
    exact PySem.P.repr_of_none ⟨.str _, H, I.tok _, ⟨_, rfl⟩, q⟩
  | bl b =>
    cases ru
    refine PySem.P.repr_of_bool ⟨.str _, H, I.tok _, ⟨_, rfl⟩, ?_⟩
    cases b <;> exact q
  | int i =>
    obtain ⟨t, rfl⟩ := ru
    exact PySem.P.repr_of_int (of_decide_eq_true (tmx_ok _ ok.tm)) ⟨.str _, H, I.tok _, ⟨_, rfl⟩, q⟩
  | str z =>
    obtain ⟨t, rfl⟩ := ru
    exact PySem.P.repr_of_str ⟨.str _, H, I.tok _, ⟨_, rfl⟩, q⟩ ok.show
  | lst a b => exact call_reprO hu gd sb pins s σ H _ _ Q I rr ⟨_, _, rfl, .lst a b, ok, q⟩
  | tup a b => exact call_reprO hu gd sb pins s σ H _ _ Q I rr ⟨_, _, rfl, .tup a b, ok, q⟩
  | dic a n b => exact call_reprO hu gd sb pins s σ H _ _ Q I rr ⟨_, _, rfl, .dic a n b, ok, q⟩
/-- two things alike, of any kind -/
def spAlikeV (K : PySem.W.Frag) : Sp := fun vs H Q _ => ∃ (x y : V) (d : PyData), vs = [x, y] ∧ Dx K H x d ∧ Dx K H y d ∧ OkX d ∧ ∀ H', Same H H' → Q (.bl true) H'
/-! ### zip of two tuples, walked -/
theorem walk_zipT {K : PySem.W.Frag} {a b : Addr} {xs ys : List V} {n : Nat} (hn : n = min xs.length ys.length) : Walk (RZ.ItzT K a b) n (fun H => SqT K H a xs ∧ SqT K H b ys) (YPair (fun i => xs[i]?) (fun i => ys[i]?)) := by
  refine ⟨fun i _ hi q => ?_, fun _ q => ⟨xs, ys, q.1, q.2, by omega⟩, fun i H v H' _ q y => ?_⟩
  · have h1 : i < xs.length := by omega
    have h2 : i < ys.length := by omega
    exact ⟨xs, ys, xs[i], ys[i], q.1, q.2, List.getElem?_eq_getElem h1, List.getElem?_eq_getElem h2⟩
  · obtain ⟨T, x, z, h1, h2, h3, h4, h5⟩ := y
    exact ⟨T, x, z, h1, h2, h3, h4 xs q.1, h5 ys q.2⟩
end Vf
namespace Vf
open PySem PySem.Spec PyProof.Rows L2
/-- t.index(x), texts: told with the part that is written -/
def rTix (K : PySem.W.Frag) : V → List V → Hp → VK → Prop := fun x xs H Q => ∃ (p : Addr) (ys : List Str) (z : Str) (j : Nat), x = .ref p ∧ xs = [.str z] ∧ SqT K H p (ys.map V.str) ∧ ys[j]? = some z ∧ (∀ m, m < j → ys[m]? ≠ some z) ∧ Q (.int (j : Nat)) H
theorem mt_tix {X : Cx} : MtR X "tuple.index" (rTix X.K) := mt_tup_index
end Vf

set_option linter.all false
set_option maxHeartbeats 4000000
namespace Vf
open PySem PySem.Spec PyProof.Rows L2
section
variable {prog : Program} {w : World} {K : Type} [DecidableEq K] {knd : KeyKind prog w K} {A : Around} {E : Value → Shared → Prop} {s : Shared}
theorem put_pairs {d : Addr} {kvs : List (K × Value)} {k : K} {key v : Value} {Q : Unit → Shared → Prop} (hkey : knd.is k key = true) (hm : s.heap.DictOf knd d kvs)
    (hQ : ∀ h', h'.DictOf knd d (stored kvs k v) → Heap.SameBut d s.heap h' → Q () { s with heap := h' })
    (hsz : kvs.length ≤ sizeLine := by size_fits) :
    wpAny (model prog w) A (dictPut d (knd.hash k) key v) Q E s := by
  obtain ⟨o, es, ep, ho, hc, hd, hk, hp, hn⟩ := hm
  have hes : es.size ≤ sizeLine := by have e1 := hp.length; have e2 : es.toList.length = es.size := by simp
                                      omega
  unfold dictPut
  refine wpAny_bind (wpAny_dictFind_of hkey ho hd hk ?_)
  have hidx : (es.findIdx? fun e => knd.is k e.key) = kvs.findIdx? fun kv => decide (kv.1 = k) := by
    rw [← hp.findIdx k]; obtain ⟨l⟩ := es; simp
  cases hi : es.findIdx? fun e => knd.is k e.key with
  | some i =>
    refine wpAny_updateDict ho hd (hQ _ ⟨_, _, ep, Heap.get?_update_self _ ho (Obj.isFreed_of_dict (Obj.data_mapDict hd _)),
      hc.mapDict _, Obj.data_mapDict hd _, hk.modify _ _, ?_, ?_⟩ (Heap.SameBut.update ..))
    · rw [stored, if_pos (any_of_findIdx_some (hidx ▸ hi))]
      have hl : (es.toList.findIdx? fun e => knd.is k e.key) = some i := by rw [← hi]; obtain ⟨l⟩ := es; simp
      have := hp.modify hn hl v
      obtain ⟨l⟩ := es
      simpa using this
    · rw [stored, if_pos (any_of_findIdx_some (hidx ▸ hi)), keys_map_store]; exact hn
  | none =>
    have hnot : k ∉ kvs.map (·.1) := not_mem_of_findIdx_none (hidx ▸ hi)
    have hany : ¬ (kvs.any fun kv => decide (kv.1 = k)) = true := by
      rw [List.any_eq_true]; rintro ⟨kv, hkv, he⟩
      exact hnot (List.mem_map.mpr ⟨kv, hkv, of_decide_eq_true he⟩)
    refine wpAny_updateDictKeys (hz := hes) ho hd (hQ _ ⟨_, _, ep + 1, Heap.get?_update_self _ ho (Obj.isFreed_of_dict (Obj.data_mapDictKeys hd _)),
      hc.mapDictKeys _, Obj.data_mapDictKeys hd _, hk.push hkey _, ?_, ?_⟩ (Heap.SameBut.update ..))
    · rw [stored, if_neg hany]
      have := hp.append hkey (knd.hash k) v
      obtain ⟨l⟩ := es
      simpa using this
    · rw [stored, if_neg hany, List.map_append, List.nodup_append]
      refine ⟨hn, by simp, ?_⟩
      intro a ha b hb
      simp only [List.map_cons, List.map_nil, List.mem_singleton] at hb
      subst hb
      exact fun e => hnot (e ▸ ha)
end
section
variable {prog : Program} {w : World} {A : Around} {E : Value → Shared → Prop} {s : Shared}
theorem merge_map {d o : Addr} {kvs more : List (Key × Value)} {Q : Unit → Shared → Prop} (hdo : d ≠ o) (hoS : (o == sysModules) = false)
    (hd : s.heap.DictOf (mixKind prog w) d kvs) (ho : s.heap.DictOf (mixKind prog w) o more)
    (hQ : ∀ h', h'.DictOf (mixKind prog w) d (merged kvs more) → h'.DictOf (mixKind prog w) o more → Heap.SameBut d s.heap h' → Q () { s with heap := h' })
    (hsz : kvs.length + more.length ≤ sizeLine) :
    wpAny (model prog w) A (mergeMapping d (.ref o) false) Q E s := by
  obtain ⟨od, esd, epd, hod, hcd, hdd, hkd, hpd, hnd⟩ := id hd
  obtain ⟨oo, eso, epo, hoo, hco, hdo', hko, hpo, hno⟩ := id ho
  unfold mergeMapping
  refine wpAny_bind (wpAny_isInstance ho.typeIs (U := "dict") (b := true) (by kernel_rfl) ?_)
  show wpAny _ _ (_ >>= _) _ _ _
  refine wpAny_bind (wpAny_specialOf ho.typeIs (r := some (.builtin "dict.__iter__")) (by rw [typeLookup_type, builtinLookup_eq_fast]; kernel_rfl) ?_)
  dsimp only
  refine wpAny_bind (wpAny_pure ?_)
  rw [show (some (Value.builtin "dict.__iter__") == some (Value.builtin "dict.__iter__")) = true by kernel_rfl]
  dsimp only
  rw [hoS, if_neg Bool.false_ne_true]
  refine wpAny_bind (wpAny_dictEntries hod hdd ?_)
  have hlen : more.length = eso.size := by rw [← hpo.length]; simp
  have loop : wpAny (model prog w) A (do
      let l ← dictEntries o
      let epoch ← dictEpoch o
      forIn (List.range l.size) PUnit.unit fun i (_ : PUnit) => (do
          let l' ← dictEntries o
          match l'[i]? with
            | some e => do
              holding [e.key, e.val]
                (if false = true then do
                    let f ← dictFind d e.key e.hash
                    if f.isSome = true then do
                        rule "dict.merge.duplicate-key"
                        let x ← newExc (Value.type "KeyError") [e.key]
                        raiseNew x
                        dictPut d e.hash e.key e.val
                      else dictPut d e.hash e.key e.val
                  else dictPut d e.hash e.key e.val)
              let ep' ← dictEpoch o
              if (ep' != epoch) = true then do
                  (unsupported "dict.changed-during-merge" : Sem PUnit)
                  pure (ForInStep.yield PUnit.unit)
                else pure (ForInStep.yield PUnit.unit)
            | _ => do
              (unsupported "dict.changed-during-merge" : Sem PUnit)
              pure (ForInStep.yield PUnit.unit) : Sem (ForInStep PUnit))
      pure ()) Q E s := by
    refine wpAny_bind (wpAny_dictEntries hoo hdo' ?_)
    refine wpAny_bind (wpAny_dictEpoch hoo hdo' ?_)
    refine wpAny_bind ?_
    rw [List.range_eq_range']
    refine wpAny_forIn_list _
      (fun rest _ s' => ∃ h' i, s' = { s with heap := h' } ∧ rest = List.range' i (eso.size - i) ∧ i ≤ eso.size ∧ h'.DictOf (mixKind prog w) d (merged kvs (more.take i)) ∧ h'.get? o = some oo ∧ Heap.SameBut d s.heap h')
      _ ?_ ?_ _ _ ⟨s.heap, 0, rfl, by simp, Nat.zero_le _, by simpa [merged] using hd, hoo, Heap.SameBut.refl _ _⟩
    · rintro x rest b s' ⟨h', i, rfl, hr, hi, hd', hoo', hs'⟩
      have hlt : i < eso.size := by
        rcases Nat.lt_or_ge i eso.size with h | h
        · exact h
        · rw [Nat.sub_eq_zero_of_le h] at hr; simp at hr
      obtain ⟨rfl, hrest⟩ : x = i ∧ rest = List.range' (i + 1) (eso.size - (i + 1)) := by
        have e : eso.size - i = (eso.size - (i + 1)) + 1 := by omega
        rw [e, List.range'_succ] at hr
        injection hr with h1 h2
        exact ⟨h1, h2⟩
      refine wpAny_bind (wpAny_dictEntries hoo' hdo' ?_)
      rw [Array.getElem?_eq_getElem hlt]
      obtain ⟨kv, hkv⟩ : ∃ kv, more[x]? = some kv := ⟨more[x]'(by rw [hlen]; exact hlt), List.getElem?_eq_getElem _⟩
      obtain ⟨k, v⟩ := kv
      obtain ⟨hkey, hval⟩ := hpo.get? (e := eso[x]) (by simp [hlt]) hkv
      obtain ⟨k', hkey', hhash⟩ := hko eso[x] (Array.getElem_mem hlt)
      obtain rfl : k' = k := (mixKind prog w).inj _ _ _ hkey' hkey
      dsimp only
      rw [if_neg Bool.false_ne_true]
      rw [hhash, hval]
      have hmx : (merged kvs (more.take x)).length ≤ sizeLine := by
        have e1 := merged_length_le kvs (more.take x)
        have e2 : (more.take x).length ≤ more.length := by rw [List.length_take]; omega
        omega
      refine wpAny_bind (wpAny_holding (put_pairs (hsz := hmx) hkey hd' fun h'' hd'' hs'' => ?_))
      have hoo'' : h''.get? o = some oo := (hs''.2 o (Ne.symm hdo)).trans hoo'
      refine wpAny_bind (wpAny_dictEpoch hoo'' hdo' ?_)
      rw [if_neg (by simp)]
      exact wpAny_pure ⟨h'', x + 1, rfl, hrest, hlt, by rw [merged_take_succ kvs more x (k', v) hkv]; exact hd'', hoo'', hs'.trans hs''⟩
    · rintro b s' ⟨h', i, rfl, hr, hi, hd', hoo', hs'⟩
      have hin : i = eso.size := by
        rcases Nat.lt_or_ge i eso.size with h | h
        · have e : eso.size - i = (eso.size - (i + 1)) + 1 := by omega
          rw [e, List.range'_succ] at hr; exact nomatch hr
        · exact Nat.le_antisymm hi h
      refine wpAny_pure (hQ h' ?_ ⟨oo, eso, epo, hoo', hco, hdo', hko, hpo, hno⟩ hs')
      rw [hin, ← hlen, List.take_length] at hd'; exact hd'
  split
  · refine wpAny_bind (wpAny_dictEntries hoo hdo' ?_)
    refine wpAny_bind ?_
    rw [← Array.forIn_toList]
    refine wpAny_forIn_list _ (fun rest _ s' => s' = s ∧ ∀ e ∈ rest, e ∈ eso) _ ?_ ?_ _ _ ⟨rfl, fun e he => Array.mem_toList_iff.mp he⟩
    · rintro e rest b s' ⟨rfl, hm⟩
      obtain ⟨k', hkey', hhash⟩ := hko e (hm e List.mem_cons_self)
      have hr : ∀ e2 ∈ rest, e2 ∈ eso := fun e2 h2 => hm e2 (List.mem_cons_of_mem _ h2)
      have hkey' : keyIs k' e.key = true := hkey'
      rcases keyIs_shape hkey' with ⟨i, t, e1, e2⟩ | ⟨x, t, e1, e2⟩
      · rw [e2]
        exact wpAny_pure ⟨rfl, hr⟩
      · rw [e2]
        exact wpAny_pure ⟨rfl, hr⟩
    · rintro b s' ⟨rfl, _⟩
      exact loop
  · exact loop
end
section
variable {prog : Program} {w : World} {A : Around} {E : Value → Shared → Prop} {s : Shared}
theorem disp2 {m1 m2 : Sem Value} {Q : Value → Shared → Prop}
    (h : wpAny (model prog w) A m1 (fun x s1 => wpAny (model prog w) A (mergeMapping s.heap.objs.size x false) (fun _ s2 => wpAny (model prog w) A m2 (fun y s3 => wpAny (model prog w) A (mergeMapping s.heap.objs.size y false) (fun _ s4 => Q (.ref s.heap.objs.size) s4) (fun _ _ => False) s3) E s2) (fun _ _ => False) s1) E { s with heap := s.heap.push { cls := .type "dict", data := .dict #[] } }) :
    wpAny (model prog w) A (dictDisplay [(none, m1), (none, m2)]) Q E s := by
  unfold dictDisplay
  simp only [List.forIn_cons, List.forIn_nil, List.isEmpty_nil, if_true, pure_bind, bind_assoc]
  refine wpAny_bind (wpAny_alloc ?_)
  refine wpAny_bind (wpAny_holding (wpAny_mono h (fun x s1 h1 => ?_) fun _ _ e => e))
  refine wpAny_bind (wpAny_onRaise (wpAny_tryCatch (wpAny_onRaise (wpAny_holding (wpAny_mono h1 (fun _ s2 h2 => ?_) fun _ _ e => e.elim)))))
  refine wpAny_bind (wpAny_holding (wpAny_mono h2 (fun y s3 h3 => ?_) fun _ _ e => e))
  refine wpAny_bind (wpAny_onRaise (wpAny_tryCatch (wpAny_onRaise (wpAny_holding (wpAny_mono h3 (fun _ s4 h4 => ?_) fun _ _ e => e.elim)))))
  exact wpAny_pure h4
end
/-- {**a, **b} -/
def tMrg2 (t1 t2 : TE) : TE := fun σ H Q => ∀ p, H p = none → t1 σ (upd H p (.dK [])) fun x H1 => H1 p = some (.dK []) ∧ ∃ (a : Addr) (kvs : List (Key × V)), x = .ref a ∧ a ≠ p ∧ Rd H1 a (.dK kvs) ∧ kvs.length ≤ 1000 ∧
  t2 σ (upd H1 p (.dK (mergeK [] kvs))) fun y H2 => H2 p = some (.dK (mergeK [] kvs)) ∧ ∃ (b : Addr) (kvs2 : List (Key × V)), y = .ref b ∧ b ≠ p ∧ Rd H2 b (.dK kvs2) ∧ kvs2.length ≤ 1000 ∧ Q (.ref p) (upd H2 p (.dK (mergeK (mergeK [] kvs) kvs2)))
theorem pe_mrg2 {X : Cx} {pos : Pos} {e1 e2 : Expr} {t1 t2 : TE} (h1 : PE X e1 t1) (h2 : PE X e2 t2) : PE X (.Dict [none, none] [e1, e2] pos) (tMrg2 t1 t2) := by
  refine ⟨fun pins s σ H Q I q => ?_⟩
  have hn := I.hok.fresh (Nat.le_refl s.heap.objs.size)
  have I1 := I.laid (a := s.heap.objs.size) (o := .dK []) (h' := s.heap.push { cls := .type "dict", data := .dict #[] }) (t' := s.toks) (fun _ _ q => Heap.get?_push_of_some _ q) (Nat.le_refl _) (dk_empty s.heap I.big)
  rw [arm_eval_Dict]
  refine wpAny_bind (wpAny_standAt ?_)
  refine disp2 ?_
  refine wpAny_bind (thn (h1.run pins _ σ _ _ I1 (q _ hn)) fun u s1 ⟨x, H1, J1, rx, q1, a, kvs, ex, na, ra, l1, k⟩ => ?_)
  subst ex
  refine wpAny_bind (wpAny_standAt (wpAny_pure ?_))
  cases rx
  obtain ⟨z, lo, vs, rel, dd⟩ := dk_rd J1.hok ra
  obtain ⟨z0, hd0, vs0, r0, dd0⟩ := dk_of J1.hok q1
  cases r0
  refine merge_map (Ne.symm na) lo dd0 dd (fun h' d1 d2 hs => ?_) (by rw [List.length_nil, Nat.zero_add, ← rel.length]; exact z)
  have hz1 : (mergeK [] kvs).length ≤ 1000 := by
    have := length_mergeK kvs []
    rw [List.length_nil] at this
    omega
  have he1 : ∃ q, h'.get? s.heap.objs.size = some q := let ⟨q, _, _, hq, _⟩ := d1; ⟨q, hq⟩
  have J2 := d_write (t' := s1.toks) J1 (by rw [q1]; exact True.intro) hs he1 (dk_new (Nat.le_trans hz1 (by rw [sizeLine_eq]; decide)) hd0 (rel.merge .nil) d1)
  refine wpAny_bind (thn (h2.run pins _ σ _ _ J2 k) fun u2 s3 ⟨y, H2, J3, ry, q2, b, kvs2, ey, nb, rb, l2, k2⟩ => ?_)
  subst ey
  refine wpAny_bind (wpAny_standAt (wpAny_pure ?_))
  cases ry
  obtain ⟨z3, lo3, vs3, rel3, dd3⟩ := dk_rd J3.hok rb
  obtain ⟨z4, hd4, vs4, r4, dd4⟩ := dk_of J3.hok q2
  refine merge_map (Ne.symm nb) lo3 dd4 dd3 (fun h'' d1' d2' hs' => ?_) (by rw [← rel3.length, ← r4.length, sizeLine_eq]; omega)
  have he2 : ∃ q, h''.get? s.heap.objs.size = some q := let ⟨q, _, _, hq, _⟩ := d1'; ⟨q, hq⟩
  have hz2 : (mergeK (mergeK [] kvs) kvs2).length ≤ sizeLine := by
    have := length_mergeK kvs2 (mergeK [] kvs)
    rw [sizeLine_eq]
    omega
  exact ⟨.ref s.heap.objs.size, _, d_write (t' := s3.toks) J3 (by rw [q2]; exact True.intro) hs' he2 (dk_new hz2 hd4 (rel3.merge r4) d1'), rfl, k2⟩
/-- str of a whole number or of a text -/
theorem call_strA {X : Cx} : CallR X (.type "str") fun xs H Q => (∃ i : Int, xs = [.int i] ∧ i.natAbs.log2 < 1920 ∧ Q (.str (toString i)) H) ∨ ∃ a : Str, xs = [.str a] ∧ Q (.str a) H := fun pins s σ H xs us Q I r h =>
  h.elim (fun h => call_str_int pins s σ H xs us Q I r h) fun h => SkE.call_str_str pins s σ H xs us Q I r h
end Vf

set_option Elab.async false
set_option linter.all false
set_option maxHeartbeats 4000000
/-! e.replace(y, z) of written texts, where e itself makes a text (so that a token is there) -/
namespace Vf
open PySem PySem.Spec PyProof.Rows L2
def PE1 (X : Cx) (e : Expr) (te : TE) : Prop := ∀ (pins : List (Addr × Obj)) (s : Shared) (σ : L2.St) (H : Hp) (Q : VK), L2.Inv X pins σ H s → te σ H Q → wpAny (model X.prog X.w) X.A (eval e X.env) (fun u s1 => 1 ≤ s1.toks ∧ EP X pins σ Q u s1) X.xe s
section
variable {X : Cx} {o e : Expr} {to te : TE} {apos pos : Pos}
theorem pe1_m1c {id : String} {name : Str} {y : Str} {j : Nat} {c0 : Pos} {r : V → List V → Hp → VK → Prop} (slot : Slot "str" name id) (ty : typeOf (.builtin id) = pure (.type "method_descriptor")) (rule : MtR X id r) (ho : PE X o to)
    (hs : starEach [.Constant (.str y) j c0] X.env = [(false, eval (.Constant (.str y) j c0) X.env)] := by rfl) (hbase : attributeBase o name X.env (eval o X.env) = eval o X.env := by rfl) (hline : (apos.endLine == pos.line) = true := by rfl) :
    PE1 X (.Call (.Attribute o name apos) [.Constant (.str y) j c0] [] pos) (tM1 r to (tC (.str y))) := by
  intro pins s σ H Q I h
  refine PySem.Call_method1 hbase hs hline (thn (ho.run pins s σ H _ I h) fun v s1 ⟨x, H1, I1, r1, q1⟩ => ?_)
  obtain ⟨⟨a, rfl⟩, q1⟩ := q1
  obtain ⟨t, rfl⟩ := _root_.id r1
  refine ⟨"str", _, PySem.F.plainAttrs_str, slot, ty, typeIs_str _ _ _, (fun _ e => nomatch e), Calls.callWith_builtin rfl (Calls.evalArgs_plain (Calls.spliced_cons ?_))⟩
  refine Calls.Constant_str (Calls.spliced_nil ?_)
  exact wpAny_mono (wpAny_toks_of (n := 1) (by show 1 ≤ s1.toks + 1; omega) (rule pins _ σ H1 _ [.str y] _ [.str y s1.toks] Q (I1.tok _) r1 (.cons ⟨_, rfl⟩ .nil) q1)) (fun _ _ z => z) fun _ _ z => z.2
theorem pe1_ix {a b : Expr} {ta tb : TE} {r : R2} (hr : IxR X r) (ha : PE1 X a ta) (hb : PE X b tb) (hs : PlainIx b) : PE1 X (.Subscript a b pos) (tOp r ta tb) := by
  intro pins s σ H Q I h
  refine Subscript_ (thn (ha pins s σ H _ I h) fun v s1 ⟨k1, x, H1, I1, rx, q⟩ => ?_)
  refine wpAny_mono (wpAny_toks_of k1 (hb.run pins s1 σ H1 _ I1 q)) (fun u s2 ⟨k2, y, H2, I2, ry, q2⟩ => ?_) fun _ _ z => z.2
  exact wpAny_mono (wpAny_toks_of k2 (hr a b pins s2 σ H2 x y v u Q I2 rx ry q2 (hs _ _))) (fun _ _ z => z) fun _ _ z => z.2
theorem pe_repl1 {y z : Str} {j k : Nat} {c0 c1 : Pos} (ho : PE1 X o to) (hyz : (y == z) = false := by decide)
    (hst : starEach [.Constant (.str y) j c0, .Constant (.str z) k c1] X.env = [(false, eval (.Constant (.str y) j c0) X.env), (false, eval (.Constant (.str z) k c1) X.env)] := by rfl)
    (hbase : attributeBase o "replace" X.env (eval o X.env) = eval o X.env := by rfl) (hline : (apos.endLine == pos.line) = true := by rfl) :
    PE X (.Call (.Attribute o "replace" apos) [.Constant (.str y) j c0, .Constant (.str z) k c1] [] pos) (CwR.tReplC to y z) := by
  refine ⟨fun pins s σ H Q I h => ?_⟩
  refine PySem.Call_method2 hbase hst hline (thn (ho pins s σ H _ I h) fun v s1 q => ?_)
  obtain ⟨hk, v', H1, I1, r1, x, e1, hb, q⟩ := q
  subst e1
  obtain ⟨tx, e2⟩ := r1
  subst e2
  refine ⟨"str", _, PySem.F.plainAttrs_str, PySem.F.slot_str_replace, PySem.F.type_str_replace, typeIs_str _ _ _, (fun _ e => nomatch e), Calls.callWith_builtin rfl (Calls.evalArgs_plain (Calls.spliced_cons ?_))⟩
  refine Calls.Constant_str (Calls.spliced_cons (Calls.Constant_str (Calls.spliced_nil ?_)))
  exact PySem.SC.replace (by show s1.toks ≠ 0; omega) (by show s1.toks + 1 ≠ 0; omega) (by show s1.toks ≠ s1.toks + 1; omega) hyz hb fun t' k => ⟨.str (Txt.replace x y z), H1, I1.tok k, ⟨t', rfl⟩, q⟩
end
end Vf

set_option Elab.async false
set_option linter.all false
set_option maxRecDepth 100000
set_option maxHeartbeats 4000000
/-! try with two clauses that have names; k not in a written dict; replace by a drawn text. -/
namespace Vf
open PySem PySem.Spec PyProof.Rows L2
/-- k not in d, d a dict that the top has written -/
theorem op_notIn_kdw {X : Cx} : OpR X (compareOp .NotIn) fun x y H Q => ∃ d kvs k, x = kV k ∧ y = .ref d ∧ KD X.K X.w d kvs ∧ Q (.bl (!(valV kvs k).isSome)) H := by
  rintro pins s σ H x y v u Q I rx ry ⟨d, kvs, k, rfl, rfl, D, q⟩
  cases ry
  obtain ⟨g, hm, hg⟩ := D.map (P := X.prog) I.kIn
  obtain ⟨es, n, hl, low, _⟩ := D
  refine wpAny_notIn_of (kV_is rx) low hm ⟨_, H, I.tok _, ?_, q⟩
  rw [(hg k).isSome_eq]
  rfl
/-- wished of an exception of the body: it is the first clause's, or the second one's -/
def wHd2 (K : PySem.W.Frag) (c : Value) (i : Nat) (ts : Addr → Value → Option Addr → TS) (c2 : Value) (i2 : Nat) (ts2 : Addr → Value → Option Addr → TS) (D : Ends) : WX :=
  fun z d τ G => (PySem.W.exmOne K z c = some true ∧ ∀ a, G a = none → ts a z d (clearE i D) (τ.set i (some (.ref a))) G) ∨
    (PySem.W.exmOne K z c = some false ∧ PySem.W.exmOne K z c2 = some true ∧ ∀ a, G a = none → ts2 a z d (clearE i2 D) (τ.set i2 (some (.ref a))) G)
section
variable {X : Cx} {x n x2 n2 : Str} {c c2 : Value} {i i2 : Nat} {body suite suite2 : List Stmt} {st st2 : Stmt} {np pos q np2 q2 : Pos} {more : List ExceptHandler}
  {tb : WX → TS} {ts ts2 : Addr → Value → Option Addr → TS} {D : Ends} {pins : List (Addr × Obj)} {s : Shared} {e : Value} {xo : Value → Shared → Prop}
theorem hd_catch2 (hs : X.stack = X.env :: X.outer) (hf : X.env.frame = some X.env.locals) (nd : X.N.Nodup) (hi : X.N[i]? = some n) (loc : X.env.kindOf n = some .local) (hc : Names X x c)
    (hi2 : X.N[i2]? = some n2) (loc2 : X.env.kindOf n2 = some .local) (hc2 : Names X x2 c2) (ok : X.Ok)
    (hsu : ∀ (a : Addr) (oe : Obj) (z : Value) (d : Option Addr) (pn : List (Addr × Obj)), Zc z d oe → (∃ vs, oe.data = .fields vs) → PSs (X.suite a ((a, oe) :: pn)) (st :: suite) (ts a z d))
    (hsu2 : ∀ (a : Addr) (oe : Obj) (z : Value) (d : Option Addr) (pn : List (Addr × Obj)), Zc z d oe → (∃ vs, oe.data = .fields vs) → PSs (X.suite a ((a, oe) :: pn)) (st2 :: suite2) (ts2 a z d))
    (air : XE (X.tr (X.pn ++ pins) xo) (wHd2 X.K c i ts c2 i2 ts2 D) e s) :
    wpAny (model X.prog X.w) X.A (noteFrame e X.env) (fun _ t => wpAny (model X.prog X.w) X.A (setFlight e none)
      (fun _ u => wpAny (model X.prog X.w) X.A (handleBy e X.env (.ExceptHandler (some (.Name x np)) (some n) (st :: suite) q :: .ExceptHandler (some (.Name x2 np2)) (some n2) (st2 :: suite2) q2 :: more)) (SP X pins D) X.xe u) X.xe t) X.xe s := by
  obtain ⟨a, B, s0, pn, τ, G, z, d, rfl, J0, new, up, sky, na, os, bare, wish⟩ := air
  have J : Inv X pins τ G s0 := J0.ofTry ok
  have frames : X.A.frames = some (X.env :: X.outer) := ok.frames.trans (congrArg some hs)
  refine Sky.land (B := B) Zc.steady frames hf (by rw [← hs]; exact sky) fun h1 fl1 up1 => ?_
  have J1 : Inv X pins τ G { s with heap := h1 } := J.landed new fl1.1 (up.trans up1) os bare
  obtain ⟨o1, v1, g1, z1, d1⟩ := fl1.there
  have nf := no_frame fl1.2.2.1 g1 d1
  have nl : a ≠ X.env.locals := fun eq => nf (List.mem_filterMap.mpr ⟨X.env, List.mem_cons_self, hf.trans (congrArg some eq.symm)⟩)
  have nfs : a ∉ X.fs := fun m => by
    obtain ⟨en, m1, m2⟩ := List.mem_filterMap.mp m
    exact nf (List.mem_filterMap.mpr ⟨en, List.mem_cons_of_mem _ m1, m2⟩)
  have lt : PySem.W.Looks (model X.prog X.w) h1 (typeOf (.ref a)) z := fun _ _ _ _ k w => wpAny_typeOf_ref (k _ _ g1) (by rw [z1.1]; exact w)
  refine wpAny_handleBy_cons (codeAny_handlers_test (hd_name hc (J1.suite g1 d1 na nl nfs) ?_)) (fun no => by cases no)
  rcases wish with ⟨me, go⟩ | ⟨no, me, go⟩
  · refine (PySem.W.exm_one J1.kIn lt me).here (codeAny_handlers_suite_as (HandSPX.lands_againZ fl1 fun h2 fl2 up2 => ?_))
    obtain ⟨o2, v2, g2, z2, d2⟩ := fl2.there
    have J2 : Inv X pins τ G { s with heap := h2 } := J.landed new fl2.1 ((up.trans up1).trans up2) os bare
    exact hd_suite nd hi loc (hsu a o2 z d (X.pn ++ pins) z2 ⟨_, d2⟩) J2 (fun fl t w => w) g2 d2 na nl nfs (go a na)
  · refine (PySem.W.exm_one J1.kIn lt no).here ?_
    show wpAny _ X.A (handleBy (.ref a) X.env (.ExceptHandler (some (.Name x2 np2)) (some n2) (st2 :: suite2) q2 :: more)) _ _ _
    refine wpAny_handleBy_cons (codeAny_handlers_test (hd_name hc2 (J1.suite g1 d1 na nl nfs) ?_)) (fun no => by cases no)
    refine (PySem.W.exm_one J1.kIn lt me).here (codeAny_handlers_suite_as (HandSPX.lands_againZ fl1 fun h2 fl2 up2 => ?_))
    obtain ⟨o2, v2, g2, z2, d2⟩ := fl2.there
    have J2 : Inv X pins τ G { s with heap := h2 } := J.landed new fl2.1 ((up.trans up1).trans up2) os bare
    exact hd_suite nd hi2 loc2 (hsu2 a o2 z d (X.pn ++ pins) z2 ⟨_, d2⟩) J2 (fun fl t w => w) g2 d2 na nl nfs (go a na)
/-- try: body, except x as n: suite, except x2 as n2: suite2, and more clauses that nothing comes to -/
theorem ps_try_hd2 (hs : X.stack = X.env :: X.outer) (hf : X.env.frame = some X.env.locals) (nd : X.N.Nodup) (hi : X.N[i]? = some n) (loc : X.env.kindOf n = some .local) (hc : Names X x c)
    (hi2 : X.N[i2]? = some n2) (loc2 : X.env.kindOf n2 = some .local) (hc2 : Names X x2 c2)
    (hb : ∀ (W : WX) (pn : List (Addr × Obj)) (xe : Value → Shared → Prop), Takes (X.tr pn xe) W → PSs (X.tr pn xe) body (tb W))
    (hsu : ∀ (a : Addr) (oe : Obj) (z : Value) (d : Option Addr) (pn : List (Addr × Obj)), Zc z d oe → (∃ vs, oe.data = .fields vs) → PSs (X.suite a ((a, oe) :: pn)) (st :: suite) (ts a z d))
    (hsu2 : ∀ (a : Addr) (oe : Obj) (z : Value) (d : Option Addr) (pn : List (Addr × Obj)), Zc z d oe → (∃ vs, oe.data = .fields vs) → PSs (X.suite a ((a, oe) :: pn)) (st2 :: suite2) (ts2 a z d)) :
    PS X (.Try body (.ExceptHandler (some (.Name x np)) (some n) (st :: suite) q :: .ExceptHandler (some (.Name x2 np2)) (some n2) (st2 :: suite2) q2 :: more) [] [] pos) (fun D τ G => tb (wHd2 X.K c i ts c2 i2 ts2 D) D τ G) := by
  refine ⟨fun pins s τ G D I h => wpAny_Try_except ?_⟩
  have ok := I.ok
  have run := (hb (wHd2 X.K c i ts c2 i2 ts2 D) (X.pn ++ pins) _ fun u t air => hd_catch2 (np := np) (q := q) (np2 := np2) (q2 := q2) (more := more) hs hf nd hi loc hc hi2 loc2 hc2 ok hsu hsu2 air).run [] s τ G D (I.toTry _) h
  refine wpAny_mono run (fun fl t w => ?_) fun _ _ w => w
  cases fl with
  | ret v =>
    obtain ⟨v', τ', G', J, r, w⟩ := w
    exact ⟨v', τ', G', J.ofTry ok, r, w⟩
  | next =>
    obtain ⟨τ', G', J, w⟩ := w
    exact wpAny_execs_nil ⟨τ', G', J.ofTry ok, w⟩
  | brk =>
    obtain ⟨τ', G', J, w⟩ := w
    exact ⟨τ', G', J.ofTry ok, w⟩
  | cont =>
    obtain ⟨τ', G', J, w⟩ := w
    exact ⟨τ', G', J.ofTry ok, w⟩
end

/-! ### a law's end that knows more of the heap it begins at -/
/-- R holds wherever what is no list, no tuple and no table stands as in h -/
def Tells (h : Heap) (R : Heap → Prop) : Prop := ∀ h' : Heap, (∀ (b : Addr) (o : Obj), h.get? b = some o → (∀ xs n, o.data ≠ .seq xs n) → o.data ≠ .fields #[] → h'.get? b = some o) → R h'
/-- sys.modules stands, and no reader has made a thing -/
structure Calm2 (h : Heap) : Prop where
  sb : ∃ o, h.get? sysModules = some o ∧ o.cls = .type "dict"
  nb : ∃ (o : Obj) (es : Array DictEntry) (n : Nat), h.get? cStatics = some o ∧ o.data = .dict es n ∧ nsFind es sharingNotToldKey = none
theorem Calm2.booked {h : Heap} (x : Calm2 h) (l : h.NoLimit) : NoneBooked h := by
  obtain ⟨o, es, n, e, d, f⟩ := x.nb
  obtain ⟨mc, ⟨o', es', ep', e', d', sk, hm⟩, _⟩ := l
  rw [e] at e'
  cases e'
  rw [d] at d'
  cases d'
  exact ⟨mc, ⟨o, es, n, e, d, sk, hm⟩, by rw [← hm]; exact f⟩
/-! ### replace by a text that is drawn of two written ones -/
theorem booked_keeps {h h' : Heap} (x : NoneBooked h) (hk : ∀ b o, h.get? b = some o → h'.get? b = some o) : NoneBooked h' :=
  let ⟨mc, a, b⟩ := x; ⟨mc, a.keeps hk, b⟩
/-- d[k] of a dict with whole numbers and texts as keys: a token is there behind it -/
def tDGetK (td ty : TE) : TE := fun σ H Q => td σ H fun x H1 => ty σ H1 fun y H2 => ∃ (a : Addr) (kvs : List (Key × V)) (k : Key) (v : V), x = .ref a ∧ Rd H2 a (.dK kvs) ∧ y = kV k ∧ valV kvs k = some v ∧ Q v H2
section
variable {X : Cx} {o i e : Expr} {td ty te to : TE} {pos apos p : Pos}
theorem pe1_dgetK (ho : PE X o td) (hi : PE X i ty) (hs : NoSl i) : PE1 X (.Subscript o i pos) (tDGetK td ty) := by
  intro pins s σ H Q I h
  refine subD_of PySem.F.slot_dict_getitem.lookup hs (thn (ho.run pins s σ H _ I h) fun u s1 ⟨x, H1, I1, rx, q1⟩ => thn (hi.run pins s1 σ H1 _ I1 q1) fun iv s2 ⟨y, H2, I2, ry, a, kvs, k, v, ex, hd, ey, l, q2⟩ => ?_)
  subst ex
  obtain rfl : u = Value.ref a := rx
  subst ey
  obtain ⟨z, low, vs, rel, dd⟩ := dk_rd I2.hok hd
  obtain ⟨w', hw, rw'⟩ := RelO.some_of (v := v) (o := valueAt vs k) (by rw [← l]; exact rel.val k)
  exact ⟨dd.typeIs, wpAny_getItem_of (kV_is ry) dd.mapOf hw ⟨by show 1 ≤ s2.toks + 1; omega, v, H2, I2.tok _, rw', q2⟩⟩
/-- f(e), a token there behind e -/
theorem pe1_c {x : Str} {sp : Sp} {dvs : List V} {k j : Nat} (c : C8.Cal X.prog X.w X.K X.mg X.base k x sp dvs) (hr : Room j X.A) (hk : k ≤ j) (hg : Gl X x) (ha : PE1 X e te)
    (hdb : (x == ("__debug__" : Str)) = false := by decide) (he : starEach (e :: []) X.env = (false, eval e X.env) :: starEach [] X.env := by rfl) (hpl : (backTo pos (starEach [] X.env)).any (·.1) = false := by rfl) :
    PE1 X (.Call (.Name x p) [e] [] pos) (tCall sp dvs E0 (tCons te tNil)) := by
  obtain ⟨f, fd, ps, ds, F, hm, kp, b, d⟩ := c.ex
  intro pins s σ H Q I h
  refine wpAny_Call_Name_kw (ld_glob I hg hm ?_ hdb)
  refine PySem.W.callWith_K (h₀ := X.base) I.ok.mod.kin kp ?_ he hpl
  rw [he]
  show wpAny _ _ (spliced ((false, eval e X.env) :: backTo pos (starEach [] X.env))) _ _ s
  refine Calls.spliced_cons (thn (ha pins s σ H _ I h) fun u s1 ⟨k1, x1, H1, I1, r1, q1⟩ => Calls.spliced_nil ?_)
  refine ⟨I1.kIn, ?_⟩
  exact wpAny_mono (wpAny_toks_of k1 (run_fn F (hr.mono hk) b d pass0 I1 (.cons r1 .nil) q1)) (fun _ _ z => z) fun _ _ z => z.2
end
/-- one of a list whose object is known: it is one of its items -/
def OneRaw (P : Program) (w : World) (K : PySem.W.Frag) (mg : Str → Option Value) (base : Heap) (x : Str) (k : Nat) : Prop :=
  ∃ f, mg x = some (.ref f) ∧ PySem.W.keepIn K (.ref f) = true ∧ ∀ (A : Around) (outer : List Env) (s : Shared) (H : Hp) (g : Bg) (c e : Int) (l : Addr) (o : Obj) (its : Array Value) (n : Nat) (xs : List V) (Q : Hp → Prop),
    Room k A → Env0 P w K mg base A outer s H → Bag H g c e → H l = some (.frz o (.lst xs)) → o.cls = .type "list" → o.data = .seq its n → 0 < its.size → its.size < 1000 → l ≠ g.b → (∀ H', Drawn g H H' c e → Q H') →
    codeAny (model P w) A (.call (.ref f) ⟨[.ref g.b, .ref l], []⟩) (fun r s' => match r with | .ok (.ret u) => u ∈ its.toList ∧ CE outer P w H s (fun _ H' => Q H') u s' | _ => False) s
/-- e.replace(y, one(b, [z1, z2])) -/
def tReplOne (to : TE) (ib : Nat) (y z1 z2 : Str) : TE := fun σ H Q => to σ H fun v H1 => ∃ (x : Str) (g : Bg) (c e : Int), v = .str x ∧ σ[ib]? = some (some (.ref g.b)) ∧ Bag H1 g c e ∧
  x.length + (x.length + 1) * z1.length ≤ 16777216 ∧ x.length + (x.length + 1) * z2.length ≤ 16777216 ∧ ∀ (z : Str) (H2 : Hp), (z = z1 ∨ z = z2) → Drawn g H1 H2 c e → Q (.str (Txt.replace x y z)) H2
section
variable {X : Cx} {o : Expr} {to : TE} {apos pos p pb pl pc : Pos} {f bx : Str} {y z1 z2 : Str} {j j1 j2 ib k : Nat} {c0 c1 c2 : Pos}
theorem pe_replOne (nb : Calm2 X.base) (R : OneRaw X.prog X.w X.K X.mg X.base f k) (hr : Room k X.A) (hg : Gl X f) (ho : PE1 X o to) (hN : X.N[ib]? = some bx) (hv : Vis X.env.scope bx)
    (hdb : (f == ("__debug__" : Str)) = false := by decide) (hd : (bx == ("__debug__" : Str)) = false := by decide) (hcd : (bx == ("__classdict__" : Str)) = false := by decide)
    (hst : starEach [.Constant (.str y) j c0, .Call (.Name f p) [.Name bx pb, .List [.Constant (.str z1) j1 c1, .Constant (.str z2) j2 c2] pl] [] pc] X.env =
      [(false, eval (.Constant (.str y) j c0) X.env), (false, eval (.Call (.Name f p) [.Name bx pb, .List [.Constant (.str z1) j1 c1, .Constant (.str z2) j2 c2] pl] [] pc) X.env)] := by rfl)
    (hbase : attributeBase o "replace" X.env (eval o X.env) = eval o X.env := by rfl) (hline : (apos.endLine == pos.line) = true := by rfl) :
    PE X (.Call (.Attribute o "replace" apos) [.Constant (.str y) j c0, .Call (.Name f p) [.Name bx pb, .List [.Constant (.str z1) j1 c1, .Constant (.str z2) j2 c2] pl] [] pc] [] pos) (tReplOne to ib y z1 z2) := by
  obtain ⟨fa, hm, kp, run⟩ := R
  refine ⟨fun pins s σ H Q I h => ?_⟩
  refine PySem.Call_method2 hbase hst hline (thn (ho pins s σ H _ I h) fun v s1 q => ?_)
  obtain ⟨hk, v', H1, I1, r1, x, g, c, e, e1, hb, B, l1, l2, q⟩ := q
  subst e1
  obtain ⟨tx, e2⟩ := r1
  subst e2
  refine ⟨"str", _, PySem.F.plainAttrs_str, PySem.F.slot_str_replace, PySem.F.type_str_replace, typeIs_str _ _ _, (fun _ e => nomatch e), Calls.callWith_builtin rfl (Calls.evalArgs_plain (Calls.spliced_cons ?_))⟩
  refine Calls.Constant_str (Calls.spliced_cons ?_)
  have I2 : Inv X pins σ H1 { s1 with toks := s1.toks + 1 } := I1.tok _
  refine wpAny_Call_Name_kw (ld_glob I2 hg hm ?_ hdb)
  refine PySem.W.callWith_K (h₀ := X.base) I.ok.mod.kin kp ?_ rfl rfl
  show wpAny _ _ (spliced ((false, eval (.Name bx pb) X.env) :: backTo pc (starEach [.List [.Constant (.str z1) j1 c1, .Constant (.str z2) j2 c2] pl] X.env))) _ _ _
  refine Calls.spliced_cons (raw_name hN hv I2 hb (fun u r => ?_) hd hcd)
  obtain rfl : u = Value.ref g.b := r
  show wpAny _ _ (spliced ((false, eval (.List [.Constant (.str z1) j1 c1, .Constant (.str z2) j2 c2] pl) X.env) :: backTo pc (starEach [] X.env))) _ _ _
  refine Calls.spliced_cons (wpAny_List_spliced ?_)
  show wpAny _ _ (spliced ((false, eval (.Constant (.str z1) j1 c1) X.env) :: backTo pl (starEach [.Constant (.str z2) j2 c2] X.env))) _ _ _
  refine Calls.spliced_cons (Calls.Constant_str ?_)
  show wpAny _ _ (spliced ((false, eval (.Constant (.str z2) j2 c2) X.env) :: backTo pl (starEach [] X.env))) _ _ _
  refine Calls.spliced_cons (Calls.Constant_str (Calls.spliced_nil ?_))
  have h2 : (2 : Nat) ≤ sizeLine := by decide
  refine ⟨h2, Calls.spliced_nil ?_⟩
  let l : Addr := s1.heap.objs.size
  have nl : H1 l = none := I1.hok.fresh (Nat.le_refl _)
  let O : Obj := { cls := .type "list", data := .seq #[.str z1 (s1.toks + 1), .str z2 (s1.toks + 1 + 1)] 0 }
  have I3 : Inv X pins σ (upd H1 l (.frz O (.lst [.str z1, .str z2]))) { s1 with heap := s1.heap.push O, toks := s1.toks + 1 + 1 + 1 } :=
    I1.laid (t' := s1.toks + 1 + 1 + 1) (fun b u e => Heap.get?_push_of_some _ e) (Nat.le_refl _) ⟨Heap.get?_push_size _ rfl, h2, [.str z1 (s1.toks + 1), .str z2 (s1.toks + 1 + 1)], 0, .cons ⟨_, rfl⟩ (.cons ⟨_, rfl⟩ .nil), Heap.get?_push_size _ rfl⟩
  have D0 : Drawn g H1 (upd H1 l (.frz O (.lst [.str z1, .str z2]))) c e := (Drawn.of B).new nl
  refine ⟨I3.kIn, wpAny_call (codeAny_mono (run X.A X.stack _ _ g c e l O _ 0 [.str z1, .str z2] (fun H2 => Drawn g H1 H2 c e) hr I3.env0 D0.bag upd_same rfl rfl (by show 0 < 2; decide) (by show 2 < 1000; decide) (B.ne_new nl) fun H2 D2 => D0.trans D2) fun r s' hq => ?_)⟩
  cases r with
  | error e => exact False.elim hq
  | ok fl =>
    cases fl with
    | next => exact False.elim hq
    | brk => exact False.elim hq
    | cont => exact False.elim hq
    | ret u =>
      obtain ⟨mem, ce⟩ := hq
      obtain ⟨v2, H2, J, rv, D2⟩ := I3.after ce
      have hnb : NoneBooked s'.heap := booked_keeps (nb.booked I.ok.mod.nolimit) J.bk
      have mem : u = Value.str z1 (s1.toks + 1) ∨ u = Value.str z2 (s1.toks + 1 + 1) := by simpa using mem
      refine Calls.spliced_nil ?_
      rcases mem with rfl | rfl
      · exact PySem.SC.replaceA (by show s1.toks ≠ 0; omega) (by show s1.toks + 1 ≠ 0; omega) (by show s1.toks ≠ s1.toks + 1; omega) l1 (fun t' k => ⟨.str (Txt.replace x y z1), H2, J.tok k, ⟨t', rfl⟩, q z1 H2 (.inl rfl) D2⟩) hnb
      · exact PySem.SC.replaceA (by show s1.toks ≠ 0; omega) (by show s1.toks + 1 + 1 ≠ 0; omega) (by show s1.toks ≠ s1.toks + 1 + 1; omega) l2 (fun t' k => ⟨.str (Txt.replace x y z2), H2, J.tok k, ⟨t', rfl⟩, q z2 H2 (.inr rfl) D2⟩) hnb
end

abbrev Calm3 (h : Heap) : Prop := (∃ (o : Obj) (es : Array DictEntry) (n : Nat), h.get? sysModules = some o ∧ o.cls = .type "dict" ∧ o.data = .dict es n) ∧
  ∃ (o : Obj) (es : Array DictEntry) (n : Nat), h.get? cStatics = some o ∧ o.data = .dict es n ∧ nsFind es sharingNotToldKey = none
theorem calm_tells {h : Heap} (x : Calm3 h) : Tells h Calm2 := fun h' k => by
  obtain ⟨⟨o, es, n, e, c, d⟩, o2, es2, n2, e2, d2, f⟩ := x
  refine ⟨⟨o, k _ _ e (fun xs m z => by rw [d] at z; cases z) (fun z => by rw [d] at z; cases z), c⟩, ⟨o2, es2, n2, k _ _ e2 (fun xs m z => by rw [d2] at z; cases z) (fun z => by rw [d2] at z; cases z), d2, f⟩⟩
/-- a hook that also looks at sys.modules and at what readers have made -/
def calmHook (k : PySem.W.Hook) : PySem.W.Hook where
  α := k.α × Option (Value × Bool) × Option Bool
  obs := fun s => (k.obs s, (s.heap.get? sysModules).map (fun o => (o.cls, match o.data with | .dict _ _ => true | _ => false)), (s.heap.get? cStatics).map fun o => match o.data with | .dict es _ => (nsFind es sharingNotToldKey).isNone | _ => false)
  val := fun w => (k.val w, some (.type "dict", true), some true)
  says := fun w h => k.says w h ∧ Calm3 h
  of := fun w s x => by
    refine ⟨k.of w s (Prod.mk.inj x).1, ?_, ?_⟩
    · have y := (Prod.mk.inj (Prod.mk.inj x).2).1
      cases e : s.heap.get? sysModules with
      | none =>
        rw [e] at y
        cases y
      | some o =>
        rw [e] at y
        have y1 := (Prod.mk.inj (Option.some.inj y)).1
        have y2 := (Prod.mk.inj (Option.some.inj y)).2
        cases d : o.data with
        | dict es n => exact ⟨o, es, n, rfl, y1, d⟩
        | _ =>
          rw [d] at y2
          cases y2
    · have y := (Prod.mk.inj (Prod.mk.inj x).2).2
      cases e : s.heap.get? cStatics with
      | none =>
        rw [e] at y
        cases y
      | some o =>
        rw [e] at y
        have y := Option.some.inj y
        dsimp only at y
        cases d : o.data with
        | dict es n =>
          rw [d] at y
          exact ⟨o, es, n, rfl, d, Option.isNone_iff_eq_none.mp y⟩
        | _ =>
          rw [d] at y
          cases y
  keeps := fun w h h' x k2 => ⟨k.keeps w h h' x.1 k2, by
    obtain ⟨⟨o, es, n, e, r⟩, o2, es2, n2, e2, r2⟩ := x.2
    exact ⟨⟨o, es, n, k2 _ _ e, r⟩, o2, es2, n2, k2 _ _ e2, r2⟩⟩
open LamX (CodeO TabS Tabs ExtN TabB)
section
variable {P : Program} {w : World} {K : PySem.W.Frag}
  {mg mb : Str → Option Value} {k : Nat} {fa a : Addr} {fd : FuncData}
  {x : Str} {sp : Sp} {s₁ : Shared} {vs : List Value} {ns : List Int} {L : List (Addr × Addr)}
theorem law_goesA {R : Heap → Prop} (hS : Tells s₁.heap R) (KX : K.In s₁.heap)
    (hns : s₁.heap.Ns mainGlobals mg) (hb : s₁.heap.Ns builtinsNs mb)
    (hbb : ∀ y : Str, y ≠ "__name__" → mb y = bootBuiltins y)
    (hlim : s₁.heap.NoLimit) (hgen : s₁.gens = #[])
    (hT : ∀ p ∈ L, s₁.heap.get? p.2 = some tabE ∧ K.lookup p.2 = none ∧ PySem.W.CodeHd s₁.heap p.1 p.2)
    (hbm : ∃ (bm : Addr) (ob : Obj), mg "__builtins__" = some (.ref bm) ∧ bm ≠ builtinsNs ∧ s₁.heap.get? bm = some ob ∧ ob.cls = .type "module" ∧ ob.dict = some builtinsNs ∧ ob.data = .plain)
    (ha : s₁.heap.get? a =
      some { cls := .type "list", data := .seq vs.toArray })
    (hr : Room k callerA)
    (F : ∀ base : Heap, K.In base → base.Ns mainGlobals mg → R base → (∀ p ∈ L, TabB base mg p.1 p.2) →
      FnG P w K mg base k fa fd [x] sp)
    (bind : ∀ (s : Shared) (u : Value),
      BindsTo s fd ⟨[u], []⟩ [(x, u)])
    (H : Hp) (hHT : ∀ p ∈ L, H p.2 = some (.tbl #[])) (hO : ∀ b, H b = none ∨ (∃ p ∈ L, b = p.2) ∨ ∃ o xs, H b = some (.frz o (.lst xs))) (ok : HOk P w H s₁.heap)
    (alone : ∀ b, H b ≠ none → b = a ∨ ∃ p ∈ L, b = p.2)
    (notK : H a ≠ none → K.lookup a = none)
    (hs : sp [.ref a] H (fun v _ => v = .bl true) fun _ _ _ => False) :
    codeAny (model P w) callerA (.call (.ref fa) ⟨[.ref a], []⟩)
      (LawEnd s₁) s₁ := by
  have free : ∀ {b : Addr} {o : Obj}, s₁.heap.get? b = some o → (∀ xs n, o.data ≠ .seq xs n) → o.data ≠ .fields #[] → H b = none := by
    intro b o e d1 d2
    cases q : H b with
    | none => rfl
    | some u =>
      rcases alone b (by rw [q]; exact Option.some_ne_none u) with z | ⟨p, hp, z⟩
      · rw [z, ha] at e
        cases e
        exact absurd rfl (d1 _ _)
      · rw [z, (hT p hp).1] at e
        cases e
        exact absurd rfl d2
  have ns' : ∀ {b : Addr} {m : Str → Option Value},
      s₁.heap.Ns b m → (hidT s₁.heap H).Ns b m := by
    rintro b m ⟨o, es, ep, e, d, r⟩
    refine ⟨o, es, ep, hidT_get e (free e (fun xs n z => ?_) fun z => ?_), d, r⟩
    · rw [d] at z
      cases z
    · rw [d] at z
      cases z
  have kin : K.In (hidT s₁.heap H) := by
    intro b o e
    refine hidT_get (KX b o e) ?_
    cases q : H b with
    | none => rfl
    | some u =>
      rcases alone b (by rw [q]; exact Option.some_ne_none u) with z | ⟨p, hp, z⟩
      · have z2 := notK (by rw [← z, q]; exact Option.some_ne_none u)
        rw [z, z2] at e
        cases e
      · rw [z, (hT p hp).2.1] at e
        cases e
  have lim' : (hidT s₁.heap H).NoLimit := by
    obtain ⟨mc, h1, h2⟩ := hlim
    exact ⟨mc, ns' h1, h2⟩
  have M : Mod K mg (hidT s₁.heap H) :=
    ⟨kin, ns' hns, ⟨mb, ns' hb, hbb⟩, lim'⟩
  have TB : ∀ p ∈ L, TabB (hidT s₁.heap H) mg p.1 p.2 := fun p hp => by
    obtain ⟨eT, nT, C⟩ := hT p hp
    have notMain : mainGlobals ≠ p.2 := fun z => by
      obtain ⟨o, es, ep, e, d, _⟩ := hns
      rw [z, eT] at e
      cases e
      cases d
    refine ⟨?_, ?_, notMain⟩
    · obtain ⟨o, us, fl, tf, fg, tg, inF, tx, tt, e, r1, r2, r3, rest⟩ := C
      refine ⟨o, us, fl, tf, fg, tg, inF, tx, tt, hidT_get e (free e (fun xs n z => ?_) fun z => ?_), r1, r2, r3, rest⟩
      · rw [r2] at z
        cases z
      · rw [r2] at z
        cases z
        simp at r3
    · obtain ⟨bm, ob, m1, m2, m3, m4, m5, m6⟩ := hbm
      refine ⟨bm, ob, m1, m2, fun z => ?_, fun z => ?_, hidT_get m3 (free m3 (fun xs n z => ?_) fun z => ?_), m4, m5, m6⟩
      · obtain ⟨o, es, ep, e, d, _⟩ := hns
        rw [z, e] at m3
        cases m3
        rw [m6] at d
        cases d
      · rw [z, eT] at m3
        cases m3
        cases m6
      · rw [m6] at z
        cases z
      · rw [m6] at z
        cases z
  have sb : R (hidT s₁.heap H) := hS _ fun b o e d1 d2 => hidT_get e (free e d1 d2)
  have none_in : ∀ b : Addr, b ∉ ([] : List Addr) := fun b => by simp
  have env : Env0 P w K mg (hidT s₁.heap H) callerA [] s₁ H :=
    ⟨rfl, M, fun b o e => of_hidT e, Nat.le_of_eq (hidT_size _ _),
      trivial, fun b z => absurd z (none_in b), ok, .of_eq hgen⟩
  refine codeAny_mono ((F _ kin (ns' hns) sb TB).go callerA [] s₁ H
    ⟨[.ref a], []⟩ [.ref a] [.ref a] _ _ hr rfl env
    (bind s₁ (.ref a)) (.cons rfl .nil) hs) ?_
  intro r s' h
  cases r with
  | error e => exact (h : False).elim
  | ok fl =>
    cases fl with
    | next => exact (h : False).elim
    | brk => exact (h : False).elim
    | cont => exact (h : False).elim
    | ret u =>
      obtain ⟨v, H', os, bare, un, ok', rv, q⟩ := h
      obtain rfl : v = .bl true := q
      obtain rfl : u = Value.bool true := rv
      have same : ∀ b o, (∀ p ∈ L, b ≠ p.2) → s₁.heap.get? b = some o → s'.heap.get? b = some o := by
        intro b o nb e
        cases q : H b with
        | none => exact un.keep b o e q (none_in b) (none_in b)
        | some u =>
          rcases hO b with z | ⟨p, hp, z⟩ | ⟨ob, xs, z⟩
          · rw [q] at z
            cases z
          · exact absurd z (nb p hp)
          · obtain ⟨e1, _⟩ := ok b _ z
            obtain ⟨e2, _⟩ := ok' b _ (un.frzs b ob _ z)
            rw [e] at e1
            cases e1
            exact e2
      have grown : ∀ p ∈ L, ∃ more, s'.heap.get? p.2 = some { cls := .none, data := .fields (#[] ++ more) } := fun p hp => by
        obtain ⟨more, z⟩ := un.tbls p.2 #[] (hHT p hp)
        exact ⟨more, ok' p.2 _ z⟩
      refine ⟨rfl, ⟨fun b o e => ?_, fun b o e => ?_⟩, os, bare⟩
      · by_cases nb : ∀ p ∈ L, b ≠ p.2
        · exact .inl (same b o nb e)
        · obtain ⟨p, hz⟩ := Classical.not_forall.mp nb
          obtain ⟨hp, e2⟩ := Classical.not_imp.mp hz
          obtain rfl := Classical.not_not.mp e2
          obtain ⟨more, g⟩ := grown p hp
          rw [(hT p hp).1] at e
          cases e
          exact .inr (.inl ⟨((hT p hp).2.2.tab (hT p hp).1).isCodeTable, rfl, #[], more, rfl, g⟩)
      · by_cases nb : ∀ p ∈ L, b ≠ p.2
        · exact ⟨o, same b o nb e⟩
        · obtain ⟨p, hz⟩ := Classical.not_forall.mp nb
          obtain ⟨hp, e2⟩ := Classical.not_imp.mp hz
          obtain rfl := Classical.not_not.mp e2
          obtain ⟨more, g⟩ := grown p hp
          exact ⟨_, g⟩

theorem law_goesA2 {R : Heap → Prop} (hS : Tells s₁.heap R) (KX : K.In s₁.heap)
    (hns : s₁.heap.Ns mainGlobals mg) (hb : s₁.heap.Ns builtinsNs mb)
    (hbb : ∀ y : Str, y ≠ "__name__" → mb y = bootBuiltins y)
    (hlim : s₁.heap.NoLimit) (hgen : s₁.gens = #[])
    (hT : ∀ p ∈ L, s₁.heap.get? p.2 = some tabE ∧ K.lookup p.2 = none ∧ PySem.W.CodeHd s₁.heap p.1 p.2)
    (hbm : ∃ (bm : Addr) (ob : Obj), mg "__builtins__" = some (.ref bm) ∧ bm ≠ builtinsNs ∧ s₁.heap.get? bm = some ob ∧ ob.cls = .type "module" ∧ ob.dict = some builtinsNs ∧ ob.data = .plain)
    (ha : s₁.heap.get? a =
      some { cls := .type "list", data := .seq vs.toArray })
    (hi : IntsAre vs ns) (hl : ns.length ≤ sizeLine)
    (hr : Room k callerA)
    (F : ∀ base : Heap, K.In base → base.Ns mainGlobals mg → R base → (∀ p ∈ L, TabB base mg p.1 p.2) →
      FnG P w K mg base k fa fd [x] sp)
    (bind : ∀ (s : Shared) (u : Value),
      BindsTo s fd ⟨[u], []⟩ [(x, u)])
    (hs : ∀ H : Hp, (∀ p ∈ L, H p.2 = some (.tbl #[])) → SqL K H a (ns.map V.int) →
      sp [.ref a] H (fun v _ => v = .bl true) fun _ _ _ => False) :
    codeAny (model P w) callerA (.call (.ref fa) ⟨[.ref a], []⟩)
      (LawEnd s₁) s₁ := by
  have rv := vals_ints hi
  have aT : a ∉ L.map (·.2) := fun z => by
    obtain ⟨p, hp, e⟩ := List.mem_map.mp z
    have e2 := (hT p hp).1
    rw [e, ha] at e2
    cases e2
  have into : ∀ {p : Addr × Addr}, p ∈ L → p.2 ∈ L.map (·.2) := fun hp => List.mem_map.mpr ⟨_, hp, rfl⟩
  have out : ∀ {b : Addr}, b ∈ L.map (·.2) → ∃ p ∈ L, b = p.2 := fun h => by
    obtain ⟨p, hp, e⟩ := List.mem_map.mp h
    exact ⟨p, hp, e.symm⟩
  cases hk : K.lookup a with
  | some o =>
    have e := KX a o hk
    rw [ha] at e
    cases e
    refine law_goesA hS KX hns hb hbb hlim hgen hT hbm ha hr F bind
      (fun b => if b ∈ L.map (·.2) then some (.tbl #[]) else none) (fun p hp => if_pos (into hp)) (fun b => ?_) (fun b u z => ?_)
      (fun b z => ?_) (fun z => absurd (if_neg aT) z) (hs _ (fun p hp => if_pos (into hp)) ?_)
    · by_cases q : b ∈ L.map (·.2)
      · exact .inr (.inl (out q))
      · exact .inl (if_neg q)
    · by_cases q : b ∈ L.map (·.2)
      · have z' := (if_pos q).symm.trans z
        cases z'
        obtain ⟨p, hp, rfl⟩ := out q
        exact (hT p hp).1
      · have z' := (if_neg q).symm.trans z
        cases z'
    · by_cases q : b ∈ L.map (·.2)
      · exact .inr (out q)
      · exact absurd (if_neg q) z
    refine .inr ⟨_, vs.toArray, _, hk, rfl, rfl, rfl, ?_, by simpa using rv⟩
    rw [List.size_toArray, hi.length]
    exact hl
  | none =>
    have e1 : ∀ p ∈ L, ∀ {u v : Option HO}, (if p.2 = a then u else if p.2 ∈ L.map (·.2) then v else none) = v := fun p hp {u v} => by
      rw [if_neg (fun z => aT (by rw [← z]; exact into hp)), if_pos (into hp)]
    refine law_goesA hS KX hns hb hbb hlim hgen hT hbm ha hr F bind
      (fun b => if b = a then some (.frz { cls := .type "list", data := .seq vs.toArray } (.lst (ns.map V.int))) else if b ∈ L.map (·.2) then some (.tbl #[]) else none) (fun p hp => e1 p hp) (fun b => ?_)
      (fun b u z => ?_) (fun b z => ?_) (fun _ => hk)
      (hs _ (fun p hp => e1 p hp) (.inl (.inr ⟨_, if_pos rfl⟩)))
    · by_cases q : b = a
      · exact .inr (.inr ⟨_, _, if_pos q⟩)
      · by_cases q2 : b ∈ L.map (·.2)
        · exact .inr (.inl (out q2))
        · exact .inl ((if_neg q).trans (if_neg q2))
    · by_cases q : b = a
      · have z' := (if_pos q).symm.trans z
        cases z'
        subst q
        exact ⟨ha, by rw [List.length_map]; exact hl, vs, _, rv, ha⟩
      · by_cases q2 : b ∈ L.map (·.2)
        · have z' := ((if_neg q).trans (if_pos q2)).symm.trans z
          cases z'
          obtain ⟨p, hp, rfl⟩ := out q2
          exact (hT p hp).1
        · have z' := ((if_neg q).trans (if_neg q2)).symm.trans z
          cases z'
    · by_cases q : b = a
      · exact .inl q
      · by_cases q2 : b ∈ L.map (·.2)
        · exact .inr (out q2)
        · exact absurd ((if_neg q).trans (if_neg q2)) z
end

/-- the goal that the head leaves -/
theorem walk_ofA {l : PySem.W.OpenLaw} {n k : Nat} {q : Program}
    {loose : List Str} {XP : (Str → Option Value) → Heap → Prop}
    {R : Heap → Prop} {YP : World → Heap → Prop} {d : DefRec}
    {K : Params → PySem.W.Frag} {sp : World → Sp} {x : Str} {Ts : List Addr}
    (hn : l.most = some n) (hn2 : n ≤ sizeLine)
    (hdf : d.params.defaults = []) (hr : Room k callerA)
    (hY : ∀ (w : World) (h : Heap), YP w h → ((K w.params).In h ∧ ∀ T ∈ Ts, h.get? T = some tabE) ∧ Tells h R)
    (F : ∀ (w : World) (mg : Str → Option Value) (fa : Addr) (h : Heap),
      (K w.params).In h → h.Ns mainGlobals mg →
      mg d.name = some (.ref fa) →
      ∃ (fd : FuncData) (L : List (Addr × Addr)), (∀ p ∈ L, PySem.W.codeHdIn (K w.params) p.1 p.2 = true ∧ (K w.params).lookup p.2 = none) ∧ L.map (·.2) = Ts ∧
        (∀ (s : Shared) (u : Value), BindsTo s fd ⟨[u], []⟩ [(x, u)]) ∧
        ∀ base : Heap, (K w.params).In base → base.Ns mainGlobals mg → R base → (∀ p ∈ L, TabB base mg p.1 p.2) →
          FnG l.prog w (K w.params) mg base k fa fd [x] (sp w))
    (hsp : ∀ (w : World) (H : Hp) (a : Addr) (ns : List Int),
      ns.length ≤ n → (∀ T ∈ Ts, H T = some (.tbl #[])) → SqL (K w.params) H a (ns.map V.int) →
      sp w [.ref a] H (fun v _ => v = .bl true) fun _ _ _ => False) :
    PySem.W.WalkO q loose XP YP l.row.toRowW d []
      (fun f vs => PySem.call f vs) := by
  refine Att.attach_call hn hdf ?_
  intro w s₀ s₁ mg mb fa o pm cd doc a vs ns G Y ho hd hcd hmg hobj hints hlen hg
  obtain ⟨⟨KX, hT⟩, hS⟩ := hY w _ Y
  obtain ⟨fd, L, hC, hL, hb, hF⟩ := F w mg fa _ KX G.T.g hmg
  refine law_goesA2 hS KX G.T.g G.T.b G.T.builtins G.T.nolimit hg (L := L) (fun p hp => ⟨hT p.2 (hL ▸ List.mem_map.mpr ⟨p, hp, rfl⟩), (hC p hp).2, PySem.W.codeHd_of_K KX (hC p hp).1⟩) G.T.bmain hobj
    hints (Nat.le_trans hlen hn2) hr hF hb
    (fun H hO hS => hsp w H a ns hlen (fun T hT => ?_) hS)
  rw [← hL] at hT
  obtain ⟨p, hp, rfl⟩ := List.mem_map.mp hT
  exact hO p hp
/-- an error of another class is not what a clause names -/
theorem exm_no {K : PySem.W.Frag} {S C : Addr} (sub : PySem.W.subIn K (.ref C) (.type "BaseException") = some true) (is : PySem.W.isClsIn K C = true) (ty : PySem.W.typeIn K (.ref C) = some (.type "type")) (own : PySem.W.subIn K (.ref S) (.ref C) = some false) :
    PySem.W.exmOne K (.ref S) (.ref C) = some false := by
  have is' : (PySem.W.clsIn K C).isSome = true := is
  unfold PySem.W.exmOne PySem.W.kitCls
  simp only [sub, is', ty, own, beq_self_eq_true, Bool.and_self, if_true]
end Vf

set_option Elab.async false
set_option linter.all false
set_option maxRecDepth 100000
set_option maxHeartbeats 4000000
namespace Vf
open PySem PySem.Spec PyProof.Rows L2
section
variable {X : Cx}
/-! ### rpartition -/
theorem mt_rpartV : MtR X "str.rpartition" (fun x xs H Q => ∃ a b, x = .str a ∧ xs = [.str b] ∧ (b.length == 0) = false ∧ a.length ≤ sizeLine ∧
    ∀ p, H p = none → Q (.ref p) (upd H p (.tup [.str (Txt.rpartition a b).1, .str (Txt.rpartition a b).2.1, .str (Txt.rpartition a b).2.2]))) := by
  intro pins s σ H x xs v us Q I rx rs ⟨a, b, e1, e2, hb, hz, h⟩
  subst e1
  subst e2
  obtain ⟨t, rfl⟩ := rx
  obtain ⟨u1, rfl, r1⟩ := vals1 rs
  obtain ⟨u, rfl⟩ := r1
  refine call_meets F.slot_str_rpartition (typeIs_str _ _ _) F.entry_str_rpartition (F.args_str_rpartition_2 _ _) (meets_str_rpartition a b t u hb hz) ?_
  unfold Txt.rpartition at h
  revert h
  cases Builtin.Str.lastOccurrence a b 0 a.length with
  | none => intro h; exact laid_parts I h
  | some i => intro h; exact laid_parts I h
theorem pe_rpart {o e : Expr} {to te : TE} {apos pos : Pos} (ho : PE X o to) (he : PE X e te) (hs : starEach [e] X.env = [(false, eval e X.env)] := by rfl) (hbase : attributeBase o "rpartition" X.env (eval o X.env) = eval o X.env := by rfl) (hline : (apos.endLine == pos.line) = true := by rfl) :
    PE X (.Call (.Attribute o "rpartition" apos) [e] [] pos) (tM1 (fun x xs H Q => ∃ a b, x = .str a ∧ xs = [.str b] ∧ (b.length == 0) = false ∧ a.length ≤ sizeLine ∧
    ∀ p, H p = none → Q (.ref p) (upd H p (.tup [.str (Txt.rpartition a b).1, .str (Txt.rpartition a b).2.1, .str (Txt.rpartition a b).2.2]))) to te) :=
  pe_m1 F.slot_str_rpartition F.type_str_rpartition mt_rpartV ho he hs hbase hline
/-! ### d.update(e) -/
theorem mt_updV : MtR X "dict.update" (fun x xs H Q => ∃ (a b : Addr) (kvs more : List (Key × V)), x = .ref a ∧ xs = [.ref b] ∧ a ≠ b ∧ H a = some (.dK kvs) ∧ Rd H b (.dK more) ∧ kvs.length + more.length ≤ 1000 ∧ Q .non (upd H a (.dK (mergeK kvs more)))) := by
  intro pins s σ H x xs v us Q I rx rs ⟨a, b, kvs, more, e1, e2, ne, ha, hb, hl, q⟩
  subst e1
  subst e2
  cases rx
  obtain ⟨u1, rfl, r1⟩ := vals1 rs
  cases r1
  obtain ⟨z, hd, vs, rel, dd⟩ := dk_of I.hok ha
  obtain ⟨z2, lo, vs2, rel2, dd2⟩ := dk_rd I.hok hb
  have l1 := rel.length
  have l2 := rel2.length
  have big : (1000 : Nat) ≤ sizeLine := by rw [sizeLine_eq]; decide
  refine call_meetsIn PySem.F.slot_dict_update dd.typeIs PySem.F.entry_dict_update (PySem.F.args_dict_update_2 _ _) (meets_dict_update (mixKind X.prog X.w) a b ne lo) ⟨vs, vs2, dd, dd2, by omega, fun h' d1 d2 hs => ?_⟩
  have he : ∃ q, h'.get? a = some q := let ⟨q, _, _, hq, _⟩ := d1; ⟨q, hq⟩
  have hz1 : (mergeK kvs more).length ≤ sizeLine := by
    have := length_mergeK more kvs
    omega
  exact ⟨.non, _, d_write (t' := s.toks) I (by rw [ha]; exact True.intro) hs he (dk_new hz1 hd (rel2.merge rel) d1), rfl, q⟩
/-! ### d.items() -/
theorem mt_itemsK : MtR X "dict.items" (fun x xs H Q => ∃ (a : Addr) (kvs : List (Key × V)), x = .ref a ∧ xs = [] ∧ H a = some (.dK kvs) ∧ ∀ p, H p = none → Q (.ref p) (upd H p (DX.itemsO p a))) := by
  intro pins s σ H x xs v us Q I rx rxs ⟨a, kvs, e1, e2, ha, q⟩
  subst e1
  subst e2
  cases rx
  cases rxs
  obtain ⟨z, hd, vs, rel, o, es, ep, ho, hx, hdat, _⟩ := dk_of I.hok ha
  refine DT.callItems (es := es) (ep := ep) hd ⟨o, ho, hx, hdat⟩ ?_
  have hf : H s.heap.objs.size = none := I.hok.fresh (Nat.le_refl _)
  exact ⟨.ref s.heap.objs.size, upd H s.heap.objs.size (DX.itemsO s.heap.objs.size a), I.laid (t' := s.toks) (fun b u e => Heap.get?_push_of_some _ e) (Nat.le_refl _) (DX.itemsO_ok (Heap.get?_push_size _ rfl)), rfl, q _ hf⟩
/-! ### sorted(d.items()) of a dict of texts -/
theorem pget1 {α β : Type} {F : α → β → Prop} : ∀ {l : List α} {m : List β} {j : Nat} {x : α}, Paired F l m → l[j]? = some x → ∃ y, m[j]? = some y ∧ F x y
  | _, _, 0, _, .cons h _, e => by
    simp at e
    subst e
    exact ⟨_, rfl, h⟩
  | _, _, j + 1, _, .cons _ t, e => by
    obtain ⟨y, a, b⟩ := pget1 t (j := j) (by simpa using e)
    exact ⟨y, by simpa using a, b⟩
theorem refs_of {l : List Addr} : ∀ {us : List Value}, Vals (l.map V.ref) us → us = l.map Value.ref := by
  induction l with
  | nil =>
    intro us h
    cases h
    rfl
  | cons x r ih =>
    intro us h
    cases h with
    | cons a b =>
      cases a
      rw [ih b] <;> rfl
theorem call_sortedIt (hcalm : X.calm = true) : CallR X (.builtin "sorted") fun xs H Q => ∃ (p a : Addr) (val : Str → V) (ns : List Str), xs = [.ref p] ∧ H p = some (DX.itemsO p a) ∧ H a = some (.dK (ns.map fun n => ((.inr n : Key), val n))) ∧ ns.Nodup ∧
    ∀ (ys : List Str) (ps : List Addr) (q : Addr) (H' : Hp), ys.Perm ns → ys.Pairwise (fun x y => ltS y x = false) → (∀ b o, H b = some o → H' b = some o) → H q = none → H' q = some (.lst (ps.map V.ref)) → Paired (fun p n => H' p = some (.tup [.str n, val n])) ps ys → Q (.ref q) H' := by
  rintro pins s σ H xs us Q I hv ⟨p, a, val, ns, rfl, hp, ha, nd, k⟩
  obtain ⟨u, rfl, hu⟩ := vals1 hv
  cases hu
  have view : s.heap.IsItemsView p a := (show ObjOk X.prog X.w H s.heap p (DX.itemsO p a) from I.hok p _ hp).1
  obtain ⟨z, hd, vs, rel, o, es, ep, ho, hx, hdat, hkk, hpp, hnn⟩ := dk_of I.hok ha
  have l1 : ns.length = vs.length := by
    have := rel.length
    rw [List.length_map] at this
    exact this
  have l2 : es.size = vs.length := by
    rw [← hpp.length]
    simp
  have nz : ns.length ≤ sizeLine := by
    rw [List.length_map] at z
    exact z
  have hh : X.A.handled = none := I.ok.hd hcalm
  refine DT.sortedI (es := es) (ep := ep) hh view ⟨o, ho, hx, hdat⟩ (by omega) fun h' tk as hk hlt hl hG => ?_
  have lak : as.length = ns.length := by omega
  have asnd : as.Nodup := List.Pairwise.imp (fun h => Nat.ne_of_lt h) hG.rise
  -- the pairs that were made
  have pr : ∀ (j : Nat) (b : Addr), as[j]? = some b → ∃ (n : Str) (tk : Tok) (y : Value), ns[j]? = some n ∧ RelV (val n) y ∧ h'.get? b = some { cls := .type "tuple", data := .seq #[Value.str n tk, y] } := by
    intro j b hj
    obtain ⟨en, he, hg⟩ := hG.pairs j b hj
    have lj : j < ns.length := by
      rw [← lak]
      exact (List.getElem?_eq_some_iff.mp hj).1
    have hn : ns[j]? = some ns[j] := List.getElem?_eq_getElem lj
    have hm : (ns.map fun n => ((.inr n : Key), val n))[j]? = some (.inr ns[j], val ns[j]) := by rw [List.getElem?_map, hn] <;> rfl
    obtain ⟨q, hq, e1, e2⟩ := pget1 rel hm
    obtain ⟨qk, qv⟩ := q
    obtain ⟨a1, a2⟩ := hpp.get? (e := en) (by rw [Array.getElem?_toList]; exact he) hq
    have e1 : (.inr ns[j] : Key) = qk := e1
    subst e1
    rcases keyIs_shape (show keyIs (.inr ns[j]) en.key = true from a1) with ⟨i, t, e, _⟩ | ⟨x, t, e, e3⟩
    · cases e
    · cases e
      rw [e3, a2] at hg
      exact ⟨_, t, qv, hn, e2, hg⟩
  have hob : (h'.push { cls := .type "list", data := .seq (as.map Value.ref).toArray }).get? h'.objs.size = some (seqObj "list" (as.map Value.ref).toArray 0) := Heap.get?_push_size _ rfl
  have kb : ∀ b o, s.heap.get? b = some o → (h'.push { cls := .type "list", data := .seq (as.map Value.ref).toArray }).get? b = some o := fun b o e => Heap.get?_push_of_some _ (hk b o e)
  have ne0 : ∀ b o, h'.get? b = some o → b ≠ h'.objs.size := fun b o e => Nat.ne_of_lt (Heap.lt_size e)
  generalize hh2 : h'.push { cls := .type "list", data := .seq (as.map Value.ref).toArray } = h2 at hob kb ⊢
  have ka : ∀ b o, h'.get? b = some o → h2.get? b = some o := fun b o e => by rw [← hh2]; exact Heap.get?_push_of_some _ e
  let kf : Addr → Str := fun b => ns.getD (as.idxOf b) ""
  have kfj : ∀ (j : Nat) (b : Addr), as[j]? = some b → as.idxOf b = j := fun j b hj => by
    have lj := (List.getElem?_eq_some_iff.mp hj).1
    have hb : as[j] = b := (List.getElem?_eq_some_iff.mp hj).2
    rw [← hb]
    exact asnd.idxOf_getElem j lj
  have kfn : ∀ (j : Nat) (b : Addr) (n : Str), as[j]? = some b → ns[j]? = some n → kf b = n := fun j b n hj hn => by
    show ns.getD (as.idxOf b) "" = n
    rw [kfj j b hj, List.getD_eq_getElem?_getD, hn] <;> rfl
  have mem : ∀ b ∈ as, ∃ j n, as[j]? = some b ∧ ns[j]? = some n ∧ kf b = n := fun b hb => by
    obtain ⟨j, hj⟩ := List.mem_iff_getElem?.mp hb
    obtain ⟨n, _, _, hn, _⟩ := pr j b hj
    exact ⟨j, n, hj, hn, kfn j b n hj hn⟩
  have tsS : ∀ b ∈ as, IsTS h2 b (kf b) := fun b hb => by
    obtain ⟨j, hj⟩ := List.mem_iff_getElem?.mp hb
    obtain ⟨n, tk, y, hn, _, hg⟩ := pr j b hj
    rw [kfn j b n hj hn]
    exact ⟨_, tk, y, 0, ka _ _ hg, rfl, rfl⟩
  have inj : ∀ b ∈ as, ∀ c ∈ as, kf b = kf c → b = c := fun b hb c hc e => by
    obtain ⟨j, n, h1, h2, h3⟩ := mem b hb
    obtain ⟨j', n', h1', h2', h3'⟩ := mem c hc
    have : n = n' := by rw [← h3, ← h3', e]
    subst this
    have ej : j = j' := (List.getElem?_inj (List.getElem?_eq_some_iff.mp h2).1 nd).mp (h2.trans h2'.symm)
    subst ej
    rw [h1] at h1'
    exact Option.some.inj h1'
  let kv : Value → Str := fun v => match v with
    | .ref t => kf t
    | _ => ""
  have lz : (as.map Value.ref).length ≤ sizeLine := by
    rw [List.length_map, lak]
    exact nz
  refine wpAny_call_entry slot_list_sort ⟨_, hob, rfl⟩ entry_list_sort ?_ (args_list_sort _)
  refine SrtO.list_sort_ord (swo_ltS kv) (vs := as.map Value.ref) (n := 0) hob lz (fun h2' => ?_) fun out h1 h3 => ?_
  · intro h3 keep
    have ts3 : ∀ t ∈ as, IsTS h3 t (kf t) := fun t hm => (tsS t hm).at fun o e => by
      obtain ⟨j, n, g1, g2, _⟩ := mem t hm
      obtain ⟨_, _, _, _, _, hg⟩ := pr j t g1
      exact keep t o (ne0 _ _ hg) e
    obtain ⟨fs, f1, f2, f3⟩ := firstsS ts3
    refine ⟨tuples' true, fun Q E hq => ?_, fun p q hm hm' => ?_⟩
    · refine PySem.W.kat_kind (T := .type "str") f1 (by rw [List.length_map] at h2'; omega) (fun f hm => ?_) (by rfl) ?_
      · obtain ⟨x, t, rfl⟩ := f3 f hm
        exact PySem.W.Looks.now
      · have e : (Value.type "str" != Value.type "tuple") = true := by first | decide +kernel | rfl | decide
        rw [e]
        exact hq
    · obtain ⟨t1, m1, e1⟩ := List.mem_map.mp hm
      obtain ⟨t2, m2, e2⟩ := List.mem_map.mp hm'
      refine (show wpAny _ _ (keyLt' (tuples' true) p.1 q.1) (fun r s' => s' = _ ∧ r = ltS (kv p.1) (kv q.1)) (fun _ _ => False) _ from ?_)
      rw [← e1, ← e2]
      exact cmp_ts (s := { s with heap := h3, toks := tk }) (ts3 t1 m1) (ts3 t2 m2) (inj t1 m1 t2 m2)
  · refine ⟨.none, rfl, ?_⟩
    obtain ⟨ts, tp, et⟩ : ∃ ts : List Addr, ts.Perm as ∧ out = ts.map Value.ref := by
      have all : ∀ y ∈ out, ∃ z, y = Value.ref z := fun y hy => by
        obtain ⟨z, _, e⟩ := List.mem_map.mp (h3.perm.mem_iff.mp hy)
        exact ⟨z, e.symm⟩
      have pm := h3.perm
      have go : ∀ l : List Value, (∀ y ∈ l, ∃ z, y = Value.ref z) → ∃ ts : List Addr, l = ts.map Value.ref := fun l => by
        induction l with
        | nil => exact fun _ => ⟨[], rfl⟩
        | cons y r ih =>
          intro h
          obtain ⟨z, rfl⟩ := h y List.mem_cons_self
          obtain ⟨l, rfl⟩ := ih fun y hy => h y (List.mem_cons_of_mem _ hy)
          exact ⟨z :: l, rfl⟩
      obtain ⟨ts, rfl⟩ := go out all
      refine ⟨ts, ?_, rfl⟩
      have := pm.map fun v : Value => match v with | .ref z => z | _ => 0
      simpa [List.map_map, Function.comp_def] using this
    subst et
    have hs : ts.Pairwise (fun x y => ltS (kf y) (kf x) = false) := List.pairwise_map.mp h1
    have tnd : ts.Nodup := tp.nodup_iff.mpr asnd
    have kF : ∀ b o, b ≠ h'.objs.size → h2.get? b = some o → (sortedHeap h2 h'.objs.size (as.map Value.ref) (ts.map Value.ref).toArray).get? b = some o := fun b o hb e => (PyProof.Rows.sortedHeap_old hb (Heap.lt_size e)).trans e
    have kS : ∀ b o, s.heap.get? b = some o → (sortedHeap h2 h'.objs.size (as.map Value.ref) (ts.map Value.ref).toArray).get? b = some o := fun b o e => kF b o (ne0 _ _ (hk b o e)) (kb b o e)
    obtain ⟨eF, heF⟩ := PyProof.Rows.sortedHeap_at (vs := as.map Value.ref) (out := (ts.map Value.ref).toArray) hob
    have I1 : Inv X pins σ H { s with heap := sortedHeap h2 h'.objs.size (as.map Value.ref) (ts.map Value.ref).toArray, toks := tk } := I.kept (t' := tk) kS
    have hn0 : H h'.objs.size = none := I.hok.fresh (Nat.le_of_lt hlt)
    have hlen : (ts.map V.ref).length ≤ sizeLine := by
      rw [List.length_map, tp.length_eq, lak]
      exact nz
    have rv : Vals (ts.map V.ref) (ts.map Value.ref) := vals_maps (fun z : Addr => V.ref z) (fun z => Value.ref z) ts fun _ _ => rfl
    have I2 : Inv X pins σ (upd H h'.objs.size (.lst (ts.map V.ref))) { s with heap := sortedHeap h2 h'.objs.size (as.map Value.ref) (ts.map Value.ref).toArray, toks := tk } :=
      I1.take (h' := sortedHeap h2 h'.objs.size (as.map Value.ref) (ts.map Value.ref).toArray) (t' := tk) (fun b ob _ e => e) (I.fpOk (Nat.le_of_lt hlt) hn0) ⟨hlen, ts.map Value.ref, eF, rv, heF⟩
    obtain ⟨H2, I3, g, qt⟩ := DX.takeT (P := fun b vs => vs = [.str (kf b), val (kf b)]) I as _ I2 asnd fun b hb => by
      obtain ⟨j, hj⟩ := List.mem_iff_getElem?.mp hb
      obtain ⟨n, tk', y, hn, ry, hg⟩ := pr j b hj
      have hbl : s.heap.objs.size ≤ b := Nat.le_of_lt (hG.above b hb)
      rw [kfn j b n hj hn]
      refine ⟨hbl, ?_, _, rfl, fun H3 => ⟨(by rw [sizeLine_eq]; show 2 ≤ 16777216; omega), [Value.str n tk', y], .cons ⟨tk', rfl⟩ (.cons ry .nil), ⟨_, kF _ _ (ne0 _ _ hg) (ka _ _ hg), rfl, 0, rfl⟩⟩⟩
      rw [upd_ne (ne0 _ _ hg)]
      exact I.hok.fresh hbl
    have gr : ∀ b o, H b = some o → H2 b = some o := fun b o e => g b o (by rw [upd_ne (ne_of_none e hn0)]; exact e)
    have yp : (ts.map kf).Perm ns := by
      have : as.map kf = ns := by
        refine List.ext_getElem? fun j => ?_
        rw [List.getElem?_map]
        cases hj : as[j]? with
        | none =>
          have : ns[j]? = none := by
            rw [List.getElem?_eq_none_iff] at hj ⊢
            omega
          rw [this] <;> rfl
        | some b =>
          obtain ⟨n, _, _, hn, _⟩ := pr j b hj
          rw [hn]
          show some (kf b) = some n
          rw [kfn j b n hj hn]
      rw [← this]
      exact tp.map kf
    refine ⟨.ref h'.objs.size, H2, I3, rfl, k (ts.map kf) ts _ H2 yp ?_ gr hn0 (g _ _ upd_same) ?_⟩
    · exact List.pairwise_map.mpr hs
    · have go : ∀ l : List Addr, (∀ b ∈ l, b ∈ as) → Paired (fun p n => H2 p = some (.tup [.str n, val n])) l (l.map kf) := fun l => by
        induction l with
        | nil => exact fun _ => .nil
        | cons b r ih =>
          intro h
          refine .cons ?_ (ih fun c hc => h c (List.mem_cons_of_mem _ hc))
          obtain ⟨vs, e, hH⟩ := qt b (h b List.mem_cons_self)
          rw [hH, e]
      exact go ts fun b hb => tp.mem_iff.mp hb
end
/-! ### sorted(d, key=len) -/
def tSortLen (t : TE) : TE := fun σ H Q => tCons t tNil σ H fun xs H1 => ∃ (a : Addr) (kvs : List (Key × V)) (ns : List Str), xs = [.ref a] ∧ Rd H1 a (.dK kvs) ∧ kvs.map (·.1) = ns.map Sum.inr ∧ (∀ n ∈ ns, n.length ≤ 1000) ∧
  ∀ (p : Addr), H1 p = none → Q (.ref p) (upd H1 p (.lst ((ns.mergeSort fun a b : Str => decide ((a.length : Int) ≤ b.length)).map V.str)))
theorem strs_is {vs : List Value} {ns : List Str} (h : PySem.W.EachIs (fun v x => ∃ t, v = Value.str x t) vs ns) : Vals (ns.map V.str) vs := by
  induction h with
  | nil => exact .nil
  | cons a b ih => exact .cons a ih
theorem pe_sortedLen {X : Cx} {e : Expr} {t : TE} {p p2 p3 pos : Pos} (hcalm : X.calm = true) (hu : X.A.units + 64 < cLine) (gs : Gl X "sorted") (ms : X.mg "sorted" = none) (gl : Gl X "len") (ml : X.mg "len" = none) (ha : PA X [e] (tCons t tNil))
    (hhe : backTo pos (starEach [e] X.env) = (false, eval e X.env) :: backTo pos (starEach [] X.env) := by rfl) (hpl : (backTo pos (starEach [e] X.env)).any (·.1) = false := by rfl)
    (hall : (backToKw pos (keywordEach [⟨some "key", .Name "len" p2, p3⟩] X.env)).all (·.1.isSome) = true := by rfl) (hnone : (backToKw pos (keywordEach [⟨some "key", .Name "len" p2, p3⟩] X.env)).any (·.1.isNone) = false := by rfl)
    (hks : (backToKw pos (keywordEach [⟨some "key", .Name "len" p2, p3⟩] X.env)).filterMap (·.1) = [("key" : Str)] := by rfl) :
    PE X (.Call (.Name "sorted" p) [e] [⟨some "key", .Name "len" p2, p3⟩] pos) (tSortLen t) := by
  refine ⟨fun pins s σ H Q I h => ?_⟩
  refine wpAny_Call_Name_kw (ld_blt (u := .builtin "sorted") I gs ms (by rfl) ?_ (by decide +kernel))
  refine PyProof.Rows.callWith_kw (thn (ha.run pos pins s σ H _ I h) fun us s1 ⟨vs, H1, I1, r1, q1⟩ => ?_) hhe hpl hall hnone
  show wpAny _ _ (evalAll [(do let v ← eval (.Name "len" p2) X.env; standAt pos; pure v)]) _ _ s1
  refine wpAny_evalAll_cons (wpAny_bind (ld_blt (u := .builtin "len") I1 gl ml (by rfl) (wpAny_bind (wpAny_standAt (wpAny_pure (wpAny_evalAll_nil ?_)))) (by decide +kernel)))
  rw [hks]
  obtain ⟨a, kvs, ns, rfl, hR, hk, hlen, q⟩ := q1
  obtain ⟨u, rfl, hu1⟩ := vals1 r1
  cases hu1
  obtain ⟨hn, hd, vs, hKV, hD⟩ := dk_rd I1.hok hR
  obtain ⟨ep, hA⟩ := hD.dictAt
  have lv : vs.length = kvs.length := by
    have := congrArg List.length hKV.keys
    rw [List.length_map, List.length_map] at this
    exact this.symm
  refine call_function_entry_kw kind_sorted plain_sorted entry_sorted (ksk_s1 _ _) ?_
  unfold Builtin.sorted
  refine wpAny_bind (m := checkCount "sorted" 1 1 _) (wpAny_pure ?_)
  refine wpAny_bind (PySem.W.kdu_collect (PySem.W.kdl_dict hd) (I1.ok.hd hcalm) hA (by rw [lv]; exact hn) fun h' tk acc hh hit => ?_)
  have la : acc.size = vs.length := hit.1
  have lk : ns.length = vs.length := by
    have := congrArg List.length hk
    rw [List.length_map, List.length_map] at this
    omega
  have la2 : acc.toList.length = ns.length := by rw [Array.length_toList, la, lk]
  have each : PySem.W.EachIs (fun v x => ∃ t, v = Value.str x t) acc.toList ns := by
    have go : ∀ (l : List Value) (m : List Str), l.length = m.length → (∀ j v x, l[j]? = some v → m[j]? = some x → ∃ t, v = Value.str x t) → PySem.W.EachIs (fun v x => ∃ t, v = Value.str x t) l m := fun l => by
      induction l with
      | nil =>
        intro m hl _
        cases m with
        | nil => exact .nil
        | cons _ _ => simp at hl
      | cons v r ih =>
        intro m hl hx
        cases m with
        | nil => simp at hl
        | cons x m => exact .cons (hx 0 v x rfl rfl) (ih m (by simpa using hl) fun j v x h1 h2 => hx (j + 1) v x (by simpa using h1) (by simpa using h2))
    refine go _ _ la2 fun j v x h1 h2 => ?_
    rw [Array.getElem?_toList] at h1
    obtain ⟨key, y, g1, g2⟩ := hit.2 j v h1
    have e1 : (vs.map (·.1))[j]? = some key := by rw [List.getElem?_map, g1] <;> rfl
    rw [← hKV.keys, hk, List.getElem?_map, h2] at e1
    cases e1
    rcases keyIs_shape (show keyIs (Sum.inr x) v = true from g2) with ⟨i', t, e, _⟩ | ⟨_, t, e, e3⟩
    · cases e
    · cases e
      exact ⟨t, e3⟩
  have lz : acc.toList.length ≤ sizeLine := by
    rw [Array.length_toList, la, lv]
    exact hn
  refine wpAny_bind (wpAny_newList ?_ lz)
  have hp := Heap.get?_push_size h' (o := { cls := .type "list", data := .seq acc.toList.toArray }) rfl
  refine wpAny_bind (wpAny_holding ?_)
  refine PySem.W.list_sort_key_data (b := false) (β := Str) (fun x => .int x.length) hp each (PySem.W.AllAlike.of fun _ _ => rfl) (PySem.W.Sortable.others fun x => ⟨(fun z => nomatch z), fun xs z => nomatch z⟩) (by rw [← la2]; exact lz) (fun x _ => ?_) (ksk_l1 _ _) (ksk_t4 _ _) (fun v x hx mx h3 tk3 kp => ?_) fun out c h3 tk3 kp ho hl2 eo => ?_
  · have hd : (PyData.int (x.length : Nat)).depth = 0 := rfl
    rw [hd]
    show X.A.units + 1 + 1 + 0 < cLine
    omega
  · obtain ⟨t, rfl⟩ := hx
    have lx := hlen x mx
    refine PySem.P.len_str (by omega) ?_
    exact ⟨h3, _, rfl, fun _ _ e => e, .int _ _⟩
  · have e0 := PySem.W.dataLe_int (β := Str) fun x : Str => (x.length : Int)
    rw [e0] at eo
    refine wpAny_pure ⟨_, rfl, ?_⟩
    have vo := strs_is eo
    have I2 := I1.kept (t' := tk) hh
    refine ⟨.ref h'.objs.size, _, I2.laid (h' := h3) (t' := tk3) (a := h'.objs.size) (o := .lst ((ns.mergeSort fun a b : Str => decide ((a.length : Int) ≤ b.length)).map V.str)) (fun b u hb => kp b u (Nat.ne_of_lt (Heap.lt_size hb)) (Heap.get?_push_of_some _ hb)) (Nat.le_refl _) ⟨?_, out, c, vo, ho⟩, rfl, q _ (I2.hok.fresh (Nat.le_refl _))⟩
    rw [List.length_map, (List.mergeSort_perm _ _).length_eq, lk, lv]
    exact hn
end Vf

set_option Elab.async false
set_option linter.all false
set_option maxRecDepth 100000
set_option maxHeartbeats 4000000
/-! list(zip(l, t)) of a list and a tuple -/
namespace Vf
open PySem PySem.Spec PyProof.Rows L2
theorem isLst_at {h h' : Heap} {a : Addr} {xs : Array Value} (x : h.IsList a xs) (k : ∀ o, h.get? a = some o → h'.get? a = some o) : h'.IsList a xs := x.at k
theorem isLstE {h h' : Heap} {it a : Addr} {xs : Array Value} (x : h.IsList a xs) (k : Heap.SameBut it h h') (n : a ≠ it) : h'.IsList a xs := isLst_at x fun o e => k.extBut _ _ n e
theorem isLstIE {h h' : Heap} {it c a : Addr} {i : Nat} (x : h.IsListIter c a i) (k : Heap.SameBut it h h') (n : c ≠ it) : h'.IsListIter c a i := x.at fun o e => k.extBut _ _ n e
section
variable {prog : Program} {w : World} {A : Around} {E : Value → Shared → Prop} {s : Shared}
/-- ahead of draw i, the tuple at T went out first -/
structure ZHl (h : Heap) (z TI TO i1 i2 a b : Addr) (xs ys : Array Value) (i : Nat) (T : Addr) : Prop where
  zp : ∃ f, IsZipHeld h z TI TO T f
  al : ∃ o, h.get? T = some o
  ti : IsPair h TI (.ref i1) (.ref i2)
  j1 : h.IsListIter i1 a i
  j2 : h.IsTupleIter i2 b i
  t1 : h.IsList a xs
  t2 : h.IsTuple b ys
theorem zipM_item {z TI TO T i1 i2 a b : Addr} {i : Nat} {xs ys : Array Value} {x y : Value} {Q : Value → Shared → Prop} (D : ZipApart z TI TO i1 i2 a b) (Z : ZHl s.heap z TI TO i1 i2 a b xs ys i T) (hx : xs[i]? = some x) (hy : ys[i]? = some y)
    (na : a ≠ z ∧ a ≠ i1 ∧ a ≠ i2) (nb : b ≠ z ∧ b ≠ i1 ∧ b ≠ i2) (nT : T ≠ z ∧ T ≠ i1 ∧ T ≠ i2)
    (q : ∀ h', ZHl h' z TI TO i1 i2 a b xs ys (i + 1) T → IsPair h' s.heap.objs.size x y → h'.objs.size = s.heap.objs.size + 1 → (∀ c o, c ≠ z → c ≠ i1 → c ≠ i2 → s.heap.get? c = some o → h'.get? c = some o) → Q (.ref s.heap.objs.size) { s with heap := h' }) :
    wpAny (model prog w) A (Builtin.«zip.__next__» ⟨[.ref z], []⟩) (fun fin s' => ∃ v, fin = .done (.ret v) ∧ Q v s') E s := by
  obtain ⟨⟨f, hz⟩, ⟨oT, hT⟩, hTI, h1, h2, ht1, ht2⟩ := Z
  refine (show wpAny _ _ (field (.ref z) 2 >>= _) _ _ _ from wpAny_bind (wpAny_field hz rfl (x := .bool false) rfl ?_))
  refine (show wpAny _ _ (field (.ref z) 3 >>= _) _ _ _ from wpAny_bind (wpAny_field hz rfl (x := .ref TI) rfl ?_))
  refine wpAny_bind (wpAny_seqItems hTI rfl ?_)
  refine (show wpAny _ _ (Builtin.SmallTypes.ownedTupleIsFree (.ref z) >>= _) _ _ _ from wpAny_bind (wpAny_tupleHeld_zip hz hT fun h3 hz3 s3 => ?_))
  simp only [Bool.false_eq_true, if_false]
  rw [← Array.forIn_toList]
  simp only [List.forIn_cons, List.forIn_nil]
  refine wpAny_bind (wpAny_bind (wpAny_bind (wpAny_holding ?_)))
  refine (show wpAny _ _ (Builtin.SmallTypes.nextOf (.ref i1) >>= _) _ _ _ from wpAny_bind (wpAny_nextOf_list_item (s := { s with heap := h3 }) (isLstIE h1 s3 D.i1z) (isLstE ht1 s3 na.1) hx fun h4 g4 s4 => wpAny_pure (wpAny_pure ?_)))
  refine wpAny_bind (wpAny_bind (wpAny_holding ?_))
  have g2 : h4.IsTupleIter i2 b i := isTupIE (isTupIE h2 s3 D.i2z) s4 (Ne.symm D.i12)
  refine (show wpAny _ _ (Builtin.SmallTypes.nextOf (.ref i2) >>= _) _ _ _ from wpAny_bind (next_tup_item (s := { s with heap := h4 }) g2 (isTupE (isTupE ht2 s3 nb.1) s4 nb.2.1) hy fun h5 g5 s5 => wpAny_pure (wpAny_pure (wpAny_pure ?_))))
  refine (show wpAny _ _ (newTuple [x, y] >>= _) _ _ _ from wpAny_bind (wpAny_newTuple ?_))
  have sz : h5.objs.size = s.heap.objs.size := by rw [s5.1, s4.1, s3.1]
  have hz5 : IsZipHeld h5 z TI TO T true := s5.extBut _ _ (Ne.symm D.i2z) (s4.extBut _ _ (Ne.symm D.i1z) hz3)
  have kp : ∀ c o, c ≠ z → c ≠ i1 → c ≠ i2 → s.heap.get? c = some o → h5.get? c = some o := fun c o c1 c2 c3 e => s5.extBut _ _ c3 (s4.extBut _ _ c2 (s3.extBut _ _ c1 e))
  have j1 : h5.IsListIter i1 a (i + 1) := isLstIE g4 s5 D.i12
  have pu : ∀ c o, h5.get? c = some o → (h5.push { cls := .type "tuple", data := .seq #[x, y] }).get? c = some o := fun c o e => Heap.get?_push_of_some _ e
  have new : IsPair (h5.push { cls := .type "tuple", data := .seq #[x, y] }) h5.objs.size x y := Heap.get?_push_size _ rfl
  have sz2 : (h5.push { cls := .type "tuple", data := .seq #[x, y] }).objs.size = h5.objs.size + 1 := Heap.size_push ..
  refine wpAny_pure ⟨_, rfl, (show Q (.ref h5.objs.size) _ from ?_)⟩
  rw [sz] at new sz2 ⊢
  refine q _ ⟨⟨true, pu _ _ hz5⟩, ⟨oT, pu _ _ (kp _ _ nT.1 nT.2.1 nT.2.2 hT)⟩, pu _ _ (kp _ _ D.TIz D.TIi1 D.TIi2 hTI), j1.at fun o e => pu _ _ e, g5.at fun o e => pu _ _ e,
    isLst_at ht1 fun o e => pu _ _ (kp _ _ na.1 na.2.1 na.2.2 e), isTup_at ht2 fun o e => pu _ _ (kp _ _ nb.1 nb.2.1 nb.2.2 e)⟩ new sz2 fun c o c1 c2 c3 e => pu _ _ (kp c o c1 c2 c3 e)
theorem zipM_end {z TI TO T i1 i2 a b : Addr} {i : Nat} {xs ys : Array Value} {Q : Fin → Shared → Prop} (hh : A.handled = none) (D : ZipApart z TI TO i1 i2 a b) (Z : ZHl s.heap z TI TO i1 i2 a b xs ys i T) (hx : xs[i]? = none) (na : a ≠ z)
    (q : ∀ h' e, (∀ c o, c ≠ z → c ≠ i1 → c ≠ i2 → s.heap.get? c = some o → h'.get? c = some o) → (∃ o, h'.get? e = some o ∧ o.cls = .type "StopIteration") → E (.ref e) { s with heap := h' }) :
    wpAny (model prog w) A (Builtin.«zip.__next__» ⟨[.ref z], []⟩) Q E s := by
  obtain ⟨⟨f, hz⟩, ⟨oT, hT⟩, hTI, h1, h2, ht1, ht2⟩ := Z
  refine (show wpAny _ _ (field (.ref z) 2 >>= _) _ _ _ from wpAny_bind (wpAny_field hz rfl (x := .bool false) rfl ?_))
  refine (show wpAny _ _ (field (.ref z) 3 >>= _) _ _ _ from wpAny_bind (wpAny_field hz rfl (x := .ref TI) rfl ?_))
  refine wpAny_bind (wpAny_seqItems hTI rfl ?_)
  refine (show wpAny _ _ (Builtin.SmallTypes.ownedTupleIsFree (.ref z) >>= _) _ _ _ from wpAny_bind (wpAny_tupleHeld_zip hz hT fun h3 hz3 s3 => ?_))
  simp only [Bool.false_eq_true, if_false]
  rw [← Array.forIn_toList]
  simp only [List.forIn_cons, List.forIn_nil]
  refine wpAny_bind (wpAny_bind (wpAny_bind (wpAny_holding ?_)))
  exact (show wpAny _ _ (Builtin.SmallTypes.nextOf (.ref i1) >>= _) _ _ _ from wpAny_bind (wpAny_nextOf_list_end (s := { s with heap := h3 }) hh (isLstIE h1 s3 D.i1z) (isLstE ht1 s3 na) hx fun h4 e s4 he => q h4 e (fun c o c1 c2 _ x => s4 _ _ c2 (s3.extBut _ _ c1 x)) he))
theorem zipM_next {z TI TO T i1 i2 a b : Addr} {i : Nat} {xs ys : Array Value} {x y : Value} {Q : Option Value → Shared → Prop} (D : ZipApart z TI TO i1 i2 a b) (Z : ZHl s.heap z TI TO i1 i2 a b xs ys i T) (hx : xs[i]? = some x) (hy : ys[i]? = some y)
    (na : a ≠ z ∧ a ≠ i1 ∧ a ≠ i2) (nb : b ≠ z ∧ b ≠ i1 ∧ b ≠ i2) (nT : T ≠ z ∧ T ≠ i1 ∧ T ≠ i2)
    (q : ∀ h', ZHl h' z TI TO i1 i2 a b xs ys (i + 1) T → IsPair h' s.heap.objs.size x y → h'.objs.size = s.heap.objs.size + 1 → (∀ c o, c ≠ z → c ≠ i1 → c ≠ i2 → s.heap.get? c = some o → h'.get? c = some o) → Q (some (.ref s.heap.objs.size)) { s with heap := h' }) :
    wpAny (model prog w) A (pyNext (.ref z)) Q E s := by
  have ty : s.TypeIs (.ref z) "zip" := by
    obtain ⟨f, hz⟩ := Z.zp
    exact ⟨_, hz, rfl⟩
  unfold pyNext
  refine wpAny_bind (wpAny_attempt (wpAny_callSpecial?_slot (name := Str.ofString "__next__") ty F.slot_zip_next ?_))
  exact wpAny_call_entry F.slot_zip_next ty F.entry_zip_next (zipM_item D Z hx hy na nb nT fun h' q1 q2 q3 q4 => wpAny_pure (q h' q1 q2 q3 q4)) (F.args_zip_next_1 _)
theorem zipM_over {z TI TO T i1 i2 a b : Addr} {i : Nat} {xs ys : Array Value} {Q : Option Value → Shared → Prop} (hh : A.handled = none) (D : ZipApart z TI TO i1 i2 a b) (Z : ZHl s.heap z TI TO i1 i2 a b xs ys i T) (hx : xs[i]? = none) (na : a ≠ z)
    (q : ∀ h', (∀ c o, c ≠ z → c ≠ i1 → c ≠ i2 → s.heap.get? c = some o → h'.get? c = some o) → Q none { s with heap := h' }) : wpAny (model prog w) A (pyNext (.ref z)) Q E s := by
  have ty : s.TypeIs (.ref z) "zip" := by
    obtain ⟨f, hz⟩ := Z.zp
    exact ⟨_, hz, rfl⟩
  unfold pyNext
  refine wpAny_bind (wpAny_attempt (wpAny_callSpecial?_slot (name := Str.ofString "__next__") ty F.slot_zip_next ?_))
  refine wpAny_call_entry F.slot_zip_next ty F.entry_zip_next (zipM_end hh D Z hx na fun h' e k he => ?_) (F.args_zip_next_1 _)
  obtain ⟨o, ho, hc⟩ := he
  exact wpAny_bind (wpAny_isInstance (T := "StopIteration") (b := true) ⟨o, ho, hc⟩ isSubtype_stop (wpAny_pure (q _ k)))
end
theorem ZHl.frame {h h' : Heap} {z TI TO i1 i2 a b S T m : Addr} {xs ys : Array Value} {i : Nat} (P : ZAp z TI TO i1 i2 a b S m) (Z : ZHl h z TI TO i1 i2 a b xs ys i T) (nT : T ≠ S) (k : ∀ c o, c ≠ S → h.get? c = some o → h'.get? c = some o) :
    ZHl h' z TI TO i1 i2 a b xs ys i T := by
  obtain ⟨⟨f, hz⟩, ⟨oT, hT⟩, hTI, h1, h2, ht1, ht2⟩ := Z
  obtain ⟨n1, n2, n3, n4, n5, n6⟩ := P.nS
  exact ⟨⟨f, k _ _ n1 hz⟩, ⟨oT, k _ _ nT hT⟩, k _ _ n2 hTI, h1.at fun o e => k _ _ n3 e, h2.at fun o e => k _ _ n4 e, isLst_at ht1 fun o e => k _ _ n5 e, isTup_at ht2 fun o e => k _ _ n6 e⟩
section
variable {prog : Program} {w : World} {A : Around} {s : Shared} {R : Result → Shared → Prop} {z TI TO i1 i2 a b S m : Addr} {xs ys : Array Value}
theorem loopM (hh : A.handled = none) (P : ZAp z TI TO i1 i2 a b S m) (le : xs.size = ys.size) (hn : xs.size ≤ sizeLine) (res : Value) {h0 : Heap}
    (q : ∀ h' acc c, (∀ c o, c < m → c ≠ S → c ≠ z → c ≠ i1 → c ≠ i2 → h0.get? c = some o → h'.get? c = some o) → h'.get? S = some { cls := .type "list", dict := none, data := .seq acc c, slots := #[] } →
      acc.toList = (List.range xs.size).map (fun j => Value.ref (m + j)) → PrsAt h' m xs ys xs.size → R (.ok (.ret res)) { s with heap := h' }) :
    ∀ (k i : Nat) (h : Heap) (c : Nat) (acc : Array Value), xs.size - i = k → 0 < i → i ≤ xs.size → ZHl h z TI TO i1 i2 a b xs ys i m → h.objs.size = m + i →
      (∀ c o, c < m → c ≠ S → c ≠ z → c ≠ i1 → c ≠ i2 → h0.get? c = some o → h.get? c = some o) → h.get? S = some { cls := .type "list", dict := none, data := .seq acc c, slots := #[] } →
      acc.toList = (List.range i).map (fun j => Value.ref (m + j)) → PrsAt h m xs ys i →
      codeAny (model prog w) A (.builtin "list.extend.loop" ⟨[.ref S, .ref z, res], []⟩) R { s with heap := h } := by
  obtain ⟨lz, l1, l2, lS⟩ := P.lt
  have nm : m ≠ z ∧ m ≠ i1 ∧ m ≠ i2 := ⟨Ne.symm (Nat.ne_of_lt lz), Ne.symm (Nat.ne_of_lt l1), Ne.symm (Nat.ne_of_lt l2)⟩
  have ns : z ≠ S := P.nS.1
  have far : ∀ {c : Addr} (l : c < m) (j : Nat), m + j ≠ c := fun {c} l j e => Nat.not_lt.mpr (Nat.le_add_right m j) (by rw [e]; exact l)
  intro k
  induction k with
  | zero =>
    intro i h c acc hk h0' hi Z sz kp hS ha pr
    have ei : i = xs.size := by omega
    subst ei
    refine codeAny_builtin PySem.F.entry_extend_loop ?_
    rw [Around.under_plainId PySem.F.plain_extend_loop _]
    refine (show wpAny _ A.in1 (pyNext (.ref z) >>= _) _ _ _ from wpAny_bind (zipM_over (s := { s with heap := h }) hh P.D Z (by simp) P.na.1 fun h' kz => ?_))
    refine wpAny_pure (q h' acc c (fun c o c0 c1 c2 c3 c4 e => kz c o c2 c3 c4 (kp c o c0 c1 c2 c3 c4 e)) (kz S _ (Ne.symm P.nS.1) (Ne.symm P.nS.2.2.1) (Ne.symm P.nS.2.2.2.1) hS) ha fun j hj => ?_)
    obtain ⟨x, y, e1, e2, e3⟩ := pr j hj
    exact ⟨x, y, e1, e2, kz _ _ (far lz j) (far l1 j) (far l2 j) e3⟩
  | succ k ih =>
    intro i h c acc hk h0' hi Z sz kp hS ha pr
    have lt : i < xs.size := by omega
    have las : acc.size = i := by rw [← Array.length_toList, ha, List.length_map, List.length_range]
    have ex : xs[i]? = some xs[i] := Array.getElem?_eq_getElem lt
    have ey : ys[i]? = some (ys[i]'(by omega)) := Array.getElem?_eq_getElem (by omega)
    refine codeAny_builtin PySem.F.entry_extend_loop ?_
    rw [Around.under_plainId PySem.F.plain_extend_loop _]
    refine (show wpAny _ A.in1 (pyNext (.ref z) >>= _) _ _ _ from wpAny_bind (zipM_next (s := { s with heap := h }) P.D Z ex ey P.na P.nb nm fun h' Z' pr' sz' kz => ?_))
    dsimp only at pr' sz' kz
    have hS' := kz S _ (Ne.symm P.nS.1) (Ne.symm P.nS.2.2.1) (Ne.symm P.nS.2.2.2.1) hS
    rw [sz] at pr' sz'
    have up : ∀ b o, b ≠ S → h'.get? b = some o → (h'.update S (Obj.mapSeq (·.push (Value.ref h.objs.size)))).get? b = some o := fun b o hb e => (Heap.get?_update_other _ _ (Ne.symm hb)).trans e
    refine (show wpAny _ A.in1 (updateSeq S (·.push (Value.ref h.objs.size)) >>= _) _ _ _ from wpAny_bind ?_)
    refine wpAny_updateSeq hS' rfl (wpAny_pure ⟨plainId_quiet PySem.F.plain_extend_loop _, ih (i + 1) _ _ (acc.push (Value.ref h.objs.size)) (by omega) (Nat.succ_pos _) lt (Z'.frame P (far lS 0) up) ?_ (fun c o c0 c1 c2 c3 c4 e => up c o c1 (kz c o c2 c3 c4 (kp c o c0 c1 c2 c3 c4 e))) (Heap.get?_update_self _ hS' rfl) ?_ fun j hj => ?_⟩) (by rw [las]; omega) (by show (acc.push _).size ≤ sizeLine + 1; rw [Array.size_push, las]; omega)
    · rw [Heap.size_update, sz']
      omega
    · rw [Array.toList_push, ha, List.range_succ, List.map_append, sz]
      rfl
    · rcases Nat.lt_succ_iff_lt_or_eq.mp hj with hj | ej
      · obtain ⟨x, y, e1, e2, e3⟩ := pr j hj
        exact ⟨x, y, e1, e2, up _ _ (far lS j) (kz _ _ (far lz j) (far l1 j) (far l2 j) e3)⟩
      · rw [ej]
        exact ⟨_, _, ex, ey, up _ _ (far lS i) pr'⟩
/-- the first that a zip of a list and a tuple gives -/
theorem zipM_first {prog : Program} {w : World} {A : Around} {E : Value → Shared → Prop} {s : Shared} {z TI TO i1 i2 a b : Addr} {xs ys : Array Value} {x y u v : Value} {Q : Option Value → Shared → Prop} (hh : A.handled = none) (D : ZipApart z TI TO i1 i2 a b) (na : a ≠ z ∧ a ≠ i1 ∧ a ≠ i2) (nb : b ≠ z ∧ b ≠ i1 ∧ b ≠ i2) (aTO : a ≠ TO ∧ b ≠ TO)
    (hz : IsZip s.heap z TI TO .none) (hTI : IsPair s.heap TI (.ref i1) (.ref i2)) (hTO : IsPair s.heap TO u v) (j1 : s.heap.IsListIter i1 a 0) (j2 : s.heap.IsTupleIter i2 b 0) (t1 : s.heap.IsList a xs) (t2 : s.heap.IsTuple b ys) (ex : xs[0]? = some x) (ey : ys[0]? = some y)
    (q : ∀ h' tk, IsZip h' z TI TO (rawInt s.heap.objs.size) → h'.IsListIter i1 a 1 → h'.IsTupleIter i2 b 1 → IsPair h' s.heap.objs.size x y → h'.objs.size = s.heap.objs.size + 1 →
      (∀ c o, c ≠ z → c ≠ TO → c ≠ i1 → c ≠ i2 → s.heap.get? c = some o → h'.get? c = some o) → Q (some (.ref s.heap.objs.size)) { s with heap := h', toks := tk }) : wpAny (model prog w) A (pyNext (.ref z)) Q E s := by
  have S : ZipSep2 z TI TO i1 i2 [i1, a] [i2, b] := ⟨D.TIz, D.TOz, D.TITO, D.TIi1, by simp, by simp [Ne.symm D.i1z, Ne.symm na.1], by simp [D.TOi1, Ne.symm aTO.1], D.TIi2, by simp, by simp [Ne.symm D.i2z, Ne.symm nb.1], by simp [D.TOi2, Ne.symm aTO.2], by simp [D.i12, Ne.symm nb.2.1], by simp [Ne.symm D.i12, Ne.symm na.2.2]⟩
  have hh1 : A.in1.handled = none := hh
  refine wpAny_pyNext_zipD2_item (i := 0) S (Draws.list hh1 i1 a na.2.1 xs) (Draws.tuple hh1 i2 b nb.2.2 ys) hz hTI hTO ⟨j1, t1⟩ ⟨j2, t2⟩ (Array.getElem?_eq_some_iff.mp ex).1 (Array.getElem?_eq_some_iff.mp ey).1 fun x1 x2 h' tk y1 y2 b1 b2 d1 d2 b5 b6 hk => ?_
  have e1 : x1 = x := Option.some.inj (y1.symm.trans ex)
  have e2 : x2 = y := Option.some.inj (y2.symm.trans ey)
  rw [e1, e2] at b5
  exact q h' tk b1 d1.1 d2.1 b5 b6 hk
theorem loopM0 (hh : A.handled = none) (P : ZAp z TI TO i1 i2 a b S m) (nTO : TO ≠ S) (le : xs.size = ys.size) (pos : 0 < xs.size) (hn : xs.size ≤ sizeLine) (res : Value) {h0 h : Heap} {c1 : Nat} {u v : Value}
    (hz : IsZip h z TI TO .none) (hTI : IsPair h TI (.ref i1) (.ref i2)) (hTO : IsPair h TO u v) (j1 : h.IsListIter i1 a 0) (j2 : h.IsTupleIter i2 b 0) (t1 : h.IsList a xs) (t2 : h.IsTuple b ys) (sz : h.objs.size = m) (aTO : a ≠ TO ∧ b ≠ TO)
    (kp : ∀ c o, c < m → c ≠ S → c ≠ z → c ≠ i1 → c ≠ i2 → c ≠ TO → h0.get? c = some o → h.get? c = some o) (hS : h.get? S = some { cls := .type "list", data := .seq #[] c1 })
    (q : ∀ h' tk acc c, (∀ c o, c < m → c ≠ S → c ≠ z → c ≠ i1 → c ≠ i2 → c ≠ TO → h0.get? c = some o → h'.get? c = some o) → h'.get? S = some { cls := .type "list", dict := none, data := .seq acc c, slots := #[] } →
      acc.toList = (List.range xs.size).map (fun j => Value.ref (m + j)) → PrsAt h' m xs ys xs.size → R (.ok (.ret res)) { s with heap := h', toks := tk }) :
    codeAny (model prog w) A (.builtin "list.extend.loop" ⟨[.ref S, .ref z, res], []⟩) R { s with heap := h } := by
  obtain ⟨lz, l1, l2, lS⟩ := P.lt
  have far : ∀ {c : Addr} (l : c < m) (j : Nat), m + j ≠ c := fun {c} l j e => Nat.not_lt.mpr (Nat.le_add_right m j) (by rw [e]; exact l)
  have ex : xs[0]? = some xs[0] := Array.getElem?_eq_getElem pos
  have ey : ys[0]? = some (ys[0]'(by omega)) := Array.getElem?_eq_getElem (by omega)
  refine codeAny_builtin PySem.F.entry_extend_loop ?_
  rw [Around.under_plainId PySem.F.plain_extend_loop _]
  refine (show wpAny _ A.in1 (pyNext (.ref z) >>= _) _ _ _ from wpAny_bind (zipM_first (s := { s with heap := h }) hh P.D P.na P.nb aTO hz hTI hTO j1 j2 t1 t2 ex ey fun h' tk hz' j1' j2' pr' sz' kz => ?_))
  dsimp only at hz' pr' sz' kz
  have hS' := kz S _ (Ne.symm P.nS.1) (Ne.symm nTO) (Ne.symm P.nS.2.2.1) (Ne.symm P.nS.2.2.2.1) hS
  rw [sz] at hz' pr' sz'
  have up : ∀ b o, b ≠ S → h'.get? b = some o → (h'.update S (Obj.mapSeq (·.push (Value.ref h.objs.size)))).get? b = some o := fun b o hb e => (Heap.get?_update_other _ _ (Ne.symm hb)).trans e
  refine (show wpAny _ A.in1 (updateSeq S (·.push (Value.ref h.objs.size)) >>= _) _ _ _ from wpAny_bind ?_)
  have Z : ZHl h' z TI TO i1 i2 a b xs ys 1 m := ⟨⟨false, hz'⟩, ⟨_, pr'⟩, kz _ _ P.D.TIz P.D.TITO P.D.TIi1 P.D.TIi2 hTI, j1', j2', isLst_at t1 fun o e => kz _ _ P.na.1 aTO.1 P.na.2.1 P.na.2.2 e, isTup_at t2 fun o e => kz _ _ P.nb.1 aTO.2 P.nb.2.1 P.nb.2.2 e⟩
  refine wpAny_updateSeq hS' rfl (wpAny_pure ⟨plainId_quiet PySem.F.plain_extend_loop _, loopM (s := { s with toks := tk }) (xs := xs) (ys := ys) (h0 := h') hh P le hn res (fun h2 acc c k2 => q h2 tk acc c fun c o c0 c1 c2 c3 c4 c5 e => k2 c o c0 c1 c2 c3 c4 (kz c o c2 c5 c3 c4 (kp c o c0 c1 c2 c3 c4 c5 e))) (xs.size - 1) 1 _ _ (#[].push (Value.ref h.objs.size)) rfl Nat.one_pos pos (Z.frame P (far lS 0) up) ?_ (fun c o c0 c1 _ _ _ e => up c o c1 e) (Heap.get?_update_self _ hS' rfl) ?_ fun j hj => ?_⟩) (by show 0 ≤ sizeLine; omega) (by show 1 ≤ sizeLine + 1; omega)
  · rw [Heap.size_update, sz']
  · rw [sz]
    rfl
  · obtain rfl : j = 0 := by omega
    exact ⟨_, _, ex, ey, up _ _ (far lS 0) pr'⟩
end
section
variable {prog : Program} {w : World} {A : Around} {E : Value → Shared → Prop} {s : Shared} {xs ys : Array Value} {a b : Addr}
/-- list(z), z just made -/
theorem call_list_zipM {z TI TO i1 i2 : Addr} {u v : Value} {Q : Value → Shared → Prop} (hh : A.handled = none) (D : ZipApart z TI TO i1 i2 a b) (na : a ≠ z ∧ a ≠ i1 ∧ a ≠ i2) (nb : b ≠ z ∧ b ≠ i1 ∧ b ≠ i2) (aTO : a ≠ TO ∧ b ≠ TO)
    (hz : IsZip s.heap z TI TO .none) (hTI : IsPair s.heap TI (.ref i1) (.ref i2)) (hTO : IsPair s.heap TO u v) (j1 : s.heap.IsListIter i1 a 0) (j2 : s.heap.IsTupleIter i2 b 0) (t1 : s.heap.IsList a xs) (t2 : s.heap.IsTuple b ys)
    (le : xs.size = ys.size) (pos : 0 < xs.size) (hn : xs.size ≤ sizeLine)
    (q : ∀ h' tk acc c, (∀ c o, c ≠ z → c ≠ i1 → c ≠ i2 → c ≠ TO → s.heap.get? c = some o → h'.get? c = some o) → h'.get? s.heap.objs.size = some { cls := .type "list", dict := none, data := .seq acc c, slots := #[] } →
      acc.toList = (List.range xs.size).map (fun j => Value.ref (s.heap.objs.size + 1 + j)) → PrsAt h' (s.heap.objs.size + 1) xs ys xs.size → Q (.ref s.heap.objs.size) { s with heap := h', toks := tk }) :
    wpAny (model prog w) A (call (.type "list") [.ref z]) Q E s := by
  refine callType_codes (Q₁ := fun obj s₁ => obj = .ref s.heap.objs.size ∧ s₁ = { s with heap := s.heap.push { cls := .type "list", data := .seq #[] } }) F.called_list (F.typeCall_list_1 _) F.entry_list_init (code_list_new _ ⟨rfl, rfl⟩) fun obj s₁ h₁ => ?_
  obtain ⟨rfl, rfl⟩ := h₁
  have lt : ∀ {c o}, s.heap.get? c = some o → c < s.heap.objs.size := fun e => Heap.lt_size e
  have ltz := lt hz
  have ltTI := lt hTI
  have ltTO := lt hTO
  have lt1 : i1 < s.heap.objs.size := by obtain ⟨_, e, _⟩ := j1; exact lt e
  have lt2 : i2 < s.heap.objs.size := by obtain ⟨_, e, _⟩ := j2; exact lt e
  have lta : a < s.heap.objs.size := by obtain ⟨_, e, _⟩ := t1; exact lt e
  have ltb : b < s.heap.objs.size := by obtain ⟨_, e, _⟩ := t2; exact lt e
  have hS : (s.heap.push { cls := .type "list", data := .seq #[] }).get? s.heap.objs.size = some { cls := .type "list", data := .seq #[] } := Heap.get?_push_size _ rfl
  have pu : ∀ c o, s.heap.get? c = some o → (s.heap.push { cls := .type "list", data := .seq #[] }).get? c = some o := fun c o e => Heap.get?_push_of_some _ e
  have psz : (s.heap.push { cls := .type "list", data := .seq #[] }).objs.size = s.heap.objs.size + 1 := Heap.size_push ..
  have ne : ∀ {c : Addr}, c < s.heap.objs.size → c ≠ s.heap.objs.size := fun l => Nat.ne_of_lt l
  have up1 : ∀ {c : Addr}, c < s.heap.objs.size → c < s.heap.objs.size + 1 := fun l => Nat.lt_succ_of_lt l
  have P : ZAp z TI TO i1 i2 a b s.heap.objs.size (s.heap.objs.size + 1) := ⟨D, na, nb, ⟨ne ltz, ne ltTI, ne lt1, ne lt2, ne lta, ne ltb⟩, ⟨up1 ltz, up1 lt1, up1 lt2, Nat.lt_succ_self _⟩⟩
  have key : ∀ (h : Heap) (c1 : Nat), (∀ c o, c ≠ s.heap.objs.size → (s.heap.push { cls := .type "list", data := .seq #[] }).get? c = some o → h.get? c = some o) → h.objs.size = s.heap.objs.size + 1 → h.get? s.heap.objs.size = some { cls := .type "list", data := .seq #[] c1 } →
      codeAny (model prog w) A.in1 (.builtin "list.extend.loop" ⟨[.ref s.heap.objs.size, .ref z, .none], []⟩) (fun r s' => r = .ok (.ret .none) ∧ Q (.ref s.heap.objs.size) s') { s with heap := h } := fun h c1 k hsz hS1 =>
    loopM0 (A := A.in1) (h0 := s.heap) hh P (ne ltTO) le pos hn .none (k _ _ (ne ltz) (pu _ _ hz)) (k _ _ (ne ltTI) (pu _ _ hTI)) (k _ _ (ne ltTO) (pu _ _ hTO)) (j1.at fun o e => k _ _ (ne lt1) (pu _ _ e)) (j2.at fun o e => k _ _ (ne lt2) (pu _ _ e))
      (isLst_at t1 fun o e => k _ _ (ne lta) (pu _ _ e)) (isTup_at t2 fun o e => k _ _ (ne ltb) (pu _ _ e)) hsz aTO (fun c o _ c1 _ _ _ _ e => k _ _ c1 (pu _ _ e)) hS1
      fun h' tk acc c kp hS' ha pr => ⟨rfl, q h' tk acc c (fun c o c2 c3 c4 c5 e => kp c o (up1 (lt e)) (ne (lt e)) c2 c3 c4 c5 e) hS' ha pr⟩
  refine ⟨⟨_, hS, rfl⟩, F.args_list_init_2 _ _, ?_⟩
  refine (show wpAny _ _ (do let old ← Builtin.List.listItems (.ref s.heap.objs.size); Builtin.List.listUpdate (.ref s.heap.objs.size) (fun _ => #[]); letGo old.toList.reverse; Builtin.List.listExtendWith (.ref s.heap.objs.size) (.ref z) .none) _ _ _ from wpAny_bind ?_)
  unfold Builtin.List.listItems
  refine wpAny_bind (wpAny_seqItems hS rfl (wpAny_pure ?_))
  refine (show wpAny _ _ (updateSeq s.heap.objs.size (fun _ => #[]) >>= fun _ => letGo (#[] : Array Value).toList.reverse >>= fun _ => Builtin.List.listExtendWith (.ref s.heap.objs.size) (.ref z) .none) _ _ _ from wpAny_bind (wpAny_updateSeq hS rfl ?_))
  have hS2 := Heap.get?_update_self (Obj.mapSeq (fun _ => (#[] : Array Value))) hS rfl
  have oth : ∀ c o, c ≠ s.heap.objs.size → (s.heap.push { cls := .type "list", data := .seq #[] }).get? c = some o → ((s.heap.push { cls := .type "list", data := .seq #[] }).update s.heap.objs.size (Obj.mapSeq (fun _ => (#[] : Array Value)))).get? c = some o := fun c o hb e => (Heap.get?_update_other _ _ (Ne.symm hb)).trans e
  refine wpAny_bind (wpAny_letGo ?_)
  generalize hg : (s.heap.push { cls := .type "list", data := .seq #[] }).update s.heap.objs.size (Obj.mapSeq (fun _ => (#[] : Array Value))) = g at hS2 oth
  have gsz : g.objs.size = s.heap.objs.size + 1 := by rw [← hg, Heap.size_update, psz]
  have gz : IsZip g z TI TO .none := oth _ _ (ne ltz) (pu _ _ hz)
  have ty : ({ s with heap := g } : Shared).TypeIs (.ref z) "zip" := ⟨_, gz, rfl⟩
  unfold Builtin.List.listExtendWith
  refine wpAny_bind (wpAny_typeOf ty ?_)
  have h1 : Builtin.List.listSameRef (.ref s.heap.objs.size) (.ref z) = false := by simp [Builtin.List.listSameRef, Ne.symm (ne ltz)]
  have h2 : (Value.type "zip" == Value.type "list") = false := by decide
  have h3 : (Value.type "zip" == Value.type "tuple") = false := by decide
  simp only [h1, h2, h3, Bool.or_false, Bool.false_eq_true, if_false]
  refine wpAny_bind (wpAny_pyIter_zip gz (wpAny_bind (wpAny_holding ?_)))
  unfold Builtin.List.listLengthHint
  refine wpAny_bind (wpAny_specialOf ty zip_len0 ?_)
  refine (show wpAny _ _ (specialOf (Value.ref z) (Str.ofString "__length_hint__") >>= _) _ _ _ from wpAny_bind (wpAny_specialOf ty zip_hint0 (wpAny_pure ?_)))
  refine wpAny_ite_true rfl (wpAny_bind (wpAny_rule ?_))
  refine wpAny_bind (show wpAny _ _ (updateSeq s.heap.objs.size (·.push .none) >>= fun _ => updateSeq s.heap.objs.size (·.pop)) _ _ _ from wpAny_bind (wpAny_updateSeq hS2 rfl ?_))
  have hS3 := Heap.get?_update_self (Obj.mapSeq (·.push Value.none)) hS2 rfl
  refine wpAny_updateSeq (hz := by seq_fits) hS3 rfl ?_
  have hS4 := Heap.get?_update_self (Obj.mapSeq (·.pop)) hS3 rfl
  refine wpAny_pure ⟨plainId_quiet F.plain_extend_loop _, codeAny_mono (key _ _ (fun c o hc e => (Heap.get?_update_other _ _ (Ne.symm hc)).trans ((Heap.get?_update_other _ _ (Ne.symm hc)).trans (oth c o hc e))) (by rw [Heap.size_update, Heap.size_update, gsz]) hS4) fun r s' hr => ?_⟩
  obtain ⟨rfl, hq⟩ := hr
  exact ⟨rfl, hq⟩
end
/-- list(zip(t, u)) -/
def tLzM (K : PySem.W.Frag) (ta : TA) : TE := fun σ H Q => ta σ H fun vs H1 => ∃ (a b : Addr) (xs ys : List V), vs = [.ref a, .ref b] ∧ SqL K H1 a xs ∧ SqT K H1 b ys ∧ xs.length = ys.length ∧ 0 < xs.length ∧
  ∀ (p m : Addr) (H2 : Hp), H1 p = none → (∀ j, H1 (m + j) = none) → Same H1 H2 → H2 p = some (.lst ((List.range xs.length).map fun j => V.ref (m + j))) → (∀ (j : Nat) (x y : V), xs[j]? = some x → ys[j]? = some y → H2 (m + j) = some (.tup [x, y])) → Q (.ref p) H2
theorem pe_listZipM {X : Cx} {e1 e2 : Expr} {ta : TA} {p p2 pos pos2 : Pos} (hc : X.calm = true) (hgl : Gl X "list") (hml : X.mg "list" = none) (hgz : Gl X "zip") (hmz : X.mg "zip" = none) (ha : PA X [e1, e2] ta)
    (hs : starEach [e1, e2] X.env = (false, eval e1 X.env) :: starEach [e2] X.env := by rfl) (hpl : (backTo pos2 (starEach [e2] X.env)).any (·.1) = false := by rfl)
    (hs1 : starEach [Expr.Call (.Name "zip" p2) [e1, e2] [] pos2] X.env = (false, eval (.Call (.Name "zip" p2) [e1, e2] [] pos2) X.env) :: starEach [] X.env := by rfl) (hpl1 : (backTo pos (starEach [] X.env)).any (·.1) = false := by rfl) :
    PE X (.Call (.Name "list" p) [.Call (.Name "zip" p2) [e1, e2] [] pos2] [] pos) (tLzM X.K ta) := by
  refine ⟨fun pins s σ H Q I h => ?_⟩
  refine Call_ (ld_blt I hgl hml PyProof.Rows.boot_list (PyProof.Rows.callWith_type1 ?_ hs1 hpl1))
  rw [hs1]
  refine Calls.spliced_cons ?_
  refine Call_ (ld_blt I hgz hmz PyProof.Rows.boot_zip (PyProof.Rows.callWith_type1 (thn (ha.run pos2 pins s σ H _ I h) fun us s1 ⟨vs, H1, I1, r1, q1⟩ => ?_) hs hpl))
  obtain ⟨a, b, xs, ys, rfl, hx, hy, hl, hp, q⟩ := q1
  obtain ⟨u1, u2, rfl, e1, e2⟩ := vals2 r1
  cases e1
  cases e2
  obtain ⟨its, rv, t1, z1⟩ := I1.list hx
  have t1 := t1.isList
  obtain ⟨its2, rv2, t2, z2⟩ := I1.tuple hy
  have la : a < s1.heap.objs.size := by obtain ⟨_, e, _⟩ := t1; exact Heap.lt_size e
  have lb : b < s1.heap.objs.size := by obtain ⟨_, e, _⟩ := t2; exact Heap.lt_size e
  refine zip_begins2 (begins_list a its.toArray) (begins_tuple b its2.toArray) t1 (show s1.heap.IsTuple b its2.toArray from t2) fun h' hz hTI hTO g1 g2 hsz hk => ?_
  refine Calls.spliced_nil ?_
  have hlen : its.toArray.size = xs.length := by rw [List.size_toArray]; exact rv.length.symm
  have hlen2 : its2.toArray.size = ys.length := by rw [List.size_toArray]; exact rv2.length.symm
  have nz : ∀ {c : Addr} (k : Nat), c < s1.heap.objs.size → c ≠ s1.heap.objs.size + k := fun k l => Nat.ne_of_lt (Nat.lt_of_lt_of_le l (Nat.le_add_right _ k))
  refine call_list_zipM (s := { s1 with heap := h' }) (I1.ok.hd hc) (PySem.W.ktu_apart s1.heap.objs.size a b la lb) ⟨nz 4 la, nz 0 la, nz 1 la⟩ ⟨nz 4 lb, nz 0 lb, nz 1 lb⟩ ⟨nz 3 la, nz 3 lb⟩ hz hTI hTO ⟨_, g1, rfl, rfl⟩ ⟨_, g2, rfl, rfl⟩
    (isLst_at t1 fun o e => hk _ _ e) (isTup_at (show s1.heap.IsTuple b its2.toArray from t2) fun o e => hk _ _ e) (by rw [hlen, hlen2, hl]) (by rw [hlen]; exact hp) (by rw [hlen]; exact z1) fun h2 tk acc c kp hS hacc pr => ?_
  dsimp only at hS hacc pr ⊢
  rw [hsz] at hS hacc pr ⊢
  rw [hlen] at hacc pr
  have keep : ∀ b o, s1.heap.get? b = some o → h2.get? b = some o := fun b o e => kp b o (nz 4 (Heap.lt_size e)) (nz 0 (Heap.lt_size e)) (nz 1 (Heap.lt_size e)) (nz 3 (Heap.lt_size e)) (hk b o e)
  have geV : ∀ j, j < xs.length → ∃ x y, xs[j]? = some x ∧ ys[j]? = some y := fun j l => ⟨xs[j], ys[j]'(by omega), List.getElem?_eq_getElem l, List.getElem?_eq_getElem (by omega)⟩
  let H2 : Hp := fun b => if b < s1.heap.objs.size then H1 b else if b = s1.heap.objs.size + 5 then some (.lst ((List.range xs.length).map fun j => V.ref (s1.heap.objs.size + 5 + 1 + j)))
    else if s1.heap.objs.size + 5 + 1 ≤ b ∧ b - (s1.heap.objs.size + 5 + 1) < xs.length then some (.tup [xs.getD (b - (s1.heap.objs.size + 5 + 1)) .non, ys.getD (b - (s1.heap.objs.size + 5 + 1)) .non]) else none
  have eP : H2 (s1.heap.objs.size + 5) = some (.lst ((List.range xs.length).map fun j => V.ref (s1.heap.objs.size + 5 + 1 + j))) := by
    show (if _ then _ else _) = _
    rw [if_neg (show ¬ (s1.heap.objs.size + 5 < s1.heap.objs.size) by omega), if_pos rfl]
  have eT : ∀ (j : Nat) (x y : V), xs[j]? = some x → ys[j]? = some y → H2 (s1.heap.objs.size + 5 + 1 + j) = some (.tup [x, y]) := fun j x y ex ey => by
    have l := (List.getElem?_eq_some_iff.mp ex).1
    show (if _ then _ else _) = _
    rw [if_neg (show ¬ (s1.heap.objs.size + 5 + 1 + j < s1.heap.objs.size) by omega), if_neg (show ¬ (s1.heap.objs.size + 5 + 1 + j = s1.heap.objs.size + 5) by omega), if_pos (show s1.heap.objs.size + 5 + 1 ≤ s1.heap.objs.size + 5 + 1 + j ∧ s1.heap.objs.size + 5 + 1 + j - (s1.heap.objs.size + 5 + 1) < xs.length by omega)]
    have e : s1.heap.objs.size + 5 + 1 + j - (s1.heap.objs.size + 5 + 1) = j := by omega
    rw [e, List.getD_eq_getElem?_getD, List.getD_eq_getElem?_getD, ex, ey]
    rfl
  have I2 : L2.Inv X pins σ H2 { s1 with heap := h2, toks := tk } := by
    refine inv_many I1 keep (fun b l => if_pos l) fun b u l e => ?_
    have e' : (if b = s1.heap.objs.size + 5 then some (HO.lst ((List.range xs.length).map fun j => V.ref (s1.heap.objs.size + 5 + 1 + j)))
      else if s1.heap.objs.size + 5 + 1 ≤ b ∧ b - (s1.heap.objs.size + 5 + 1) < xs.length then some (.tup [xs.getD (b - (s1.heap.objs.size + 5 + 1)) .non, ys.getD (b - (s1.heap.objs.size + 5 + 1)) .non]) else none) = some u := by
      rw [← e]
      exact (if_neg (Nat.not_lt.mpr l)).symm
    split at e'
    · rename_i eb
      cases e'
      rw [eb]
      refine ⟨by rw [List.length_map, List.length_range]; exact z1, acc.toList, c, ?_, by rw [Array.toArray_toList]; exact hS⟩
      rw [hacc]
      have vs : ∀ l : List Nat, Vals (l.map fun j => V.ref (s1.heap.objs.size + 5 + 1 + j)) (l.map fun j => Value.ref (s1.heap.objs.size + 5 + 1 + j)) := fun l => by
        induction l with
        | nil => exact .nil
        | cons x r ih => exact .cons rfl ih
      exact vs _
    · split at e'
      · rename_i hb
        cases e'
        obtain ⟨j, rfl⟩ : ∃ j, b = s1.heap.objs.size + 5 + 1 + j := ⟨b - (s1.heap.objs.size + 5 + 1), by omega⟩
        have ej : s1.heap.objs.size + 5 + 1 + j - (s1.heap.objs.size + 5 + 1) = j := by omega
        rw [ej] at hb ⊢
        obtain ⟨x, y, ex, ey⟩ := geV j hb.2
        obtain ⟨u, v, g1, g2, g3⟩ := pr j hb.2
        obtain ⟨u', hu, ru⟩ := rv.get ex
        obtain ⟨v', hv, rw'⟩ := rv2.get ey
        have : u' = u := by
          have g1 : its[j]? = some u := by simpa using g1
          rw [hu] at g1
          exact Option.some.inj g1
        subst this
        have : v' = v := by
          have g2 : its2[j]? = some v := by simpa using g2
          rw [hv] at g2
          exact Option.some.inj g2
        subst this
        rw [List.getD_eq_getElem?_getD, List.getD_eq_getElem?_getD, ex, ey]
        exact ⟨by show 2 ≤ sizeLine; decide, [u', v'], .cons ru (.cons rw' .nil), ⟨_, g3, rfl, _, rfl⟩⟩
      · cases e'
  refine ⟨.ref (s1.heap.objs.size + 5), H2, I2, rfl, q _ (s1.heap.objs.size + 5 + 1) H2 (I1.hok.fresh (Nat.le_add_right _ _)) (fun j => I1.hok.fresh (by omega)) (fun b o e => ?_) eP eT⟩
  by_cases l : b < s1.heap.objs.size
  · exact (if_pos l).trans e
  · rw [I1.hok.fresh (Nat.not_lt.mp l)] at e
    cases e
end Vf

set_option Elab.async false
set_option linter.all false
set_option maxRecDepth 100000
set_option maxHeartbeats 4000000
/-! dicts whose keys are tuples of any depth: the dict's own object is told whole, its keys' tuples are told by the heap -/
namespace Vf
open PySem PySem.Spec PyProof.Rows L2
mutual
/-- a value that is such a key -/
inductive NkV (K : PySem.W.Frag) (H : Hp) : NestedKey → V → Prop
  | int (i : Int) : NkV K H (.num i) (.int i)
  | str (x : Str) : NkV K H (.text x) (.str x)
  | tup {a : Addr} {xs : List V} {ks : List NestedKey} : SqT K H a xs → NkVs K H ks xs → NkV K H (.tup ks) (.ref a)
inductive NkVs (K : PySem.W.Frag) (H : Hp) : List NestedKey → List V → Prop
  | nil : NkVs K H [] []
  | cons {k : NestedKey} {v : V} {ks : List NestedKey} {vs : List V} : NkV K H k v → NkVs K H ks vs → NkVs K H (k :: ks) (v :: vs)
end
mutual
theorem NkV.is {X : Cx} {pins : List (Addr × Obj)} {s : Shared} {σ : L2.St} {H : Hp} (I : L2.Inv X pins σ H s) : ∀ {k : NestedKey} {v : V} {u : Value}, NkV X.K H k v → RelV v u → NestedIs s.heap k u
  | _, _, _, .int i, r => by
    obtain ⟨t, rfl⟩ := r
    exact .int i t
  | _, _, _, .str x, r => by
    obtain ⟨t, rfl⟩ := r
    exact .text x t
  | _, _, _, .tup h hs, r => by
    cases r
    obtain ⟨its, rv, ht, _⟩ := I.tuple h
    obtain ⟨o, ho, hc, n, hd⟩ := ht
    exact .tup ho hc hd (by rw [List.toList_toArray]; exact NkVs.is I hs rv)
theorem NkVs.is {X : Cx} {pins : List (Addr × Obj)} {s : Shared} {σ : L2.St} {H : Hp} (I : L2.Inv X pins σ H s) : ∀ {ks : List NestedKey} {vs : List V} {us : List Value}, NkVs X.K H ks vs → Vals vs us → NestedAll s.heap ks us
  | _, _, _, .nil, r => by
    cases r
    exact .nil
  | _, _, _, .cons h hs, r => by
    cases r with
    | cons a b => exact .cons (NkV.is I h a) (NkVs.is I hs b)
end
mutual
theorem NkV.same {K : PySem.W.Frag} {H H' : Hp} (s : Same H H') : ∀ {k : NestedKey} {v : V}, NkV K H k v → NkV K H' k v
  | _, _, .int i => .int i
  | _, _, .str x => .str x
  | _, _, .tup h hs => .tup (sameT s h) (NkVs.same s hs)
theorem NkVs.same {K : PySem.W.Frag} {H H' : Hp} (s : Same H H') : ∀ {ks : List NestedKey} {vs : List V}, NkVs K H ks vs → NkVs K H' ks vs
  | _, _, .nil => .nil
  | _, _, .cons h hs => .cons (NkV.same s h) (NkVs.same s hs)
end
abbrev NdRel : List (NestedKey × Addr × V) → List (NestedKey × Addr × Value) → Prop := Paired fun x y => x.1 = y.1 ∧ x.2.1 = y.2.1 ∧ RelV x.2.2 y.2.2
def NdAt (P : Program) (w : World) (h : Heap) (d : Addr) (xs : List (NestedKey × Addr × V)) : Prop :=
  (d == sysModules) = false ∧ xs.length ≤ sizeLine ∧ ∃ (o : Obj) (es : Array DictEntry) (ep : Nat) (ys : List (NestedKey × Addr × Value)), h.get? d = some o ∧ o.ExactDict ∧ o.data = .dict es ep ∧ es.toList = ys.map (entryOfKey (nestedKind P w)) ∧ NdRel xs ys
def ndO (P : Program) (w : World) (d : Addr) (xs : List (NestedKey × Addr × V)) : HO := .ext fun h => NdAt P w h d xs
theorem ndO_ok {P : Program} {w : World} {H : Hp} {h : Heap} {d : Addr} {xs : List (NestedKey × Addr × V)} (n : NdAt P w h d xs) : ObjOk P w H h d (ndO P w d xs) := by
  refine ⟨n, ?_, fun h1 h2 x k => ?_⟩
  · obtain ⟨_, _, o, _, _, _, e, _⟩ := n
    exact ⟨o, e⟩
  · obtain ⟨a, b, o, es, ep, ys, e, r⟩ := x
    exact ⟨a, b, o, es, ep, ys, k o e, r⟩
structure NdIn (K : PySem.W.Frag) (P : Program) (w : World) (H : Hp) (d : Addr) (xs : List (NestedKey × Addr × V)) : Prop where
  at' : H d = some (ndO P w d xs) ∨ (xs = [] ∧ H d = some (.dK []))
  keys : ∀ x ∈ xs, NkV K H x.1 (.ref x.2.1) ∧ x.1.depth ≤ 8
  nd : (xs.map (·.1)).Nodup
def ndGet (xs : List (NestedKey × Addr × V)) (k : NestedKey) : Option (Addr × V) := (xs.find? fun x => decide (x.1 = k)).map (·.2)
theorem nd_get {xs : List (NestedKey × Addr × V)} {ys : List (NestedKey × Addr × Value)} (r : NdRel xs ys) (k : NestedKey) : (ndGet xs k = none ∧ atKey ys k = none) ∨ ∃ a v u, ndGet xs k = some (a, v) ∧ atKey ys k = some (a, u) ∧ RelV v u := by
  induction r with
  | nil => exact .inl ⟨rfl, rfl⟩
  | @cons x y xs ys h _ ih =>
    obtain ⟨e1, e2, e3⟩ := h
    unfold ndGet atKey at ih ⊢
    by_cases z : x.1 = k
    · have z2 : y.1 = k := e1 ▸ z
      refine .inr ⟨x.2.1, x.2.2, y.2.2, ?_, ?_, e3⟩
      · rw [List.find?_cons_of_pos (by simp [z])]
        rfl
      · rw [List.find?_cons_of_pos (by simp [z2]), e2]
        rfl
    · have z2 : ¬ y.1 = k := fun q => z (e1.trans q)
      rw [List.find?_cons_of_neg (by simp [z]), List.find?_cons_of_neg (by simp [z2])]
      exact ih
section
variable {X : Cx} {pins : List (Addr × Obj)} {s : Shared} {σ : L2.St} {H : Hp}
theorem NdRel.keys {xs : List (NestedKey × Addr × V)} {ys : List (NestedKey × Addr × Value)} (r : NdRel xs ys) : ys.map (·.1) = xs.map (·.1) := by
  induction r with
  | nil => rfl
  | cons h _ ih => rw [List.map_cons, List.map_cons, ih, h.1]
theorem NdIn.dict {d : Addr} {xs : List (NestedKey × Addr × V)} (I : L2.Inv X pins σ H s) (N : NdIn X.K X.prog X.w H d xs) : ∃ ys : List (NestedKey × Addr × Value), NdRel xs ys ∧ (d == sysModules) = false ∧ xs.length ≤ sizeLine ∧ s.heap.DictOfH (nestedKind X.prog X.w) d ys := by
  have main : NdAt X.prog X.w s.heap d xs := by
    rcases N.at' with h | ⟨rfl, h⟩
    · exact (show ObjOk X.prog X.w H s.heap d (ndO X.prog X.w d xs) from I.hok d _ h).1
    · obtain ⟨z, hd, vs, rel, o, es, ep, ho, hx, hdat, _, hpp, _⟩ := dk_of I.hok h
      cases rel
      refine ⟨hd, Nat.zero_le _, o, es, ep, [], ho, hx, hdat, ?_, .nil⟩
      cases hpp' : es.toList with
      | nil => rfl
      | cons e r =>
        have := hpp.length
        rw [hpp'] at this
        simp at this
  obtain ⟨hd, hz, o, es, ep, ys, ho, hx, hdat, he, rel⟩ := main
  refine ⟨ys, rel, hd, hz, o, es, ep, ho, hx, hdat, he, fun y hy => ?_, ?_⟩
  · obtain ⟨j, hj⟩ := List.mem_iff_getElem?.mp hy
    obtain ⟨x, hx', e1, e2, _⟩ := DX.pget rel hj
    obtain ⟨k1, k2⟩ := N.keys x (List.mem_of_getElem? hx')
    rw [← e1, ← e2]
    exact ⟨NkV.is I k1 rfl, k2⟩
  · rw [rel.keys]
    exact N.nd
theorem nd_is (I : L2.Inv X pins σ H s) {k : NestedKey} {b : Addr} (h : NkV X.K H k (.ref b)) (l : k.depth ≤ 8) : (nestedKind X.prog X.w).is s.heap k b := ⟨NkV.is I h rfl, l⟩
theorem nd_mut {d : Addr} {xs : List (NestedKey × Addr × V)} {P : Program} {w : World} {K : PySem.W.Frag} (N : NdIn K P w H d xs) : Mut (H d) := by
  rcases N.at' with h | ⟨_, h⟩
  · rw [h]
    exact True.intro
  · rw [h]
    exact True.intro
/-- the dict's own object behind a write -/
theorem nd_new {h' : Heap} {d : Addr} {xs : List (NestedKey × Addr × V)} {ys : List (NestedKey × Addr × Value)} (hd : (d == sysModules) = false) (hz : xs.length ≤ sizeLine) (r : NdRel xs ys) (D : h'.DictOfH (nestedKind X.prog X.w) d ys) : ObjOk X.prog X.w (upd H d (ndO X.prog X.w d xs)) h' d (ndO X.prog X.w d xs) := by
  obtain ⟨o, es, ep, ho, hx, hdat, he, _⟩ := D
  exact ndO_ok ⟨hd, hz, o, es, ep, ys, ho, hx, hdat, he, r⟩
def ndPut (xs : List (NestedKey × Addr × V)) (k : NestedKey) (b : Addr) (v : V) : List (NestedKey × Addr × V) :=
  if (ndGet xs k).isSome then xs.map (fun x => if x.1 = k then (x.1, x.2.1, v) else x) else xs ++ [(k, b, v)]
theorem nd_put {xs : List (NestedKey × Addr × V)} {ys : List (NestedKey × Addr × Value)} (r : NdRel xs ys) (k : NestedKey) (b : Addr) {v : V} {u : Value} (rv : RelV v u) : NdRel (ndPut xs k b v) (storedH ys k b u) := by
  unfold ndPut storedH
  rcases nd_get r k with ⟨e1, e2⟩ | ⟨a, v', u', e1, e2, _⟩
  · rw [e1, e2]
    exact Paired.snoc r ⟨rfl, rfl, rv⟩
  · rw [e1, e2]
    show NdRel (xs.map _) (ys.map _)
    clear e1 e2
    induction r with
    | nil => exact .nil
    | @cons x y xs ys h _ ih =>
      refine .cons ?_ ih
      obtain ⟨h1, h2, h3⟩ := h
      show (fun (x : NestedKey × Addr × V) (y : NestedKey × Addr × Value) => x.1 = y.1 ∧ x.2.1 = y.2.1 ∧ RelV x.2.2 y.2.2) (if x.1 = k then (x.1, x.2.1, v) else x) (if y.1 = k then (y.1, y.2.1, u) else y)
      by_cases z : x.1 = k
      · rw [if_pos z, if_pos (h1 ▸ z)]
        exact ⟨h1, h2, rv⟩
      · rw [if_neg z, if_neg (fun q => z (h1.trans q))]
        exact ⟨h1, h2, h3⟩
theorem ndPut_len (xs : List (NestedKey × Addr × V)) (k : NestedKey) (b : Addr) (v : V) : (ndPut xs k b v).length ≤ xs.length + 1 := by
  unfold ndPut
  split
  · rw [List.length_map]
    exact Nat.le_succ _
  · rw [List.length_append]
    exact Nat.le_refl _
/-- d.setdefault(k, v) -/
theorem mt_setdN (hu : X.A.units + 20 < cLine) : MtR X "dict.setdefault" (fun x xs H Q => ∃ (d b : Addr) (ks : List (NestedKey × Addr × V)) (k : NestedKey) (v : V), x = .ref d ∧ xs = [.ref b, v] ∧ NdIn X.K X.prog X.w H d ks ∧ NkV X.K H k (.ref b) ∧ k.depth ≤ 8 ∧ ks.length ≤ 1000 ∧
    (∀ a v', ndGet ks k = some (a, v') → Q v' H) ∧ (ndGet ks k = none → Q v (upd H d (ndO X.prog X.w d (ks ++ [(k, b, v)]))))) := by
  intro pins s σ H x xs v us Q I rx rs ⟨d, b, ks, k, dv, e1, e2, N, nk, l8, lz, q1, q2⟩
  subst e1
  subst e2
  cases rx
  obtain ⟨u1, u2, rfl, r1, r2⟩ := vals2 rs
  cases r1
  obtain ⟨ys, rel, hd, hz, D⟩ := N.dict I
  have ly : ys.length = ks.length := by
    have := congrArg List.length rel.keys
    rw [List.length_map, List.length_map] at this
    exact this
  have big : (1000 : Nat) < sizeLine := by rw [sizeLine_eq]; decide
  refine call_setdefault_heap (hsz := by omega) (show X.A.units + 1 + 8 < cLine by omega) (nd_is I nk l8) hd D (fun p hp => ?_) fun hn h' D' hs => ?_
  · rcases nd_get rel k with ⟨_, e⟩ | ⟨a, v', u', e1, e, rv⟩
    · rw [e] at hp
      cases hp
    · rw [e] at hp
      cases hp
      exact ⟨v', H, I.tok _, rv, q1 a v' e1⟩
  · rcases nd_get rel k with ⟨e1, _⟩ | ⟨a, v', u', _, e, _⟩
    · have he : ∃ q, h'.get? d = some q := let ⟨q, _, _, hq, _⟩ := D'; ⟨q, hq⟩
      have rel' : NdRel (ks ++ [(k, b, dv)]) (storedH ys k b u2) := by
        rw [storedH_new hn]
        exact Paired.snoc rel ⟨rfl, rfl, r2⟩
      have hz' : (ks ++ [(k, b, dv)]).length ≤ sizeLine := by
        rw [List.length_append]
        show ks.length + 1 ≤ _
        omega
      exact ⟨dv, _, d_write (t' := s.toks + (nestedKind X.prog X.w).draws k) I (nd_mut N) hs he (nd_new hd hz' rel' D'), r2, q2 e1⟩
    · rw [e] at hn
      cases hn
/-- d.get(k, v) -/
theorem mt_getN (hu : X.A.units + 20 < cLine) : MtR X "dict.get" (fun x xs H Q => ∃ (d b : Addr) (ks : List (NestedKey × Addr × V)) (k : NestedKey) (v : V), x = .ref d ∧ xs = [.ref b, v] ∧ NdIn X.K X.prog X.w H d ks ∧ NkV X.K H k (.ref b) ∧ k.depth ≤ 8 ∧
    Q (((ndGet ks k).map (·.2)).getD v) H) := by
  intro pins s σ H x xs v us Q I rx rs ⟨d, b, ks, k, dv, e1, e2, N, nk, l8, q⟩
  subst e1
  subst e2
  cases rx
  obtain ⟨u1, u2, rfl, r1, r2⟩ := vals2 rs
  cases r1
  obtain ⟨ys, rel, hd, hz, D⟩ := N.dict I
  refine call_meetsIn F.slot_dict_get D.typeIs F.entry_dict_get (F.args_dict_get_3 _ _ _) (meetsH_dict_get_default (nestedKind X.prog X.w) d b hd u2) ⟨(show X.A.units + 1 + 8 < cLine by omega), k, ys, nd_is I nk l8, D, ?_⟩
  rcases nd_get rel k with ⟨e1, e⟩ | ⟨a, v', u', e1, e, rv⟩
  · rw [e]
    rw [e1] at q
    exact ⟨dv, H, I.tok _, r2, q⟩
  · rw [e]
    rw [e1] at q
    exact ⟨v', H, I.tok _, rv, q⟩
/-- d[k] = v -/
def sPutN (K : PySem.W.Frag) (P : Program) (w : World) (td ty tv : TE) : TS := fun D σ H => tv σ H fun v H1 => td σ H1 fun x H2 => ty σ H2 fun y H3 => ∃ (d b : Addr) (ks : List (NestedKey × Addr × V)) (k : NestedKey), x = .ref d ∧ y = .ref b ∧ NdIn K P w H3 d ks ∧ NkV K H3 k (.ref b) ∧ k.depth ≤ 8 ∧ ks.length ≤ 1000 ∧
  D.nx σ (upd H3 d (ndO P w d (ndPut ks k b v)))
theorem ps_putN {o i value : Expr} {pos pos' : Pos} {td ty tv : TE} (hu : X.A.units + 20 < cLine) (ho : PE X o td) (hi : PE X i ty) (hv : PE X value tv) (hs : swapsWith value (some (.Subscript o i pos')) pos.line X.env = pure false) :
    PS X (.Assign [.Subscript o i pos'] value pos) (sPutN X.K X.prog X.w td ty tv) := by
  refine ⟨fun pins s σ H D I h => ?_⟩
  refine wpAny_Assign_Subscript (thn (hv.run pins s σ H _ I h) fun r s1 ⟨v, H1, I1, rv, q1⟩ => thn (ho.run pins s1 σ H1 _ I1 q1) fun u s2 ⟨x, H2, I2, rx, q2⟩ => thn (hi.run pins s2 σ H2 _ I2 q2) fun iv s3 ⟨y, H3, I3, ry, d, b, ks, k, ex, ey, N, nk, l8, lz, q3⟩ => ?_) hs
  subst ex
  subst ey
  obtain rfl : u = Value.ref d := rx
  obtain rfl : iv = Value.ref b := ry
  obtain ⟨ys, rel, hd, hz, DD⟩ := N.dict I3
  have ly : ys.length = ks.length := by
    have := congrArg List.length rel.keys
    rw [List.length_map, List.length_map] at this
    exact this
  have big : (1001 : Nat) < sizeLine := by rw [sizeLine_eq]; decide
  refine wpAny_setItem_heap (hsz := by omega) (show X.A.units + 1 + 8 < cLine by omega) (nd_is I3 nk l8) DD fun h' D' hs' => ?_
  have he : ∃ q, h'.get? d = some q := let ⟨q, _, _, hq, _⟩ := D'; ⟨q, hq⟩
  have hl := ndPut_len ks k b v
  exact ⟨σ, _, d_write (t' := s3.toks + (nestedKind X.prog X.w).draws k) I3 (nd_mut N) hs' he (nd_new hd (by omega) (nd_put rel k b rv) D'), q3⟩
end
/-! ### the values of such a dict, walked -/
def ItN (P : Program) (w : World) (d : Addr) (o : Obj) (xs : List (NestedKey × Addr × V)) : It :=
  ⟨fun i H => H d = some (.frz o (ndO P w d xs)) ∧ i < xs.length, fun i H x H' => H' = H ∧ ∃ e, xs[i]? = some e ∧ x = e.2.2, fun i H => H d = some (.frz o (ndO P w d xs)) ∧ xs.length ≤ i⟩
theorem frzN {X : Cx} {pins : List (Addr × Obj)} {s : Shared} {σ : L2.St} {H : Hp} {d : Addr} {o : Obj} {xs : List (NestedKey × Addr × V)} (I : L2.Inv X pins σ H s) (h : H d = some (.frz o (ndO X.prog X.w d xs))) :
    (d == sysModules) = false ∧ s.heap.get? d = some o ∧ ∃ (es : Array DictEntry) (ep : Nat), o.data = .dict es ep ∧ s.heap.DictRaw d es ep ∧ es.size = xs.length ∧ ∀ (i : Nat) (e : NestedKey × Addr × V), xs[i]? = some e → ∃ en, es[i]? = some en ∧ RelV e.2.2 en.val := by
  have ok : s.heap.get? d = some o ∧ ObjOk X.prog X.w H s.heap d (ndO X.prog X.w d xs) := I.hok d _ h
  obtain ⟨g, ⟨hd, hz, o', es, ep, ys, ho, hx, hdat, he, rel⟩, _⟩ := ok
  rw [g] at ho
  cases ho
  have ly : ys.length = xs.length := by
    have := congrArg List.length rel.keys
    rw [List.length_map, List.length_map] at this
    exact this
  refine ⟨hd, g, es, ep, hdat, ⟨o, g, hx, hdat⟩, by rw [size_of_entries he, ly], fun i e hi => ?_⟩
  obtain ⟨y, hy, _, _, rv⟩ := pget1 rel hi
  have q := entry_at he i
  rw [hy] at q
  exact ⟨_, q, rv⟩
theorem turn_valsN {P : Program} {w : World} {K : PySem.W.Frag} {tg : Expr} {d : Addr} {o : Obj} {es : Array DictEntry} {ep : Nat} {xs : List (NestedKey × Addr × V)} (it : Addr) (hod : o.data = .dict es ep) : Turn P w K tg (ItN P w d o xs) [it] it (fun i h => h.IsValIter it d i xs.length ep) where
  mem := by simp
  obj := fun i h st b hb => by
    have e : b = it := by simpa using hb
    subst e
    obtain ⟨oi, e, c, dd⟩ := st
    exact ⟨oi, e, fun v z => by rw [dd] at z; cases z⟩
  keep := fun i h h' st k => st.at fun oi e => k it (by simp) oi e
  item := by
    intro X hP hw hK hc i pins s σ H E I hf st hg
    subst hP hw hK
    obtain ⟨hd, hi⟩ := hg
    obtain ⟨f0, f1, f2, f3, f4, f5⟩ := hf it (by simp)
    obtain ⟨hs, hgd, es', ep', hdt, raw, hsz, ent⟩ := frzN I hd
    obtain ⟨rfl, rfl⟩ := dict_ep hod hdt
    obtain ⟨en, he, rv⟩ := ent i _ (List.getElem?_eq_getElem hi)
    have hi2 : i < es'.size := by omega
    rw [← hsz] at st
    refine wpAny_pyNext_values_item_raw st raw hi2 fun h' st' sb => ?_
    have I1 : Inv X pins σ H { s with heap := h' } := I.turned (t' := s.toks) (fun b ob hb e => (sb.2 b hb).trans e) f0 f1 f3 f4 f5
    obtain ⟨oi, e, c, dd⟩ := id st'
    have ev : es'[i].val = en.val := by
      have : es'[i] = en := by
        rw [Array.getElem?_eq_getElem hi2] at he
        exact Option.some.inj he
      rw [this]
    refine ⟨es'[i].val, rfl, go_of (s := { s with heap := h' }) e c dd (by decide) ⟨xs[i].2.2, H, I1, by rw [ev]; exact rv, ⟨rfl, _, List.getElem?_eq_getElem hi, rfl⟩, ?_, fun b hb => (hf b hb).1⟩⟩
    rw [← hsz]
    exact st'
  done := by
    intro X hP hw hK hc i pins s σ H E I hf st hg
    subst hP hw hK
    obtain ⟨hd, hi⟩ := hg
    obtain ⟨f0, f1, f2, f3, f4, f5⟩ := hf it (by simp)
    obtain ⟨hs, hgd, es', ep', hdt, raw, hsz, ent⟩ := frzN I hd
    obtain ⟨rfl, rfl⟩ := dict_ep hod hdt
    rw [← hsz] at st
    exact wpAny_pyNext_values_end_raw (I.ok.hd hc) st raw (by omega) fun h' eb => ⟨rfl, I.turned (t' := s.toks) (fun b ob hb e => eb b ob hb e) f0 f1 f3 f4 f5⟩
  self := fun A i s Q E st h => wpAny_pyIter_valiter st h
def iValsN (P : Program) (w : World) (td : TE) : TI := fun σ H R => td σ H fun x H1 => ∃ (d : Addr) (o : Obj) (xs : List (NestedKey × Addr × V)), x = .ref d ∧ H1 d = some (.frz o (ndO P w d xs)) ∧ R (ItN P w d o xs) H1
theorem pi_valuesN {X : Cx} {tg e : Expr} {td : TE} {apos cpos : Pos} (he : PE X e td) (hbase : attributeBase e "values" X.env (eval e X.env) = eval e X.env := by rfl) (hline : (apos.endLine == cpos.line) = true := by rfl) : PI X tg (.Call (.Attribute e "values" apos) [] [] cpos) (iValsN X.prog X.w td) := by
  refine ⟨fun pins s σ H R I h => ?_⟩
  refine wpAny_Call_method (T := "dict") (id := "dict.values") hbase rfl hline F.plainAttrs_dict F.slot_dict_values F.type_dict_values (thn (he.run pins s σ H _ I h) fun u s1 ⟨x, H1, I1, rx, d, o, xs, ex, hd, q⟩ => ?_)
  subst ex
  obtain rfl : u = Value.ref d := rx
  obtain ⟨hs, hgd, es, ep, hdt, raw, hsz, ent⟩ := frzN I1 hd
  have nod : ∀ b, Value.ref d = .ref b → ∃ ob, s1.heap.get? b = some ob ∧ ob.dict = none := fun b e => by
    cases e
    obtain ⟨o', e1, e2, _⟩ := raw
    exact ⟨o', e1, e2.2.1⟩
  refine ⟨raw.typeIs, nod, ?_⟩
  have I2 : Inv X pins σ H1 { s1 with heap := s1.heap.push { cls := .type "dict_values", data := .fields #[.ref d] } } := I1.kept (t' := s1.toks) fun b ob q => Heap.get?_push_of_some _ q
  have fin : wpAny (model X.prog X.w) X.A (pyIter (.ref s1.heap.objs.size)) (PIE X pins σ tg R) X.xe { s1 with heap := s1.heap.push { cls := .type "dict_values", data := .fields #[.ref d] } } := by
    refine wpAny_pyIter_values_raw (d := d) ⟨_, Heap.get?_push_size _ rfl, rfl, rfl⟩ (raw.push _) (pi_one (tk := s1.toks) I2 _ (turn_valsN _ hdt) ⟨_, Heap.get?_push_size _ rfl, rfl, ?_⟩ q)
    rw [hsz] <;> rfl
  show wpAny _ _ (callWith cpos (.builtin "dict.values") [.ref d] [] []) _ X.xe s1
  exact method_meetsIn F.slot_dict_values F.entry_dict_values rfl (PySem.evalArgs_none ⟨rfl, raw.typeIs, F.args_dict_values_1 _, _, meets_dict_values_raw d hs, ⟨es, ep, raw⟩, fin⟩)
theorem walk_valuesN {P : Program} {w : World} {d : Addr} {o : Obj} {xs : List (NestedKey × Addr × V)} : Walk (ItN P w d o xs) xs.length (fun H => H d = some (.frz o (ndO P w d xs))) (fun i H x H' => H' = H ∧ ∃ e, xs[i]? = some e ∧ x = e.2.2) :=
  ⟨fun _ _ hi q => ⟨q, hi⟩, fun _ q => ⟨q, Nat.le_refl _⟩, fun _ _ _ _ _ _ y => y⟩
/-! ### sorted(d.values()), the values tuples of texts -/
def valuesO (p d : Addr) : HO := .ext fun h => h.IsValuesView p d
theorem valuesO_ok {P : Program} {w : World} {H : Hp} {h : Heap} {p d : Addr} (e : h.get? p = some { cls := .type "dict_values", data := .fields #[.ref d] }) : ObjOk P w H h p (valuesO p d) :=
  ⟨⟨_, e, rfl, rfl⟩, ⟨_, e⟩, fun h1 h2 x k => let ⟨o, ho, r⟩ := x; ⟨o, k o ho, r⟩⟩
theorem mt_valuesN {X : Cx} : MtR X "dict.values" (fun x xs H Q => ∃ (d : Addr) (ks : List (NestedKey × Addr × V)), x = .ref d ∧ xs = [] ∧ NdIn X.K X.prog X.w H d ks ∧ ∀ p, H p = none → Q (.ref p) (upd H p (valuesO p d))) := by
  intro pins s σ H x xs v us Q I rx rxs ⟨d, ks, e1, e2, N, q⟩
  subst e1
  subst e2
  cases rx
  cases rxs
  obtain ⟨ys, rel, hd, hz, D⟩ := N.dict I
  have ty := D.typeIs
  obtain ⟨o, es, ep, ho, hx, hdat, _⟩ := D
  refine call_meetsIn F.slot_dict_values ty F.entry_dict_values (F.args_dict_values_1 _) (meets_dict_values_raw d hd) ⟨⟨es, ep, o, ho, hx, hdat⟩, ?_⟩
  have hf : H s.heap.objs.size = none := I.hok.fresh (Nat.le_refl _)
  exact ⟨.ref s.heap.objs.size, upd H s.heap.objs.size (valuesO s.heap.objs.size d), I.laid (t' := s.toks) (fun b u e => Heap.get?_push_of_some _ e) (Nat.le_refl _) (valuesO_ok (Heap.get?_push_size _ rfl)), rfl, q _ hf⟩
theorem alike_strs : ∀ xs ys : List Str, PySem.W.alikeAll (xs.map .str) (ys.map .str) = true
  | [], [] => rfl
  | [], _ :: _ => rfl
  | _ :: _, [] => rfl
  | x :: xs, y :: ys => by
    show (PySem.W.alike (.str x) (.str y) && PySem.W.alikeAll (xs.map .str) (ys.map .str)) = true
    rw [alike_strs xs ys]
    rfl
/-- a tuple of texts, one at least -/
def TxT (K : PySem.W.Frag) (H : Hp) (v : V) (d : PyData) : Prop := ∃ (t : Addr) (x : Str) (ws : List Str), v = .ref t ∧ SqT K H t ((x :: ws).map V.str) ∧ d = .tuple ((x :: ws).map .str)
theorem reads_strs {h : Heap} : ∀ {ws : List Str} {us : List Value}, Vals (ws.map V.str) us → ReadsAll h us (ws.map .str) []
  | [], _, r => by
    cases r
    exact .nil
  | x :: ws, _, r => by
    cases r with
    | cons a b =>
      obtain ⟨t, rfl⟩ := a
      exact .cons (.str x t) (reads_strs b)
theorem call_sortedVN {X : Cx} (hcalm : X.calm = true) (hu : X.A.units + 70 < cLine) : CallR X (.builtin "sorted") (fun vs H Q => ∃ (p d : Addr) (ks : List (NestedKey × Addr × V)) (ds : List PyData), vs = [.ref p] ∧ H p = some (valuesO p d) ∧ NdIn X.K X.prog X.w H d ks ∧ Paired (TxT X.K H) (ks.map fun e => e.2.2) ds ∧
    ∀ (ys : List V) (q : Addr), Paired (TxT X.K H) ys (srtD ds) → H q = none → Q (.ref q) (upd H q (.lst ys))) := by
  rintro pins s σ H vs us Q I r ⟨p, d, ks, ds, rfl, hp, N, hds, k⟩
  obtain ⟨u, rfl, ru⟩ := vals1 r
  obtain rfl : u = Value.ref p := ru
  have view : s.heap.IsValuesView p d := (show ObjOk X.prog X.w H s.heap p (valuesO p d) from I.hok p _ hp).1
  obtain ⟨ys, rel, hd, hz, D⟩ := N.dict I
  have ly : ys.length = ks.length := by
    have := congrArg List.length rel.keys
    rw [List.length_map, List.length_map] at this
    exact this
  obtain ⟨o, es, ep, ho, hx, hdat, he, _⟩ := D
  have les : es.size = ks.length := by rw [size_of_entries he, ly]
  have lds : ds.length = ks.length := by
    have := Paired.length hds
    rw [List.length_map] at this
    exact this.symm
  refine PySem.Calls.call_function_entry kind_sorted plain_sorted entry_sorted (args_sorted1 _) ?_
  show wpAny _ _ (Builtin.sorted { pos := [Value.ref p] }) _ _ _
  unfold Builtin.sorted
  refine wpAny_bind (wpAny_pure ?_)
  refine wpAny_bind (PySem.W.kdu_collect (KdlSrc.rawValues (r := p) (d := d) (es := es) (ep := ep)) (I.ok.hd hcalm) ⟨view, ⟨o, ho, hx, hdat⟩⟩ (by omega) fun h' tk acc hh hit => ?_)
  have la : acc.toList.length = ks.length := by rw [Array.length_toList, hit.1, les]
  have va : Vals (ks.map fun e => e.2.2) acc.toList := by
    have go : ∀ (l : List Value) (m : List V), l.length = m.length → (∀ j v x, l[j]? = some v → m[j]? = some x → RelV x v) → Vals m l := fun l => by
      induction l with
      | nil =>
        intro m hl _
        cases m with
        | nil => exact .nil
        | cons _ _ => simp at hl
      | cons v r ih =>
        intro m hl hx
        cases m with
        | nil => simp at hl
        | cons x m => exact .cons (hx 0 v x rfl rfl) (ih m (by simpa using hl) fun j v x h1 h2 => hx (j + 1) v x (by simpa using h1) (by simpa using h2))
    refine go _ _ (by rw [la, List.length_map]) fun j v x h1 h2 => ?_
    rw [Array.getElem?_toList] at h1
    obtain ⟨hj, e⟩ := hit.2 j v h1
    rw [List.getElem?_map] at h2
    obtain ⟨e0, h3, rfl⟩ := Option.map_eq_some_iff.mp h2
    obtain ⟨y, hy, _, _, rv⟩ := pget1 rel h3
    have q := entry_at he j
    rw [hy, Array.getElem?_eq_getElem hj] at q
    have q : es[j] = entryOfKey (nestedKind X.prog X.w) y := Option.some.inj q
    rw [e, q]
    exact rv
  have lz : acc.toList.length ≤ sizeLine := by omega
  refine wpAny_bind (wpAny_newList ?_ lz)
  have hpp := Heap.get?_push_size h' (o := { cls := .type "list", data := .seq acc.toList.toArray }) rfl
  have e := each_of_vals va hds
  have eid : ds.map id = ds := List.map_id ds
  refine wpAny_bind (wpAny_holding ?_)
  refine PySem.W.list_sort_data (enc := id) (bs := ds) hpp e ?_ ?_ ?_ (by omega) (fun b hb => ?_) fun out lo eo => ?_
  · refine e.mono fun u d ⟨x, rx, t, z, ws, hx, hs, hd⟩ => ?_
    subst hx
    subst hd
    cases rx
    obtain ⟨its, rv, ht, _⟩ := I.tuple hs
    obtain ⟨o2, ho2, hc2, n2, hd2⟩ := ht
    refine ⟨[], .tuple (Heap.get?_push_of_some _ (hh _ _ ho2)) hc2 hd2 ?_, by simp⟩
    rw [List.toList_toArray]
    exact reads_strs rv
  · rw [eid]
    intro d1 h1 d2 h2
    have form : ∀ d ∈ ds, ∃ ws : List Str, d = .tuple (ws.map .str) := fun d hd => by
      obtain ⟨j, hj⟩ := List.mem_iff_getElem?.mp hd
      obtain ⟨v, _, t, x, ws, _, _, e⟩ := DX.pget hds hj
      exact ⟨_, e⟩
    obtain ⟨w1, rfl⟩ := form d1 h1
    obtain ⟨w2, rfl⟩ := form d2 h2
    exact alike_strs w1 w2
  · rw [eid]
    refine .inl fun d hd => ?_
    obtain ⟨j, hj⟩ := List.mem_iff_getElem?.mp hd
    obtain ⟨v, _, t, x, ws, _, _, e⟩ := DX.pget hds hj
    exact ⟨_, _, e⟩
  · obtain ⟨j, hj⟩ := List.mem_iff_getElem?.mp hb
    obtain ⟨v, _, t, x, ws, _, _, e⟩ := DX.pget hds hj
    have z : ∀ l : List Str, PyData.depthAll (l.map .str) = 0 := fun l => by
      induction l with
      | nil => rfl
      | cons x r ih =>
        show max 0 (PyData.depthAll (r.map .str)) = 0
        rw [ih] <;> rfl
    have dz : (id b).depth = 1 := by
      rw [e]
      show PyData.depthAll ((x :: ws).map .str) + 1 = 1
      rw [z]
    rw [dz]
    show X.A.units + 1 + 1 + 1 < cLine
    omega
  · obtain ⟨zs, vz, pz⟩ := vals_of_each eo
    obtain ⟨ep', he'⟩ := sortedHeap_at (out := List.toArray out) hpp
    refine wpAny_pure ⟨_, rfl, ?_⟩
    have I2 := I.kept (t' := tk) hh
    refine ⟨.ref h'.objs.size, _, I2.laid (a := h'.objs.size) (o := .lst zs) (fun b u hb => ?_) (Nat.le_refl _) ⟨?_, out, ep', vz, he'⟩, rfl, k zs _ pz (I2.hok.fresh (Nat.le_refl _))⟩
    · have x1 := Heap.lt_size hb
      rw [sortedHeap_old (Nat.ne_of_lt x1) (Nat.lt_of_lt_of_eq (Nat.lt_succ_of_lt x1) (size_push' _ _).symm)]
      exact Heap.get?_push_of_some _ hb
    · have := vz.length
      omega
end Vf

set_option Elab.async false
set_option linter.all false
set_option maxRecDepth 100000
set_option maxHeartbeats 4000000
/-! sets of texts: made of a list, sorted -/
namespace Vf
open PySem PySem.Spec PyProof.Rows L2
/-- the text of a set's entry -/
def enT (e : Int × Value) : Str := strV e.2
def EnOk (w : World) (e : Int × Value) : Prop := ∃ (x : Str) (tk : Tok), e = (hashStr w x, Value.str x tk)
/-- the set of texts at a, its members in some order -/
structure TSetA (w : World) (h : Heap) (a : Addr) (xs : List Str) (es : Array (Int × Value)) (t : SetTable) : Prop where
  ob : ∃ o ep, h.get? a = some o ∧ o.ExactSet ∧ o.data = .set es ep t
  ok : ∀ e ∈ es.toList, EnOk w e
  mem : (es.toList.map enT).Perm xs
  nd : xs.Nodup
  few : es.size < scanBound
  fits : t.fits es.size = true
  ris : Ris t.place.toList
  led : w.params.followText "set-order" = true ∨ t.led = true
def TSet (w : World) (h : Heap) (a : Addr) (xs : List Str) : Prop := ∃ es t, TSetA w h a xs es t
theorem TSet.at {w : World} {h h' : Heap} {a : Addr} {xs : List Str} (R : TSet w h a xs) (k : ∀ o, h.get? a = some o → h'.get? a = some o) : TSet w h' a xs := by
  obtain ⟨es, t, ⟨o, ep, ho, hx, hd⟩, r1, r2, r3, r4, r5, r6, r7⟩ := R
  exact ⟨es, t, ⟨o, ep, k o ho, hx, hd⟩, r1, r2, r3, r4, r5, r6, r7⟩
theorem enT_of {w : World} {e : Int × Value} (g : EnOk w e) (P : Program) (k : Str) : (strKind P w).is k e.2 = true ↔ enT e = k := by
  obtain ⟨x, tk, rfl⟩ := g
  show ((x == k) = true) ↔ x = k
  exact beq_iff_eq
section
variable {P : Program} {w : World} {A : Around} {E : Value → Shared → Prop} {s : Shared} {a : Addr} {xs : List Str}
theorem TSetA.elems {h : Heap} {es : Array (Int × Value)} {t : SetTable} (R : TSetA w h a xs es t) : ElemsOf (strKind P w) es.toList := fun e he => by
  obtain ⟨x, tk, rfl⟩ := R.ok e he
  exact ⟨⟨x, strKind_is P w x tk, rfl⟩, rfl⟩
/-- behind the table's new place -/
theorem tset_tail {g : Bool → Sem Unit} (hg : ∀ (b : Bool) (s₁ : Shared) (Q' : Unit → Shared → Prop), Q' () s₁ → wpAny (model P w) A (g b) Q' E s₁)
    {o : Obj} {es es1 : Array (Int × Value)} {ep : Nat} {t t2 : SetTable} (ho : s.heap.get? a = some o) (hex : o.ExactSet) (hd : o.data = .set es ep t)
    (ok1 : ∀ e ∈ es1.toList, EnOk w e) (m1 : (es1.toList.map enT).Perm xs) (nd : xs.Nodup) (hb1 : es1.size < scanBound) (hf2 : t2.fits es1.size = true) (hr : Ris t2.place.toList) (hl : w.params.followText "set-order" = true ∨ t2.led = true) {wasDummy : Bool} {R : Option Bool → Shared → Prop}
    (hR : ∀ h', Heap.SameBut a s.heap h' → TSet w h' a xs → R (some true) { s with heap := h' }) :
    wpAny (model P w) A (do
        storeSet a es1 t2
        if (!wasDummy && t2.tooFull) = true then do
            g (relayAll t2 es1 (SetTable.grown es1.size)).2.2
            storeSet a (relayAll t2 es1 (SetTable.grown es1.size)).1 (relayAll t2 es1 (SetTable.grown es1.size)).2.1
            pure (some true)
          else pure (some true)) R E s := by
  have at1 := store_at (es' := es1) (t' := t2) ho hd
  have same1 := Heap.SameBut.update s.heap a (Obj.putSet es1 t2)
  refine wpAny_bind (wpAny_storeSet_of ho hd ?_ (fits_of_scanBound hb1))
  split
  · have p3 := relayAll_perm t2 es1 (SetTable.grown es1.size)
    have f3 := relayAll_fits t2 es1 (SetTable.grown es1.size)
    have r3 := relayAll_ris t2 es1 (SetTable.grown es1.size)
    have l3 := relayAll_led t2 es1 (SetTable.grown es1.size)
    generalize relayAll t2 es1 (SetTable.grown es1.size) = Z at p3 f3 r3 l3 ⊢
    obtain ⟨es2, t3, gave⟩ := Z
    dsimp only at p3 f3 r3 l3 ⊢
    have z2 : es2.size = es1.size := by
      have := p3.length_eq
      rwa [Array.length_toList, Array.length_toList] at this
    refine wpAny_bind (hg _ _ _ (wpAny_bind (wpAny_storeSet_of at1 rfl ?_ (fits_of_scanBound (by rw [z2]; exact hb1)))))
    have at2 := store_at (es' := es2) (t' := t3) at1 rfl
    refine wpAny_pure (hR _ (same1.trans (Heap.SameBut.update _ a _)) ⟨es2, t3, ⟨_, _, at2, hex, rfl⟩, fun e he => ok1 e (p3.mem_iff.mp he), (p3.map enT).trans m1, nd, by rw [z2]; exact hb1, f3, r3, ?_⟩)
    rw [l3]
    exact hl
  · exact wpAny_pure (hR _ same1 ⟨es1, t2, ⟨_, _, at1, hex, rfl⟩, ok1, m1, nd, hb1, hf2, hr, hl⟩)
/-- one more text -/
def insT (xs : List Str) (k : Str) : List Str := if k ∈ xs then xs else k :: xs
def setT (zs : List Str) : List Str := zs.foldl insT []
theorem setT_snoc (zs : List Str) (z : Str) : setT (zs ++ [z]) = insT (setT zs) z := by
  unfold setT
  rw [List.foldl_append] <;> rfl
theorem insT_len (xs : List Str) (k : Str) : (insT xs k).length ≤ xs.length + 1 := by
  unfold insT
  split
  · omega
  · exact Nat.le_refl _
theorem foldT_len : ∀ (zs xs : List Str), (zs.foldl insT xs).length ≤ xs.length + zs.length
  | [], xs => Nat.le_refl _
  | z :: zs, xs => by
    have h1 := foldT_len zs (insT xs z)
    have h2 := insT_len xs z
    show (zs.foldl insT (insT xs z)).length ≤ xs.length + (zs.length + 1)
    omega
theorem setT_len (zs : List Str) : (setT zs).length ≤ zs.length := by
  have := foldT_len zs []
  simpa [setT] using this
theorem foldT_mem : ∀ (zs xs : List Str) (x : Str), x ∈ zs.foldl insT xs ↔ x ∈ xs ∨ x ∈ zs
  | [], xs, x => by simp
  | z :: zs, xs, x => by
    show x ∈ zs.foldl insT (insT xs z) ↔ _
    rw [foldT_mem zs (insT xs z) x, List.mem_cons]
    have e : x ∈ insT xs z ↔ x ∈ xs ∨ x = z := by
      unfold insT
      split
      · rename_i h
        exact ⟨.inl, fun q => q.elim id fun e => e ▸ h⟩
      · rw [List.mem_cons]
        exact Or.comm
    rw [e, or_assoc]
theorem setT_mem (zs : List Str) (x : Str) : x ∈ setT zs ↔ x ∈ zs := by
  unfold setT
  rw [foldT_mem]
  simp
theorem foldT_nd : ∀ (zs xs : List Str), xs.Nodup → (zs.foldl insT xs).Nodup
  | [], xs, h => h
  | z :: zs, xs, h => foldT_nd zs _ (by
    unfold insT
    split
    · exact h
    · rename_i q
      exact List.nodup_cons.mpr ⟨q, h⟩)
theorem setT_nd (zs : List Str) : (setT zs).Nodup := foldT_nd zs [] List.nodup_nil
theorem tset_add {k : Str} {tk : Tok} {Q : Bool → Shared → Prop} (R : TSet w s.heap a xs) (room : xs.length + 1 < scanBound)
    (hQ : ∀ (b : Bool) h', Heap.SameBut a s.heap h' → TSet w h' a (insT xs k) → Q b { s with heap := h' }) :
    wpAny (model P w) A (setAddHashed a (.str k tk) ((strKind P w).hash k)) Q E s := by
  obtain ⟨es, t, R⟩ := R
  have hel := R.elems (P := P)
  obtain ⟨⟨o, ep, ho, hx, hd⟩, ok, mem, nd, few, fits, ris, led⟩ := R
  have len : es.size = xs.length := by
    have := mem.length_eq
    rwa [List.length_map, Array.length_toList] at this
  have self : (strKind P w).is k (.str k tk) = true := strKind_is P w k tk
  have sc : (Value.str k tk).scannable = true := rfl
  have inx : k ∈ xs ↔ ∃ e ∈ es.toList, (strKind P w).is k e.2 = true := by
    rw [← mem.mem_iff, List.mem_map]
    exact ⟨fun ⟨e, he, q⟩ => ⟨e, he, (enT_of (ok e he) P k).2 q⟩, fun ⟨e, he, q⟩ => ⟨e, he, (enT_of (ok e he) P k).1 q⟩⟩
  unfold setAddHashed setAddHashedIn
  refine wpAny_holding (wpAny_bind (wpAny_setState_of ho hd fits ?_))
  dsimp only
  rw [byScan_of sc few hel, if_pos rfl]
  unfold setAddByScan
  refine wpAny_bind (wpAny_bind (wpAny_rule (wpAny_bind (wpAny_setScan_of self ho hd fits hel ?_))))
  have kept := hQ false s.heap (Heap.SameBut.refl a s.heap)
  have more := hQ true
  unfold insT at kept more
  cases hfi : List.findIdx? (fun e => (strKind P w).is k e.2) es.toList with
  | some j =>
    obtain ⟨hj, pj, _⟩ := List.findIdx?_eq_some_iff_getElem.mp hfi
    have ink : k ∈ xs := inx.2 ⟨_, List.getElem_mem hj, pj⟩
    rw [if_pos ink] at kept
    exact wpAny_pure (wpAny_pure (kept ⟨es, t, ⟨o, ep, ho, hx, hd⟩, ok, mem, nd, few, fits, ris, led⟩))
  | none =>
    have out : k ∉ xs := fun z => by
      obtain ⟨e, he, q⟩ := inx.1 z
      have := List.findIdx?_eq_none_iff.mp hfi e he
      rw [q] at this
      cases this
    rw [if_neg out] at more
    dsimp only
    have gaveOk : ∀ (b : Bool) (s₁ : Shared) (Q' : Unit → Shared → Prop), Q' () s₁ → wpAny (model P w) A (match b with | true => rule "set.scan.the-table-gave-way" | false => pure ()) Q' E s₁ := fun b s₁ Q' q => by
      cases b
      · exact wpAny_pure q
      · exact wpAny_rule q
    have p1 := layNew_perm t es ((strKind P w).hash k) (.str k tk)
    have f1 := layNew_fits t es ((strKind P w).hash k) (.str k tk)
    have r1 := layNew_ris t es ((strKind P w).hash k) (.str k tk) ris
    have l1 := layNew_led t es ((strKind P w).hash k) (.str k tk)
    generalize layNew t es ((strKind P w).hash k) (.str k tk) = Z at p1 f1 r1 l1 ⊢
    obtain ⟨es1, t1, wasDummy, gave⟩ := Z
    dsimp only at p1 f1 r1 l1 ⊢
    rw [Array.toList_push] at p1
    have pc : es1.toList.Perm (((strKind P w).hash k, Value.str k tk) :: es.toList) := p1.trans (List.perm_append_singleton _ _)
    have ok1 : ∀ e ∈ es1.toList, EnOk w e := fun e he => by
      rcases List.mem_cons.mp (pc.mem_iff.mp he) with rfl | z
      · exact ⟨k, tk, rfl⟩
      · exact ok e z
    have m1 : (es1.toList.map enT).Perm (k :: xs) := (pc.map enT).trans (mem.cons k)
    have nd1 : (k :: xs).Nodup := List.nodup_cons.mpr ⟨out, nd⟩
    have few1 : es1.size < scanBound := by
      have := m1.length_eq
      rw [List.length_map, Array.length_toList, List.length_cons] at this
      omega
    have led1 : w.params.followText "set-order" = true ∨ t1.led = true := by
      rw [l1]
      exact led
    refine wpAny_bind (gaveOk _ _ _ ?_)
    split
    · refine wpAny_bind ?_
      rw [hashByValue_scannable 8 sc]
      refine wpAny_pure (tset_tail gaveOk ho hx hd ok1 m1 nd1 few1 ?_ ?_ ?_ fun h' sb r => ?_)
      · split
        · first | exact SetTable.fits_plain_off f1 | exact f1
        · first | exact f1 | exact SetTable.fits_plain_off f1
      · split <;> exact r1
      · split <;> exact led1
      · exact wpAny_pure (more h' sb r)
    · refine wpAny_bind (wpAny_pure ?_)
      rw [if_pos rfl]
      exact tset_tail gaveOk ho hx hd ok1 m1 nd1 few1 f1 r1 led1 fun h' sb r => wpAny_pure (more h' sb r)

/-- set.update's loop over texts -/
theorem tset_loop {I : Addr} {fp wr : List Addr} {G : Array GenState → Array GenState → Prop} {n : Nat} {Pv : Nat → Value → Prop} {St : Nat → Shared → Prop} {R : Result → Shared → Prop}
    (W : WalksS P w A.in1 I fp wr G n Pv St) {S : Addr} (out : S ∉ fp) {zs : List Str} (hn : zs.length = n) (few : zs.length + 1 < scanBound) (hv : ∀ i v, Pv i v → ∃ z t, zs[i]? = some z ∧ v = Value.str z t) :
    ∀ (left i : Nat) (s : Shared), i + left = n → St i s → TSet w s.heap S (setT (zs.take i)) →
      (∀ s', Moved (S :: wr) G s s' → TSet w s'.heap S (setT zs) → R (.ok (.ret .none)) s') → codeAny (model P w) A (.builtin "set.update.loop" ⟨[.ref S, .ref I], []⟩) R s := by
  have away : S ∉ wr := fun h => out (W.sub _ h)
  have wide : ∀ b ∈ wr, b ∈ S :: wr := fun b => List.mem_cons_of_mem S
  intro left
  induction left with
  | zero =>
    intro i s hi hst T hR
    obtain rfl : i = n := hi
    refine codeAny_builtin PyProof.Rows.F.entry_set_update_loop (?_ : wpAny _ _ _ _ _ _)
    rw [Around.under_plainId PyProof.Rows.F.plain_set_update_loop ⟨[.ref S, .ref I], []⟩]
    refine wpAny_bind (m := pyNext (.ref I)) (W.done s _ _ hst fun s' hm => ?_)
    rw [← hn, List.take_length] at T
    exact wpAny_pure (hR s' (hm.mono wide) (T.at fun o => hm.heap S o away))
  | succ left ih =>
    intro i s hi hst T hR
    refine codeAny_builtin PyProof.Rows.F.entry_set_update_loop (?_ : wpAny _ _ _ _ _ _)
    rw [Around.under_plainId PyProof.Rows.F.plain_set_update_loop ⟨[.ref S, .ref I], []⟩]
    refine wpAny_bind (m := pyNext (.ref I)) (W.item i s _ _ (by omega) hst fun v s1 hp hst1 hm => ?_)
    obtain ⟨z, t, hz, rfl⟩ := hv i v hp
    have T1 : TSet w s1.heap S (setT (zs.take i)) := T.at fun o => hm.heap S o away
    have next : setT (zs.take (i + 1)) = insT (setT (zs.take i)) z := by
      rw [← setT_snoc, List.take_add_one, hz] <;> rfl
    refine wpAny_bind (m := holding [Value.str z t] (setAdd S (.str z t))) (wpAny_holding ?_)
    unfold setAdd
    refine wpAny_holding (wpAny_bind ((PySem.strKind P w).pyHash (k := z) (strKind_is P w z t) ?_))
    refine tset_add (s := { s1 with toks := s1.toks + 1 }) T1 ?_ fun b h2 same T2 => ?_
    · have l1 := setT_len (zs.take i)
      have l2 : (zs.take i).length ≤ zs.length := by
        rw [List.length_take]
        omega
      omega
    have keep : ∀ c o, c ≠ S → s1.heap.get? c = some o → h2.get? c = some o := fun c o hc e => (same.2 c hc).trans e
    rw [← next] at T2
    refine wpAny_pure ⟨plainId_quiet PyProof.Rows.F.plain_set_update_loop _, ih (i + 1) _ (by omega) (W.frame _ s1 _ _ hst1 (Nat.le_succ _) fun c hc o => keep c o fun e => out (e ▸ hc)) T2 fun s3 hm3 T3 => hR s3 ?_ T3⟩
    exact Moved.trans W.gtrans ((hm.mono wide).then_heap (Nat.le_succ _) fun c o hc => keep c o fun e => hc (e ▸ List.mem_cons_self)) hm3

/-- set() just made -/
abbrev set0 (w : World) : Obj := { cls := .type "set", dict := none, data := .set #[] 0 (.fresh 0 0 (!w.params.followText "set-order")) }
theorem tset_none {h : Heap} {d : Addr} (e : h.get? d = some (set0 w)) : TSet w h d [] := by
  refine ⟨#[], _, ⟨_, 0, e, ⟨rfl, rfl, rfl⟩, rfl⟩, fun x hx => absurd hx (by simp), .nil, .nil, by decide, rfl, .nil, ?_⟩
  show w.params.followText "set-order" = true ∨ (!w.params.followText "set-order") = true
  cases w.params.followText "set-order"
  · exact .inr rfl
  · exact .inl rfl
set_option maxRecDepth 100000 in
set_option maxHeartbeats 3200000 in
theorem call_setL {l : Addr} {its : Array Value} {zs : List Str} {Q : Value → Shared → Prop} (hh : A.handled = none) (hl : s.heap.IsList l its) (rv : Vals (zs.map V.str) its.toList) (few : zs.length + 1 < scanBound)
    (k : ∀ (h' : Heap) (tk : Nat), TSet w h' s.heap.objs.size (setT zs) → (∀ b o, s.heap.get? b = some o → h'.get? b = some o) → Q (.ref s.heap.objs.size) { s with heap := h', toks := tk }) :
    wpAny (model P w) A (call (.type "set") [.ref l]) Q E s := by
  have len : zs.length = its.size := by
    have := rv.length
    rwa [List.length_map, Array.length_toList] at this
  have made := PySem.F.called_set.made
  have sub := PySem.F.called_set.sub
  obtain ⟨c, tl, mro⟩ := PySem.F.called_set.mro
  refine wpAny_call (codeAny_of_tree (?_ : wpAny _ _ (callAny (.type "set") _) _ _ _))
  refine wpAny_pure ⟨Code.quiet_builtin _ (by decide +kernel), codeAny_builtin PySem.F.entry_type_call ?_⟩
  rw [Around.under_plain (weight_type_call_type "set" [.ref l] []) rfl]
  have not := PySem.F.called_set.notType
  have can := PySem.F.called_set.canCreate
  have tc := PySem.F.typeCall_set_1 (.ref l)
  repeat (any_goals (first | assumption | wp_step))
  refine codeAny_mono (code_set_led1 (.ref l) (E := E) (Q₁ := fun v s1 => v = .ref s.heap.objs.size ∧ s1 = { s with heap := s.heap.push (set0 w) }) ⟨rfl, rfl⟩) fun r s1 hr => ?_
  match r, hr with
  | .error e, hr => exact hr
  | .ok (.ret v), hr =>
    obtain ⟨rfl, rfl⟩ := hr
    have at0 : (s.heap.push (set0 w)).get? s.heap.objs.size = some (set0 w) := Heap.get?_push_size _ rfl
    have ty : Shared.TypeIs { s with heap := s.heap.push (set0 w) } (.ref s.heap.objs.size) "set" := ⟨_, at0, rfl⟩
    have look := PySem.F.called_set.init.lookup
    have bnd := PySem.F.called_set.init.bind (.ref s.heap.objs.size)
    repeat (any_goals (first | assumption | wp_step))
    refine codeAny_mono (codeAny_call_builtin (R := wants (fun r s2 => r = .none ∧ ∃ h' tk, s2 = { s with heap := h', toks := tk } ∧ TSet w h' s.heap.objs.size (setT zs) ∧ ∀ b o, s.heap.get? b = some o → h'.get? b = some o) E) PySem.F.called_set.init.plain PySem.F.entry_set_init (check_set_init_1 ty ?_)) fun r2 s2 hr2 => ?_
    · obtain ⟨⟨ocls, odict, odata, oslots⟩, hol, hcl, nl, hdl⟩ := hl
      dsimp only at hcl hdl
      subst hcl hdl
      have at1 : (s.heap.push (set0 w)).get? l = some { cls := .type "list", dict := odict, data := .seq its nl, slots := oslots } := Heap.get?_push_of_some _ hol
      have n1 := PySem.F.sub_list_set
      have n2 := PySem.F.sub_list_frozenset
      have n3 : (Value.type "list" == Value.type "dict") = false := by decide
      have isl : (s.heap.push (set0 w)).IsList l its := ⟨_, at1, rfl, nl, rfl⟩
      have lt : l < s.heap.objs.size := Heap.lt_size hol
      unfold Builtin.«set.__init__» noKeywords Builtin.Frozenset.updateFrom
      generalize hit : pyIter = it
      wp_walk
      subst hit
      refine wpAny_pyIter_list isl (wpAny_bind (wpAny_runValue ?_))
      have hh3 : A.in1.in1.in1.handled = none := by simp [hh]
      have sz : (s.heap.push (set0 w)).objs.size = s.heap.objs.size + 1 := size_push' _ _
      have ne : l ≠ (s.heap.push (set0 w)).objs.size := by
        rw [sz]
        exact Nat.ne_of_lt (Nat.lt_succ_of_lt lt)
      refine tset_loop ((Walks.list hh3 _ l ne its).toS) (S := s.heap.objs.size) (fun hm => ?_) len few (fun i v hv => ?_) its.size 0 _ (by omega) ⟨⟨_, Heap.get?_push_size _ rfl, rfl, rfl⟩, isl.push _⟩ (tset_none (Heap.get?_push_of_some _ at0)) fun s' hm T => ?_
      · rw [sz] at hm
        rcases List.mem_cons.mp hm with e | e
        · exact Nat.lt_irrefl _ (Nat.lt_of_lt_of_eq (Nat.lt_succ_self _) e.symm)
        · exact Nat.lt_irrefl _ (Nat.lt_of_le_of_lt (Nat.le_of_eq (List.mem_singleton.mp e)) lt)
      · have hv' : its.toList[i]? = some v := by rw [Array.getElem?_toList]; exact hv
        obtain ⟨x, hx, rx⟩ : ∃ x, zs[i]? = some x ∧ RelV (.str x) v := by
          have go : ∀ (zs : List Str) (us : List Value) (i : Nat), Vals (zs.map V.str) us → us[i]? = some v → ∃ x, zs[i]? = some x ∧ RelV (.str x) v := fun zs => by
            induction zs with
            | nil =>
              intro us i r h
              cases r
              simp at h
            | cons z zs ih =>
              intro us i r h
              cases r with
              | cons a b =>
                cases i with
                | zero =>
                  cases h
                  exact ⟨z, rfl, a⟩
                | succ i => exact ih _ i b h
          exact go zs _ i rv hv'
        obtain ⟨t, rfl⟩ := rx
        exact ⟨x, t, hx, rfl⟩
      · obtain ⟨h', g2, d2, tk, o2⟩ := s'
        obtain rfl : g2 = s.gens := hm.gens
        obtain rfl : d2 = s.drawn := hm.drawn
        obtain rfl : o2 = s.os := hm.os
        refine (wpAny_pure ?_ : wpAny _ _ _ _ _ _)
        refine (show wpAny _ _ (ret Value.none) _ _ _ from ?_)
        refine wpAny_pure ⟨rfl, h', tk, rfl, T, fun b o e => ?_⟩
        have lb := Heap.lt_size e
        refine hm.heap b o (fun z => ?_) (Heap.get?_push_of_some _ (Heap.get?_push_of_some _ e))
        rw [sz] at z
        rcases List.mem_cons.mp z with z | z
        · exact absurd lb (by rw [z]; exact Nat.lt_irrefl _)
        · exact absurd lb (by rw [List.mem_singleton.mp z]; exact Nat.not_lt_of_le (Nat.le_succ _))
    · match r2, hr2 with
      | .error e, hr2 => exact hr2
      | .ok (.ret v), hr2 =>
        obtain ⟨rfl, h', tk, rfl, T, old⟩ := hr2
        repeat (any_goals (first | assumption | wp_step))
        exact k h' tk T old
end
end Vf

set_option Elab.async false
set_option linter.all false
set_option maxRecDepth 100000
set_option maxHeartbeats 4000000
/-! set(xs) and sorted(set(xs)) of texts, as calls -/
namespace Vf
open PySem PySem.Spec PyProof.Rows L2
def setO (w : World) (a : Addr) (xs : List Str) : HO := .ext fun h => TSet w h a xs
theorem setO_ok {P : Program} {w : World} {H : Hp} {h : Heap} {a : Addr} {xs : List Str} (T : TSet w h a xs) : ObjOk P w H h a (setO w a xs) := by
  refine ⟨T, ?_, fun h1 h2 x k => TSet.at x k⟩
  obtain ⟨es, t, ⟨o, ep, e, _⟩, _⟩ := T
  exact ⟨o, e⟩
theorem call_setTx {X : Cx} (hc : X.calm = true) : CallR X (.type "set") fun vs H Q => ∃ (a : Addr) (zs : List Str), vs = [.ref a] ∧ SqL X.K H a (zs.map V.str) ∧ zs.length + 1 < scanBound ∧
    ∀ p : Addr, H p = none → Q (.ref p) (upd H p (setO X.w p (setT zs))) := by
  rintro pins s σ H vs us Q I r ⟨a, zs, rfl, hq, few, k⟩
  obtain ⟨u, rfl, ru⟩ := vals1 r
  obtain rfl : u = Value.ref a := ru
  obtain ⟨its, rv, pl, hz⟩ := I.list hq
  refine call_setL (P := X.prog) (w := X.w) (I.ok.hd hc) pl.isList (zs := zs) (by simpa using rv) few fun h' tk T old => ?_
  exact ⟨.ref s.heap.objs.size, _, I.laid (a := s.heap.objs.size) (o := setO X.w s.heap.objs.size (setT zs)) (fun b u hb => old b u hb) (Nat.le_refl _) (setO_ok T), rfl, k _ (I.hok.fresh (Nat.le_refl _))⟩
theorem each_str {es : List (Int × Value)} {w : World} (ok : ∀ e ∈ es, EnOk w e) : ∀ {out : List Value}, out.Perm (es.map (·.2)) → ∀ v ∈ out, ∃ x t, v = Value.str x t := fun pm v hv => by
  obtain ⟨e, he, rfl⟩ := List.mem_map.mp (pm.mem_iff.mp hv)
  obtain ⟨x, t, rfl⟩ := ok e he
  exact ⟨x, t, rfl⟩
theorem strs_back : ∀ {us : List Value}, (∀ v ∈ us, ∃ x t, v = Value.str x t) → StrsAre us (us.map strV) ∧ Vals ((us.map strV).map V.str) us
  | [], _ => ⟨.nil, .nil⟩
  | v :: us, h => by
    obtain ⟨x, t, rfl⟩ := h v List.mem_cons_self
    obtain ⟨a, b⟩ := strs_back fun u hu => h u (List.mem_cons_of_mem _ hu)
    exact ⟨.cons x t a, .cons ⟨t, rfl⟩ b⟩
/-- sorted(set of texts) -/
theorem call_sortedTx {X : Cx} (hc : X.calm = true) : CallR X (.builtin "sorted") fun vs H Q => ∃ (a : Addr) (xs : List Str), vs = [.ref a] ∧ H a = some (setO X.w a xs) ∧
    ∀ (ys : List Str) (p : Addr), ys.Perm xs → ys.Pairwise (fun x y => ltS y x = false) → H p = none → Q (.ref p) (upd H p (.lst (ys.map V.str))) := by
  rintro pins s σ H vs us Q I r ⟨a, xs, rfl, ha, k⟩
  obtain ⟨u, rfl, ru⟩ := vals1 r
  obtain rfl : u = Value.ref a := ru
  obtain ⟨es, t, ⟨o, ep, ho, hx, hd⟩, ok, mem, nd, few, fits, ris, led⟩ := (show ObjOk X.prog X.w H s.heap a (setO X.w a xs) from I.hok a _ ha).1
  refine PySem.Calls.call_function_entry kind_sorted plain_sorted entry_sorted (args_sorted1 _) ?_
  refine (show wpAny _ _ (Builtin.sorted { pos := [Value.ref a] }) _ _ _ from ?_)
  unfold Builtin.sorted
  refine wpAny_bind (wpAny_pure ?_)
  refine wpAny_bind (collect_set (A := X.A.in1) (I.ok.hd hc) ⟨o, ho, hx.1, hd⟩ fits few ris led fun s1 us old1 z1 g1 o1 pm => ?_)
  have each := each_str ok pm
  obtain ⟨sa, rv⟩ := strs_back each
  have lz : us.length ≤ sizeLine := by
    rw [pm.length_eq, List.length_map, Array.length_toList]
    exact fits_of_scanBound few
  refine wpAny_bind (wpAny_newList ?_ lz)
  have hp := Heap.get?_push_size s1.heap (o := { cls := .type "list", data := .seq us.toArray }) rfl
  refine wpAny_bind (wpAny_holding (wpAny_call_entry slot_list_sort ⟨_, hp, rfl⟩ entry_list_sort ?_ (args_list_sort _)))
  refine SrtO.list_sort_ord (swo_ltS strV) (vs := us) (n := 0) hp lz (fun h2 h3 _ => ⟨oneType', fun Q E hq => ?_, fun p q hm hm' => ?_⟩) fun out h1 h2 => ?_
  · match us, sa, h2 with
    | v1 :: v2 :: rest, sa, _ =>
      rw [keyKind_strs sa]
      exact wpAny_pure hq
  · obtain ⟨x, t, e⟩ := each _ hm
    obtain ⟨y, t', e'⟩ := each _ hm'
    refine (show wpAny _ _ (keyLt' oneType' p.1 q.1) (fun r s' => s' = _ ∧ r = ltS (strV p.1) (strV q.1)) (fun _ _ => False) _ from ?_)
    rw [e, e', keyLt'_oneType]
    exact oneLt_str ⟨rfl, rfl⟩
  · obtain ⟨e, he⟩ := sortedHeap_at (out := out.toArray) hp
    obtain ⟨_, vy⟩ := strs_back fun v hv => each v (h2.perm.mem_iff.mp hv)
    refine ⟨_, rfl, wpAny_pure ⟨_, rfl, ?_⟩⟩
    obtain ⟨hp1, gn1, dr1, tk1, os1⟩ := s1
    obtain rfl : os1 = s.os := o1
    have fresh := I.hok.fresh z1
    have far : ∀ (b : Addr) (u : Obj), s.heap.get? b = some u → (sortedHeap (hp1.push { cls := .type "list", data := .seq us.toArray }) hp1.objs.size us out.toArray).get? b = some u := fun b u hb => by
      have x1 := Heap.lt_size (old1 b u hb)
      rw [sortedHeap_old (Nat.ne_of_lt x1) (Nat.lt_of_lt_of_eq (Nat.lt_succ_of_lt x1) (size_push' _ _).symm)]
      exact Heap.get?_push_of_some _ (old1 b u hb)
    have J : L2.Inv X pins σ (upd H hp1.objs.size (.lst ((out.map strV).map V.str))) { s with heap := sortedHeap (hp1.push { cls := .type "list", data := .seq us.toArray }) hp1.objs.size us out.toArray, gens := gn1, drawn := dr1, toks := tk1 } := by
      refine I.call (ch := []) (Un.laid far z1 fresh) (I.hok.laid far z1 ⟨?_, out, e, vy, he⟩) (by rw [show gn1 = s.gens from g1]; exact I.bare) (fun _ z => nomatch z)
      rw [List.length_map, List.length_map, h2.perm.length_eq]
      exact lz
    refine ⟨.ref hp1.objs.size, _, J, rfl, k _ _ ?_ ?_ fresh⟩
    · refine ((h2.perm.trans pm).map strV).trans ?_
      rw [List.map_map]
      exact mem
    · exact List.pairwise_map.mpr (h1.imp fun {x y} h => h)
end Vf

set_option Elab.async false
set_option linter.all false
set_option maxRecDepth 100000
set_option maxHeartbeats 4000000
/-! a method of a dict whose keys are nested tuples -/
namespace Vf
open PySem PySem.Spec PyProof.Rows L2
def NdTy (K : PySem.W.Frag) (P : Program) (w : World) (H : Hp) (x : V) : Prop := ∃ (d : Addr) (ks : List (NestedKey × Addr × V)), x = .ref d ∧ NdIn K P w H d ks
section
variable {X : Cx} {o e : Expr} {es : List Expr} {to : TE} {t : TA} {name id : String} {r : V → List V → Hp → VK → Prop} {apos cpos : Pos}
theorem nd_ty {pins : List (Addr × Obj)} {s : Shared} {σ : L2.St} {H : Hp} {x : V} {v : Value} (I : L2.Inv X pins σ H s) (rx : RelV x v) (h : NdTy X.K X.prog X.w H x) : s.TypeIs v "dict" ∧ ∀ b, v = .ref b → ∃ ob, s.heap.get? b = some ob ∧ ob.dict = none := by
  obtain ⟨d, ks, rfl, N⟩ := h
  obtain rfl : v = Value.ref d := rx
  obtain ⟨ys, _, _, _, D⟩ := N.dict I
  refine ⟨D.typeIs, fun b e => ?_⟩
  cases e
  obtain ⟨o, es, ep, ho, hx, _⟩ := D
  exact ⟨o, ho, hx.2.1⟩
def tNM (K : PySem.W.Frag) (P : Program) (w : World) (r : V → List V → Hp → VK → Prop) (to : TE) (t : TA) : TE := fun σ H Q => to σ H fun x H1 => NdTy K P w H1 x ∧ t σ H1 fun xs H2 => r x xs H2 Q
theorem pe_nm (slot : Slot "dict" name id) (hty : typeOf (.builtin id) = pure (.type "method_descriptor")) (hm : MtR X id r) (ho : PE X o to) (ha : PA X (e :: es) t)
    (hb : attributeBase o name X.env (eval o X.env) = eval o X.env := by rfl)
    (hf : ((backTo cpos (starEach (e :: es) X.env)).all (fun x => !x.1) && (backToKw cpos (keywordEach [] X.env)).all (fun x => x.1.isSome) && decide ((e :: es).length + ([] : List Keyword).length + (if ([] : List Keyword).isEmpty then 0 else 1) < 30)) = true := by rfl)
    (hl : (apos.endLine == cpos.line) = true := by rfl) (hst : starEach (e :: es) X.env = (false, eval e X.env) :: starEach es X.env := by rfl) (hp : (backTo cpos (starEach es X.env)).any (·.1) = false := by rfl) :
    PE X (.Call (.Attribute o name apos) (e :: es) [] cpos) (tNM X.K X.prog X.w r to t) := by
  refine ⟨fun pins s σ H Q I h => wpAny_Call_method_late hb hf hl rfl (thn (ho.run pins s σ H _ I h) fun v s1 ⟨x, H1, I1, r1, ty, q1⟩ => ?_)⟩
  obtain ⟨h1, h2⟩ := nd_ty I1 r1 ty
  refine ⟨"dict", id, PySem.F.plainAttrs_dict, slot, hty, h1, h2, ?_⟩
  have args := ha.run cpos pins s1 σ H1 _ I1 q1
  rw [hst] at args ⊢
  refine Calls.callWith_builtin (show (false || (backTo cpos (starEach es X.env)).any (·.1)) = false by rw [hp] <;> rfl) (Calls.evalArgs_plain (thn args fun us s2 ⟨vs, H2, I2, r2, q2⟩ => ?_))
  exact hm pins s2 σ H2 x vs v us Q I2 r1 r2 q2
def tNM0 (K : PySem.W.Frag) (P : Program) (w : World) (r : V → List V → Hp → VK → Prop) (to : TE) : TE := fun σ H Q => to σ H fun x H1 => NdTy K P w H1 x ∧ r x [] H1 Q
theorem pe_nm0 (slot : Slot "dict" name id) (hty : typeOf (.builtin id) = pure (.type "method_descriptor")) (hm : MtR X id r) (ho : PE X o to)
    (hb : attributeBase o name X.env (eval o X.env) = eval o X.env := by rfl) (hl : (apos.endLine == cpos.line) = true := by rfl) : PE X (.Call (.Attribute o name apos) [] [] cpos) (tNM0 X.K X.prog X.w r to) := by
  refine ⟨fun pins s σ H Q I h => wpAny_Call_method0_late hb hl (thn (ho.run pins s σ H _ I h) fun v s1 ⟨x, H1, I1, r1, ty, q1⟩ => ?_)⟩
  obtain ⟨h1, h2⟩ := nd_ty I1 r1 ty
  exact ⟨"dict", id, PySem.F.plainAttrs_dict, slot, hty, h1, h2, Calls.callWith_builtin rfl (PySem.evalArgs_none (hm pins s1 σ H1 x [] v [] _ I1 r1 .nil q1))⟩
end
end Vf

set_option Elab.async false
set_option linter.all false
set_option maxRecDepth 100000
set_option maxHeartbeats 4000000
namespace Lw
open PySem PySem.Spec PyProof.Rows L2 Vf
open C8 (Cal pe_c pe_gc CalAt)
def topS (i : Nat) : Stmt := PySem.Challenge.pw_leastlaid_k25_whole_nearest_styles.main.body.getD i (.Pass ⟨0, 0, 0, 0⟩)
abbrev s_p_named : Stmt := topS 2
theorem sc_p_named : FnScope ["style", "name"] ["style"] (defScope s_p_named) := ⟨rfl, rfl, rfl, by decide +kernel, rfl, by decide +kernel, by decide +kernel⟩
abbrev s_p_style_of : Stmt := topS 3
theorem sc_p_style_of : FnScope ["named", "name"] ["named"] (defScope s_p_style_of) := ⟨rfl, rfl, rfl, by decide +kernel, rfl, by decide +kernel, by decide +kernel⟩
abbrev s_p_ascending : Stmt := topS 5
theorem sc_p_ascending : FnScope ["layer", "name"] ["layer"] (defScope s_p_ascending) := ⟨rfl, rfl, rfl, by decide +kernel, rfl, by decide +kernel, by decide +kernel⟩
abbrev s_p_laid : Stmt := topS 6
theorem sc_p_laid : FnScope ["style", "layer"] ["style", "layer"] (defScope s_p_laid) := ⟨rfl, rfl, rfl, by decide +kernel, rfl, by decide +kernel, by decide +kernel⟩
abbrev s_p_over : Stmt := topS 7
theorem sc_p_over : FnScope ["below", "above"] ["below", "above"] (defScope s_p_over) := ⟨rfl, rfl, rfl, by decide +kernel, rfl, by decide +kernel, by decide +kernel⟩
abbrev s_p_layers_for : Stmt := topS 8
theorem sc_p_layers_for : FnScope ["layers", "path", "folders", "folder"] ["layers", "path"] (defScope s_p_layers_for) := ⟨rfl, rfl, rfl, by decide +kernel, rfl, by decide +kernel, by decide +kernel⟩
abbrev s_p_style_for : Stmt := topS 9
theorem sc_p_style_for : FnScope ["style", "layers", "path", "found", "_", "layer"] ["style", "layers", "path"] (defScope s_p_style_for) := ⟨rfl, rfl, rfl, by decide +kernel, rfl, by decide +kernel, by decide +kernel⟩
abbrev s_p_same_style_paths : Stmt := topS 10
theorem sc_p_same_style_paths : FnScope ["style", "layers", "paths", "found", "path", "group"] ["style", "layers", "paths"] (defScope s_p_same_style_paths) := ⟨rfl, rfl, rfl, by decide +kernel, rfl, by decide +kernel, by decide +kernel⟩
abbrev s_l_bag : Stmt := topS 12
theorem sc_l_bag : FnScope ["_law_script", "_law_cell"] ["_law_script"] (defScope s_l_bag) := ⟨rfl, rfl, rfl, by decide +kernel, rfl, by decide +kernel, by decide +kernel⟩
abbrev s_l_take : Stmt := topS 13
theorem sc_l_take : FnScope ["_law_bag_here", "_law_many", "_law_cell", "_law_stirred", "_law_value", "_law_begin", "_law_second"] ["_law_bag_here", "_law_many"] (defScope s_l_take) := ⟨rfl, rfl, rfl, by decide +kernel, rfl, by decide +kernel, by decide +kernel⟩
abbrev s_l_one : Stmt := topS 14
theorem sc_l_one : FnScope ["_law_bag_here", "_law_things"] ["_law_bag_here", "_law_things"] (defScope s_l_one) := ⟨rfl, rfl, rfl, by decide +kernel, rfl, by decide +kernel, by decide +kernel⟩
abbrev s_l_mixed : Stmt := topS 15
theorem sc_l_mixed : FnScope ["_law_bag_here", "_law_things", "_law_found", "_law_thing"] ["_law_bag_here", "_law_things"] (defScope s_l_mixed) := ⟨rfl, rfl, rfl, by decide +kernel, rfl, by decide +kernel, by decide +kernel⟩
abbrev s_l_alike : Stmt := topS 16
theorem sc_l_alike : FnScope ["_law_found", "_law_due"] ["_law_found", "_law_due"] (defScope s_l_alike) := ⟨rfl, rfl, rfl, by decide +kernel, rfl, by decide +kernel, by decide +kernel⟩
abbrev s_l_style : Stmt := topS 17
theorem sc_l_style : FnScope ["_law_bag_here", "_law_ranks", "_law_rank", "_law_words"] ["_law_bag_here"] (defScope s_l_style) := ⟨rfl, rfl, rfl, by decide +kernel, rfl, by decide +kernel, by decide +kernel⟩
abbrev s_l_style_words : Stmt := topS 18
theorem sc_l_style_words : FnScope [] [] (defScope s_l_style_words) := ⟨rfl, rfl, rfl, by decide +kernel, rfl, by decide +kernel, by decide +kernel⟩
abbrev s_l_laid : Stmt := topS 19
theorem sc_l_laid : FnScope ["_law_style_here", "_law_layer_here", "_law_word", "_law_value"] ["_law_style_here", "_law_layer_here"] (defScope s_l_laid) := ⟨rfl, rfl, rfl, by decide +kernel, rfl, by decide +kernel, by decide +kernel⟩
abbrev s_l_layer : Stmt := topS 20
theorem sc_l_layer : FnScope ["_law_bag_here", "_law_items"] ["_law_bag_here"] (defScope s_l_layer) := ⟨rfl, rfl, rfl, by decide +kernel, rfl, by decide +kernel, by decide +kernel⟩
abbrev s_l_folders : Stmt := topS 21
theorem sc_l_folders : FnScope ["_law_bag_here", "_law_some", "_law_folder"] ["_law_bag_here"] (defScope s_l_folders) := ⟨rfl, rfl, rfl, by decide +kernel, rfl, by decide +kernel, by decide +kernel⟩
abbrev s_p_law : Stmt := topS 22
theorem sc_p_law : FnScope ["_law_script", "_law_bag_here", "_law_turn", "_law_style_here", "_law_layers", "_law_paths", "_law_said", "_law_path", "_law_folder", "_law_due", "_law_folders_here", "_law_told", "_law_layer_here", "_law_groups", "_law_some", "_law_kept", "_law_size", "_law_one_here"] ["_law_script"] (defScope s_p_law) := ⟨rfl, rfl, rfl, by decide +kernel, rfl, by decide +kernel, by decide +kernel⟩
def tp_NAMES : List Str := ["width", "step", "blanks", "rank", "operators", "lists"]
structure Txt (K : PySem.W.Frag) (mg : Str → Option Value) (w : World) : Prop where
  d_p_named : DefIn K mg "named" s_p_named ["style"]
  d_p_style_of : DefIn K mg "style_of" s_p_style_of ["named"]
  d_p_ascending : DefIn K mg "_ascending" s_p_ascending ["layer"]
  d_p_laid : DefIn K mg "laid" s_p_laid ["style", "layer"]
  d_p_over : DefIn K mg "over" s_p_over ["below", "above"]
  d_p_layers_for : DefIn K mg "layers_for" s_p_layers_for ["layers", "path"]
  d_p_style_for : DefIn K mg "style_for" s_p_style_for ["style", "layers", "path"]
  d_p_same_style_paths : DefIn K mg "same_style_paths" s_p_same_style_paths ["style", "layers", "paths"]
  d_l_bag : DefIn K mg "_law_bag" s_l_bag ["_law_script"]
  d_l_take : DefIn K mg "_law_take" s_l_take ["_law_bag_here", "_law_many"]
  d_l_one : DefIn K mg "_law_one" s_l_one ["_law_bag_here", "_law_things"]
  d_l_mixed : DefIn K mg "_law_mixed" s_l_mixed ["_law_bag_here", "_law_things"]
  d_l_alike : DefIn K mg "_law_alike" s_l_alike ["_law_found", "_law_due"]
  d_l_style : DefIn K mg "_law_style" s_l_style ["_law_bag_here"]
  d_l_style_words : DefIn K mg "_law_style_words" s_l_style_words []
  d_l_laid : DefIn K mg "_law_laid" s_l_laid ["_law_style_here", "_law_layer_here"]
  d_l_layer : DefIn K mg "_law_layer" s_l_layer ["_law_bag_here"]
  d_l_folders : DefIn K mg "_law_folders" s_l_folders ["_law_bag_here"]
  d_p_law : DefIn K mg "law" s_p_law ["_law_script"]
  n_abs : mg "abs" = none
  n_int : mg "int" = none
  n_len : mg "len" = none
  n_range : mg "range" = none
  n_repr : mg "repr" = none
  n_zip : mg "zip" = none
  n_dict : mg "dict" = none
  n_sorted : mg "sorted" = none
  n_set : mg "set" = none
  n_list : mg "list" = none
  n_tuple : mg "tuple" = none
  n_enumerate : mg "enumerate" = none
  ti_NAMES : ∃ a o, mg "NAMES" = some (.ref a) ∧ K.lookup a = some o ∧ o.cls = .type "tuple" ∧ o.dict = none ∧ ∀ H : Hp, SqT K H a (tp_NAMES.map V.str)
  t_NAMES : ∃ a, mg "NAMES" = some (.ref a) ∧ ∀ H : Hp, SqT K H a (tp_NAMES.map V.str)
section
variable {P : Program} {w : World} {K : PySem.W.Frag} {mg : Str → Option Value} {base : Heap}

/-! the side of an operation; one step of a reading -/
local macro_rules | `(tactic| walk_at "side") => `(tactic| first
  | (show CMul _ _; first | exact Or.inr (by decide) | exact Or.inl (by decide) | (refine Or.inl ⟨?_, ?_⟩ <;> omega) | (refine Or.inr ⟨?_, ?_⟩ <;> omega))
  | (show CDivN _ _; refine ⟨?_, ?_⟩ <;> omega)
  | (show CPow _ _; exact ⟨by decide, by decide, by decide⟩)
  | (show (0 : Int) < _; first | decide | assumption | omega))
local macro_rules | `(tactic| walk_at "rd1") => `(tactic| first
  | refine ⟨_, _, rfl, rfl, (by walk_at "side"), ?_⟩
  | refine ⟨_, rfl, ?_⟩
  | refine ⟨_, _, rfl, rfl, ?_⟩
  | refine ⟨rfl, ?_⟩
  | refine .inl ⟨_, rfl, ?_⟩
  | refine ⟨_, _, _, _, rfl, rfl, SqL.of (by first | assumption | exact upd_same), atI_nat (j := _) rfl, ?_⟩
  | refine ⟨_, _, _, _, rfl, rfl, (by first | assumption | exact upd_same), rfl, ?_⟩)
local macro_rules | `(tactic| walk_at "rd") => `(tactic| repeat (walk_at "rd1"))

theorem ltS_eq (a b : Str) : ltCps a.cps.toList b.cps.toList = ltS a b := ltCps_eq _ _
theorem ltS_trans {x y z : Str} (h1 : ltS y x = false) (h2 : ltS z y = false) : ltS z x = false := by
  unfold ltS at *
  have a := List.not_lt.mp (of_decide_eq_false h1)
  have b := List.not_lt.mp (of_decide_eq_false h2)
  exact decide_eq_false (List.not_lt.mpr (List.le_trans a b))
theorem rising_pw : ∀ (ys : List Str) (p : Str), risingS p ys = true → (∀ y ∈ ys, ltS y p = false) ∧ ys.Pairwise (fun x y => ltS y x = false)
  | [], _, _ => ⟨fun _ h => (nomatch h), List.Pairwise.nil⟩
  | x :: r, p, h => by
    have h : (!ltCps x.cps.toList p.cps.toList && risingS x r) = true := h
    obtain ⟨h1, h2⟩ := Bool.and_eq_true_iff.mp h
    have h1 : ltS x p = false := by
      rw [← ltS_eq]
      simpa using h1
    obtain ⟨i1, i2⟩ := rising_pw r x h2
    refine ⟨fun y hy => ?_, List.pairwise_cons.mpr ⟨i1, i2⟩⟩
    rcases List.mem_cons.mp hy with rfl | hy
    · exact h1
    · exact ltS_trans h1 (i1 y hy)
theorem sorted_pw {ys : List Str} (h : sortedS ys = true) : ys.Pairwise (fun x y => ltS y x = false) := by
  cases ys with
  | nil => exact .nil
  | cons x r =>
    obtain ⟨a, b⟩ := rising_pw r x h
    exact List.pairwise_cons.mpr ⟨a, b⟩
/-- a layer: names, and the value of each, as they stand in the dict -/
def lay (val : Str → V) (ns : List Str) : List (Key × V) := ns.map fun n => (.inr n, val n)
theorem lay_keys (val : Str → V) (ns : List Str) : (lay val ns).map (·.1) = ns.map Sum.inr := by
  unfold lay
  rw [List.map_map]
  rfl
theorem lay_val (val : Str → V) {n : Str} : ∀ {ns : List Str}, n ∈ ns → valV (lay val ns) (.inr n) = some (val n)
  | m :: r, h => by
    by_cases e : m = n
    · subst e
      exact valV_pos rfl
    · have h : n ∈ r := by
        rcases List.mem_cons.mp h with z | z
        · exact absurd z.symm e
        · exact z
      exact (valV_neg (p := ((.inr m : Key), val m)) (r := lay val r) (fun z => e (Sum.inr.inj z))).trans (lay_val val h)
theorem lay_none (val : Str → V) {n : Str} : ∀ {ns : List Str}, n ∉ ns → valV (lay val ns) (.inr n) = none
  | [], _ => rfl
  | m :: r, h => (valV_neg (p := ((.inr m : Key), val m)) (r := lay val r) (fun z => h (by rw [Sum.inr.inj z]; exact List.mem_cons_self))).trans (lay_none val fun z => h (List.mem_cons_of_mem _ z))
theorem lay_congr {v1 v2 : Str → V} {ns : List Str} (h : ∀ n ∈ ns, v1 n = v2 n) : lay v1 ns = lay v2 ns := List.map_congr_left fun n hn => by rw [h n hn]
theorem lay_put (val : Str → V) (ns : List Str) (n : Str) (v : V) : putK (lay val ns) (.inr n) v = lay (fun m => if m = n then v else val m) (if n ∈ ns then ns else ns ++ [n]) := by
  by_cases h : n ∈ ns
  · rw [if_pos h]
    unfold putK
    rw [if_pos]
    · unfold lay
      rw [List.map_map]
      refine List.map_congr_left fun m _ => ?_
      by_cases e : m = n
      · show (if (.inr m : Key) = .inr n then ((.inr m : Key), v) else (.inr m, val m)) = (.inr m, if m = n then v else val m)
        rw [if_pos (by rw [e]), if_pos e]
      · show (if (.inr m : Key) = .inr n then ((.inr m : Key), v) else (.inr m, val m)) = (.inr m, if m = n then v else val m)
        rw [if_neg (fun z => e (Sum.inr.inj z)), if_neg e]
    · rw [valV_any, lay_val val h]
      rfl
  · rw [if_neg h, Vf.putK_new]
    · unfold lay
      rw [List.map_append]
      have e1 : ∀ m ∈ ns, ((.inr m : Key), val m) = (.inr m, if m = n then v else val m) := fun m hm => by
        rw [if_neg (show ¬ m = n from fun z => h (by rw [← z]; exact hm))]
      rw [List.map_congr_left e1]
      show _ ++ [((.inr n : Key), v)] = _ ++ [((.inr n : Key), if n = n then v else val n)]
      rw [if_pos rfl]
    · rw [lay_keys]
      intro z
      obtain ⟨m, hm, e⟩ := List.mem_map.mp z
      exact h (Sum.inr.inj e ▸ hm)
/-- one laid over another -/
theorem lay_merge (v2 : Str → V) : ∀ (ns2 : List Str) (v1 : Str → V) (ns1 : List Str), ns2.Nodup → mergeK (lay v1 ns1) (lay v2 ns2) = lay (fun m => if m ∈ ns2 then v2 m else v1 m) (ns1 ++ ns2.filter fun m => decide (m ∉ ns1))
  | [], v1, ns1, _ => by
    show lay v1 ns1 = lay (fun m => if m ∈ [] then v2 m else v1 m) (ns1 ++ [])
    rw [List.append_nil]
    exact lay_congr fun n _ => (if_neg (fun z => nomatch z)).symm
  | n :: r, v1, ns1, nd => by
    obtain ⟨nr, nd⟩ := List.nodup_cons.mp nd
    show mergeK (putK (lay v1 ns1) (.inr n) (v2 n)) (lay v2 r) = _
    rw [lay_put, lay_merge v2 r _ _ nd]
    have ef : ∀ m : Str, (if m ∈ r then v2 m else if m = n then v2 n else v1 m) = if m ∈ n :: r then v2 m else v1 m := fun m => by
      by_cases h1 : m ∈ r
      · rw [if_pos h1, if_pos (List.mem_cons_of_mem _ h1)]
      · by_cases h2 : m = n
        · subst h2
          rw [if_neg h1, if_pos rfl, if_pos List.mem_cons_self]
        · rw [if_neg h1, if_neg h2, if_neg (fun z => (List.mem_cons.mp z).elim h2 h1)]
    have ef : (fun m => if m ∈ r then v2 m else if m = n then v2 n else v1 m) = fun m => if m ∈ n :: r then v2 m else v1 m := funext ef
    rw [ef]
    by_cases h : n ∈ ns1
    · rw [if_pos h, List.filter_cons_of_neg (by simpa using h)]
    · rw [if_neg h, List.filter_cons_of_pos (by simpa using h), List.append_assoc]
      have e2 : (r.filter fun m => decide (m ∉ ns1 ++ [n])) = r.filter fun m => decide (m ∉ ns1) := List.filter_congr fun m hm => by
        have : m ≠ n := fun z => nr (z ▸ hm)
        simp [this]
      rw [e2]
      rfl
/-- a dict comprehension by new names -/
theorem lay_step {val : Str → V} {ns : List Str} (nd : ns.Nodup) {i : Nat} {n : Str} (h : ns[i]? = some n) : putK (lay val (ns.take i)) (.inr n) (val n) = lay val (ns.take (i + 1)) := by
  rw [Vf.putK_new _ ?_, List.take_add_one, h]
  · unfold lay
    rw [List.map_append]
    rfl
  · unfold lay
    rw [List.map_map]
    intro z
    obtain ⟨m, hm, e⟩ := List.mem_map.mp z
    have e : m = n := Sum.inr.inj e
    subst e
    have l : i < ns.length := (List.getElem?_eq_some_iff.mp h).1
    have hs : ns = ns.take i ++ m :: ns.drop (i + 1) := by
      have : ns[i] = m := (List.getElem?_eq_some_iff.mp h).2
      rw [← this, ← List.drop_eq_getElem_cons l, List.take_append_drop]
    rw [hs, List.nodup_append] at nd
    exact nd.2.2 m hm m (by simp) rfl
def spAsc : Sp := fun vs H Q _ => ∃ (a : Addr) (val : Str → V) (ns : List Str), vs = [.ref a] ∧ H a = some (.dK (lay val ns)) ∧ ns.Nodup ∧ ns.length ≤ 60 ∧
  ∀ (ys : List Str) (p : Addr) (H' : Hp), ys.Perm ns → ys.Pairwise (fun x y => ltS y x = false) → H p = none → Same H H' → H' p = some (.dK (lay val ys)) → Q (.ref p) H'
theorem c_p_ascending (T : Txt K mg w) : Cal P w K mg base 1 "_ascending" spAsc [] := by
  refine calOf T.d_p_ascending sc_p_ascending (fun vs H Q E h => ?_) (fun f cdv A outer s H vs Q E hr h => ?_)
  · obtain ⟨a, val, ns, rfl, _⟩ := h
    rfl
  · obtain ⟨a, val, ns, rfl, ha, nd, hl, k⟩ := h
    have hu := u1 hr
    refine ⟨_,
      (pss_one (ps_ret (pe_dc (own := [("name", 1)]) (g := gName 1) (tt := tYes) rfl sc_p_ascending.nd (pi_list (pe_callB (call_sortedD rfl) (by rfl) T.n_sorted (by decide +kernel) (pa_cons (pv 0) pa_nil))) (blkOk_by (N := ["layer", "name"]) (sc := defScope s_p_ascending) (by decide +kernel)) (fun _ _ _ _ _ => pg_name (i := 1) sc_p_ascending.nd rfl (Or.inl rfl)) (fun _ _ _ _ _ => pts_nil) (fun _ _ _ _ _ => (pv 1)) (fun _ _ _ _ _ => (pe_dget hu (pv 0) (pv 1) (fun _ _ => rfl))))))
      , ?_⟩
    refine ⟨_, rfl, a, lay val ns, ns, rfl, .inl ha, lay_keys val ns, by omega, fun ys q yp ys2 hq => ?_⟩
    have ysd := sorted_pw ys2
    have ynd : ys.Nodup := yp.nodup_iff.mpr nd
    have s1 := same_new (o := HO.lst (ys.map V.str)) hq
    refine ⟨q, rfl, ⟨_, SqL.of upd_same⟩, fun D hD => ?_⟩
    have q1 : (upd H q (HO.lst (ys.map V.str))) q = _ := upd_same
    generalize upd H q (HO.lst (ys.map V.str)) = H1 at s1 q1 hD ⊢
    refine dc_itv (walk_list (K := K) (a := q) (xs := ys.map V.str)) (fun i H' => Same H1 H' ∧ H' D = some (.dK (lay val (ys.take i)))) ⟨same_put (Same.refl _) hD, upd_same⟩ (fun i H' _ h => SqL.of (h.1 _ _ q1)) ?_ ?_
    · rintro i x H2 H3 hi ⟨s2, d2⟩ ⟨rfl, hx⟩
      rw [List.getElem?_map] at hx
      obtain ⟨n, hn, rfl⟩ := Option.map_eq_some_iff.mp hx
      have mem : n ∈ ns := yp.mem_iff.mp (List.mem_of_getElem? hn)
      refine ⟨rfl, ?_⟩
      delta tYes
      refine iteT ?_
      refine ⟨_, rfl, _, rfl, _, rfl, a, _, rfl, .inl ⟨lay val ns, .inr n, .inl ((s1.trans s2) _ _ ha), rfl, (lay_val val mem).symm⟩, ?_⟩
      refine ⟨_, .inr n, rfl, d2, ?_, same_put s2 hD, ?_⟩
      · show (List.map _ _).length < _
        rw [List.length_map, List.length_take]
        exact Nat.lt_of_le_of_lt (Nat.min_le_right _ _) (by rw [yp.length_eq]; exact Nat.lt_of_le_of_lt hl (by decide))
      · rw [upd_same, lay_step ynd hn]
    · rintro H2 ⟨s2, d2⟩
      rw [List.length_map, List.take_length] at d2
      exact k ys D H2 yp ysd (s1.free hD) (s1.trans s2) d2

def spOver : Sp := fun vs H Q _ => ∃ (a b : Addr) (v1 v2 : Str → V) (n1 n2 : List Str), vs = [.ref a, .ref b] ∧ H a = some (.dK (lay v1 n1)) ∧ H b = some (.dK (lay v2 n2)) ∧ n1.Nodup ∧ n2.Nodup ∧ n1.length ≤ 20 ∧ n2.length ≤ 20 ∧
  ∀ (ys : List Str) (p : Addr) (H' : Hp), ys.Perm (n1 ++ n2.filter fun m => decide (m ∉ n1)) → ys.Pairwise (fun x y => ltS y x = false) → H p = none → Same H H' → H' p = some (.dK (lay (fun m => if m ∈ n2 then v2 m else v1 m) ys)) → Q (.ref p) H'
theorem over_nd {n1 n2 : List Str} (h1 : n1.Nodup) (h2 : n2.Nodup) : (n1 ++ n2.filter fun m => decide (m ∉ n1)).Nodup := by
  refine List.nodup_append.mpr ⟨h1, h2.filter _, fun x hx y hy e => ?_⟩
  have := (List.mem_filter.mp hy).2
  rw [← e] at this
  exact of_decide_eq_true this hx
theorem c_p_over (T : Txt K mg w) (c_p_ascending : Cal P w K mg base 1 "_ascending" spAsc []) : Cal P w K mg base 2 "over" spOver [] := by
  refine calOf T.d_p_over sc_p_over (fun vs H Q E h => ?_) (fun f cdv A outer s H vs Q E hr h => ?_)
  · obtain ⟨a, b, v1, v2, n1, n2, rfl, _⟩ := h
    rfl
  · obtain ⟨a, b, v1, v2, n1, n2, rfl, ha, hb, d1, d2, l1, l2, k⟩ := h
    refine ⟨_,
      (pss_one (ps_ret (pe_c c_p_ascending hr (by first | decide | omega) rfl (pa_cons (pe_mrg2 (pv 0) (pv 1)) pa_nil))))
      , ?_⟩
    refine fun p hp => ?_
    have s0 := same_new (o := HO.dK []) hp
    have na : a ≠ p := ne_of_none ha hp
    have nb : b ≠ p := ne_of_none hb hp
    have e1 : mergeK [] (lay v1 n1) = lay v1 n1 := by
      have := lay_merge v1 n1 v1 [] d1
      rw [show lay v1 [] = [] from rfl] at this
      rw [this, List.nil_append]
      have : (n1.filter fun m => decide (m ∉ ([] : List Str))) = n1 := List.filter_eq_self.mpr fun m _ => by simp
      rw [this]
      exact lay_congr fun n hn => if_pos hn
    refine ⟨_, rfl, upd_same, a, _, rfl, na, .inl (s0 _ _ ha), by unfold lay; rw [List.length_map]; omega, ?_⟩
    rw [e1, upd_upd]
    have s1 := same_new (o := HO.dK (lay v1 n1)) hp
    refine ⟨_, rfl, upd_same, b, _, rfl, nb, .inl (s1 _ _ hb), by unfold lay; rw [List.length_map]; omega, ?_⟩
    rw [upd_upd, lay_merge v2 n2 v1 n1 d2]
    have s2 := same_new (o := HO.dK (lay (fun m => if m ∈ n2 then v2 m else v1 m) (n1 ++ n2.filter fun m => decide (m ∉ n1)))) hp
    refine ⟨p, _, _, rfl, upd_same, over_nd d1 d2, ?_, fun ys q H' yp yo hq s3 hq' => ?_⟩
    · rw [List.length_append]
      have := List.length_filter_le (fun m => decide (m ∉ n1)) n2
      omega
    · refine k ys q H' yp yo ?_ (s2.trans s3) hq'
      exact s2.free hq

def names22 : List Str := ["width", "step", "blanks", "rank", "operators", "lists"]
theorem names_at {i : Nat} {n : Str} (h : names22[i]? = some n) : i < 6 ∧ ∀ m, m < i → names22[m]? ≠ some n := by
  have l : i < 6 := (List.getElem?_eq_some_iff.mp h).1
  refine ⟨l, fun m hm e => ?_⟩
  have nd : names22.Nodup := by decide
  have l2 : m < names22.length := Nat.lt_trans hm l
  have := (List.getElem?_inj (i := m) (j := i) (l := names22) l2 nd).mp (by rw [h, e])
  omega
def sorted22 : List Str := ["blanks", "lists", "operators", "rank", "step", "width"]
def at22 (n : Str) : Nat := names22.idxOf n
def spNamed (K : PySem.W.Frag) : Sp := fun vs H Q _ => ∃ (a : Addr) (xs : List V), vs = [.ref a] ∧ SqT K H a xs ∧ xs.length = 6 ∧ ∀ (p : Addr) (H' : Hp), H p = none → Same H H' → H' p = some (.dK (sorted22.map fun n => ((.inr n : Key), xs.getD (at22 n) .non))) → Q (.ref p) H'
theorem ltS_anti {x y : Str} (h1 : ltS y x = false) (h2 : ltS x y = false) : x = y := by
  have a := List.not_lt.mp (of_decide_eq_false h1)
  have b := List.not_lt.mp (of_decide_eq_false h2)
  exact by
    cases x
    cases y
    exact congrArg _ (Array.toList_inj.mp (List.le_antisymm a b))
theorem sorted_is : ∀ {ys zs : List Str}, ys.Perm zs → ys.Pairwise (fun x y => ltS y x = false) → zs.Pairwise (fun x y => ltS y x = false) → ys = zs
  | [], zs, p, _, _ => (List.Perm.nil_eq p)
  | y :: ys, [], p, _, _ => absurd p.length_eq (by simp)
  | y :: ys, z :: zs, p, h1, h2 => by
    obtain ⟨a1, a2⟩ := List.pairwise_cons.mp h1
    obtain ⟨b1, b2⟩ := List.pairwise_cons.mp h2
    have e : y = z := by
      rcases List.mem_cons.mp (p.mem_iff.mp List.mem_cons_self) with e | m
      · exact e
      · rcases List.mem_cons.mp (p.mem_iff.mpr (List.mem_cons_self (a := z))) with e | m2
        · exact e.symm
        · exact ltS_anti (a1 z m2) (b1 y m)
    subst e
    rw [sorted_is (List.Perm.cons_inv p) a2 b2]
theorem at22_ok : ∀ n ∈ names22, names22[at22 n]? = some n := by decide +kernel
theorem c_p_named (T : Txt K mg w) : Cal P w K mg base 1 "named" (spNamed K) [] := by
  refine calOf T.d_p_named sc_p_named (fun vs H Q E h => ?_) (fun f cdv A outer s H vs Q E hr h => ?_)
  · obtain ⟨a, xs, rfl, _⟩ := h
    rfl
  · obtain ⟨a, xs, rfl, hs, hl, k⟩ := h
    obtain ⟨a_NAMES, o_NAMES, m_NAMES, l_NAMES, c_NAMES, d_NAMES, t_NAMES⟩ := T.ti_NAMES
    refine ⟨_,
      (pss_one (ps_ret (pe_dc (own := [("name", 1)]) (g := gName 1) (tt := tYes) rfl sc_p_named.nd (pi_list (pe_callB call_sortedS (by rfl) T.n_sorted (by decide +kernel) (pa_cons (pe_gc (v := V.ref a_NAMES) rfl ⟨_, m_NAMES, rfl⟩) pa_nil))) (blkOk_by (N := ["style", "name"]) (sc := defScope s_p_named) (by decide +kernel)) (fun _ _ _ _ _ => pg_name (i := 1) sc_p_named.nd rfl (Or.inl rfl)) (fun _ _ _ _ _ => pts_nil) (fun _ _ _ _ _ => (pv 1)) (fun _ _ _ _ _ => (pe_ix (show IxR _ (rIxT K) from ix_tup) (pv 0) (show PE _ _ (tBM K "tuple" (rTix K) _ _) from pe_bm PySem.F.plainAttrs_tuple PySem.F.slot_tuple_index PySem.F.type_tuple_index mt_tix (pe_gc (v := V.ref a_NAMES) (by rfl) ⟨_, m_NAMES, rfl⟩) (pa_cons (pv 1) pa_nil)) (fun _ _ => rfl))))))
      , ?_⟩
    refine ⟨a_NAMES, names22, rfl, .inr (t_NAMES H), fun ys q yp ysd hq => ?_⟩
    obtain rfl : ys = sorted22 := sorted_is (yp.trans (by decide)) ysd (by decide +kernel)
    have s1 := same_new (o := HO.lst (sorted22.map V.str)) hq
    refine ⟨q, rfl, ⟨_, SqL.of upd_same⟩, fun D hD => ?_⟩
    have q1 : (upd H q (HO.lst (sorted22.map V.str))) q = _ := upd_same
    generalize upd H q (HO.lst (sorted22.map V.str)) = H1 at s1 q1 hD ⊢
    refine dc_itv (walk_list (K := K) (a := q) (xs := sorted22.map V.str)) (fun i H' => Same H1 H' ∧ H' D = some (.dK ((sorted22.take i).map fun n => ((.inr n : Key), xs.getD (at22 n) .non)))) ⟨same_put (Same.refl _) hD, upd_same⟩ (fun i H' _ h => SqL.of (h.1 _ _ q1)) ?_ ?_
    · rintro i x H2 H3 hi ⟨s2, d2⟩ ⟨rfl, hx⟩
      rw [List.getElem?_map] at hx
      obtain ⟨n, hn, rfl⟩ := Option.map_eq_some_iff.mp hx
      have hi : i < 6 := hi
      have mem : n ∈ sorted22 := List.mem_of_getElem? hn
      have mem2 : n ∈ names22 := yp.mem_iff.mp mem
      have e1 : names22[at22 n]? = some n := at22_ok n mem2
      obtain ⟨hl6, hno⟩ := names_at e1
      have e2 : xs[at22 n]? = some (xs.getD (at22 n) .non) := by
        rw [List.getD_eq_getElem?_getD, List.getElem?_eq_getElem (by omega)]
        rfl
      refine ⟨rfl, ?_⟩
      delta tYes
      refine iteT ?_
      refine ⟨_, rfl, _, rfl, .inr (.inl ⟨rfl, o_NAMES, l_NAMES, c_NAMES, d_NAMES⟩), _, rfl, a_NAMES, names22, n, at22 n, rfl, rfl, t_NAMES _, e1, hno, _, _, _, _, rfl, rfl, sameT (s1.trans s2) hs, atI_nat e2, ?_⟩
      refine ⟨_, .inr n, rfl, d2, ?_, same_put s2 hD, ?_⟩
      · rw [List.length_map, List.length_take]
        exact Nat.lt_of_le_of_lt (Nat.min_le_right _ _) (show 6 < sizeLine by decide)
      · rw [upd_same, Vf.putK_new _ ?_, List.take_add_one, hn, List.map_append]
        · rfl
        · rw [List.map_map]
          intro z
          obtain ⟨m, hm, e⟩ := List.mem_map.mp z
          have e : m = n := Sum.inr.inj e
          subst e
          have nd : sorted22.Nodup := by decide +kernel
          have hs : sorted22 = sorted22.take i ++ m :: sorted22.drop (i + 1) := by
            have l : i < sorted22.length := hi
            have : sorted22[i] = m := by
              rw [List.getElem?_eq_getElem l] at hn
              exact Option.some.inj hn
            rw [← this, ← List.drop_eq_getElem_cons l, List.take_append_drop]
          rw [hs, List.nodup_append] at nd
          exact nd.2.2 m hm m (by simp) rfl
    · rintro H2 ⟨s2, d2⟩
      exact k D H2 (s1.free hD) (s1.trans s2) d2
def spOf (K : PySem.W.Frag) : Sp := fun vs H Q _ => ∃ (d : Addr) (kvs : List (Key × V)) (xs : List V), vs = [.ref d] ∧ H d = some (.dK kvs) ∧ xs.length = 6 ∧ (∀ (i : Nat) (n : Str) (x : V), names22[i]? = some n → xs[i]? = some x → valV kvs (.inr n) = some x) ∧ ∀ (r : Addr) (H' : Hp), Same H H' → SqT K H' r xs → Q (.ref r) H'
theorem c_p_style_of (T : Txt K mg w) : Cal P w K mg base 1 "style_of" (spOf K) [] := by
  refine calOf T.d_p_style_of sc_p_style_of (fun vs H Q E h => ?_) (fun f cdv A outer s H vs Q E hr h => ?_)
  · obtain ⟨d, kvs, xs, rfl, _⟩ := h
    rfl
  · obtain ⟨d, kvs, xs, rfl, hd, hl, hv, k⟩ := h
    obtain ⟨a_NAMES, m_NAMES, t_NAMES⟩ := T.t_NAMES
    have hu := u1 hr
    refine ⟨_,
      (pss_one (ps_ret (pe_callTy call_tuple_of (by rfl) T.n_tuple (by decide +kernel) (pa_cons (pe_lc (own := [("name", 1)]) (g := gName 1) (tt := tYes) rfl sc_p_style_of.nd (pi_tup (pe_gc (v := V.ref a_NAMES) rfl ⟨_, m_NAMES, rfl⟩)) (blkOk_by (N := ["named", "name"]) (sc := defScope s_p_style_of) (by decide +kernel)) (fun _ _ _ _ _ => pg_name (i := 1) sc_p_style_of.nd rfl (Or.inl rfl)) (fun _ _ _ _ _ => pts_nil) (fun _ _ _ _ _ => (pe_dget hu (pv 0) (pv 1) (fun _ _ => rfl)))) pa_nil))))
      , ?_⟩
    refine ⟨a_NAMES, rfl, ⟨_, t_NAMES H⟩, fun D hD => ?_⟩
    refine lc_it (walk_tup (K := K) (a := a_NAMES) (xs := names22.map V.str)) (fun i H' => H' D = some (.lst (xs.take i)) ∧ Same H H') ⟨upd_same, same_put (Same.refl _) hD⟩ (fun i H' _ _ => t_NAMES H') ?_ ?_
    · rintro i x H1 H2 hi ⟨d1, s1⟩ ⟨rfl, hx1⟩
      rw [List.getElem?_map] at hx1
      obtain ⟨n, hn, rfl⟩ := Option.map_eq_some_iff.mp hx1
      have hi : i < 6 := hi
      have e2 : xs[i]? = some (xs[i]'(by omega)) := List.getElem?_eq_getElem (by omega)
      refine ⟨rfl, ?_⟩
      delta tYes
      refine iteT ?_
      refine ⟨_, rfl, _, rfl, d, _, rfl, .inl ⟨kvs, .inr n, .inl (s1 _ _ hd), rfl, (hv i n _ hn e2).symm⟩, _, d1, ?_, ?_, same_put s1 hD⟩
      · rw [List.length_take]
        exact Nat.lt_of_le_of_lt (Nat.min_le_right _ _) (show xs.length < sizeLine by rw [hl]; decide)
      · rw [upd_same, List.take_add_one, e2]
        rfl
    · rintro H1 ⟨d1, s1⟩
      rw [List.take_of_length_le (by rw [hl]; decide)] at d1
      refine ⟨D, xs, rfl, .inl ⟨SqL.of d1, fun r hr => k r _ (s1.trans (same_new hr)) (SqT.of upd_same)⟩⟩

def stV (xs : List V) (n : Str) : V := xs.getD (at22 n) .non
def laidL (xs : List V) (v2 : Str → V) (n2 : List Str) : List V := names22.map fun n => if n ∈ n2 then v2 n else stV xs n
def spLaid (K : PySem.W.Frag) : Sp := fun vs H Q _ => ∃ (a b : Addr) (xs : List V) (v2 : Str → V) (n2 : List Str), vs = [.ref a, .ref b] ∧ SqT K H a xs ∧ xs.length = 6 ∧ H b = some (.dK (lay v2 n2)) ∧ n2.Nodup ∧ n2.length ≤ 20 ∧ (∀ n ∈ n2, n ∈ names22) ∧
  ∀ (r : Addr) (H' : Hp), Same H H' → SqT K H' r (laidL xs v2 n2) → Q (.ref r) H'
theorem sorted_mem : ∀ n ∈ names22, n ∈ sorted22 := by decide
theorem c_p_laid (T : Txt K mg w) (c_p_named : Cal P w K mg base 1 "named" (spNamed K) []) (c_p_style_of : Cal P w K mg base 1 "style_of" (spOf K) []) (c_p_over : Cal P w K mg base 2 "over" spOver []) : Cal P w K mg base 3 "laid" (spLaid K) [] := by
  refine calOf T.d_p_laid sc_p_laid (fun vs H Q E h => ?_) (fun f cdv A outer s H vs Q E hr h => ?_)
  · obtain ⟨a, b, xs, v2, n2, rfl, _⟩ := h
    rfl
  · obtain ⟨a, b, xs, v2, n2, rfl, ha, hl, hb, d2, l2, hn, k⟩ := h
    refine ⟨_,
      (pss_one (ps_ret (pe_c c_p_style_of hr (by first | decide | omega) rfl (pa_cons (pe_c c_p_over hr (by first | decide | omega) rfl (pa_cons (pe_c c_p_named hr (by first | decide | omega) rfl (pa_cons (pv 0) pa_nil)) (pa_cons (pv 1) pa_nil))) pa_nil))))
      , ?_⟩
    refine ⟨_, rfl, a, xs, rfl, ha, hl, fun p H1 hp s1 q1 => ?_⟩
    have q1 : H1 p = some (.dK (lay (stV xs) sorted22)) := q1
    refine ⟨_, rfl, p, b, stV xs, v2, sorted22, n2, rfl, q1, s1 _ _ hb, by decide +kernel, d2, by decide, l2, fun ys r H2 yp yo hr s2 q2 => ?_⟩
    refine ⟨r, _, laidL xs v2 n2, rfl, q2, rfl, fun i n x h1 h2 => ?_, fun t H3 s3 q3 => k t H3 (s1.trans (s2.trans s3)) q3⟩
    have mem : n ∈ ys := yp.mem_iff.mpr (List.mem_append_left _ (sorted_mem n (List.mem_of_getElem? h1)))
    rw [lay_val _ mem]
    unfold laidL at h2
    rw [List.getElem?_map, h1] at h2
    exact h2

theorem cut_head (ns : List Int) (nn : ∀ n ∈ ns, (0 : Int) ≤ n) (i : Option Int) : ∃ x : Int, 0 ≤ x ∧ (cutV (ns.map V.int) i none ++ [V.int 0])[0]? = some (.int x) := by
  have hm : ∀ v ∈ cutV (ns.map V.int) i none, ∃ x : Int, 0 ≤ x ∧ v = .int x := fun v hv => by
    have h1 : v ∈ ns.map V.int := List.mem_of_mem_drop (List.mem_of_mem_take hv)
    obtain ⟨x, hx, rfl⟩ := List.mem_map.mp h1
    exact ⟨x, nn x hx, rfl⟩
  cases e : cutV (ns.map V.int) i none with
  | nil => exact ⟨0, by decide, rfl⟩
  | cons v r =>
    obtain ⟨x, h0, rfl⟩ := hm v (by rw [e]; exact List.mem_cons_self ..)
    exact ⟨x, h0, rfl⟩
theorem cut_size (ns : List Int) (nl : ns.length ≤ 63) (i : Option Int) : (cutV (ns.map V.int) i none).length + [V.int 0].length ≤ sizeLine := by
  have h := cutV_length (ns.map V.int) i none
  rw [List.length_map] at h
  exact Nat.le_trans (Nat.add_le_add_right (Nat.le_trans h nl) 1) (by decide)
theorem c_l_take (T : Txt K mg w) : Cal P w K mg base 1 "_law_take" spTake [] := by
  refine calOf T.d_l_take sc_l_take (fun vs H Q E h => ?_) (fun f cdv A outer s H vs Q E hr h => ?_)
  · obtain ⟨g, n, c, e, rfl, _⟩ := h
    rfl
  · obtain ⟨g, n, c, e, rfl, B, n0, n1, k⟩ := h
    have hLb := B.ne
    obtain ⟨z, m, i, ns, hb, hL, z0, m0, m1, i0, nn, nl⟩ := B.ex
    refine ⟨_,
      (Evl.pss_cut (ps_if (pt_cmpR op_eq (pe_ix ix_list (pv 0) pe_int (fun _ _ => rfl)) pe_int (nomark _))
        (pss_cons (ps_set (i := 2) sc_l_take.nd rfl (Or.inl rfl) (pe_ix ix_list (pe_op op_cat (pe_slice sl_list (pe_ix ix_list (pv 0) pe_int (fun _ _ => rfl)) (po_some (pe_ix ix_list (pv 0) pe_int (fun _ _ => rfl))) po_none) (pe_lst (pa_cons pe_int pa_nil))) pe_int (fun _ _ => rfl)))
        (pss_cons (ps_augS (pv 0) pe_int get_list pe_int ip_add set_list)
        (pss_cons (ps_if (pt_cmpR op_ge (pv 2) (pe_op op_pow pe_int pe_int) (nomark _))
        (pss_one (ps_asg (pv 2) (pg_sub (pv 0) pe_int set_list)))
        pss_nil)
        (pss_cons (ps_set (i := 3) sc_l_take.nd rfl (Or.inl rfl) (pe_op op_add (pe_op op_add (pe_op op_mul (pe_ix ix_list (pv 0) pe_int (fun _ _ => rfl)) pe_int) (pe_op op_mod (pe_callTy call_int1 (by rfl) T.n_int (by decide +kernel) (pa_cons (pv 2) pa_nil)) pe_int)) (pe_op op_mul pe_int (pe_ix ix_list (pv 0) pe_int (fun _ _ => rfl)))))
        (pss_one (ps_asg (pe_op op_mod (pe_callTy call_int1 (by rfl) T.n_int (by decide +kernel) (pa_cons (pv 3) pa_nil)) pe_int) (pg_sub (pv 0) pe_int set_list)))))))
        pss_nil)
        (pss_cons (ps_if (pt_cmpR op_gt (pe_ix ix_list (pv 0) pe_int (fun _ _ => rfl)) pe_int (nomark _))
        (pss_cons (ps_set (i := 4) sc_l_take.nd rfl (Or.inl rfl) (pe_op op_mod (pe_callTy call_int1 (by rfl) T.n_int (by decide +kernel) (pa_cons (pe_ix ix_list (pv 0) pe_int (fun _ _ => rfl)) pa_nil)) (pv 1)))
        (pss_cons (ps_asg (pe_op op_fdivN (pe_callTy call_int1 (by rfl) T.n_int (by decide +kernel) (pa_cons (pe_ix ix_list (pv 0) pe_int (fun _ _ => rfl)) pa_nil)) (pv 1)) (pg_sub (pv 0) pe_int set_list))
        (pss_one (ps_ret (pv 4)))))
        pss_nil)
        (pss_cons (ps_set (i := 5) sc_l_take.nd rfl (Or.inl rfl) (pe_op op_mod (pe_callTy call_int1 (by rfl) T.n_int (by decide +kernel) (pa_cons (pe_op op_mul (pe_op op_add (pe_ix ix_list (pv 0) pe_int (fun _ _ => rfl)) pe_int) pe_int) pa_nil)) pe_int))
        (pss_cons (ps_set (i := 6) sc_l_take.nd rfl (Or.inl rfl) (pe_op op_mod (pe_callTy call_int1 (by rfl) T.n_int (by decide +kernel) (pa_cons (pe_op op_mul (pe_op op_mod (pe_callTy call_int1 (by rfl) T.n_int (by decide +kernel) (pa_cons (pe_op op_mul (pv 5) (pv 5)) pa_nil)) pe_int) pe_int) pa_nil)) pe_int))
        (pss_one (ps_ret (pe_op op_mod (pe_callTy call_int1 (by rfl) T.n_int (by decide +kernel) (pa_cons (pe_op op_fdivN (pv 6) pe_int) pa_nil)) (pv 1))))))))
      , ?_⟩
    refine ⟨fun σ' H' => ∃ (z1 m1 i1 : Int) (v2 v3 : Option V), σ' = [some (.ref g.b), some (.int n), v2, v3, none, none, none] ∧ Fr g.b H H' ∧
        H' g.b = some (.lst [.int z1, .int m1, .int i1, .ref g.L, .int c, .int e]) ∧ 0 ≤ z1 ∧ 0 ≤ m1 ∧ m1 < 2147483647 ∧ 0 ≤ i1, ?_, ?_⟩
    · walk_at "rd"
      refine ite2 (fun h1 => ?_) (fun h1 => ?_)
      · walk_at "rd"
        refine ⟨_, _, rfl, SqL.of hL, fun p hp => ⟨(by decide), fun q hq => ⟨_, _, _, _, rfl, rfl, upd_some upd_same hq, upd_same, cut_size ns nl _, fun r hr => ?_⟩⟩⟩
        obtain ⟨x, x0, hx⟩ := cut_head ns nn (some i)
        refine ⟨_, _, _, _, rfl, rfl, SqL.of upd_same, atI_nat (j := 0) hx, ?_⟩
        have hb3 := upd_some (u := .lst (cutV (ns.map V.int) (some i) none ++ [.int 0])) (upd_some (u := .lst [.int 0]) (upd_some (u := .lst (cutV (ns.map V.int) (some i) none)) hb hp) hq) hr
        have fr3 : Fr g.b H _ := (((Fr.refl g.b H).new (o := .lst (cutV (ns.map V.int) (some i) none)) hp).new (o := .lst [.int 0]) hq).new (o := .lst (cutV (ns.map V.int) (some i) none ++ [.int 0])) hr
        generalize upd (upd (upd H p _) q _) r _ = H3 at hb3 fr3 ⊢
        -- bag[2] += 1
        walk_at "rd"
        have fr4 : ∀ o1 o2 : HO, Fr g.b H (upd (upd H3 g.b o1) g.b o2) := fun o1 o2 => fr3.at.at
        have md : ∀ y : Int, 0 ≤ y % 2147483647 ∧ y % 2147483647 < 2147483647 := fun y => ⟨Int.emod_nonneg _ (by decide), Int.emod_lt_of_pos _ (by decide)⟩
        refine ite2 (fun h2 => ?_) (fun h2 => ?_)
        · walk_at "rd"
          exact ⟨x, _, i + 1, _, _, rfl, fr3.at.at.at, upd_same, x0, (md _).1, (md _).2, by omega⟩
        · walk_at "rd"
          exact ⟨z, _, i + 1, _, _, rfl, fr3.at.at, upd_same, z0, (md _).1, (md _).2, by omega⟩
      · exact ⟨z, m, i, none, none, rfl, .refl _ _, hb, z0, m0, m1, i0⟩
    · rintro σ' H' ⟨z1, m1, i1, v2, v3, rfl, fr, hb1, z0, m0, mL, i0⟩
      have hn : ∀ y : Int, 0 ≤ y % n ∧ y % n < n := fun y => ⟨Int.emod_nonneg _ (by omega), Int.emod_lt_of_pos _ n0⟩
      walk_at "rd"
      refine ite2 (fun h1 => ?_) (fun h1 => ?_)
      · walk_at "rd"
        refine k _ _ (hn _).1 (hn _).2 (Drawn.mk' B ⟨⟨_, m1, i1, ns, upd_same, by rw [upd_ne hLb]; exact fr _ _ hLb hL, Int.fdiv_nonneg z0 (Int.le_of_lt n0), m0, mL, i0, nn, nl⟩, hLb⟩ fr.at)
      · walk_at "rd"
        exact k _ _ (hn _).1 (hn _).2 (Drawn.mk' B ⟨⟨z1, m1, i1, ns, hb1, fr _ _ hLb hL, z0, m0, mL, i0, nn, nl⟩, hLb⟩ fr)

theorem c_l_one (T : Txt K mg w) (c_l_take : Cal P w K mg base 1 "_law_take" spTake []) : Cal P w K mg base 2 "_law_one" (spOne K) [] := by
  refine calOf T.d_l_one sc_l_one (fun vs H Q E h => ?_) (fun f cdv A outer s H vs Q E hr h => ?_)
  · obtain ⟨g, x, c, e, rfl, _⟩ := h
    rfl
  · obtain ⟨g, x, c, e, rfl, B, h⟩ := h
    refine ⟨_,
      (pss_one (ps_ret (pe_ix ix_seq (pv 1) (pe_c c_l_take hr (by first | decide | omega) rfl (pa_cons (pv 0) (pa_cons (pe_callB call_len (by rfl) T.n_len PySem.boot_len (pa_cons (pv 1) pa_nil)) pa_nil))) (fun _ _ => rfl))))
      , ?_⟩
    rcases h with ⟨p, xs, rfl, hq, pb, h0, h1, k⟩ | ⟨z, rfl, h0, h1, k⟩
    · refine ⟨_, rfl, _, rfl, _, rfl, _, xs.length, rfl, hq.elim (fun q => .inl ⟨_, q, rfl⟩) (fun q => .inr ⟨_, q, rfl⟩), g, xs.length, c, e, rfl, B, by omega, by omega, fun r H' r0 r1 D => ?_⟩
      obtain ⟨v, hv, ha⟩ := at_of r0 r1
      rcases hq with q | q
      · exact .inl ⟨_, _, _, _, rfl, rfl, D.seqL pb q, ha, k v H' hv D⟩
      · exact .inr (.inl ⟨_, _, _, _, rfl, rfl, D.seqT pb q, ha, k v H' hv D⟩)
    · have hz : z.length ≤ sizeLine := Nat.le_trans (Nat.le_of_lt h1) (by decide)
      refine ⟨_, rfl, _, rfl, _, rfl, _, z.length, rfl, ⟨hz, rfl⟩, g, z.length, c, e, rfl, B, by omega, by omega, fun r H' r0 r1 D => ?_⟩
      obtain ⟨v, hv, ha⟩ := at_of (xs := z.cps.toList) r0 (by simpa [Str.length] using r1)
      exact .inr (.inr ⟨_, _, _, rfl, rfl, hz, ha, k v H' hv D⟩)

def spBag (K : PySem.W.Frag) : Sp := fun vs H Q _ => ∃ (a : Addr) (ns : List Int), vs = [.ref a] ∧ SqL K H a (ns.map V.int) ∧ ns.length ≤ 63 ∧ ∀ (g : Bg) (H' : Hp), Same H H' → Bag H' g 0 0 → Q (.ref g.b) H'
theorem cut_ints (ns : List Int) (lo hi : Option Int) : ∃ ms : List Int, cutV (ns.map V.int) lo hi = ms.map V.int ∧ ms.length ≤ ns.length := by
  refine ⟨(ns.drop (HT.sIx (ns.map V.int).length 0 lo)).take (HT.sIx (ns.map V.int).length (ns.map V.int).length hi - HT.sIx (ns.map V.int).length 0 lo), ?_, ?_⟩
  · unfold cutV
    rw [List.map_take, List.map_drop]
  · rw [List.length_take, List.length_drop]
    omega
theorem c_l_bag (T : Txt K mg w) : Cal P w K mg base 1 "_law_bag" (spBag K) [] := by
  refine calOf T.d_l_bag sc_l_bag (fun vs H Q E h => ?_) (fun f cdv A outer s H vs Q E hr h => ?_)
  · obtain ⟨a, ns, rfl, _⟩ := h
    rfl
  · obtain ⟨a, ns, rfl, hq, hl, k⟩ := h
    refine ⟨_,
      (pss_one (ps_ret (pe_lst (pa_cons pe_int (pa_cons pe_int (pa_cons pe_int (pa_cons (pe_lc (own := [("_law_cell", 1)]) (g := gName 1) (tt := tYes) rfl sc_l_bag.nd (pi_list (pe_slice sl_list (pv 0) po_none (po_some pe_int))) (blkOk_by (N := ["_law_script", "_law_cell"]) (sc := defScope s_l_bag) (by decide +kernel)) (fun _ _ _ _ _ => pg_name (i := 1) sc_l_bag.nd rfl (Or.inl rfl)) (fun _ _ _ _ _ => pts_nil) (fun _ _ _ _ _ => (pe_callB call_abs (by rfl) T.n_abs (by decide +kernel) (pa_cons (pv 1) pa_nil)))) (pa_cons pe_int (pa_cons pe_int pa_nil)))))))))
      , ?_⟩
    obtain ⟨ms, em, lm⟩ := cut_ints ns none (some 63)
    refine ⟨_, rfl, _, rfl, a, _, rfl, hq, fun p hp => ?_⟩
    rw [em]
    refine ⟨p, rfl, ⟨_, SqL.of upd_same⟩, fun D hD => ?_⟩
    have ap : upd H p (.lst (ms.map V.int)) p = some (.lst (ms.map V.int)) := upd_same
    have s1 : Same H (upd H p (.lst (ms.map V.int))) := same_new hp
    generalize upd H p (HO.lst (ms.map V.int)) = H1 at ap s1 hD ⊢
    refine lc_list (K := K) (a := p) (xs := ms.map V.int) (fun i H' => H' D = some (.lst (((ms.take i).map fun n => if n < 0 then -n else n).map V.int)) ∧ Same H1 H') ⟨upd_same, same_put (Same.refl _) hD⟩ (fun i H' _ ⟨_, s2⟩ => SqL.of (s2 _ _ ap)) ?_ ?_
    · rintro i y H' hi ⟨hd, s2⟩
      rw [List.getElem?_map] at hi
      obtain ⟨n, hn, rfl⟩ := Option.map_eq_some_iff.mp hi
      have li := (List.getElem?_eq_some_iff.mp hn).1
      refine ⟨rfl, _, rfl, n, rfl, _, hd, ?_, ?_, same_put s2 hD⟩
      · rw [List.length_map, List.length_map, List.length_take]
        exact Nat.lt_of_le_of_lt (Nat.min_le_left _ _) (Nat.lt_of_lt_of_le (show i < 100 by omega) (by decide))
      · rw [upd_same, List.take_add_one, hn, List.map_append, List.map_append]
        rfl
    · rintro H2 ⟨hd, s2⟩
      rw [List.length_map, List.take_length] at hd
      refine ⟨by show 6 ≤ sizeLine; decide, fun b hb => ?_⟩
      refine k ⟨b, D⟩ _ ((s1.trans s2).trans (same_new hb)) ⟨⟨0, 1234567891, 0, ms.map fun n => if n < 0 then -n else n, upd_same, upd_some hd hb, by decide, by decide, by decide, by decide, ?_, ?_⟩, ?_⟩
      · intro n hn
        obtain ⟨x, _, rfl⟩ := List.mem_map.mp hn
        show 0 ≤ if x < 0 then -x else x
        split <;> omega
      · rw [List.length_map]
        omega
      · exact ne_of_none hd hb

/-- a list or a tuple is handed in, a new list of its items in some order comes back -/
def spMixed (K : PySem.W.Frag) : Sp := fun vs H Q _ => ∃ (g : Bg) (p : Addr) (xs : List V) (c e : Int), vs = [.ref g.b, .ref p] ∧ Bag H g c e ∧ (SqL K H p xs ∨ SqT K H p xs) ∧ p ≠ g.b ∧ xs.length ≤ 100 ∧
  ∀ (q : Addr) (ys : List V) (H' : Hp), ys.Perm xs → H q = none → H' q = some (.lst ys) → Drawn g H H' c e → Q (.ref q) H'
theorem c_l_mixed (T : Txt K mg w) (c_l_take : Cal P w K mg base 1 "_law_take" spTake []) : Cal P w K mg base 2 "_law_mixed" (spMixed K) [] := by
  refine calOf T.d_l_mixed sc_l_mixed (fun vs H Q E h => ?_) (fun f cdv A outer s H vs Q E hr h => ?_)
  · obtain ⟨g, p, xs, c, e, rfl, _⟩ := h
    rfl
  · obtain ⟨g, p, xs, c, e, rfl, B, hq, np, lx, k⟩ := h
    refine ⟨_,
      (pss_cons (ps_set (i := 2) sc_l_mixed.nd rfl (Or.inl rfl) (pe_lst pa_nil))
        (pss_cons (ps_for PassesOwn.never rfl (pi_either (pv 1)) (pg_name (i := 3) sc_l_mixed.nd rfl (Or.inl rfl))
        (pss_one (ps_expr (pe_bm PySem.F.plainAttrs_list PySem.F.slot_list_insert PySem.F.type_list_insert mt_insert (pv 2) (pa_cons (pe_c c_l_take hr (by first | decide | omega) rfl (pa_cons (pv 0) (pa_cons (pe_op op_add (pe_callB call_len (by rfl) T.n_len PySem.boot_len (pa_cons (pv 2) pa_nil)) pe_int) pa_nil))) (pa_cons (pv 3) pa_nil))))))
        (pss_one (ps_ret (pv 2)))))
      , ?_⟩
    refine ⟨by decide, fun F hF => ?_⟩
    have nF := B.ne_new hF
    have perm : ∀ (ys : List V) (y : V) (r i : Nat), xs[i]? = some y → ys.Perm (xs.take i) → (ys.take r ++ [y] ++ ys.drop r).Perm (xs.take (i + 1)) := by
      intro ys y r i hy hp
      have e : xs.take (i + 1) = xs.take i ++ [y] := by rw [List.take_add_one, hy] <;> rfl
      rw [e, List.append_assoc]
      refine (List.Perm.append_left _ List.perm_append_comm).trans ?_
      rw [← List.append_assoc, List.take_append_drop]
      exact hp.append_right [y]
    have kep : ∀ {i : Nat} {σ' : L2.St} {H' : Hp}, (∃ ys v3, σ' = [some (.ref g.b), some (.ref p), some (.ref F), v3] ∧ ys.Perm (xs.take i) ∧ H' F = some (.lst ys) ∧ Drawn g H H' c e) → Drawn g H H' c e := fun ⟨_, _, _, _, _, D⟩ => D
    have d0 : Drawn g H (upd H F (.lst [])) c e := (Drawn.of B).new hF
    have fin : ∀ (σ' : L2.St) (H' : Hp), (∃ ys v3, σ' = [some (.ref g.b), some (.ref p), some (.ref F), v3] ∧ ys.Perm (xs.take xs.length) ∧ H' F = some (.lst ys) ∧ Drawn g H H' c e) → tRet (tVar 2) { nx := fun x H' => Q V.non H', rt := Q } σ' H' := by
      rintro σ' H' ⟨ys, v3, rfl, hp, hf, D⟩
      rw [List.take_length] at hp
      exact ⟨_, rfl, k F ys H' hp hF hf D⟩
    refine hq.elim (fun hq => .inl ⟨_, rfl, p, rfl, ⟨xs, d0.seqL np hq⟩, for_list (K := K) (a := p) (xs := xs) (fun i σ' H' => ∃ ys v3, σ' = [some (.ref g.b), some (.ref p), some (.ref F), v3] ∧ ys.Perm (xs.take i) ∧ H' F = some (.lst ys) ∧ Drawn g H H' c e)
        ⟨[], none, rfl, List.Perm.refl _, upd_same, d0⟩ (fun i σ' H' _ h => (kep h).seqL np hq) ?_ fin⟩)
      (fun hq => .inr ⟨_, rfl, p, rfl, ⟨xs, d0.seqT np hq⟩, for_tup (K := K) (a := p) (xs := xs) (fun i σ' H' => ∃ ys v3, σ' = [some (.ref g.b), some (.ref p), some (.ref F), v3] ∧ ys.Perm (xs.take i) ∧ H' F = some (.lst ys) ∧ Drawn g H H' c e)
        ⟨[], none, rfl, List.Perm.refl _, upd_same, d0⟩ (fun i σ' H' _ h => (kep h).seqT np hq) ?_ fin⟩)
    all_goals
      rintro i y σ' H' hy ⟨ys, v3, rfl, hp, hf, D⟩
      have ly : ys.length ≤ 100 := by
        rw [hp.length_eq, List.length_take]
        omega
      refine ⟨_, rfl, .inl ⟨rfl, _, SqL.of hf⟩, _, rfl, _, rfl, _, ys.length, rfl, .inl ⟨_, SqL.of hf, rfl⟩, _, _, rfl, rfl, g, _, c, e, rfl, D.bag, by omega, by omega, fun r H2 r0 r1 D2 => ?_⟩
      have r1 : r < (ys.length : Int) + 1 := r1
      refine ⟨_, rfl, F, ys, r, y, rfl, rfl, D2.keep nF hf, Nat.lt_of_le_of_lt ly (by decide), r0, by omega, ?_⟩
      exact ⟨_, _, rfl, perm ys y r.toNat i hy hp, upd_same, (D.trans D2).put B hF⟩

/-! what is laid by a layer -/
abbrev RSt := (Str → PyData) × List Str
def ordN (ns : List Str) : List Str := sorted22.filter fun n => decide (n ∈ ns)
theorem sorted_pw22 : sorted22.Pairwise (fun x y => ltS y x = false) := by decide +kernel
theorem sorted_perm22 : sorted22.Perm names22 := by decide
theorem ord_perm {ns : List Str} (nd : ns.Nodup) (h : ∀ n ∈ ns, n ∈ names22) : (ordN ns).Perm ns := by
  refine (List.perm_ext_iff_of_nodup ((show sorted22.Nodup by decide).filter _) nd).mpr fun a => ?_
  rw [List.mem_filter]
  exact ⟨fun q => of_decide_eq_true q.2, fun q => ⟨sorted_perm22.mem_iff.mpr (h a q), decide_eq_true q⟩⟩
theorem ord_is {ys ns : List Str} (p : ys.Perm ns) (s : ys.Pairwise fun x y => ltS y x = false) (nd : ns.Nodup) (h : ∀ n ∈ ns, n ∈ names22) : ys = ordN ns :=
  sorted_is (p.trans (ord_perm nd h).symm) s (sorted_pw22.sublist List.filter_sublist)
def layD (st : RSt) : PyData := .dict ((ordN st.2).map fun n => (.str n, st.1 n))
theorem lay_dx {H : Hp} {p : Addr} {val : Str → V} {ys : List Str} {dv : Str → PyData} (hp : H p = some (.dK (lay val ys))) (nd : ys.Nodup) (h : ∀ n ∈ ys, Dx K H (val n) (dv n)) : Dx K H (.ref p) (.dict (ys.map fun n => (.str n, dv n))) := by
  have all : ∀ l : List Str, (∀ n ∈ l, Dx K H (val n) (dv n)) → DxAll K H (l.map val) (l.map dv) := fun l => by
    induction l with
    | nil => exact fun _ => .nil
    | cons x r ih => exact fun hl => .cons (hl x List.mem_cons_self) (ih fun n hn => hl n (List.mem_cons_of_mem _ hn))
  have keys : ((lay val ys).map (·.1)).Nodup := by
    rw [lay_keys]
    exact List.Pairwise.map _ (fun a b n e => n (Sum.inr.inj e)) nd
  have := Dx.dic (K := K) (.inl hp) keys (ds := ys.map dv) (by unfold lay; rw [List.map_map]; exact all ys h)
  unfold lay at this
  rw [List.map_map, List.zip_map'] at this
  exact this
structure LayAt (K : PySem.W.Frag) (H : Hp) (a : Addr) (st : RSt) : Prop where
  ex : ∃ val : Str → V, H a = some (.dK (lay val (ordN st.2))) ∧ ∀ n ∈ ordN st.2, Dx K H (val n) (st.1 n)
theorem LayAt.mono {H H' : Hp} {a : Addr} {st : RSt} (L : LayAt K H a st) (m : ∀ b o, H b = some o → H' b = some o) : LayAt K H' a st := by
  obtain ⟨val, h1, h2⟩ := L.ex
  exact ⟨val, m _ _ h1, fun n hn => Dx.same m (h2 n hn)⟩
/-- a layer in a dict, its names in any order -/
structure LayM (K : PySem.W.Frag) (H : Hp) (a : Addr) (st : RSt) : Prop where
  ex : ∃ (val : Str → V) (ns : List Str), H a = some (.dK (lay val ns)) ∧ ns.Perm (ordN st.2) ∧ ∀ n ∈ ns, Dx K H (val n) (st.1 n)
theorem LayM.mono {H H' : Hp} {a : Addr} {st : RSt} (L : LayM K H a st) (m : ∀ b o, H b = some o → H' b = some o) : LayM K H' a st := by
  obtain ⟨val, ns, h1, h2, h3⟩ := L.ex
  exact ⟨val, ns, m _ _ h1, h2, fun n hn => Dx.same m (h3 n hn)⟩
def hid2 (a b : Addr) (H : Hp) : Hp := fun x => if x = a ∨ x = b then none else H x
theorem hid2_ne {a b x : Addr} {H : Hp} (h1 : x ≠ a) (h2 : x ≠ b) : hid2 a b H x = H x := if_neg fun z => z.elim h1 h2
theorem hid2_mono {a b : Addr} {H H' : Hp} (h : ∀ x o, x ≠ a → x ≠ b → H x = some o → H' x = some o) : ∀ x o, hid2 a b H x = some o → hid2 a b H' x = some o := fun x o e => by
  unfold hid2 at e ⊢
  split at e
  · cases e
  · rename_i q
    rw [if_neg q]
    exact h x o (fun z => q (.inl z)) (fun z => q (.inr z)) e
theorem hid2_le {a b : Addr} {H H' : Hp} (h : ∀ x o, x ≠ a → x ≠ b → H x = some o → H' x = some o) : ∀ x o, hid2 a b H x = some o → H' x = some o := fun x o e => by
  unfold hid2 at e
  split at e
  · cases e
  · rename_i q
    exact h x o (fun z => q (.inl z)) (fun z => q (.inr z)) e

/-! the layers for a path, and the style there -/
def fold25 : List Str := ["", "lib", "lib/old", "library", "lib/old/a", "a", "a/lib", "b_1", "old", "lib/ol"]
def paths25 : List Str := ["lib/old/a.ll", "lib/x", "x", "library/x", "a/lib/old", "lib/old/a/b", "lib", "b_1/c", "old/lib/x"]
def sf25 : List Str := ["", "a", "a/lib", "b_1", "lib", "lib/ol", "lib/old", "lib/old/a", "library", "old"]
theorem sf25_pw : sf25.Pairwise (fun x y => ltS y x = false) := by decide +kernel
theorem sf25_perm : sf25.Perm fold25 := by decide +kernel
def appB (f p : Str) : Bool := decide (f = "") || Txt.startswith p (f ++ "/")
structure LayersOf (K : PySem.W.Frag) (H : Hp) (d : Addr) (fs : List Str) (stf : Str → RSt) : Prop where
  ex : ∃ lv : Str → V, H d = some (.dK (lay lv fs)) ∧ ∀ f ∈ fs, ∃ a, lv f = .ref a ∧ LayM K H a (stf f)
structure FoldIn (fs : List Str) : Prop where
  nd : fs.Nodup
  ns : ∀ f ∈ fs, f ∈ fold25
theorem FoldIn.len {fs : List Str} (F : FoldIn fs) : fs.length ≤ 10 := F.nd.length_le_of_subset (l₂ := fold25) fun _ hx => F.ns _ hx
/-- the folders that speak of a path, in order -/
def forF (fs : List Str) (p : Str) : List Str := sf25.filter fun f => decide (f ∈ fs) && appB f p
theorem forF_pw (fs : List Str) (p : Str) : (forF fs p).Pairwise (fun x y => ltS y x = false) := sf25_pw.sublist List.filter_sublist
theorem forF_sub {fs : List Str} {p f : Str} (h : f ∈ forF fs p) : f ∈ fs := by
  have := (List.mem_filter.mp h).2
  rw [Bool.and_eq_true] at this
  exact of_decide_eq_true this.1
theorem forF_len (fs : List Str) (p : Str) : (forF fs p).length ≤ 10 := List.length_filter_le _ _
theorem forF_perm {fs : List Str} (F : FoldIn fs) (p : Str) : (fs.filter fun f => appB f p).Perm (forF fs p) := by
  refine (List.perm_ext_iff_of_nodup (F.nd.filter _) ((show sf25.Nodup by decide).filter _)).mpr fun f => ?_
  rw [List.mem_filter, List.mem_filter, Bool.and_eq_true]
  exact ⟨fun q => ⟨sf25_perm.mem_iff.mpr (F.ns f q.1), decide_eq_true q.1, q.2⟩, fun q => ⟨of_decide_eq_true q.2.1, q.2.2⟩⟩
/-- a folder with its layer, a dict of its own -/
def ForTup (K : PySem.W.Frag) (stf : Str → RSt) (H0 H : Hp) (q : Addr) (f : Str) : Prop := ∃ a, H q = some (.tup [.str f, .ref a]) ∧ H0 a = none ∧ LayAt K H a (stf f)
def spFor (K : PySem.W.Frag) : Sp := fun vs H Q _ => ∃ (d : Addr) (p : Str) (fs : List Str) (stf : Str → RSt), vs = [.ref d, .str p] ∧ LayersOf K H d fs stf ∧ FoldIn fs ∧ p ∈ paths25 ∧
  ∀ (r : Addr) (H' : Hp) (qs : List Addr), Same H H' → H r = none → H' r = some (.lst (qs.map V.ref)) → Paired (ForTup K stf H H') qs (forF fs p) → Q (.ref r) H'
theorem p14_len : ∀ p ∈ paths25, p.length ≤ 100 := by decide +kernel
theorem f4_len : ∀ f ∈ fold25, f.length ≤ 100 := by decide +kernel
theorem ordN_nd (ns : List Str) : (ordN ns).Nodup := (show sorted22.Nodup by decide).filter _
theorem ordN_pw (ns : List Str) : (ordN ns).Pairwise (fun x y => ltS y x = false) := sorted_pw22.sublist List.filter_sublist
theorem ordN_len (ns : List Str) : (ordN ns).length ≤ 6 := List.length_filter_le _ _
theorem c_p_layers_for (T : Txt K mg w) (c_p_ascending : Cal P w K mg base 1 "_ascending" spAsc []) : Cal P w K mg base 2 "layers_for" (spFor K) [] := by
  refine calOf T.d_p_layers_for sc_p_layers_for (fun vs H Q E h => ?_) (fun f cdv A outer s H vs Q E hr h => ?_)
  · obtain ⟨d, p, fs, stf, rfl, _⟩ := h
    rfl
  · obtain ⟨F, p, fs, stf, rfl, ⟨lv, hF, hL⟩, FI, hp, k⟩ := h
    have hu := u1 hr
    refine ⟨_,
      (pss_cons (ps_set (i := 2) sc_p_layers_for.nd rfl (Or.inl rfl) (pe_callB call_sortedS (by rfl) T.n_sorted (by decide +kernel) (pa_cons (pe_lock (pe_lc (own := [("folder", 3)]) (g := gName 3) rfl sc_p_layers_for.nd (pi_keys (pv 0)) (blkOk_by (N := ["layers", "path", "folders", "folder"]) (sc := defScope s_p_layers_for) (by decide +kernel)) (fun _ _ _ _ _ => pg_name (i := 3) sc_p_layers_for.nd rfl (Or.inl rfl)) (fun _ _ _ _ _ => (pts_one (PW.pt (pw_or (pt_cmpR op_eq (pv 3) pe_str (nomark _)) (pw_or1 (pt_val (show PE _ _ (tBM K "str" _ _ _) from pe_bm PySem.F.plainAttrs_str PySem.F.slot_str_startswith PySem.F.type_str_startswith mt_startswith (pv 1) (pa_cons (pe_op op_add_str (pv 3) pe_str) pa_nil)))))))) (fun _ _ _ _ _ => (pv 3)))) pa_nil)))
        (pss_one (ps_ret (pe_lc (own := [("folder", 3)]) (g := gName 3) (tt := tYes) rfl sc_p_layers_for.nd (pi_list (pv 2)) (blkOk_by (N := ["layers", "path", "folders", "folder"]) (sc := defScope s_p_layers_for) (by decide +kernel)) (fun _ _ _ _ _ => pg_name (i := 3) sc_p_layers_for.nd rfl (Or.inl rfl)) (fun _ _ _ _ _ => pts_nil) (fun _ _ _ _ _ => (pe_tup (pa_cons (pv 3) (pa_cons (pe_c c_p_ascending hr (by first | decide | omega) rfl (pa_cons (pe_dget hu (pv 0) (pv 3) (fun _ _ => rfl)) pa_nil)) pa_nil))))))))
      , ?_⟩
    refine ⟨F, _, hF, trivial, fun od => ?_⟩
    refine ⟨_, rfl, F, od, rfl, .inl ⟨lay lv fs, upd_same, fun D hD => ?_⟩⟩
    have nD : D ≠ F := fun z => by rw [z, upd_same] at hD; cases hD
    have hD : H D = none := by rw [upd_ne nD] at hD; exact hD
    have FL := FI.len
    refine lc_it (walk_keys (d := F) (o := od) (kvs := lay lv fs)) (fun i H' => H' D = some (.lst (((fs.take i).filter fun f => appB f p).map V.str)) ∧ H' F = some (.frz od (.dK (lay lv fs))) ∧ ∀ b o, b ≠ F → H b = some o → H' b = some o)
      ⟨upd_same, by rw [upd_ne (Ne.symm nD), upd_same], fun b o n e => by rw [upd_ne (ne_of_none e hD), upd_ne n]; exact e⟩ (fun i H' _ ⟨_, h, _⟩ => h) ?_ ?_
    · rintro i x H2 H3 hi ⟨d2, f2, s2⟩ ⟨rfl, kk, v, hx, rfl⟩
      unfold lay at hx
      rw [List.getElem?_map] at hx
      obtain ⟨fo, hf, e1⟩ := Option.map_eq_some_iff.mp hx
      cases e1
      have et : fs.take (i + 1) = fs.take i ++ [fo] := by
        rw [List.take_add_one, hf]
        rfl
      have f4 := FI.ns fo (List.mem_of_getElem? hf)
      refine ⟨rfl, ?_⟩
      refine ⟨_, rfl, rfl, _, rfl, ?_⟩
      have ee : decide (kV (Sum.inr fo) = V.str "") = decide (fo = "") := decide_eq_decide.mpr ⟨fun z => V.str.inj z, fun z => by rw [z]; rfl⟩
      rw [ee]
      have lz : ((((fs.take i).filter fun f => appB f p).map V.str)).length < sizeLine := by
        rw [List.length_map]
        have l1 := List.length_filter_le (fun f => appB f p) (fs.take i)
        have l2 : (fs.take i).length ≤ fs.length := (List.take_sublist _ _).length_le
        exact Nat.lt_of_le_of_lt (show _ ≤ 10 by omega) (by decide)
      have yes : appB fo p = true → ((upd H3 D (HO.lst ((((fs.take i).filter fun f => appB f p).map V.str) ++ [.str fo]))) D = some (.lst (((fs.take (i + 1)).filter fun f => appB f p).map V.str)) ∧ (upd H3 D (HO.lst ((((fs.take i).filter fun f => appB f p).map V.str) ++ [.str fo]))) F = some (.frz od (.dK (lay lv fs))) ∧ ∀ b o, b ≠ F → H b = some o → (upd H3 D (HO.lst ((((fs.take i).filter fun f => appB f p).map V.str) ++ [.str fo]))) b = some o) := fun h => by
        refine ⟨?_, ?_, fun b o n e => ?_⟩
        · rw [upd_same, et, List.filter_append, List.filter_cons_of_pos (p := fun f => appB f p) h, List.map_append]
          rfl
        · rw [upd_ne (Ne.symm nD)]
          exact f2
        · rw [upd_ne (ne_of_none e hD)]
          exact s2 b o n e
      refine ite2 (fun h => ?_) (fun h => ?_)
      · have hb : appB fo p = true := by unfold appB; rw [h] <;> rfl
        exact ⟨_, rfl, _, d2, lz, yes hb⟩
      · have h0 : decide (fo = "") = false := Bool.eq_false_iff.mpr h
        have l1 := f4_len fo f4
        have le : fo.length + (("/" : Str)).length ≤ sizeLine := by
          have : (("/" : Str)).length = 1 := rfl
          rw [this]
          exact Nat.le_trans (show _ ≤ 101 by omega) (by decide)
        refine ⟨_, rfl, rfl, _, rfl, _, _, rfl, rfl, le, _, _, rfl, rfl, _, rfl, ?_⟩
        refine ite2 (fun h2 => ?_) (fun h2 => ?_)
        · have hb : appB fo p = true := by unfold appB; rw [h0, h2] <;> rfl
          exact ⟨_, rfl, _, d2, lz, yes hb⟩
        · have hb : appB fo p = false := by unfold appB; rw [h0, Bool.eq_false_iff.mpr h2] <;> rfl
          refine ⟨?_, f2, s2⟩
          rw [et, List.filter_append, List.filter_cons_of_neg (p := fun f => appB f p) (by rw [hb]; exact Bool.false_ne_true), List.filter_nil, List.append_nil]
          exact d2
    · rintro H2 ⟨d2, f2, s2⟩
      have e : fs.take (lay lv fs).length = fs := by
        unfold lay
        rw [List.length_map, List.take_length]
      rw [e] at d2
      refine ⟨f2, ?_⟩
      have S : Same H (upd H2 F (.dK (lay lv fs))) := fun b o e => by
        by_cases n : b = F
        · subst n
          rw [hF] at e
          rw [upd_same, e]
        · rw [upd_ne n]
          exact s2 b o n e
      have d3 : (upd H2 F (HO.dK (lay lv fs))) D = some (.lst ((fs.filter fun f => appB f p).map V.str)) := by
        rw [upd_ne nD]
        exact d2
      generalize upd H2 F (HO.dK (lay lv fs)) = H3 at S d3 ⊢
      refine ⟨D, _, rfl, .inl (SqL.of d3), fun ys q yp yo hq => ?_⟩
      obtain rfl : ys = forF fs p := sorted_is (yp.trans (forF_perm FI p)) yo (forF_pw fs p)
      have sub : ∀ f ∈ forF fs p, f ∈ fs := fun f hf => forF_sub hf
      have l10 := forF_len fs p
      generalize forF fs p = zs at k sub l10 ⊢
      have s4 := S.trans (same_new (o := HO.lst (zs.map V.str)) hq)
      have q4 : (upd H3 q (HO.lst (zs.map V.str))) q = _ := upd_same
      generalize upd H3 q (HO.lst (zs.map V.str)) = H4 at s4 q4 ⊢
      refine ⟨_, rfl, q, rfl, ⟨_, SqL.of q4⟩, fun R hR => ?_⟩
      have q5 := upd_some (u := HO.lst []) q4 hR
      have nqR : q ≠ R := fun z => by rw [z, hR] at q4; cases q4
      refine lc_it (walk_list (K := K) (a := q) (xs := zs.map V.str)) (fun i H' => ∃ qs : List Addr, H' R = some (.lst (qs.map V.ref)) ∧ Paired (ForTup K stf H (hid2 R R H')) qs (zs.take i) ∧ Same H4 H') ⟨[], upd_same, .nil, same_put (Same.refl _) hR⟩ (fun i H' _ ⟨_, _, _, h⟩ => SqL.of (h _ _ q4)) ?_ ?_
      · rintro i x H5 H6 hi ⟨qs, d5, pr, s5⟩ ⟨rfl, hx⟩
        rw [List.getElem?_map] at hx
        obtain ⟨fo, hf, rfl⟩ := Option.map_eq_some_iff.mp hx
        have mem := sub fo (List.mem_of_getElem? hf)
        obtain ⟨a, la, LA⟩ := hL fo mem
        obtain ⟨val, ns, ha, np, hd0⟩ := LA.ex
        have ha := (s4.trans s5) _ _ ha
        refine ⟨rfl, ?_⟩
        delta tYes
        refine iteT ?_
        have dg : DGet H6 F (kV (.inr fo)) (some (.ref a)) := by
          refine .inl ⟨_, .inr fo, .inl ((s4.trans s5) _ _ hF), rfl, ?_⟩
          rw [← la]
          exact (lay_val lv mem).symm
        refine ⟨_, rfl, _, rfl, _, rfl, F, .ref a, rfl, dg, a, val, ns, rfl, ha, np.nodup_iff.mpr (ordN_nd _), by rw [np.length_eq]; exact Nat.le_trans (ordN_len _) (by decide), fun ys p' H7 yp yo hp' s7 q7 => ?_⟩
        obtain rfl : ys = ordN (stf fo).2 := sorted_is (yp.trans np) yo (ordN_pw _)
        have new : H p' = none := (s4.trans s5).free hp'
        have SR : Same H (hid2 R R H7) := fun b o e => by
          have n : b ≠ R := fun z => by rw [z, s4.free hR] at e; cases e
          rw [hid2_ne n n]
          exact ((s4.trans s5).trans s7) _ _ e
        have pR : p' ≠ R := fun z => by rw [z, d5] at hp'; cases hp'
        have LN : LayAt K (hid2 R R H7) p' (stf fo) := ⟨val, by rw [hid2_ne pR pR]; exact q7, fun n hn => Dx.same SR (hd0 n (np.mem_iff.mpr hn))⟩
        refine ⟨by show 2 ≤ sizeLine; decide, fun u hu' => ?_⟩
        have d8 := upd_some (u := HO.tup [.str fo, .ref p']) (s7 _ _ d5) hu'
        have u8 : (upd H7 u (HO.tup [.str fo, .ref p'])) u = some (.tup [.str fo, .ref p']) := upd_same
        have s8 : Same H6 (upd H7 u (HO.tup [.str fo, .ref p'])) := s7.trans (same_new hu')
        have L8 := LN.mono (hid2_mono fun x o _ _ e => same_new (o := HO.tup [.str fo, .ref p']) hu' x o e : ∀ x o, hid2 R R H7 x = some o → hid2 R R (upd H7 u (HO.tup [.str fo, .ref p'])) x = some o)
        have uR : u ≠ R := fun z => by rw [z, (s7 _ _ d5)] at hu'; cases hu'
        generalize upd H7 u (HO.tup [V.str fo, V.ref p']) = H8 at d8 u8 s8 L8 ⊢
        have up : ∀ (g : HO) x o, hid2 R R H8 x = some o → hid2 R R (upd H8 R g) x = some o := fun g => hid2_mono fun x o n1 _ e => by
          rw [upd_ne n1]
          exact e
        have et : zs.take (i + 1) = zs.take i ++ [fo] := by
          rw [List.take_add_one, hf]
          rfl
        refine ⟨_, d8, ?_, qs ++ [u], ?_, ?_, same_put (s5.trans s8) hR⟩
        · rw [List.length_map, pr.length, List.length_take]
          exact Nat.lt_of_le_of_lt (show _ ≤ 10 by omega) (by decide)
        · rw [upd_same, List.map_append]
          rfl
        · rw [et]
          refine Paired.snoc (pr.mono fun q f ⟨a, h1, h0, h2⟩ => ?_) ⟨p', ?_, new, L8.mono (up _)⟩
          · rw [hid2_ne uR uR, upd_ne uR]
            exact u8
          · have m := hid2_mono (a := R) (b := R) fun x o _ _ e => s8 x o e
            exact ⟨a, up _ _ _ (m _ _ h1), h0, (h2.mono m).mono (up _)⟩
      · rintro H5 ⟨qs, d5, pr, s5⟩
        rw [List.length_map, List.take_length] at pr
        refine k R H5 qs (s4.trans s5) (s4.free hR) d5 (pr.mono fun q f ⟨a, h1, h0, h2⟩ => ⟨a, hid2_le (fun _ _ _ _ e => e) _ _ h1, h0, h2.mono (hid2_le fun _ _ _ _ e => e)⟩)

structure StyAt (K : PySem.W.Frag) (H : Hp) (a : Addr) (dS : Str → PyData) : Prop where
  ex : ∃ xs, SqT K H a xs ∧ xs.length = 6 ∧ DxAll K H xs (names22.map dS)
theorem StyAt.mono {H H' : Hp} {a : Addr} {dS : Str → PyData} (S : StyAt K H a dS) (s : Same H H') : StyAt K H' a dS := by
  obtain ⟨xs, h1, h2, h3⟩ := S.ex
  exact ⟨xs, sameT s h1, h2, DxAll.same s h3⟩
def stepS (stf : Str → RSt) (cur : Str → PyData) (f : Str) : Str → PyData := fun n => if n ∈ (stf f).2 then (stf f).1 n else cur n
def finS (dS : Str → PyData) (stf : Str → RSt) (L : List Str) : Str → PyData := L.foldl (stepS stf) dS
theorem ordN_iff {ns : List Str} {n : Str} (h : n ∈ names22) : n ∈ ordN ns ↔ n ∈ ns := by
  unfold ordN
  rw [List.mem_filter]
  exact ⟨fun q => of_decide_eq_true q.2, fun q => ⟨sorted_perm22.mem_iff.mpr h, decide_eq_true q⟩⟩
theorem ordN_names {ns : List Str} {n : Str} (h : n ∈ ordN ns) : n ∈ names22 := sorted_perm22.mem_iff.mp (List.mem_filter.mp h).1
theorem dxall_get {H : Hp} {xs : List V} {dS : Str → PyData} (h : DxAll K H xs (names22.map dS)) : ∀ n ∈ names22, Dx K H (stV xs n) (dS n) := by
  have go : ∀ (ns : List Str) (xs : List V), DxAll K H xs (ns.map dS) → ∀ n ∈ ns, Dx K H (xs.getD (ns.idxOf n) .non) (dS n) := fun ns => by
    induction ns with
    | nil => exact fun _ _ n hn => absurd hn (by simp)
    | cons m r ih =>
      intro xs h n hn
      cases h with
      | cons a b =>
        by_cases e : m = n
        · subst e
          rw [List.idxOf_cons_self]
          exact a
        · have e2 : (m == n) = false := beq_eq_false_iff_ne.mpr e
          rw [List.idxOf_cons, e2, cond_false]
          rcases List.mem_cons.mp hn with rfl | hn
          · exact absurd rfl e
          · exact ih _ b n hn
  exact go names22 xs h
theorem laid_dx {H : Hp} {xs : List V} {dS : Str → PyData} {stf : Str → RSt} {f : Str} {val : Str → V} (h : DxAll K H xs (names22.map dS)) (hv : ∀ n ∈ ordN (stf f).2, Dx K H (val n) ((stf f).1 n)) : DxAll K H (laidL xs val (ordN (stf f).2)) (names22.map (stepS stf dS f)) := by
  have g := dxall_get h
  have go : ∀ ns : List Str, (∀ n ∈ ns, n ∈ names22) → DxAll K H (ns.map fun n => if n ∈ ordN (stf f).2 then val n else stV xs n) (ns.map (stepS stf dS f)) := fun ns => by
    induction ns with
    | nil => exact fun _ => .nil
    | cons n r ih =>
      intro hn
      have n22 := hn n List.mem_cons_self
      refine .cons ?_ (ih fun m hm => hn m (List.mem_cons_of_mem _ hm))
      show Dx K H (if n ∈ ordN (stf f).2 then val n else stV xs n) (if n ∈ (stf f).2 then (stf f).1 n else dS n)
      by_cases c : n ∈ (stf f).2
      · rw [if_pos c, if_pos ((ordN_iff n22).mpr c)]
        exact hv n ((ordN_iff n22).mpr c)
      · rw [if_neg c, if_neg fun z => c ((ordN_iff n22).mp z)]
        exact g n n22
  exact go names22 fun n hn => hn
def spStyFor (K : PySem.W.Frag) : Sp := fun vs H Q _ => ∃ (a d : Addr) (p : Str) (fs : List Str) (stf : Str → RSt) (dS : Str → PyData), vs = [.ref a, .ref d, .str p] ∧ StyAt K H a dS ∧ LayersOf K H d fs stf ∧ FoldIn fs ∧ p ∈ paths25 ∧
  ∀ (r : Addr) (H' : Hp), Same H H' → StyAt K H' r (finS dS stf (forF fs p)) → Q (.ref r) H'
theorem c_p_style_for (T : Txt K mg w) (c_p_layers_for : Cal P w K mg base 2 "layers_for" (spFor K) []) (c_p_laid : Cal P w K mg base 3 "laid" (spLaid K) []) : Cal P w K mg base 4 "style_for" (spStyFor K) [] := by
  refine calOf T.d_p_style_for sc_p_style_for (fun vs H Q E h => ?_) (fun f cdv A outer s H vs Q E hr h => ?_)
  · obtain ⟨a, d, p, fs, stf, dS, rfl, _⟩ := h
    rfl
  · obtain ⟨a, d, p, fs, stf, dS, rfl, S0, L, FI, hp, k⟩ := h
    refine ⟨_,
      (pss_cons (ps_set (i := 3) sc_p_style_for.nd rfl (Or.inl rfl) (pv 0))
        (pss_cons (ps_for PassesOwn.never rfl (pi_list (pe_c c_p_layers_for hr (by first | decide | omega) rfl (pa_cons (pv 1) (pa_cons (pv 2) pa_nil)))) (pg_tup rfl (pgs_cons (pg_name (i := 4) sc_p_style_for.nd rfl (Or.inl rfl)) (pgs_cons (pg_name (i := 5) sc_p_style_for.nd rfl (Or.inl rfl)) pgs_nil)))
        (pss_one (ps_set (i := 3) sc_p_style_for.nd rfl (Or.inl rfl) (pe_c c_p_laid hr (by first | decide | omega) rfl (pa_cons (pv 3) (pa_cons (pv 5) pa_nil))))))
        (pss_one (ps_ret (pv 3)))))
      , ?_⟩
    refine ⟨_, rfl, _, rfl, _, rfl, d, p, fs, stf, rfl, L, FI, hp, fun q H1 qs s1 _ q1 pr => ?_⟩
    generalize forF fs p = zs at pr k ⊢
    refine ⟨q, rfl, ⟨_, SqL.of q1⟩, for_it (walk_list (K := K) (a := q) (xs := qs.map V.ref)) (fun i σ H' => ∃ (c : Addr) (v4 v5 : Option V), σ = [some (.ref a), some (.ref d), some (.str p), some (.ref c), v4, v5] ∧ Same H1 H' ∧ StyAt K H' c (finS dS stf (zs.take i)))
      ⟨a, none, none, rfl, Same.refl _, S0.mono s1⟩ (fun i σ' H' _ ⟨_, _, _, _, h, _⟩ => SqL.of (h _ _ q1)) ?_ ?_⟩
    · rintro i x σ' H2 H3 hi ⟨c, v4, v5, rfl, s2, ⟨xs, c1, c2, c3⟩⟩ ⟨rfl, hx⟩
      rw [List.getElem?_map] at hx
      obtain ⟨t, ht, rfl⟩ := Option.map_eq_some_iff.mp hx
      obtain ⟨fo, hf, b, hb, _, LA⟩ := pget1 pr ht
      obtain ⟨val, v1, v2⟩ := (LA.mono s2).ex
      refine ⟨t, _, rfl, SqT.of (s2 _ _ hb), rfl, ?_⟩
      refine ⟨_, _, rfl, _, _, rfl, rfl, ?_⟩
      refine ⟨_, rfl, _, rfl, c, b, xs, val, ordN (stf fo).2, rfl, c1, c2, v1, ordN_nd _, Nat.le_trans (ordN_len _) (by decide), fun n hn => ordN_names hn, fun r H4 s4 r4 => ?_⟩
      refine ⟨r, _, _, rfl, s2.trans s4, ⟨_, r4, rfl, ?_⟩⟩
      have e : finS dS stf (zs.take (i + 1)) = stepS stf (finS dS stf (zs.take i)) fo := by
        rw [List.take_add_one, hf]
        unfold finS
        rw [List.foldl_append]
        rfl
      rw [e]
      exact laid_dx (DxAll.same s4 c3) fun n hn => Dx.same s4 (v2 n hn)
    · rintro σ' H2 ⟨c, v4, v5, rfl, s2, S2⟩
      have e : zs.take (qs.map V.ref).length = zs := by
        rw [List.length_map, pr.length, List.take_length]
      rw [e] at S2
      exact ⟨_, rfl, k c H2 (s1.trans s2) S2⟩

/-! a style as a key -/
def FlatD (d : PyData) : Prop := (∃ i, d = .int i) ∨ (∃ s, d = .str s) ∨ ∃ zs : List Str, d = .tuple (zs.map .str)
def nkT : PyData → NestedKey
  | .str s => .text s
  | _ => .num 0
def nkOf : PyData → NestedKey
  | .int i => .num i
  | .str s => .text s
  | .tuple ds => .tup (ds.map nkT)
  | _ => .num 0
theorem nkOf_strs (zs : List Str) : nkOf (.tuple (zs.map .str)) = .tup (zs.map .text) := by
  show NestedKey.tup ((zs.map .str).map nkT) = _
  rw [List.map_map]
  rfl
theorem nks_strs {H : Hp} : ∀ {zs : List Str} {xs : List V}, DxAll K H xs (zs.map .str) → NkVs K H (zs.map .text) xs
  | [], _, h => by
    cases h
    exact .nil
  | z :: zs, _, h => by
    cases h with
    | cons a b =>
      cases a
      exact .cons (.str z) (nks_strs b)
theorem nk_flat {H : Hp} {d : PyData} {v : V} (f : FlatD d) (h : Dx K H v d) : NkV K H (nkOf d) v := by
  rcases f with ⟨i, rfl⟩ | ⟨s, rfl⟩ | ⟨zs, rfl⟩
  · cases h
    exact .int i
  · cases h
    exact .str s
  · cases h with
    | tup h1 h2 =>
      rw [nkOf_strs]
      exact .tup h1 (nks_strs h2)
theorem nks_flat {H : Hp} : ∀ {ds : List PyData} {xs : List V}, DxAll K H xs ds → (∀ d ∈ ds, FlatD d) → NkVs K H (ds.map nkOf) xs
  | [], _, h, _ => by
    cases h
    exact .nil
  | d :: ds, _, h, f => by
    cases h with
    | cons a b => exact .cons (nk_flat (f d List.mem_cons_self) a) (nks_flat b fun d hd => f d (List.mem_cons_of_mem _ hd))
def kSty (dS : Str → PyData) : NestedKey := .tup ((names22.map dS).map nkOf)
def FlatS (dS : Str → PyData) : Prop := ∀ n ∈ names22, FlatD (dS n)
theorem FlatS.all {dS : Str → PyData} (f : FlatS dS) : ∀ d ∈ names22.map dS, FlatD d := fun d hd => by
  obtain ⟨n, hn, rfl⟩ := List.mem_map.mp hd
  exact f n hn
theorem sty_key {H : Hp} {a : Addr} {dS : Str → PyData} (S : StyAt K H a dS) (f : FlatS dS) : NkV K H (kSty dS) (.ref a) := by
  obtain ⟨xs, h1, _, h3⟩ := S.ex
  exact .tup h1 (nks_flat h3 f.all)
theorem depth_strs : ∀ zs : List Str, NestedKey.depthAll (zs.map .text) = 0
  | [] => rfl
  | z :: zs => by
    show max 0 (NestedKey.depthAll (zs.map .text)) = 0
    rw [depth_strs zs]
    rfl
theorem nk_depth {d : PyData} (f : FlatD d) : (nkOf d).depth ≤ 1 := by
  rcases f with ⟨i, rfl⟩ | ⟨s, rfl⟩ | ⟨zs, rfl⟩
  · exact Nat.zero_le _
  · exact Nat.zero_le _
  · rw [nkOf_strs]
    show NestedKey.depthAll (zs.map .text) + 1 ≤ 1
    rw [depth_strs]
    exact Nat.le_refl _
theorem nks_depth : ∀ ds : List PyData, (∀ d ∈ ds, FlatD d) → NestedKey.depthAll (ds.map nkOf) ≤ 1
  | [], _ => Nat.zero_le _
  | d :: ds, f => Nat.max_le.mpr ⟨nk_depth (f d List.mem_cons_self), nks_depth ds fun d hd => f d (List.mem_cons_of_mem _ hd)⟩
theorem sty_depth {dS : Str → PyData} (f : FlatS dS) : (kSty dS).depth ≤ 8 := by
  have := nks_depth _ f.all
  show NestedKey.depthAll ((names22.map dS).map nkOf) + 1 ≤ 8
  omega
theorem fin_flat {dS : Str → PyData} {stf : Str → RSt} (f : FlatS dS) : ∀ L : List Str, (∀ x ∈ L, ∀ n ∈ (stf x).2, FlatD ((stf x).1 n)) → FlatS (finS dS stf L) := by
  intro L
  induction L generalizing dS with
  | nil => exact fun _ => f
  | cons x L ih =>
    intro h
    refine ih (dS := stepS stf dS x) (fun n hn => ?_) fun y hy => h y (List.mem_cons_of_mem _ hy)
    unfold stepS
    split
    · rename_i q
      exact h x List.mem_cons_self n q
    · exact f n hn
mutual
theorem NkV.up {H H' : Hp} (s : ∀ a xs, SqT K H a xs → SqT K H' a xs) : ∀ {k : NestedKey} {v : V}, NkV K H k v → NkV K H' k v
  | _, _, .int i => .int i
  | _, _, .str x => .str x
  | _, _, .tup h hs => .tup (s _ _ h) (NkVs.up s hs)
theorem NkVs.up {H H' : Hp} (s : ∀ a xs, SqT K H a xs → SqT K H' a xs) : ∀ {ks : List NestedKey} {vs : List V}, NkVs K H ks vs → NkVs K H' ks vs
  | _, _, .nil => .nil
  | _, _, .cons h hs => .cons (NkV.up s h) (NkVs.up s hs)
end
def NoTup (H : Hp) (b : Addr) : Prop := ∀ xs, H b ≠ some (.tup xs) ∧ ∀ o, H b ≠ some (.frz o (.tup xs))
theorem seq_upd {H : Hp} {b : Addr} {o : HO} (n : NoTup H b) : ∀ a xs, SqT K H a xs → SqT K (upd H b o) a xs := by
  rintro a xs (h | h)
  · have ne : a ≠ b := fun e => by
      subst e
      rcases h with h | ⟨w, h⟩
      · exact (n xs).1 h
      · exact (n xs).2 w h
    refine .inl ?_
    unfold Rd at h ⊢
    rwa [upd_ne ne]
  · exact .inr h
/-- the groups, each with its key, as they come -/
def grpStep (κ : Str → NestedKey) (gs : List (NestedKey × List Str)) (p : Str) : List (NestedKey × List Str) :=
  if κ p ∈ gs.map (·.1) then gs.map fun g => if g.1 = κ p then (g.1, g.2 ++ [p]) else g else gs ++ [(κ p, [p])]
def groups (κ : Str → NestedKey) (ps : List Str) : List (NestedKey × List Str) := ps.foldl (grpStep κ) []

theorem nd_inj {α β : Type} {f : α → β} : ∀ {l : List α}, (l.map f).Nodup → ∀ x ∈ l, ∀ y ∈ l, f x = f y → x = y
  | [], _, x, hx, _, _, _ => absurd hx (by simp)
  | a :: l, h, x, hx, y, hy, e => by
    obtain ⟨h1, h2⟩ := List.nodup_cons.mp h
    rcases List.mem_cons.mp hx with q1 | q1
    · rcases List.mem_cons.mp hy with q2 | q2
      · exact q1.trans q2.symm
      · exact (h1 (List.mem_map.mpr ⟨y, q2, by rw [← e, q1]⟩)).elim
    · rcases List.mem_cons.mp hy with q2 | q2
      · exact (h1 (List.mem_map.mpr ⟨x, q1, by rw [e, q2]⟩)).elim
      · exact nd_inj h2 x q1 y q2 e
/-- a group's list stands in the dict -/
def GrpAt (F : Addr) (H0 H : Hp) (x : NestedKey × Addr × V) (g : NestedKey × List Str) : Prop := x.1 = g.1 ∧ ∃ q, x.2.2 = .ref q ∧ q ≠ F ∧ H0 q = none ∧ H q = some (.lst (g.2.map V.str))
structure GI (P : Program) (w : World) (K : PySem.W.Frag) (F : Addr) (H0 H : Hp) (ks : List (NestedKey × Addr × V)) (gs : List (NestedKey × List Str)) : Prop where
  at' : NdIn K P w H F ks
  pr : Paired (GrpAt F H0 H) ks gs
  inj : (ks.map (·.2.2)).Nodup
  few : ks.length ≤ 100
theorem GI.keys {F : Addr} {H0 H : Hp} {ks : List (NestedKey × Addr × V)} {gs : List (NestedKey × List Str)} (G : GI P w K F H0 H ks gs) : ks.map (·.1) = gs.map (·.1) := by
  have h := G.pr
  clear G
  induction h with
  | nil => rfl
  | cons a _ ih => rw [List.map_cons, List.map_cons, ih, a.1]
theorem GI.same {F : Addr} {H0 H H' : Hp} {ks : List (NestedKey × Addr × V)} {gs : List (NestedKey × List Str)} (G : GI P w K F H0 H ks gs) (s : Same H H') : GI P w K F H0 H' ks gs := by
  refine ⟨⟨?_, fun x hx => ⟨NkV.same s (G.at'.keys x hx).1, (G.at'.keys x hx).2⟩, G.at'.nd⟩, G.pr.mono fun x g ⟨e, q, h1, h2, h3, h4⟩ => ⟨e, q, h1, h2, h3, s _ _ h4⟩, G.inj, G.few⟩
  rcases G.at'.at' with h | ⟨e, h⟩
  · exact .inl (s _ _ h)
  · exact .inr ⟨e, s _ _ h⟩
theorem NoTup.of {H : Hp} {b : Addr} {o : HO} (h : H b = some o) (n : (∀ xs, o ≠ .tup xs) ∧ ∀ w xs, o ≠ .frz w (.tup xs)) : NoTup H b := fun xs =>
  ⟨fun e => n.1 xs (Option.some.inj (h.symm.trans e)), fun o' e => n.2 o' xs (Option.some.inj (h.symm.trans e))⟩
theorem prd_map {α β γ : Type} {R : α → β → Prop} {R' : α → γ → Prop} {f : β → γ} {xs : List α} {ys : List β} (p : Paired R xs ys) : (∀ x ∈ xs, ∀ y, R x y → R' x (f y)) → Paired R' xs (ys.map f) := by
  induction p with
  | nil => exact fun _ => .nil
  | cons a _ ih => exact fun h => .cons (h _ List.mem_cons_self _ a) (ih fun x hx => h x (List.mem_cons_of_mem _ hx))
theorem gi_app {F : Addr} {H0 H : Hp} {ks : List (NestedKey × Addr × V)} {gs : List (NestedKey × List Str)} {κ : Str → NestedKey} {p : Str} {a : Addr} {v : V} (G : GI P w K F H0 H ks gs) (h : ndGet ks (κ p) = some (a, v)) :
    ∃ q zs, v = .ref q ∧ H0 q = none ∧ H q = some (.lst (zs.map V.str)) ∧ zs ∈ gs.map (·.2) ∧ GI P w K F H0 (upd H q (.lst (zs.map V.str ++ [.str p]))) ks (grpStep κ gs p) := by
  obtain ⟨x, hx, e⟩ := Option.map_eq_some_iff.mp h
  have xk : x.1 = κ p := of_decide_eq_true (List.find?_some (p := fun y : NestedKey × Addr × V => decide (y.1 = κ p)) hx)
  have mx := List.mem_of_find?_eq_some hx
  obtain ⟨j, hj⟩ := List.mem_iff_getElem?.mp mx
  obtain ⟨g, hg, e1, q, e2, nq, fq, lq⟩ := pget1 G.pr hj
  have ev : v = .ref q := by rw [← e2, e]
  refine ⟨q, g.2, ev, fq, lq, List.mem_map.mpr ⟨g, List.mem_of_getElem? hg, rfl⟩, ?_⟩
  have nt : NoTup H q := NoTup.of lq ⟨(fun _ z => nomatch z), (fun _ _ z => nomatch z)⟩
  have kin : κ p ∈ gs.map (·.1) := List.mem_map.mpr ⟨g, List.mem_of_getElem? hg, e1.symm.trans xk⟩
  unfold grpStep
  rw [if_pos kin]
  refine ⟨⟨?_, fun y hy => ⟨NkV.up (seq_upd nt) (G.at'.keys y hy).1, (G.at'.keys y hy).2⟩, G.at'.nd⟩, prd_map G.pr fun y hy g' ⟨r1, q', r2, r3, r4, r5⟩ => ?_, G.inj, G.few⟩
  · rw [upd_ne (Ne.symm nq)]
    exact G.at'.at'
  · by_cases c : g'.1 = κ p
    · rw [if_pos c]
      obtain rfl : y = x := nd_inj G.at'.nd y hy x mx ((r1.trans c).trans xk.symm)
      obtain rfl : q' = q := V.ref.inj (r2.symm.trans e2)
      refine ⟨r1, q', r2, r3, r4, ?_⟩
      rw [upd_same]
      rw [lq] at r5
      have := HO.lst.inj (Option.some.inj r5)
      rw [this, List.map_append]
      rfl
    · rw [if_neg c]
      refine ⟨r1, q', r2, r3, r4, ?_⟩
      rw [upd_ne]
      · exact r5
      · intro z
        subst z
        have := nd_inj G.inj y hy x mx (r2.trans e2.symm)
        subst this
        exact c (r1.symm.trans xk)
theorem nd_none {ks : List (NestedKey × Addr × V)} {k : NestedKey} (h : ndGet ks k = none) : k ∉ ks.map (·.1) := fun z => by
  obtain ⟨x, hx, e⟩ := List.mem_map.mp z
  have := List.find?_eq_none.mp (Option.map_eq_none_iff.mp h) x hx
  exact this (decide_eq_true e)
theorem gi_new {F b q : Addr} {H0 H : Hp} {ks : List (NestedKey × Addr × V)} {gs : List (NestedKey × List Str)} {κ : Str → NestedKey} {p : Str} (G : GI P w K F H0 H ks gs) (h : ndGet ks (κ p) = none) (few : ks.length < 100)
    (hq : H q = some (.lst [])) (nq : q ≠ F) (fq : H0 q = none) (new : ∀ x ∈ ks, x.2.2 ≠ .ref q) (nk : NkV K H (κ p) (.ref b)) (dk : (κ p).depth ≤ 8) :
    GI P w K F H0 (upd (upd H F (ndO P w F (ks ++ [(κ p, b, .ref q)]))) q (.lst [.str p])) (ks ++ [(κ p, b, .ref q)]) (grpStep κ gs p) := by
  have nF : NoTup H F := by
    rcases G.at'.at' with h | ⟨_, h⟩
    · exact NoTup.of h ⟨(fun _ z => nomatch z), (fun _ _ z => nomatch z)⟩
    · exact NoTup.of h ⟨(fun _ z => nomatch z), (fun _ _ z => nomatch z)⟩
  have nQ : NoTup (upd H F (ndO P w F (ks ++ [(κ p, b, .ref q)]))) q := NoTup.of (o := .lst []) (by rw [upd_ne nq]; exact hq) ⟨(fun _ z => nomatch z), (fun _ _ z => nomatch z)⟩
  have up : ∀ a xs, SqT K H a xs → SqT K (upd (upd H F (ndO P w F (ks ++ [(κ p, b, .ref q)]))) q (.lst [.str p])) a xs := fun a xs h => seq_upd nQ a xs (seq_upd nF a xs h)
  have out := nd_none h
  unfold grpStep
  rw [if_neg (by rw [← G.keys]; exact out)]
  refine ⟨⟨.inl ?_, fun y hy => ?_, ?_⟩, Paired.snoc ?_ ⟨rfl, q, rfl, nq, fq, upd_same⟩, ?_, ?_⟩
  · rw [upd_ne (Ne.symm nq), upd_same]
  · rcases List.mem_append.mp hy with hy | hy
    · exact ⟨NkV.up up (G.at'.keys y hy).1, (G.at'.keys y hy).2⟩
    · rw [List.mem_singleton.mp hy]
      exact ⟨NkV.up up nk, dk⟩
  · rw [List.map_append, List.nodup_append]
    refine ⟨G.at'.nd, by simp, fun x hx y hy e => out ?_⟩
    have : y = κ p := by simpa using hy
    rw [← this, ← e]
    exact hx
  · have m := prd_map (f := id) (R' := GrpAt F H0 (upd (upd H F (ndO P w F (ks ++ [(κ p, b, .ref q)]))) q (.lst [.str p]))) G.pr fun y hy g ⟨r1, q', r2, r3, r4, r5⟩ => ⟨r1, q', r2, r3, r4, by
      rw [upd_ne (fun z => new y hy (by rw [r2, z])), upd_ne r3]
      exact r5⟩
    rwa [List.map_id] at m
  · rw [List.map_append, List.nodup_append]
    refine ⟨G.inj, by simp, fun x hx y hy e => ?_⟩
    have : y = V.ref q := by simpa using hy
    obtain ⟨z, hz, rfl⟩ := List.mem_map.mp hx
    exact new z hz (e.trans this)
  · rw [List.length_append]
    exact few

/-! the paths by their style -/
def sp25 : List Str := ["a/lib/old", "b_1/c", "lib", "lib/old/a.ll", "lib/old/a/b", "lib/x", "library/x", "old/lib/x", "x"]
def pathsOf (ps : List Str) : List Str := sp25.filter fun p => decide (p ∈ ps)
theorem sp25_pw : sp25.Pairwise (fun x y => ltS y x = false) := by decide +kernel
theorem sp25_perm : sp25.Perm paths25 := by decide +kernel
theorem pathsOf_pw (ps : List Str) : (pathsOf ps).Pairwise (fun x y => ltS y x = false) := sp25_pw.sublist List.filter_sublist
theorem pathsOf_perm {ps : List Str} (h : ∀ p ∈ ps, p ∈ paths25) : (setT ps).Perm (pathsOf ps) := by
  have nd : sp25.Nodup := sp25_perm.nodup_iff.mpr (by decide)
  refine (List.perm_ext_iff_of_nodup (setT_nd ps) (nd.filter _)).mpr fun p => ?_
  rw [setT_mem, List.mem_filter]
  exact ⟨fun q => ⟨sp25_perm.mem_iff.mpr (h p q), decide_eq_true q⟩, fun q => of_decide_eq_true q.2⟩
theorem pathsOf_len (ps : List Str) : (pathsOf ps).length ≤ 9 := Nat.le_trans (List.length_filter_le _ _) (Nat.le_refl 9)
theorem pathsOf_in {ps : List Str} {p : Str} (h : p ∈ pathsOf ps) : p ∈ paths25 := sp25_perm.mem_iff.mp (List.mem_filter.mp h).1
def kap (dS : Str → PyData) (stf : Str → RSt) (fs : List Str) (p : Str) : NestedKey := kSty (finS dS stf (forF fs p))
def GrpT (H : Hp) (t : Addr) (g : NestedKey × List Str) : Prop := H t = some (.tup (g.2.map V.str))
def spSame (K : PySem.W.Frag) : Sp := fun vs H Q _ => ∃ (a d l : Addr) (ps fs : List Str) (stf : Str → RSt) (dS : Str → PyData), vs = [.ref a, .ref d, .ref l] ∧ StyAt K H a dS ∧ LayersOf K H d fs stf ∧ FoldIn fs ∧ SqL K H l (ps.map V.str) ∧ (∀ p ∈ ps, p ∈ paths25) ∧ ps ≠ [] ∧ ps.length ≤ 20 ∧ FlatS dS ∧ (∀ f ∈ fs, ∀ n ∈ (stf f).2, FlatD ((stf f).1 n)) ∧
  ∀ (r : Addr) (H' : Hp) (ts : List Addr), Same H H' → H r = none → H' r = some (.lst (ts.map V.ref)) → Paired (GrpT H') ts (groups (kap dS stf fs) (pathsOf ps)) → Q (.ref r) H'
theorem LayersOf.mono {H H' : Hp} {d : Addr} {fs : List Str} {stf : Str → RSt} (L : LayersOf K H d fs stf) (s : Same H H') : LayersOf K H' d fs stf := by
  obtain ⟨lv, h, g⟩ := L.ex
  exact ⟨lv, s _ _ h, fun f hf => let ⟨a, e, m⟩ := g f hf; ⟨a, e, m.mono s⟩⟩
theorem groups_snoc (κ : Str → NestedKey) (ps : List Str) (p : Str) : groups κ (ps ++ [p]) = grpStep κ (groups κ ps) p := by
  unfold groups
  rw [List.foldl_append]
  rfl

theorem grp_len (κ : Str → NestedKey) : ∀ (ps : List Str) (gs : List (NestedKey × List Str)) (n : Nat), (∀ g ∈ gs, g.2.length ≤ n) → ∀ g ∈ ps.foldl (grpStep κ) gs, g.2.length ≤ n + ps.length
  | [], gs, n, h => h
  | p :: ps, gs, n, h => fun g hg => by
    have := grp_len κ ps (grpStep κ gs p) (n + 1) (fun g hg => by
      unfold grpStep at hg
      split at hg
      · obtain ⟨x, hx, rfl⟩ := List.mem_map.mp hg
        have := h x hx
        split
        · show (x.2 ++ [p]).length ≤ n + 1
          rw [List.length_append]
          show x.2.length + 1 ≤ n + 1
          omega
        · omega
      · rcases List.mem_append.mp hg with hg | hg
        · have := h g hg
          omega
        · rw [List.mem_singleton.mp hg]
          exact Nat.le_add_left 1 n) g hg
    rw [List.length_cons]
    omega
theorem groups_ne {κ : Str → NestedKey} {ps : List Str} (h : ps ≠ []) : groups κ ps ≠ [] := by
  have go : ∀ (ps : List Str) (gs : List (NestedKey × List Str)), gs ≠ [] → ps.foldl (grpStep κ) gs ≠ [] := fun ps => by
    induction ps with
    | nil => exact fun _ h => h
    | cons p ps ih =>
      refine fun gs h => ih _ ?_
      unfold grpStep
      split
      · exact fun z => h (List.map_eq_nil_iff.mp z)
      · exact fun z => absurd z (by simp)
  match ps, h with
  | p :: ps, _ => exact go ps _ (by
      unfold grpStep
      split
      · rename_i q
        exact absurd q (by simp)
      · exact fun z => absurd z (by simp))
theorem pathsOf_ne {ps : List Str} (h : ps ≠ []) (hp : ∀ p ∈ ps, p ∈ paths25) : pathsOf ps ≠ [] := by
  match ps, h with
  | p :: ps, _ =>
    intro z
    have : p ∈ pathsOf (p :: ps) := List.mem_filter.mpr ⟨sp25_perm.mem_iff.mpr (hp p List.mem_cons_self), decide_eq_true List.mem_cons_self⟩
    rw [z] at this
    cases this
theorem c_p_same_style_paths (T : Txt K mg w) (c_p_style_for : Cal P w K mg base 4 "style_for" (spStyFor K) []) : Cal P w K mg base 5 "same_style_paths" (spSame K) [] := by
  refine calOf T.d_p_same_style_paths sc_p_same_style_paths (fun vs H Q E h => ?_) (fun f cdv A outer s H vs Q E hr h => ?_)
  · obtain ⟨a, d, l, ps, fs, stf, dS, rfl, _⟩ := h
    rfl
  · obtain ⟨a, d, l, ps, fs, stf, dS, rfl, S0, L, FI, hl, hp, ne, lz, fl, ff, k⟩ := h
    have hu := u1 hr
    refine ⟨_,
      (pss_cons (ps_set (i := 3) sc_p_same_style_paths.nd rfl (Or.inl rfl) pe_dnewK)
        (pss_cons (ps_for PassesOwn.never rfl (pi_list (pe_callB (call_sortedTx rfl) (by rfl) T.n_sorted (by decide +kernel) (pa_cons (pe_callTy (call_setTx rfl) (by rfl) T.n_set (by decide +kernel) (pa_cons (pv 2) pa_nil)) pa_nil))) (pg_name (i := 4) sc_p_same_style_paths.nd rfl (Or.inl rfl))
        (pss_one (ps_expr (pe_bm PySem.F.plainAttrs_list PySem.F.slot_list_append PySem.F.type_list_append mt_append (pe_nm PySem.F.slot_dict_setdefault PySem.F.type_dict_setdefault (mt_setdN (Nat.lt_of_le_of_lt (Nat.add_le_add_left (by decide : 20 ≤ 65) _) (u65 hr))) (pv 3) (pa_cons (pe_c c_p_style_for hr (by first | decide | omega) rfl (pa_cons (pv 0) (pa_cons (pv 1) (pa_cons (pv 4) pa_nil)))) (pa_cons (pe_lst pa_nil) pa_nil))) (pa_cons (pv 4) pa_nil)))))
        (pss_one (ps_ret (pe_lock (pe_lc (own := [("group", 5)]) (g := gName 5) (tt := tYes) rfl sc_p_same_style_paths.nd (pi_valuesN (pv 3)) (blkOk_by (N := ["style", "layers", "paths", "found", "path", "group"]) (sc := defScope s_p_same_style_paths) (by decide +kernel)) (fun _ _ _ _ _ => pg_name (i := 5) sc_p_same_style_paths.nd rfl (Or.inl rfl)) (fun _ _ _ _ _ => pts_nil) (fun _ _ _ _ _ => (pe_callTy (show CallR _ (.type "tuple") (rTupOf K) from call_tuple_of) (by rfl) T.n_tuple (by decide +kernel) (pa_cons (pv 5) pa_nil)))))))))
      , ?_⟩
    refine fun F hF => ?_
    have s1 := same_new (o := HO.dK []) hF
    have f1 : (upd H F (HO.dK [])) F = some (.dK []) := upd_same
    generalize upd H F (HO.dK []) = H1 at s1 f1 ⊢
    refine ⟨_, rfl, l, ps, rfl, Same.seq s1 hl, Nat.lt_of_le_of_lt (show _ ≤ 21 by omega) (by decide), fun S hS => ?_⟩
    refine ⟨S, setT ps, rfl, upd_same, fun ys q yp yo hq => ?_⟩
    obtain rfl : ys = pathsOf ps := sorted_is (yp.trans (pathsOf_perm hp)) yo (pathsOf_pw ps)
    have s2 := s1.trans (same_new (o := setO w S (setT ps)) hS)
    have f2 := upd_some (u := setO w S (setT ps)) f1 hS
    have f3 := upd_some (u := HO.lst ((pathsOf ps).map V.str)) f2 hq
    have s3 := s2.trans (same_new (o := HO.lst ((pathsOf ps).map V.str)) hq)
    have nqF : q ≠ F := fun z => by rw [z] at hq; exact absurd (hq.symm.trans f2) (fun z => nomatch z)
    have q3 : (upd (upd H1 S (setO w S (setT ps))) q (HO.lst ((pathsOf ps).map V.str))) q = some (HO.lst ((pathsOf ps).map V.str)) := upd_same
    have hpl := pathsOf_len ps
    have hpi : ∀ p ∈ pathsOf ps, p ∈ paths25 := fun p hp => pathsOf_in hp
    have hne := pathsOf_ne ne hp
    clear yp yo
    generalize pathsOf ps = zs at f3 s3 q3 hpl hpi hne k ⊢
    obtain ⟨H3, e3⟩ : ∃ H3 : Hp, H3 = (upd (upd H1 S (setO w S (setT ps))) q (HO.lst (zs.map V.str))) := ⟨_, rfl⟩
    rw [← e3] at f3 s3 q3
    have sH : Same H (hid2 F F H3) := fun b o e => by
      have n : b ≠ F := fun z => by rw [z, hF] at e; cases e
      rw [hid2_ne n n]
      exact s3 b o e
    have q4 : (hid2 F F H3) q = some (HO.lst (zs.map V.str)) := by rw [hid2_ne nqF nqF]; exact q3
    have F0 : (hid2 F F H3) F = none := if_pos (.inl rfl)
    have s0 : Same (hid2 F F H3) H3 := hid2_le (fun _ _ _ _ e => e)
    generalize hid2 F F H3 = H0 at sH q4 F0 s0
    rw [e3] at f3 s3 q3 s0
    refine ⟨q, rfl, ⟨_, SqL.of q3⟩, for_it (walk_list (K := K) (a := q) (xs := zs.map V.str)) (fun i σ H' => ∃ (ks : List (NestedKey × Addr × V)) (v4 v5 : Option V), σ = [some (.ref a), some (.ref d), some (.ref l), some (.ref F), v4, v5] ∧ Same H0 H' ∧ GI P w K F H0 H' ks (groups (kap dS stf fs) (zs.take i)) ∧ ks.length ≤ i)
      ⟨[], none, none, rfl, s0, ⟨⟨.inr ⟨rfl, f3⟩, fun x hx => absurd hx (by simp), .nil⟩, .nil, .nil, Nat.zero_le _⟩, Nat.le_refl _⟩ (fun i σ' H' _ ⟨_, _, _, _, h, _⟩ => SqL.of (h _ _ q4)) ?_ ?_⟩
    · rintro i x σ' H4 H5 hi ⟨ks, v4, v5, rfl, s4, G, lk⟩ ⟨rfl, hx⟩
      rw [List.getElem?_map] at hx
      obtain ⟨p, hz, rfl⟩ := Option.map_eq_some_iff.mp hx
      have mz := List.mem_of_getElem? hz
      have iz : i < 9 := Nat.lt_of_lt_of_le (List.getElem?_eq_some_iff.mp hz).1 hpl
      have et : groups (kap dS stf fs) (zs.take (i + 1)) = grpStep (kap dS stf fs) (groups (kap dS stf fs) (zs.take i)) p := by
        rw [List.take_add_one, hz]
        exact groups_snoc _ _ _
      refine ⟨_, rfl, ⟨F, ks, rfl, G.at'⟩, _, rfl, _, rfl, _, rfl, a, d, p, fs, stf, dS, rfl, S0.mono (sH.trans s4), L.mono (sH.trans s4), FI, hpi p mz, fun r H6 s6 S6 => ?_⟩
      refine ⟨Nat.zero_le _, fun g0 hg0 => ?_⟩
      have G6 := G.same s6
      have flp : FlatS (finS dS stf (forF fs p)) := fin_flat fl _ fun x hx => ff x (forF_sub hx)
      have nk7 : NkV K (upd H6 g0 (HO.lst [])) (kap dS stf fs p) (.ref r) := NkV.same (same_new hg0) (sty_key S6 flp)
      have l7 : (upd H6 g0 (HO.lst [])) g0 = some (.lst []) := upd_same
      have fg : H0 g0 = none := (s4.trans s6).free hg0
      have ngF : g0 ≠ F := fun z => by
        rw [z] at hg0
        rcases G6.at'.at' with h | ⟨_, h⟩
        · rw [hg0] at h; cases h
        · rw [hg0] at h; cases h
      have new : ∀ x ∈ ks, x.2.2 ≠ .ref g0 := fun x hx z => by
        obtain ⟨j, hj⟩ := List.mem_iff_getElem?.mp hx
        obtain ⟨g, _, _, q', e2, _, _, lq⟩ := pget1 G6.pr hj
        obtain rfl : q' = g0 := V.ref.inj (e2.symm.trans z)
        rw [hg0] at lq
        cases lq
      have s7 := (s4.trans s6).trans (same_new (o := HO.lst []) hg0)
      have G7 := G6.same (same_new (o := HO.lst []) hg0)
      have gl : ∀ g ∈ groups (kap dS stf fs) (zs.take i), g.2.length ≤ 9 := fun g hg => by
        have := grp_len (kap dS stf fs) (zs.take i) [] 0 (fun g hg => absurd hg (by simp)) g hg
        rw [List.length_take] at this
        omega
      generalize upd H6 g0 (HO.lst []) = H7 at nk7 l7 s7 G7 ⊢
      refine ⟨F, r, ks, kap dS stf fs p, .ref g0, rfl, rfl, G7.at', nk7, sty_depth flp, by omega, fun b v' e => ?_, fun e => ?_⟩
      · obtain ⟨q', gz, rfl, fq, lq, mgz, G8⟩ := gi_app G7 e
        obtain ⟨g, mg, rfl⟩ := List.mem_map.mp mgz
        have := gl g mg
        refine ⟨.inl ⟨rfl, _, SqL.of lq⟩, _, rfl, q', g.2.map V.str, .str p, rfl, rfl, lq, ?_, ks, _, _, rfl, same_put s7 fq, by rw [et]; exact G8, by omega⟩
        rw [List.length_map]
        exact Nat.lt_of_le_of_lt this (by decide)
      · have e8 : (upd H7 F (ndO P w F (ks ++ [(kap dS stf fs p, r, .ref g0)]))) g0 = some (.lst []) := by rw [upd_ne ngF]; exact l7
        refine ⟨.inl ⟨rfl, _, SqL.of e8⟩, _, rfl, g0, [], .str p, rfl, rfl, e8, by decide, ks ++ [(kap dS stf fs p, r, .ref g0)], _, _, rfl, same_put (same_put s7 F0) fg, by rw [et]; exact gi_new G7 e (by omega) l7 ngF fg new nk7 (sty_depth flp), ?_⟩
        rw [List.length_append]
        show ks.length + 1 ≤ i + 1
        omega
    · rintro σ' H4 ⟨ks, v4, v5, rfl, s4, G, lk⟩
      rw [List.length_map, List.take_length] at G
      have lg := groups_ne (κ := kap dS stf fs) hne
      have l9 : ks.length ≤ 9 := Nat.le_trans lk (by rw [List.length_map]; exact hpl)
      generalize groups (kap dS stf fs) zs = gs at G lg k
      have lks := G.pr.length
      have F4 : H4 F = some (ndO P w F ks) := G.at'.at'.resolve_right fun h => lg (List.length_eq_zero_iff.mp (by rw [← lks, h.1] <;> rfl))
      refine ⟨F, _, F4, trivial, fun od => ⟨_, rfl, F, od, ks, rfl, upd_same, fun D hD => ?_⟩⟩
      have nD : D ≠ F := fun z => by rw [z, upd_same] at hD; cases hD
      have hD : H4 D = none := by rw [upd_ne nD] at hD; exact hD
      have s5 : Same (hid2 F F H4) (upd (upd H4 F (HO.frz od (ndO P w F ks))) D (HO.lst [])) := fun b o e => by
        have n : b ≠ F := fun z => by rw [z] at e; exact absurd e (by unfold hid2; rw [if_pos (.inl rfl)]; exact fun z => nomatch z)
        rw [hid2_ne n n] at e
        have m : b ≠ D := fun z => by rw [z, hD] at e; cases e
        rw [upd_ne m, upd_ne n]
        exact e
      have hD5 : (hid2 F F H4) D = none := by rw [hid2_ne nD nD]; exact hD
      refine lc_it (walk_valuesN (P := P) (w := w) (d := F) (o := od) (xs := ks)) (fun i H' => ∃ ts : List Addr, H' D = some (.lst (ts.map V.ref)) ∧ Paired (GrpT (hid2 D D H')) ts (gs.take i) ∧ H' F = some (.frz od (ndO P w F ks)) ∧ Same (hid2 F F H4) H')
        ⟨[], upd_same, .nil, by rw [upd_ne (Ne.symm nD), upd_same], s5⟩ (fun i H' _ ⟨_, _, _, h, _⟩ => h) ?_ ?_
      · rintro i x H6 H7 hi ⟨ts, d6, pr, f6, s6⟩ ⟨rfl, e, he, rfl⟩
        obtain ⟨g, hg, e1, q', e2, nq, fq, lq⟩ := pget1 G.pr he
        have l7 : H7 q' = some (.lst (g.2.map V.str)) := s6 _ _ (by rw [hid2_ne nq nq]; exact lq)
        refine ⟨rfl, ?_⟩
        delta tYes
        refine iteT ?_
        refine ⟨_, rfl, q', g.2.map V.str, by rw [e2], .inl ⟨SqL.of l7, fun t ht => ?_⟩⟩
        have d8 := upd_some (u := HO.tup (g.2.map V.str)) d6 ht
        have f8 := upd_some (u := HO.tup (g.2.map V.str)) f6 ht
        have t8 : (upd H7 t (HO.tup (g.2.map V.str))) t = some (.tup (g.2.map V.str)) := upd_same
        have s8 : Same H7 (upd H7 t (HO.tup (g.2.map V.str))) := same_new ht
        have tD : t ≠ D := fun z => by rw [z, d6] at ht; cases ht
        generalize upd H7 t (HO.tup (g.2.map V.str)) = H8 at d8 f8 t8 s8 ⊢
        have up : ∀ (g : HO) x o, hid2 D D H8 x = some o → hid2 D D (upd H8 D g) x = some o := fun g => hid2_mono fun x o n1 _ e => by
          rw [upd_ne n1]
          exact e
        have et : gs.take (i + 1) = gs.take i ++ [g] := by
          rw [List.take_add_one, hg]
          rfl
        refine ⟨_, d8, ?_, ts ++ [t], ?_, ?_, ?_, same_put (s6.trans s8) hD5⟩
        · rw [List.length_map, pr.length, List.length_take]
          exact Nat.lt_of_le_of_lt (show _ ≤ 9 by omega) (by decide)
        · rw [upd_same, List.map_append]
          rfl
        · rw [et]
          refine Paired.snoc (pr.mono fun t g h => up _ _ _ (hid2_mono (fun x o _ _ e => s8 x o e) _ _ h)) (up _ _ _ ?_)
          rw [hid2_ne tD tD]
          exact t8
        · rw [upd_ne (Ne.symm nD)]
          exact f8
      · rintro H6 ⟨ts, d6, pr, f6, s6⟩
        rw [lks, List.take_length] at pr
        refine ⟨f6, ?_⟩
        have sH6 : Same H (upd H6 F (ndO P w F ks)) := fun b o e => by
          have n : b ≠ F := fun z => by rw [z, hF] at e; cases e
          rw [upd_ne n]
          exact s6 _ _ (by rw [hid2_ne n n]; exact s4 _ _ (sH _ _ e))
        refine k D _ ts sH6 ((sH.trans s4).free hD) (by rw [upd_ne nD]; exact d6) (pr.mono fun t g h => ?_)
        have h := hid2_le (fun _ _ _ _ e => e) _ _ h
        show (upd H6 F (ndO P w F ks)) t = _
        rw [upd_ne]
        · exact h
        · intro z
          rw [z, f6] at h
          cases h

theorem strs_dx {H : Hp} : ∀ l : List Str, DxAll K H (l.map V.str) (l.map .str)
  | [] => .nil
  | x :: r => .cons (.str x) (strs_dx r)
theorem cut_to (xs : List V) {j : Nat} (h : j ≤ xs.length) : cutV xs none (some (j : Int)) = xs.take j := by
  unfold cutV
  rw [HT.sIx_nat, HT.sIx_none, List.drop_zero, Nat.min_eq_left h, Nat.sub_zero]
theorem cut_fr (xs : List V) {j : Nat} (h : j ≤ xs.length) : cutV xs (some (j : Int)) none = xs.drop j := by
  unfold cutV
  rw [HT.sIx_nat, HT.sIx_none, Nat.min_eq_left h]
  exact List.take_of_length_le (by rw [List.length_drop] <;> omega)
def spWds : Sp := fun vs H Q _ => vs = [] ∧ ∀ p, H p = none → Q (.ref p) (upd H p (.tup (names22.map V.str)))
theorem c_l_style_words (T : Txt K mg w) : Cal P w K mg base 1 "_law_style_words" spWds [] := by
  refine calOf T.d_l_style_words sc_l_style_words (fun vs H Q E h => ?_) (fun f cdv A outer s H vs Q E hr h => ?_)
  · obtain ⟨rfl, _⟩ := h
    rfl
  · obtain ⟨rfl, k⟩ := h
    refine ⟨_,
      (pss_one (ps_ret (pe_tup (pa_cons pe_str (pa_cons pe_str (pa_cons pe_str (pa_cons pe_str (pa_cons pe_str (pa_cons pe_str pa_nil)))))))))
      , ?_⟩
    exact ⟨by show 6 ≤ sizeLine; decide, fun p hp => k p hp⟩

theorem zip_at {α β : Type} {as : List α} {bs : List β} {i : Nat} {a : α} {b : β} (h1 : as[i]? = some a) (h2 : bs[i]? = some b) : (as.zip bs)[i]? = some (a, b) := by
  rw [List.getElem?_zip_eq_some]
  exact ⟨h1, h2⟩

def ranks22 : List (List Str) := [["over", "lines", "broken"], ["lines", "over", "broken"], ["broken", "lines", "over"], ["over", "broken", "lines"], ["lines", "broken", "over"], ["broken", "over", "lines"]]
def StyD (ds : List PyData) : Prop := ∃ (w s b : Int) (rs : List Str) (o l : Str), ds = [.int w, .int s, .int b, .tuple (rs.map .str), .str o, .str l] ∧ (0 ≤ w ∧ w ≤ 200) ∧ (0 ≤ s ∧ s ≤ 200) ∧ (0 ≤ b ∧ b ≤ 200) ∧ rs ∈ ranks22 ∧ o ∈ (["ahead", "behind"] : List Str) ∧ l ∈ (["fill", "rows"] : List Str)
structure Sty (K : PySem.W.Frag) (b : Addr) (H : Hp) (a : Addr) (xs : List V) (ds : List PyData) : Prop where
  at' : SqT K (hid b H) a xs
  dx : DxAll K (hid b H) xs ds
  ok : StyD ds
  len : xs.length = 6
theorem SqT.hid {g : Bg} {H : Hp} {c e : Int} {r : Addr} {xs : List V} (B : Bag H g c e) (h : SqT K H r xs) : SqT K (hid g.b H) r xs := by
  by_cases n : r = g.b
  · obtain ⟨o, ho⟩ := B.ob
    subst n
    rcases h with (h | ⟨_, h⟩) | h
    · rw [ho] at h
      cases h
    · rw [ho] at h
      cases h
    · exact .inr h
  · unfold SqT Rd at h ⊢
    rw [hid_ne n]
    exact h
def spStyl (K : PySem.W.Frag) : Sp := fun vs H Q _ => ∃ (g : Bg) (c e : Int), vs = [.ref g.b] ∧ Bag H g c e ∧ ∀ (a : Addr) (xs : List V) (ds : List PyData) (H' : Hp), Drawn g H H' c e → Sty K g.b H' a xs ds → Q (.ref a) H'
/-- ranks drawn -/
def RkD (K : PySem.W.Frag) (b : Addr) (H : Hp) (xs : List V) : Prop := ∀ x ∈ xs, ∃ rs ∈ ranks22, DX K b H x (.tuple (rs.map .str))
theorem RkD.up {H : Hp} {b p : Addr} {o : HO} {xs : List V} (A : RkD K b H xs) (n : H p = none) : RkD K b (upd H p o) xs := fun x hx => by
  obtain ⟨d, h, z⟩ := A x hx
  exact ⟨d, h, z.up n⟩
theorem RkD.new {H : Hp} {b p : Addr} {xs : List V} {rs : List Str} (A : RkD K b H xs) (n : H p = none) (e : p ≠ b) (h : rs ∈ ranks22) : RkD K b (upd H p (.tup (rs.map V.str))) (xs ++ [.ref p]) := fun x hx => by
  rcases List.mem_append.mp hx with hx | hx
  · exact A.up n x hx
  · rw [List.mem_singleton.mp hx]
    exact ⟨rs, h, DX.newT n e (strs_dx rs)⟩
theorem c_l_style (T : Txt K mg w) (c_l_take : Cal P w K mg base 1 "_law_take" spTake []) (c_l_one : Cal P w K mg base 2 "_law_one" (spOne K) []) : Cal P w K mg base 3 "_law_style" (spStyl K) [] := by
  refine calOf T.d_l_style sc_l_style (fun vs H Q E h => ?_) (fun f cdv A outer s H vs Q E hr h => ?_)
  · obtain ⟨g, c, e, rfl, _⟩ := h
    rfl
  · obtain ⟨g, c, e, rfl, B, k⟩ := h
    have hu := u1 hr
    refine ⟨_,
      (pss_cons (ps_set (i := 1) sc_l_style.nd rfl (Or.inl rfl) (pe_lst (pa_cons (pe_tup (pa_cons pe_str (pa_cons pe_str (pa_cons pe_str pa_nil)))) (pa_cons (pe_tup (pa_cons pe_str (pa_cons pe_str (pa_cons pe_str pa_nil)))) (pa_cons (pe_tup (pa_cons pe_str (pa_cons pe_str (pa_cons pe_str pa_nil)))) (pa_cons (pe_tup (pa_cons pe_str (pa_cons pe_str (pa_cons pe_str pa_nil)))) pa_nil))))))
        (pss_cons (ps_set (i := 2) sc_l_style.nd rfl (Or.inl rfl) (pe_c c_l_one hr (by first | decide | omega) rfl (pa_cons (pv 0) (pa_cons (pe_op op_cat (pv 1) (pe_lst (pa_cons (pe_tup (pa_cons pe_str (pa_cons pe_str (pa_cons pe_str pa_nil)))) (pa_cons (pe_tup (pa_cons pe_str (pa_cons pe_str (pa_cons pe_str pa_nil)))) pa_nil)))) pa_nil))))
        (pss_cons (ps_set (i := 3) sc_l_style.nd rfl (Or.inl rfl) (pe_tup (pa_cons (pe_c c_l_one hr (by first | decide | omega) rfl (pa_cons (pv 0) (pa_cons (pe_lst (pa_cons pe_str (pa_cons pe_str pa_nil))) pa_nil))) (pa_cons (pe_c c_l_one hr (by first | decide | omega) rfl (pa_cons (pv 0) (pa_cons (pe_lst (pa_cons pe_str (pa_cons pe_str pa_nil))) pa_nil))) pa_nil))))
        (pss_one (ps_ret (pe_op op_catU (pe_tup (pa_cons (pe_c c_l_one hr (by first | decide | omega) rfl (pa_cons (pv 0) (pa_cons (pe_lst (pa_cons pe_int (pa_cons pe_int (pa_cons pe_int (pa_cons pe_int (pa_cons pe_int (pa_cons pe_int pa_nil))))))) pa_nil))) (pa_cons (pe_c c_l_take hr (by first | decide | omega) rfl (pa_cons (pv 0) (pa_cons pe_int pa_nil))) (pa_cons (pe_c c_l_take hr (by first | decide | omega) rfl (pa_cons (pv 0) (pa_cons pe_int pa_nil))) (pa_cons (pv 2) pa_nil))))) (pv 3)))))))
      , ?_⟩
    have D0 := Drawn.of B
    have A0 : RkD K g.b H [] := fun x hx => by cases hx
    refine ⟨by show 3 ≤ sizeLine; decide, fun p1 hp1 => ?_⟩
    have D1 := D0.new (o := HO.tup ((["over", "lines", "broken"] : List Str).map V.str)) hp1
    have A1 := A0.new (rs := ["over", "lines", "broken"]) hp1 (D0.bag.ne_new hp1) (by decide)
    refine ⟨by show 3 ≤ sizeLine; decide, fun p2 hp2 => ?_⟩
    have D2 := D1.new (o := HO.tup ((["lines", "over", "broken"] : List Str).map V.str)) hp2
    have A2 := A1.new (rs := ["lines", "over", "broken"]) hp2 (D1.bag.ne_new hp2) (by decide)
    refine ⟨by show 3 ≤ sizeLine; decide, fun p3 hp3 => ?_⟩
    have D3 := D2.new (o := HO.tup ((["broken", "lines", "over"] : List Str).map V.str)) hp3
    have A3 := A2.new (rs := ["broken", "lines", "over"]) hp3 (D2.bag.ne_new hp3) (by decide)
    refine ⟨by show 3 ≤ sizeLine; decide, fun p4 hp4 => ?_⟩
    have D4 := D3.new (o := HO.tup ((["over", "broken", "lines"] : List Str).map V.str)) hp4
    have A4 := A3.new (rs := ["over", "broken", "lines"]) hp4 (D3.bag.ne_new hp4) (by decide)
    refine ⟨by show 4 ≤ sizeLine; decide, fun p5 hp5 => ?_⟩
    have D5 := D4.new (o := HO.lst [V.ref p1, V.ref p2, V.ref p3, V.ref p4]) hp5
    have A5 := A4.up (o := HO.lst [V.ref p1, V.ref p2, V.ref p3, V.ref p4]) hp5
    refine ⟨_, rfl, _, rfl, ?_⟩
    refine ⟨by show 3 ≤ sizeLine; decide, fun p6 hp6 => ?_⟩
    have D6 := D5.new (o := HO.tup ((["lines", "broken", "over"] : List Str).map V.str)) hp6
    have A6 := A5.new (rs := ["lines", "broken", "over"]) hp6 (D5.bag.ne_new hp6) (by decide)
    refine ⟨by show 3 ≤ sizeLine; decide, fun p7 hp7 => ?_⟩
    have D7 := D6.new (o := HO.tup ((["broken", "over", "lines"] : List Str).map V.str)) hp7
    have A7 := A6.new (rs := ["broken", "over", "lines"]) hp7 (D6.bag.ne_new hp7) (by decide)
    refine ⟨by show 2 ≤ sizeLine; decide, fun p8 hp8 => ?_⟩
    have D8 := D7.new (o := HO.lst [V.ref p6, V.ref p7]) hp8
    have A8 := A7.up (o := HO.lst [V.ref p6, V.ref p7]) hp8
    refine ⟨_, _, [V.ref p1, V.ref p2, V.ref p3, V.ref p4], [V.ref p6, V.ref p7], rfl, rfl, upd_some (upd_some (upd_some upd_same hp6) hp7) hp8, upd_same, by show 4 + 2 ≤ sizeLine; decide, fun p9 hp9 => ?_⟩
    have D9 := D8.new (o := HO.lst ([V.ref p1, V.ref p2, V.ref p3, V.ref p4] ++ [V.ref p6, V.ref p7])) hp9
    have A9 := A8.up (o := HO.lst ([V.ref p1, V.ref p2, V.ref p3, V.ref p4] ++ [V.ref p6, V.ref p7])) hp9
    refine ⟨g, _, c, e, rfl, D9.bag, .inl ⟨p9, _, rfl, .inl (SqL.of upd_same), D8.bag.ne_new hp9, by show 0 < 6; decide, by show 6 < 1000; decide, fun v H1 hv D10 => ?_⟩⟩
    obtain ⟨rs, hrs, xr⟩ := A9 v hv
    have xr := xr.fr D10.fr
    have D := D9.trans D10
    clear A0 A1 A2 A3 A4 A5 A6 A7 A8 A9 D0 D1 D2 D3 D4 D5 D6 D7 D8 D9 D10 hv
    refine ⟨_, rfl, ?_⟩
    refine ⟨by show 2 ≤ sizeLine; decide, fun q1 hq1 => ?_⟩
    have C1 := D.new (o := HO.lst [V.str "ahead", V.str "behind"]) hq1
    refine ⟨g, _, c, e, rfl, C1.bag, .inl ⟨q1, _, rfl, .inl (SqL.of upd_same), D.bag.ne_new hq1, by show 0 < 2; decide, by show 2 < 1000; decide, fun v1 H2 hv1 E1 => ?_⟩⟩
    have xr := (xr.up (o := HO.lst [V.str "ahead", V.str "behind"]) hq1).fr E1.fr
    have G1 := C1.trans E1
    refine ⟨_, rfl, ?_⟩
    refine ⟨by show 2 ≤ sizeLine; decide, fun q2 hq2 => ?_⟩
    have C2 := G1.new (o := HO.lst [V.str "fill", V.str "rows"]) hq2
    refine ⟨g, _, c, e, rfl, C2.bag, .inl ⟨q2, _, rfl, .inl (SqL.of upd_same), G1.bag.ne_new hq2, by show 0 < 2; decide, by show 2 < 1000; decide, fun v2 H3 hv2 E2 => ?_⟩⟩
    have xr := (xr.up (o := HO.lst [V.str "fill", V.str "rows"]) hq2).fr E2.fr
    have G2 := C2.trans E2
    refine ⟨by show 2 ≤ sizeLine; decide, fun q3 hq3 => ?_⟩
    have D4 := G2.new (o := HO.tup [v1, v2]) hq3
    have xr := xr.up (o := HO.tup [v1, v2]) hq3
    have e3 : (upd H3 q3 (HO.tup [v1, v2])) q3 = _ := upd_same
    have b3 := G2.bag.ne_new hq3
    generalize upd H3 q3 (HO.tup [v1, v2]) = H4 at D4 xr e3 ⊢
    refine ⟨_, rfl, ?_⟩
    refine ⟨by show 6 ≤ sizeLine; decide, fun q5 hq5 => ?_⟩
    have C5 := D4.new (o := HO.lst [V.int 80, V.int 8, V.int 120, V.int 40, V.int 20, V.int 9]) hq5
    refine ⟨g, _, c, e, rfl, C5.bag, .inl ⟨q5, _, rfl, .inl (SqL.of upd_same), D4.bag.ne_new hq5, by show 0 < 6; decide, by show 6 < 1000; decide, fun v5 H5 hv5 E5 => ?_⟩⟩
    have xr := (xr.up (o := HO.lst [V.int 80, V.int 8, V.int 120, V.int 40, V.int 20, V.int 9]) hq5).fr E5.fr
    have G5 := C5.trans E5
    have e5 := E5.fr _ _ b3 (upd_some (u := HO.lst [V.int 80, V.int 8, V.int 120, V.int 40, V.int 20, V.int 9]) e3 hq5)
    refine ⟨_, rfl, g, 9, c, e, rfl, G5.bag, by decide, by decide, fun s H6 s0 s1 E6 => ?_⟩
    have xr := xr.fr E6.fr
    have e6 := E6.fr _ _ b3 e5
    refine ⟨_, rfl, g, 4, c, e, rfl, E6.bag, by decide, by decide, fun b H7 b0 b1 E7 => ?_⟩
    have xr := xr.fr E7.fr
    have e7 := E7.fr _ _ b3 e6
    refine ⟨_, rfl, by show 4 ≤ sizeLine; decide, fun q8 hq8 => ?_⟩
    have D8 := ((G5.trans E6).trans E7).new (o := HO.tup [v5, .int s, .int b, v]) hq8
    have xr := xr.up (o := HO.tup [v5, .int s, .int b, v]) hq8
    have n8 := E7.bag.ne_new hq8
    have e8 := upd_some (u := HO.tup [v5, .int s, .int b, v]) e7 hq8
    refine ⟨_, rfl, q8, q3, _, _, rfl, rfl, SqT.of upd_same, SqT.of e8, by show 4 + 2 ≤ sizeLine; decide, fun r H9 s9 q9 => ?_⟩
    have hb := D8.bag
    have D9 := D8.trans (Drawn.same hb s9)
    have xz := xr.fr (Drawn.same hb s9).fr
    clear hb
    have hx : ∃ w : Int, v5 = .int w ∧ 0 ≤ w ∧ w ≤ 200 := by
      simp only [List.mem_cons, List.not_mem_nil, or_false] at hv5
      rcases hv5 with rfl | rfl | rfl | rfl | rfl | rfl <;> exact ⟨_, rfl, by decide, by decide⟩
    have h1 : ∃ o : Str, v1 = .str o ∧ o ∈ (["ahead", "behind"] : List Str) := by
      simp only [List.mem_cons, List.not_mem_nil, or_false] at hv1
      rcases hv1 with rfl | rfl <;> exact ⟨_, rfl, by decide⟩
    have h2 : ∃ o : Str, v2 = .str o ∧ o ∈ (["fill", "rows"] : List Str) := by
      simp only [List.mem_cons, List.not_mem_nil, or_false] at hv2
      rcases hv2 with rfl | rfl <;> exact ⟨_, rfl, by decide⟩
    obtain ⟨w, rfl, w0, w1⟩ := hx
    obtain ⟨o, rfl, ho⟩ := h1
    obtain ⟨l, rfl, hl⟩ := h2
    refine k r _ [.int w, .int s, .int b, .tuple (rs.map .str), .str o, .str l] _ ?_ ⟨SqT.hid D9.bag q9, .cons (.int _) (.cons (.int _) (.cons (.int _) (.cons xz (.cons (.str _) (.cons (.str _) .nil))))), ⟨w, s, b, rs, o, l, rfl, ⟨w0, w1⟩, ⟨s0, by omega⟩, ⟨b0, by omega⟩, hrs, ho, hl⟩, rfl⟩
    exact D9

theorem SzL.drop {n M : Nat} {ds : List PyData} (h : SzL n M ds) (k : Nat) : SzL n M (ds.drop k) := by
  rw [← List.take_append_drop k ds] at h
  obtain ⟨A, B, _, b, l⟩ := SzL.split h
  exact b.mono (Nat.le_refl _) (by omega)
theorem SzL.take {n M : Nat} {ds : List PyData} (h : SzL n M ds) (k : Nat) : SzL n M (ds.take k) := by
  rw [← List.take_append_drop k ds] at h
  obtain ⟨A, B, a, _, l⟩ := SzL.split h
  exact a.mono (Nat.le_refl _) (by omega)
theorem DxAll.drop {H : Hp} : ∀ {xs : List V} {ds : List PyData} (k : Nat), DxAll K H xs ds → DxAll K H (xs.drop k) (ds.drop k)
  | _, _, 0, h => h
  | _, _, k + 1, .nil => .nil
  | _, _, k + 1, .cons _ h => DxAll.drop k h
theorem DxAll.take {H : Hp} : ∀ {xs : List V} {ds : List PyData} (k : Nat), DxAll K H xs ds → DxAll K H (xs.take k) (ds.take k)
  | _, _, 0, h => .nil
  | _, _, k + 1, .nil => .nil
  | _, _, k + 1, .cons a h => .cons a (DxAll.take k h)
theorem sz_int {i : Int} (h : i.natAbs < 10 ^ 60) : SzX 2 62 (.int i) := ⟨decide_eq_true h, Nat.zero_le _, by show 62 ≤ 62; decide⟩
theorem nat60 {i : Int} (h : 0 ≤ i ∧ i ≤ 2000) : i.natAbs < 10 ^ 60 := Nat.lt_of_le_of_lt (show i.natAbs ≤ 2000 by omega) (by decide)
theorem StyD.szl {ds : List PyData} (h : StyD ds) : SzL 2 1000 ds := by
  obtain ⟨w, s, b, rs, o, l, rfl, hw, hs, hb, hr, ho, hl⟩ := h
  have R : ∀ rs ∈ ranks22, (tmx (.tuple (rs.map .str)) && (decide ((PyData.tuple (rs.map .str)).depth ≤ 2) && decide (wtx (.tuple (rs.map .str)) ≤ 300))) = true := by decide +kernel
  have R := R rs hr
  obtain ⟨r1, R⟩ := Bool.and_eq_true_iff.mp R
  obtain ⟨r2, r3⟩ := Bool.and_eq_true_iff.mp R
  have O : ∀ z ∈ (["ahead", "behind", "fill", "rows"] : List Str), (tmx (.str z) && decide (wtx (.str z) ≤ 80)) = true := by decide +kernel
  have S : ∀ z ∈ (["ahead", "behind", "fill", "rows"] : List Str), SzX 2 80 (.str z) := fun z hz => by
    obtain ⟨a, b⟩ := Bool.and_eq_true_iff.mp (O z hz)
    exact ⟨a, Nat.zero_le _, of_decide_eq_true b⟩
  have ho : o ∈ (["ahead", "behind", "fill", "rows"] : List Str) := by
    simp only [List.mem_cons, List.not_mem_nil, or_false] at ho ⊢
    rcases ho with h | h <;> simp [h]
  have hl : l ∈ (["ahead", "behind", "fill", "rows"] : List Str) := by
    simp only [List.mem_cons, List.not_mem_nil, or_false] at hl ⊢
    rcases hl with h | h <;> simp [h]
  exact (SzL.cons (sz_int (nat60 ⟨hw.1, by omega⟩)) (SzL.cons (sz_int (nat60 ⟨hs.1, by omega⟩)) (SzL.cons (sz_int (nat60 ⟨hb.1, by omega⟩)) (SzL.cons ⟨r1, of_decide_eq_true r2, of_decide_eq_true r3⟩ (SzL.cons (S o ho) (SzL.cons (S l hl) (SzL.nil (M := 0)))))))).mono (Nat.le_refl _) (by decide)
theorem Sty.fr {b a : Addr} {H H' : Hp} {xs : List V} {ds : List PyData} (Z : Sty K b H a xs ds) (f : Fr b H H') : Sty K b H' a xs ds := ⟨sameT (hid_fr f) Z.at', DxAll.same (hid_fr f) Z.dx, Z.ok, Z.len⟩
theorem Sty.seq {b a : Addr} {H : Hp} {xs : List V} {ds : List PyData} (Z : Sty K b H a xs ds) : SqT K H a xs := sameT (hid_same b H) Z.at'

def tsOf (m : Addr) : List Addr := (List.range 6).map fun j => m + j
def kfOf (m : Addr) (t : Addr) : Str := names22.getD (t - m) ""
def vfOf (xs : List V) (m : Addr) (t : Addr) : V := xs.getD (t - m) .non
def G22 (xs : List V) (n : Str) : Key × V := (.inr n, xs.getD (at22 n) .non)
theorem at22_ix : ∀ j : Nat, j < 6 → at22 (names22.getD j "") = j := by decide +kernel
theorem ts_ix {m t : Addr} (h : t ∈ tsOf m) : ∃ j : Nat, j < 6 ∧ t = m + j ∧ t - m = j := by
  obtain ⟨j, hj, rfl⟩ := List.mem_map.mp h
  exact ⟨j, List.mem_range.mp hj, rfl, Nat.add_sub_cancel_left m j⟩
theorem kv_of {xs : List V} {m t : Addr} (h : t ∈ tsOf m) : G22 xs (kfOf m t) = (.inr (kfOf m t), vfOf xs m t) := by
  obtain ⟨j, hj, _, e⟩ := ts_ix h
  unfold G22 vfOf kfOf
  rw [e, at22_ix j hj]
theorem kf_map (m : Addr) : (tsOf m).map (kfOf m) = names22 := by
  unfold tsOf
  rw [List.map_map]
  have e : (kfOf m ∘ fun j => m + j) = fun j => names22.getD j "" := funext fun j => by
    show names22.getD (m + j - m) "" = _
    rw [Nat.add_sub_cancel_left]
  rw [e]
  rfl
theorem kf_inj {m t u : Addr} (h : t ∈ tsOf m) (k : u ∈ tsOf m) (e : kfOf m t = kfOf m u) : t = u := by
  obtain ⟨i, hi, ti, ei⟩ := ts_ix h
  obtain ⟨j, hj, uj, ej⟩ := ts_ix k
  unfold kfOf at e
  rw [ei, ej] at e
  have := at22_ix i hi
  rw [e, at22_ix j hj] at this
  rw [ti, uj, this]
theorem prs_of {H : Hp} {xs : List V} {m : Addr} (its : ∀ t ∈ tsOf m, H t = some (.tup [.str (kfOf m t), vfOf xs m t])) : ∀ ys : List Addr, (∀ t ∈ ys, t ∈ tsOf m) → Paired (fun p kv => SqT K H p [kV kv.1, kv.2]) ys ((ys.map (kfOf m)).map (G22 xs))
  | [], _ => .nil
  | t :: ys, h => .cons (by
      rw [kv_of (h t List.mem_cons_self)]
      exact SqT.of (its t (h t List.mem_cons_self))) (prs_of its ys fun u hu => h u (List.mem_cons_of_mem _ hu))
def unref : V → Addr
  | .ref a => a
  | _ => 0
theorem perm_ref {ys : List V} {ts : List Addr} (h : ys.Perm (ts.map V.ref)) : ∃ us : List Addr, ys = us.map V.ref ∧ us.Perm ts := by
  refine ⟨ys.map unref, ?_, ?_⟩
  · rw [List.map_map]
    have e : ∀ y ∈ ys, (V.ref ∘ unref) y = y := fun y hy => by
      obtain ⟨t, _, rfl⟩ := List.mem_map.mp (h.mem_iff.mp hy)
      rfl
    exact ((List.map_congr_left e).trans (List.map_id ys)).symm
  · have := h.map unref
    rw [List.map_map] at this
    have e : ts.map (unref ∘ V.ref) = ts := List.map_id ts
    rw [e] at this
    exact this
theorem G_keys (xs : List V) (ns : List Str) (h : ns.Nodup) : ((ns.map (G22 xs)).map (·.1)).Nodup := by
  rw [List.map_map]
  exact List.Pairwise.map _ (fun a b n e => n (Sum.inr.inj e)) h
theorem G_merge (xs : List V) (ns : List Str) (h : ns.Nodup) : mergeK [] (ns.map (G22 xs)) = ns.map (G22 xs) := by
  have := merge_new (more := ns.map (G22 xs)) (kvs := []) (by rw [List.nil_append]; exact G_keys xs ns h)
  rw [List.nil_append] at this
  exact this
def dD (ds : List PyData) (ns : List Str) : PyData := .dict (ns.map fun n => (.str n, ds.getD (at22 n) .none))
theorem DxAll.getD {H : Hp} : ∀ {xs : List V} {ds : List PyData} (i : Nat), DxAll K H xs ds → Dx K H (xs.getD i .non) (ds.getD i .none)
  | _, _, _, .nil => .non
  | _, _, 0, .cons a _ => a
  | _, _, i + 1, .cons _ h => DxAll.getD i h
theorem dx_words {H : Hp} {xs : List V} {ds : List PyData} (h : DxAll K H xs ds) : ∀ ns : List Str, DxAll K H (ns.map fun n => xs.getD (at22 n) .non) (ns.map fun n => ds.getD (at22 n) .none)
  | [] => .nil
  | n :: ns => .cons (DxAll.getD _ h) (dx_words h ns)
theorem dic_dx {H : Hp} {p : Addr} {xs : List V} {ds : List PyData} {ns : List Str} (hp : H p = some (.dK (ns.map (G22 xs)))) (h : DxAll K H xs ds) (nd : ns.Nodup) : Dx K H (.ref p) (dD ds ns) := by
  have := Dx.dic (K := K) (.inl hp) (G_keys xs ns nd) (ds := ns.map fun n => ds.getD (at22 n) .none) (by rw [List.map_map]; exact dx_words h ns)
  rw [List.map_map, List.zip_map'] at this
  exact this
theorem SzX.dic {n M : Nat} : ∀ {l : List (PyData × PyData)}, (∀ p ∈ l, tmx p.1 = true ∧ tmx p.2 = true ∧ p.1.depth ≤ n ∧ p.2.depth ≤ n ∧ wtx p.1 + wtx p.2 ≤ M) → tmxKv l = true ∧ PyData.depthKv l ≤ n ∧ wtxKv l ≤ l.length * (M + 4)
  | [], _ => ⟨rfl, Nat.zero_le _, Nat.zero_le _⟩
  | (k, v) :: l, h => by
    obtain ⟨a, b, c⟩ := SzX.dic (l := l) fun p hp => h p (List.mem_cons_of_mem _ hp)
    obtain ⟨h1, h2, h3, h4, h5⟩ := h _ List.mem_cons_self
    refine ⟨?_, ?_, ?_⟩
    · show (tmx k && (tmx v && tmxKv l)) = true
      rw [show tmx k = true from h1, show tmx v = true from h2, a] <;> rfl
    · show max (max k.depth v.depth) (PyData.depthKv l) ≤ n
      have h3 : k.depth ≤ n := h3
      have h4 : v.depth ≤ n := h4
      omega
    · show wtx k + wtx v + 4 + wtxKv l ≤ (l.length + 1) * (M + 4)
      have h5 : wtx k + wtx v ≤ M := h5
      rw [Nat.add_mul, Nat.one_mul]
      omega
theorem names_sz : ∀ n ∈ names22, tmx (.str n) = true ∧ wtx (.str n) ≤ 100 := by decide +kernel
theorem StyD.dic {ds : List PyData} (h : StyD ds) {ns : List Str} (pm : ns.Perm names22) : SzX 3 7000 (dD ds ns) := by
  have l6 : ns.length = 6 := pm.length_eq
  have A : ∀ i : Nat, SzX 2 1000 (ds.getD i .none) := fun i => by
    by_cases hi : i < ds.length
    · rw [List.getD_eq_getElem?_getD, List.getElem?_eq_getElem hi]
      have e : ds = ds.take i ++ ds[i] :: ds.drop (i + 1) := by rw [← List.drop_eq_getElem_cons hi, List.take_append_drop]
      have z := h.szl
      rw [e] at z
      obtain ⟨A, B, C, _, b, _, l⟩ := SzL.at z
      exact b.mono (Nat.le_refl _) (by omega)
    · rw [List.getD_eq_getElem?_getD, List.getElem?_eq_none (by omega)]
      exact ⟨rfl, Nat.zero_le _, by show 4 ≤ 1000; decide⟩
  obtain ⟨a, b, c⟩ := SzX.dic (n := 2) (M := 1100) (l := ns.map fun n => (PyData.str n, ds.getD (at22 n) .none)) fun p hp => by
    obtain ⟨n, hn, rfl⟩ := List.mem_map.mp hp
    obtain ⟨q1, q2⟩ := names_sz n (pm.mem_iff.mp hn)
    have z := A (at22 n)
    exact ⟨q1, z.tm, Nat.zero_le _, z.dp, by have := z.wz; show wtx (PyData.str n) + wtx (ds.getD (at22 n) .none) ≤ 1100; omega⟩
  rw [List.length_map, l6] at c
  exact ⟨a, Nat.succ_le_succ b, by show wtxKv _ + 4 ≤ 7000; omega⟩
theorem val_of {xs : List V} {ns : List Str} (pm : ns.Perm names22) {i : Nat} {n : Str} {x : V} (hn : names22[i]? = some n) (hx : xs[i]? = some x) : valV (ns.map (G22 xs)) (.inr n) = some x := by
  have nd : ns.Nodup := pm.nodup_iff.mpr (by decide +kernel)
  refine valV_mem (G_keys xs ns nd) ?_
  have mem : n ∈ ns := pm.mem_iff.mpr (List.mem_of_getElem? hn)
  refine List.mem_map.mpr ⟨n, mem, ?_⟩
  have hi : i < 6 := (List.getElem?_eq_some_iff.mp hn).1
  have e : at22 n = i := by
    have := at22_ix i hi
    rw [List.getD_eq_getElem?_getD, hn] at this
    exact this
  unfold G22
  rw [e, List.getD_eq_getElem?_getD, hx]
  rfl

theorem c_l_alike (T : Txt K mg w) (sb : ∃ o, base.get? sysModules = some o ∧ o.cls = .type "dict") : CalG P w K mg base 1 "_law_alike" (spAlikeV K) := by
  refine calGOf T.d_l_alike sc_l_alike (fun vs H Q E h => ?_) (fun f cdv A outer s H vs Q E hr gd h => ?_)
  · obtain ⟨x, y, d, rfl, _⟩ := h
    rfl
  · obtain ⟨x, y, d, rfl, ha, hb, ok, k⟩ := h
    have hu := hr.units
    refine ⟨_,
      (pss_one (ps_ret (pe_and (pe_cmpR (op_eqV hr.units) (pv 0) (pv 1) (nomark _)) (pe_one (pe_cmpR op_eq (pe_callB (call_reprV (u65 hr) gd sb) (by rfl) T.n_repr (by decide +kernel) (pa_cons (pv 0) pa_nil)) (pe_callB (call_reprV (u65 hr) gd sb) (by rfl) T.n_repr (by decide +kernel) (pa_cons (pv 1) pa_nil)) (nomark _))))))
      , ?_⟩
    refine ⟨_, rfl, _, rfl, d, ha, hb, ok.dp, _, rfl, ?_⟩
    refine iteT ⟨_, rfl, x, d, rfl, ha, ok, _, rfl, y, d, rfl, hb, ok, rfl, ?_⟩
    exact (by
      rw [show (decide (V.str (PyData.shown d) = V.str (PyData.shown d))) = true from decide_eq_true rfl]
      exact k _ (Same.refl _))

/-- the law's own laying -/
theorem c_l_laid (T : Txt K mg w) (c_l_style_words : Cal P w K mg base 1 "_law_style_words" spWds []) : Cal P w K mg base 2 "_law_laid" (spLaid K) [] := by
  refine calOf T.d_l_laid sc_l_laid (fun vs H Q E h => ?_) (fun f cdv A outer s H vs Q E hr h => ?_)
  · obtain ⟨a, b, xs, v2, n2, rfl, _⟩ := h
    rfl
  · obtain ⟨a, b, xs, v2, n2, rfl, ha, hl, hb, d2, l2, hn, k⟩ := h
    have hu := u1 hr
    refine ⟨_,
      (pss_one (ps_ret (pe_callTy call_tuple_of (by rfl) T.n_tuple (by decide +kernel) (pa_cons (pe_lc (own := [("_law_word", 2), ("_law_value", 3)]) (g := gTup K 2 (gCons (gName 2) (gCons (gName 3) gNil))) (tt := tYes) rfl sc_l_laid.nd (RZ.pi_zipA (by rfl) T.n_zip (pa_cons (pe_c0 c_l_style_words hr (by first | decide | omega) rfl) (pa_cons (pv 0) pa_nil))) (blkOk_by (N := ["_law_style_here", "_law_layer_here", "_law_word", "_law_value"]) (sc := defScope s_l_laid) (by decide +kernel)) (fun _ _ _ _ _ => (pg_tup rfl (pgs_cons (pg_name (i := 2) sc_l_laid.nd rfl (Or.inl rfl)) (pgs_cons (pg_name (i := 3) sc_l_laid.nd rfl (Or.inl rfl)) pgs_nil)))) (fun _ _ _ _ _ => pts_nil) (fun _ _ _ _ _ => (pe_dget2 hu (pv 1) (pv 2) (pv 3) ⟨rfl, rfl, rfl, rfl⟩))) pa_nil))))
      , ?_⟩
    refine ⟨rfl, fun pw hpw => ?_⟩
    have s1 := same_new (o := HO.tup (names22.map V.str)) hpw
    have q1 : (upd H pw (HO.tup (names22.map V.str))) pw = _ := upd_same
    generalize upd H pw (HO.tup (names22.map V.str)) = H1 at s1 q1 ⊢
    refine ⟨_, rfl, pw, a, names22.map V.str, xs, rfl, .inr ⟨SqT.of q1, sameT s1 ha, fun D hD => ?_⟩⟩
    refine lc_it (walk_zipT (K := K) (a := pw) (b := a) (xs := names22.map V.str) (ys := xs) (n := 6) (by rw [hl] <;> rfl)) (fun i H' => H' D = some (.lst ((laidL xs v2 n2).take i)) ∧ Same H1 H') ⟨upd_same, same_put (Same.refl _) hD⟩ (fun i H' _ h => ⟨SqT.of (h.2 _ _ q1), sameT (s1.trans h.2) ha⟩) ?_ ?_
    · rintro i x H2 H3 hi ⟨d2', s2⟩ ⟨T1, x1, x2, rfl, hT, rfl, hx1, hx2⟩
      have hx1 : (names22.map V.str)[i]? = some x1 := hx1
      rw [List.getElem?_map] at hx1
      obtain ⟨n, hn', rfl⟩ := Option.map_eq_some_iff.mp hx1
      have s3 := s2.trans (same_new (o := HO.tup [.str n, x2]) hT)
      have hb3 := (s1.trans s3) _ _ hb
      have e2 : stV xs n = x2 := by
        have := at22_ix i hi
        rw [List.getD_eq_getElem?_getD, hn'] at this
        have this : at22 n = i := this
        have hx2 : xs[i]? = some x2 := hx2
        unfold stV
        rw [this, List.getD_eq_getElem?_getD, hx2]
        rfl
      refine ⟨T1, _, rfl, SqT.of upd_same, rfl, _, _, rfl, _, _, rfl, rfl, rfl, ?_⟩
      delta tYes
      refine iteT ?_
      refine ⟨_, rfl, b, rfl, .inl ⟨_, .inl hb3⟩, _, rfl, _, rfl, valV (lay v2 n2) (.inr n), .inl ⟨lay v2 n2, .inr n, .inl hb3, rfl, rfl⟩, ?_⟩
      have ev : (valV (lay v2 n2) (.inr n)).getD x2 = if n ∈ n2 then v2 n else stV xs n := by
        by_cases h : n ∈ n2
        · rw [lay_val v2 h, if_pos h]
          rfl
        · rw [lay_none v2 h, if_neg h, e2]
          rfl
      rw [ev]
      refine ⟨_, upd_some (u := HO.tup [.str n, x2]) d2' hT, ?_, ?_, same_put s3 hD⟩
      · rw [List.length_take]
        exact Nat.lt_of_le_of_lt (Nat.min_le_left _ _) (Nat.lt_of_lt_of_le hi (by decide))
      · have e : (laidL xs v2 n2)[i]? = some (if n ∈ n2 then v2 n else stV xs n) := by
          unfold laidL
          rw [List.getElem?_map, hn']
          rfl
        rw [upd_same, List.take_add_one, e]
        rfl
    · rintro H2 ⟨d2', s2⟩
      rw [List.take_of_length_le (by unfold laidL; rw [List.length_map]; decide)] at d2'
      refine ⟨D, _, rfl, .inl ⟨SqL.of d2', fun r hr' => k r _ (s1.trans (s2.trans (same_new hr'))) (SqT.of upd_same)⟩⟩

def spLayer (K : PySem.W.Frag) : Sp := fun vs H Q _ => ∃ (g : Bg) (c e : Int), vs = [.ref g.b] ∧ Bag H g c e ∧ ∀ (p : Addr) (xs : List V) (ds : List PyData) (ns : List Str) (H' : Hp), Drawn g H H' c e → p ≠ g.b → H p = none → H' p = some (.dK (lay (stV xs) ns)) → ns.Nodup → (∀ n ∈ ns, n ∈ names22) → DxAll K (hid g.b H') xs ds → StyD ds → xs.length = 6 → Q (.ref p) H'
theorem c_l_layer (T : Txt K mg w) (c_l_style_words : Cal P w K mg base 1 "_law_style_words" spWds []) (c_l_style : Cal P w K mg base 3 "_law_style" (spStyl K) []) (c_l_mixed : Cal P w K mg base 2 "_law_mixed" (spMixed K) []) (c_l_one : Cal P w K mg base 2 "_law_one" (spOne K) []) : Cal P w K mg base 4 "_law_layer" (spLayer K) [] := by
  refine calOf T.d_l_layer sc_l_layer (fun vs H Q E h => ?_) (fun f cdv A outer s H vs Q E hr h => ?_)
  · obtain ⟨g, c, e, rfl, _⟩ := h
    rfl
  · obtain ⟨g, c, e, rfl, B, k⟩ := h
    have hu := u1 hr
    refine ⟨_,
      (pss_cons (ps_set (i := 1) sc_l_layer.nd rfl (Or.inl rfl) (pe_listZip rfl (by rfl) T.n_list (by rfl) T.n_zip (pa_cons (pe_c0 c_l_style_words hr (by first | decide | omega) rfl) (pa_cons (pe_c c_l_style hr (by first | decide | omega) rfl (pa_cons (pv 0) pa_nil)) pa_nil))))
        (pss_one (ps_ret (pe_callTy (call_dictP rfl) (by rfl) T.n_dict (by decide +kernel) (pa_cons (pe_slice sl_list (pe_c c_l_mixed hr (by first | decide | omega) rfl (pa_cons (pv 0) (pa_cons (pv 1) pa_nil))) po_none (po_some (pe_c c_l_one hr (by first | decide | omega) rfl (pa_cons (pv 0) (pa_cons (pe_lst (pa_cons pe_int (pa_cons pe_int (pa_cons pe_int (pa_cons pe_int (pa_cons pe_int pa_nil)))))) pa_nil))))) pa_nil)))))
      , ?_⟩
    refine ⟨rfl, fun pz hpz => ?_⟩
    have t13 := same_new (o := HO.tup (names22.map V.str)) hpz
    have B13 := B.same t13
    have qz : (upd H pz (HO.tup (names22.map V.str))) pz = _ := upd_same
    have nz := B.ne_new hpz
    have D13 := Drawn.same B t13
    generalize upd H pz (HO.tup (names22.map V.str)) = H13 at t13 B13 qz D13 ⊢
    refine ⟨_, rfl, g, c, e, rfl, B13, fun sa xs ds H12 D12 Z12 => ?_⟩
    have l6 := Z12.len
    refine ⟨pz, sa, names22.map V.str, xs, rfl, SqT.of (D12.fr _ _ nz qz), Z12.seq, l6.symm, by show 0 < 6; decide, fun pl m0 H14 hpl hpm s14 q14 i14 => ?_⟩
    have B12 := D12.bag
    have npl := B12.ne_new hpl
    have npm : ∀ t ∈ tsOf m0, t ≠ g.b := fun t ht => by
      obtain ⟨j, _, rfl, _⟩ := ts_ix ht
      exact B12.ne_new (hpm j)
    have its : ∀ t ∈ tsOf m0, H14 t = some (.tup [.str (kfOf m0 t), vfOf xs m0 t]) := fun t ht => by
      obtain ⟨j, hj, rfl, e⟩ := ts_ix ht
      unfold kfOf vfOf
      rw [e]
      refine i14 j _ _ ?_ ?_
      · rw [List.getElem?_map, List.getD_eq_getElem?_getD, List.getElem?_eq_getElem (show j < names22.length from hj)]
        rfl
      · rw [List.getD_eq_getElem?_getD, List.getElem?_eq_getElem (by omega)]
        rfl
    have q14 : H14 pl = some (.lst ((tsOf m0).map V.ref)) := by
      rw [q14]
      unfold tsOf
      rw [List.map_map]
      rfl
    have D14 := (D13.trans D12).trans (Drawn.same B12 s14)
    have Z14 := Z12.fr (Drawn.same B12 s14).fr
    clear i14 s14 hpm hpl hpz B13 Z12 B12 D13 D12
    refine ⟨_, rfl, _, rfl, g, pl, _, c, e, rfl, D14.bag, .inl (SqL.of q14), npl, by rw [List.length_map]; show 6 ≤ 100; decide, fun q ys H15 pm hq q15 D15 => ?_⟩
    obtain ⟨us, rfl, pu⟩ := perm_ref pm
    have Z15 := Z14.fr D15.fr
    have nq := D14.bag.ne_new hq
    have its : ∀ t ∈ tsOf m0, H15 t = some (.tup [.str (kfOf m0 t), vfOf xs m0 t]) := fun t ht => D15.fr _ _ (npm t ht) (its t ht)
    have hu6 : us.length = 6 := pu.length_eq
    have pn : (us.map (kfOf m0)).Perm names22 := by
      have := pu.map (kfOf m0)
      rw [kf_map] at this
      exact this
    refine ⟨_, rfl, by show 5 ≤ sizeLine; decide, fun p1 hp1 => ?_⟩
    have D16 := (D14.trans D15).new (o := HO.lst [V.int 2, V.int 0, V.int 1, V.int 3, V.int 6]) hp1
    have E16 := (Drawn.of D15.bag).new (o := HO.lst [V.int 2, V.int 0, V.int 1, V.int 3, V.int 6]) hp1
    refine ⟨g, _, c, e, rfl, D16.bag, .inl ⟨p1, _, rfl, .inl (SqL.of upd_same), D15.bag.ne_new hp1, by show 0 < 5; decide, by show 5 < 1000; decide, fun v H17 hv D17 => ?_⟩⟩
    have hv : ∃ n : Nat, v = .int (n : Int) ∧ n ≤ 6 := by
      simp only [List.mem_cons, List.not_mem_nil, or_false] at hv
      rcases hv with rfl | rfl | rfl | rfl | rfl
      · exact ⟨2, rfl, by decide⟩
      · exact ⟨0, rfl, by decide⟩
      · exact ⟨1, rfl, by decide⟩
      · exact ⟨3, rfl, by decide⟩
      · exact ⟨6, rfl, by decide⟩
    obtain ⟨n, rfl, n6⟩ := hv
    have E17 := E16.trans D17
    have A17 := D16.trans D17
    refine ⟨_, rfl, q, us.map V.ref, rfl, SqL.of (E17.fr _ _ nq q15), fun r hr => ?_⟩
    rw [cut_to (us.map V.ref) (j := n) (by rw [List.length_map, hu6]; exact n6), ← List.map_take]
    have t18 := same_new (o := HO.lst ((us.take n).map V.ref)) hr
    have sub : ∀ t ∈ us.take n, t ∈ tsOf m0 := fun t ht => pu.mem_iff.mp (List.mem_of_mem_take ht)
    refine ⟨r, us.take n, ((us.take n).map (kfOf m0)).map (G22 xs), rfl, SqL.of upd_same, prs_of (fun t ht => t18 _ _ (E17.fr _ _ (npm t ht) (its t ht))) _ sub, fun p hp => ?_⟩
    have nd : ((us.take n).map (kfOf m0)).Nodup := by
      have h1 : (us.map (kfOf m0)).Nodup := pn.nodup_iff.mpr (by decide +kernel)
      rw [List.map_take]
      exact h1.sublist (List.take_sublist _ _)
    rw [G_merge _ _ nd]
    have D18 := A17.trans (Drawn.same A17.bag t18)
    have np := D18.bag.ne_new hp
    have D19 := D18.new (o := HO.dK (((us.take n).map (kfOf m0)).map (G22 xs))) hp
    refine k p xs ds ((us.take n).map (kfOf m0)) _ D19 np ?_ upd_same nd (fun m hm => ?_) ?_ Z15.ok l6
    · cases e : H p with
      | none => rfl
      | some o =>
        have := D18.fr _ _ np e
        rw [hp] at this
        cases this
    · obtain ⟨t, ht, rfl⟩ := List.mem_map.mp hm
      exact pn.mem_iff.mp (List.mem_map_of_mem (List.mem_of_mem_take ht))
    · exact DxAll.same (hid_fr (((E17.trans (Drawn.same E17.bag t18)).new (o := HO.dK (((us.take n).map (kfOf m0)).map (G22 xs))) hp).fr)) Z15.dx

theorem lay_new (val : Str → V) {ys : List Str} (nd : ys.Nodup) : mergeK [] (lay val ys) = lay val ys := by
  have keys : ((lay val ys).map (·.1)).Nodup := by
    rw [lay_keys]
    exact List.Pairwise.map _ (fun a b n e => n (Sum.inr.inj e)) nd
  have := merge_new (more := lay val ys) (kvs := []) (by rw [List.nil_append]; exact keys)
  rw [List.nil_append] at this
  exact this
theorem prd_right {α β : Type} {R R' : α → β → Prop} {xs : List α} {ys : List β} (p : Paired R xs ys) : (∀ y ∈ ys, ∀ x, R x y → R' x y) → Paired R' xs ys := by
  induction p with
  | nil => exact fun _ => .nil
  | cons a _ ih => exact fun h => .cons (h _ List.mem_cons_self _ a) (ih fun y hy => h y (List.mem_cons_of_mem _ hy))
theorem seq_hid {H : Hp} {b : Addr} (n : NoTup H b) {a : Addr} {xs : List V} (h : SqT K H a xs) : SqT K (hid b H) a xs := by
  rcases h with h | h
  · have ne : a ≠ b := fun e => by
      subst e
      rcases h with h | ⟨w, h⟩
      · exact (n xs).1 h
      · exact (n xs).2 w h
    refine .inl ?_
    unfold Rd at h ⊢
    rwa [hid_ne ne]
  · exact .inr h
theorem strs_dx1 {H H' : Hp} : ∀ {zs : List Str} {xs : List V}, DxAll K H xs (zs.map .str) → DxAll K H' xs (zs.map .str)
  | [], _, h => by
    cases h
    exact .nil
  | z :: zs, _, h => by
    cases h with
    | cons a b =>
      cases a
      exact .cons (.str z) (strs_dx1 b)
theorem flat_hid1 {H : Hp} {b : Addr} {v : V} {d : PyData} (n : NoTup H b) (f : FlatD d) (h : Dx K H v d) : Dx K (hid b H) v d := by
  rcases f with ⟨i, rfl⟩ | ⟨s, rfl⟩ | ⟨zs, rfl⟩
  · cases h
    exact .int i
  · cases h
    exact .str s
  · cases h with
    | tup h1 h2 => exact .tup (seq_hid n h1) (strs_dx1 h2)
theorem flats_hid1 {H : Hp} {b : Addr} (n : NoTup H b) : ∀ {ds : List PyData} {xs : List V}, DxAll K H xs ds → (∀ d ∈ ds, FlatD d) → DxAll K (hid b H) xs ds
  | [], _, h, _ => by
    cases h
    exact .nil
  | d :: ds, _, h, f => by
    cases h with
    | cons a r => exact .cons (flat_hid1 n (f d List.mem_cons_self) a) (flats_hid1 n r fun d hd => f d (List.mem_cons_of_mem _ hd))
theorem StyD.flat {ds : List PyData} (h : StyD ds) : ∀ d ∈ ds, FlatD d := by
  obtain ⟨w, s, b, rs, o, l, rfl, _⟩ := h
  intro d hd
  simp only [List.mem_cons, List.not_mem_nil, or_false] at hd
  rcases hd with rfl | rfl | rfl | rfl | rfl | rfl
  · exact .inl ⟨_, rfl⟩
  · exact .inl ⟨_, rfl⟩
  · exact .inl ⟨_, rfl⟩
  · exact .inr (.inr ⟨_, rfl⟩)
  · exact .inr (.inl ⟨_, rfl⟩)
  · exact .inr (.inl ⟨_, rfl⟩)
/-- a drawn layer -/
structure LayD (K : PySem.W.Frag) (H : Hp) (a : Addr) : Prop where
  ex : ∃ (xs : List V) (ds : List PyData) (ns : List Str), H a = some (.dK (lay (stV xs) ns)) ∧ ns.Nodup ∧ (∀ n ∈ ns, n ∈ names22) ∧ DxAll K H xs ds ∧ StyD ds ∧ xs.length = 6
theorem LayD.mono {H H' : Hp} {a : Addr} (L : LayD K H a) (s : Same H H') : LayD K H' a := by
  obtain ⟨xs, ds, ns, h1, h2, h3, h4, h5⟩ := L.ex
  exact ⟨xs, ds, ns, s _ _ h1, h2, h3, DxAll.same s h4, h5⟩
theorem strs_perm {ys : List V} {zs : List Str} (p : ys.Perm (zs.map V.str)) : ∃ us : List Str, ys = us.map V.str ∧ us.Perm zs := by
  have all : ∀ y ∈ ys, ∃ z, y = V.str z := fun y hy => by
    obtain ⟨z, _, e⟩ := List.mem_map.mp (p.mem_iff.mp hy)
    exact ⟨z, e.symm⟩
  have form : ∀ ys : List V, (∀ y ∈ ys, ∃ z, y = V.str z) → ∃ us : List Str, ys = us.map V.str := fun ys => by
    induction ys with
    | nil => exact fun _ => ⟨[], rfl⟩
    | cons y r ih =>
      intro h
      obtain ⟨z, rfl⟩ := h y List.mem_cons_self
      obtain ⟨l, rfl⟩ := ih fun y hy => h y (List.mem_cons_of_mem _ hy)
      exact ⟨z :: l, rfl⟩
  obtain ⟨us, rfl⟩ := form ys all
  refine ⟨us, rfl, ?_⟩
  have := p.map fun v : V => match v with | .str z => z | _ => ""
  simpa [List.map_map, Function.comp_def] using this
def spFolders (K : PySem.W.Frag) : Sp := fun vs H Q _ => ∃ (g : Bg), vs = [.ref g.b] ∧ Bag H g 0 0 ∧ ∀ (p : Addr) (fs : List Str) (lv : Str → V) (H' : Hp), Drawn g H H' 0 0 → p ≠ g.b → H p = none → H' p = some (.dK (lay lv fs)) → FoldIn fs → fs.length ≤ 6 →
  (∀ f ∈ fs, ∃ a, lv f = .ref a ∧ a ≠ g.b ∧ H a = none ∧ LayD K (hid g.b H') a) → Q (.ref p) H'
theorem c_l_folders (T : Txt K mg w) (c_l_layer : Cal P w K mg base 4 "_law_layer" (spLayer K) []) (c_l_mixed : Cal P w K mg base 2 "_law_mixed" (spMixed K) []) (c_l_one : Cal P w K mg base 2 "_law_one" (spOne K) []) : Cal P w K mg base 5 "_law_folders" (spFolders K) [] := by
  refine calOf T.d_l_folders sc_l_folders (fun vs H Q E h => ?_) (fun f cdv A outer s H vs Q E hr h => ?_)
  · obtain ⟨g, rfl, _⟩ := h
    rfl
  · obtain ⟨g, rfl, B, k⟩ := h
    have hu := u1 hr
    refine ⟨_,
      (pss_cons (ps_set (i := 1) sc_l_folders.nd rfl (Or.inl rfl) (pe_lst (pa_cons pe_str (pa_cons pe_str (pa_cons pe_str (pa_cons pe_str (pa_cons pe_str (pa_cons pe_str (pa_cons pe_str (pa_cons pe_str (pa_cons pe_str (pa_cons pe_str pa_nil))))))))))))
        (pss_one (ps_ret (pe_callTy (call_dictP rfl) (by rfl) T.n_dict (by decide +kernel) (pa_cons (pe_lc (own := [("_law_folder", 2)]) (g := gName 2) (tt := tYes) rfl sc_l_folders.nd (pi_list (pe_slice sl_list (pe_c c_l_mixed hr (by first | decide | omega) rfl (pa_cons (pv 0) (pa_cons (pv 1) pa_nil))) po_none (po_some (pe_c c_l_one hr (by first | decide | omega) rfl (pa_cons (pv 0) (pa_cons (pe_lst (pa_cons pe_int (pa_cons pe_int (pa_cons pe_int (pa_cons pe_int pa_nil))))) pa_nil)))))) (blkOk_by (N := ["_law_bag_here", "_law_some", "_law_folder"]) (sc := defScope s_l_folders) (by decide +kernel)) (fun _ _ _ _ _ => pg_name (i := 2) sc_l_folders.nd rfl (Or.inl rfl)) (fun _ _ _ _ _ => pts_nil) (fun _ _ _ _ _ => (pe_tup (pa_cons (pv 2) (pa_cons (pe_c c_l_layer hr (by first | decide | omega) rfl (pa_cons (pv 0) pa_nil)) pa_nil))))) pa_nil)))))
      , ?_⟩
    refine ⟨by show 10 ≤ sizeLine; decide, fun pz hpz => ?_⟩
    have D1 := (Drawn.of B).new (o := HO.lst (fold25.map V.str)) hpz
    have q1 : (upd H pz (HO.lst (fold25.map V.str))) pz = _ := upd_same
    refine ⟨_, rfl, _, rfl, g, pz, fold25.map V.str, 0, 0, rfl, D1.bag, .inl (SqL.of q1), B.ne_new hpz, by show 10 ≤ 100; decide, fun q ys H2 pm hq q2 D2 => ?_⟩
    obtain ⟨us, rfl, pu⟩ := strs_perm pm
    have D12 := D1.trans D2
    have nq := D1.bag.ne_new hq
    have lu : us.length = 10 := pu.length_eq
    refine ⟨_, rfl, by show 4 ≤ sizeLine; decide, fun p1 hp1 => ?_⟩
    have D13 := D12.new (o := HO.lst [V.int 4, V.int 6, V.int 2, V.int 0]) hp1
    have E13 := (Drawn.of D2.bag).new (o := HO.lst [V.int 4, V.int 6, V.int 2, V.int 0]) hp1
    refine ⟨g, _, 0, 0, rfl, D13.bag, .inl ⟨p1, _, rfl, .inl (SqL.of upd_same), D2.bag.ne_new hp1, by show 0 < 4; decide, by show 4 < 1000; decide, fun v H4 hv D4 => ?_⟩⟩
    have hv : ∃ n : Nat, v = .int (n : Int) ∧ n ≤ 6 := by
      simp only [List.mem_cons, List.not_mem_nil, or_false] at hv
      rcases hv with rfl | rfl | rfl | rfl
      · exact ⟨4, rfl, by decide⟩
      · exact ⟨6, rfl, by decide⟩
      · exact ⟨2, rfl, by decide⟩
      · exact ⟨0, rfl, by decide⟩
    obtain ⟨n, rfl, n6⟩ := hv
    refine ⟨_, rfl, q, us.map V.str, rfl, SqL.of ((E13.trans D4).fr _ _ nq q2), fun r hr => ?_⟩
    rw [cut_to (us.map V.str) (j := n) (by rw [List.length_map, lu]; omega), ← List.map_take]
    have D5 := (D13.trans D4).new (o := HO.lst ((us.take n).map V.str)) hr
    have q5 : (upd H4 r (HO.lst ((us.take n).map V.str))) r = _ := upd_same
    have FI : FoldIn (us.take n) := ⟨(pu.nodup_iff.mpr (by decide)).sublist (List.take_sublist _ _), fun f hf => pu.mem_iff.mp (List.mem_of_mem_take hf)⟩
    have l6 : (us.take n).length ≤ 6 := by
      rw [List.length_take]
      omega
    have nr := (D13.trans D4).bag.ne_new hr
    clear hq q2 D2 E13 D12 D1 q1 hpz hp1 D4
    generalize us.take n = fs at D5 q5 FI l6 ⊢
    generalize upd H4 r (HO.lst (fs.map V.str)) = H5 at D5 q5 ⊢
    refine ⟨r, rfl, ⟨_, SqL.of q5⟩, fun D hD => ?_⟩
    have nD := D5.bag.ne_new hD
    have nrD : r ≠ D := fun z => by rw [z, hD] at q5; cases q5
    refine lc_it (walk_list (K := K) (a := r) (xs := fs.map V.str)) (fun i H' => ∃ (ts : List Addr) (lv : Str → V), H' D = some (.lst (ts.map V.ref)) ∧ Drawn g H5 H' 0 0 ∧ Paired (fun t f => hid D (hid g.b H') t = some (.tup [.str f, lv f]) ∧ ∃ a, lv f = .ref a ∧ a ≠ g.b ∧ H a = none ∧ LayD K (hid D (hid g.b H')) a) ts (fs.take i))
      ⟨[], fun _ => .non, upd_same, (Drawn.of D5.bag).new hD, .nil⟩ (fun i H' _ ⟨_, _, _, h, _⟩ => SqL.of (h.fr _ _ nr q5)) ?_ ?_
    · rintro i x H6 H7 hi ⟨ts, lv, d6, D6, pr⟩ ⟨rfl, hx⟩
      rw [List.getElem?_map] at hx
      obtain ⟨fo, hf, rfl⟩ := Option.map_eq_some_iff.mp hx
      refine ⟨rfl, ?_⟩
      delta tYes
      refine iteT ?_
      refine ⟨_, rfl, _, rfl, g, 0, 0, rfl, D6.bag, fun p xs ds ns H8 D8 np hp q8 nd8 nn8 dx8 st8 l8 => ?_⟩
      have d8 := D8.fr _ _ nD d6
      have pD : p ≠ D := fun z => by rw [z, d6] at hp; cases hp
      have Hp0 : H p = none := by
        cases e : H p with
        | none => rfl
        | some o =>
          have := (D5.trans D6).fr _ _ np e
          rw [hp] at this
          cases this
      have nt : NoTup (hid g.b H8) D := NoTup.of (o := HO.lst (ts.map V.ref)) (by rw [hid_ne nD]; exact d8) ⟨(fun _ z => nomatch z), (fun _ _ z => nomatch z)⟩
      have L8 : LayD K (hid D (hid g.b H8)) p := ⟨xs, ds, ns, by rw [hid_ne pD, hid_ne np]; exact q8, nd8, nn8, flats_hid1 nt dx8 st8.flat, st8, l8⟩
      have s68 : Same (hid D (hid g.b _)) (hid D (hid g.b H8)) := hid_fr fun a o _ e => hid_fr D8.fr a o e
      refine ⟨by show 2 ≤ sizeLine; decide, fun t ht => ?_⟩
      have d9 := upd_some (u := HO.tup [.str fo, .ref p]) d8 ht
      have D9 := (D6.trans D8).new (o := HO.tup [V.str fo, V.ref p]) ht
      have tb := D8.bag.ne_new ht
      have tD : t ≠ D := fun z => by rw [z, d8] at ht; cases ht
      have t9 : (upd H8 t (HO.tup [V.str fo, V.ref p])) t = some (.tup [.str fo, .ref p]) := upd_same
      have s89 : Same (hid D (hid g.b H8)) (hid D (hid g.b (upd H8 t (HO.tup [V.str fo, V.ref p])))) := hid_fr fun a o _ e => hid_up ht a o e
      generalize upd H8 t (HO.tup [V.str fo, V.ref p]) = H9 at d9 D9 t9 s89 ⊢
      have s90 : ∀ u : HO, Same (hid D (hid g.b H9)) (hid D (hid g.b (upd H9 D u))) := fun u a o e => by
        by_cases n : a = D
        · rw [n] at e
          exact absurd e (by unfold hid; rw [if_pos rfl]; exact fun z => nomatch z)
        · rw [hid_ne n] at e ⊢
          by_cases m : a = g.b
          · rw [m] at e
            exact absurd e (by unfold hid; rw [if_pos rfl]; exact fun z => nomatch z)
          · rw [hid_ne m] at e ⊢
            rw [upd_ne n]
            exact e
      have et : fs.take (i + 1) = fs.take i ++ [fo] := by
        rw [List.take_add_one, hf]
        rfl
      have nin : ∀ f ∈ fs.take i, f ≠ fo := fun f hm z => by
        have nd := FI.nd.sublist (List.take_sublist (i + 1) fs)
        rw [et, List.nodup_append] at nd
        exact nd.2.2 f hm fo (by simp) z
      have all := (s68.trans s89).trans (s90 (HO.lst (ts.map V.ref ++ [V.ref t])))
      refine ⟨_, d9, ?_, ts ++ [t], fun x => if x = fo then .ref p else lv x, ?_, D9.put D5.bag hD, ?_⟩
      · rw [List.length_map, pr.length, List.length_take]
        exact Nat.lt_of_le_of_lt (show _ ≤ 6 by omega) (by decide)
      · rw [upd_same, List.map_append]
        rfl
      · rw [et]
        refine Paired.snoc (prd_right pr fun f hm t ⟨h1, a, h2, h3, h4, h5⟩ => ?_) ⟨?_, p, if_pos rfl, np, Hp0, (L8.mono s89).mono (s90 _)⟩
        · dsimp only
          rw [if_neg (nin f hm)]
          exact ⟨all _ _ h1, a, h2, h3, h4, h5.mono all⟩
        · refine s90 _ _ _ ?_
          rw [hid_ne tD, hid_ne tb, t9]
          dsimp only
          rw [if_pos rfl]
    · rintro H6 ⟨ts, lv, d6, D6, pr⟩
      rw [List.length_map, List.take_length] at pr
      have lt : ts.length = fs.length := pr.length
      refine ⟨D, ts, lay lv fs, rfl, SqL.of d6, ?_, fun p hp => ?_⟩
      · unfold lay
        have go : ∀ {ts : List Addr} {fs : List Str}, Paired (fun t f => hid D (hid g.b H6) t = some (.tup [.str f, lv f]) ∧ ∃ a, lv f = .ref a ∧ a ≠ g.b ∧ H a = none ∧ LayD K (hid D (hid g.b H6)) a) ts fs → Paired (fun p (kv : Key × V) => SqT K H6 p [kV kv.1, kv.2]) ts (fs.map fun n => ((.inr n : Key), lv n)) := fun h => by
          induction h with
          | nil => exact .nil
          | cons a _ ih => exact .cons (SqT.of (hid_same _ _ _ _ (hid_same _ _ _ _ a.1))) ih
        exact go pr
      · rw [lay_new _ FI.nd]
        have DD := D5.trans D6
        have np := D6.bag.ne_new hp
        refine k p fs lv _ (DD.new hp) np ?_ upd_same FI l6 fun f hm => ?_
        · cases e : H p with
          | none => rfl
          | some o =>
            have := DD.fr _ _ np e
            rw [hp] at this
            cases this
        · obtain ⟨j, hj⟩ := List.mem_iff_getElem?.mp hm
          have hl : j < ts.length := by
            rw [lt]
            exact (List.getElem?_eq_some_iff.mp hj).1
          obtain ⟨f', e1, _, a, h2, h3, h4, h5⟩ := pget1 pr (List.getElem?_eq_getElem hl)
          rw [hj] at e1
          cases e1
          exact ⟨a, h2, h3, h4, (h5.mono (hid_same _ _)).mono (hid_up hp)⟩

/-! what is drawn, as the defs of the program want it -/
def dsF (ds : List PyData) (n : Str) : PyData := ds.getD (at22 n) .none
theorem dxall_at {H : Hp} : ∀ {xs : List V} {ds : List PyData}, DxAll K H xs ds → ∀ i, i < xs.length → Dx K H (xs.getD i .non) (ds.getD i .none)
  | [], _, _, i, h => absurd h (Nat.not_lt_zero i)
  | x :: xs, _, h, i, hi => by
    cases h with
    | cons a b =>
      cases i with
      | zero => exact a
      | succ i => exact dxall_at b i (Nat.lt_of_succ_lt_succ hi)
theorem at22_lt : ∀ n ∈ names22, at22 n < 6 := by decide
theorem styd_six {ds : List PyData} (h : StyD ds) : names22.map (dsF ds) = ds ∧ ds.length = 6 := by
  obtain ⟨w, s, b, rs, o, l, rfl, _⟩ := h
  exact ⟨rfl, rfl⟩
theorem styd_flat {ds : List PyData} (h : StyD ds) : FlatS (dsF ds) := fun n hn => by
  have l := at22_lt n hn
  have e := (styd_six h).2
  refine h.flat _ ?_
  unfold dsF
  rw [List.getD_eq_getElem?_getD, List.getElem?_eq_getElem (by omega)]
  exact List.getElem_mem _
theorem Sty.at25 {H : Hp} {a b : Addr} {xs : List V} {ds : List PyData} (S : Sty K b H a xs ds) : StyAt K (hid b H) a (dsF ds) :=
  ⟨xs, S.at', S.len, by rw [(styd_six S.ok).1]; exact S.dx⟩
theorem LayD.lay {H : Hp} {a : Addr} (L : LayD K H a) : ∃ st : RSt, LayM K H a st ∧ ∀ n ∈ st.2, FlatD (st.1 n) := by
  obtain ⟨xs, ds, ns, h1, h2, h3, h4, h5, h6⟩ := L.ex
  refine ⟨(dsF ds, ns), ⟨stV xs, ns, h1, (ord_perm h2 h3).symm, fun n hn => ?_⟩, fun n hn => styd_flat h5 n (h3 n hn)⟩
  exact dxall_at h4 _ (by rw [h6]; exact at22_lt n (h3 n hn))
/-- the dict of folders, as layers_for wants it -/
theorem layers_of {H : Hp} {d b : Addr} {fs : List Str} {lv : Str → V} (hd : H d = some (.dK (lay lv fs))) (nd : d ≠ b) (h : ∀ f ∈ fs, ∃ a, lv f = .ref a ∧ LayD K (hid b H) a) :
    ∃ stf : Str → RSt, LayersOf K (hid b H) d fs stf ∧ ∀ f ∈ fs, ∀ n ∈ (stf f).2, FlatD ((stf f).1 n) := by
  have ex : ∀ f : Str, ∃ st : RSt, f ∈ fs → (∃ a, lv f = .ref a ∧ LayM K (hid b H) a st) ∧ ∀ n ∈ st.2, FlatD (st.1 n) := fun f => by
    by_cases m : f ∈ fs
    · obtain ⟨a, e, L⟩ := h f m
      obtain ⟨st, h1, h2⟩ := L.lay
      exact ⟨st, fun _ => ⟨⟨a, e, h1⟩, h2⟩⟩
    · exact ⟨(fun _ => .none, []), fun z => absurd z m⟩
  exact ⟨fun f => (ex f).choose, ⟨lv, by rw [hid_ne nd]; exact hd, fun f hf => ((ex f).choose_spec hf).1⟩, fun f hf => ((ex f).choose_spec hf).2⟩

/-! facts for the law: sizes, the folders by length, the groups in order -/
theorem okx_of {n M : Nat} {d : PyData} (h : SzX n M d) (a : n ≤ 60) (b : M ≤ 16000000) : OkX d := ⟨h.tm, Nat.le_trans h.dp a, Nat.le_trans h.wz b⟩
abbrev GdV (d : PyData) : Prop := SzX 2 1000 d
theorem styd_gd {ds : List PyData} (h : StyD ds) (n : Str) : GdV (dsF ds n) := by
  show SzX 2 1000 (ds.getD (at22 n) .none)
  by_cases hi : at22 n < ds.length
  · rw [List.getD_eq_getElem?_getD, List.getElem?_eq_getElem hi]
    have e : ds = ds.take (at22 n) ++ ds[at22 n] :: ds.drop (at22 n + 1) := by rw [← List.drop_eq_getElem_cons hi, List.take_append_drop]
    have z := h.szl
    rw [e] at z
    obtain ⟨A, B, C, _, b, _, l⟩ := SzL.at z
    exact b.mono (Nat.le_refl _) (by omega)
  · rw [List.getD_eq_getElem?_getD, List.getElem?_eq_none (by omega)]
    exact ⟨rfl, Nat.zero_le _, by show 4 ≤ 1000; decide⟩
theorem sz_entries {dv : Str → PyData} {ys : List Str} (h : ∀ n ∈ ys, n ∈ names22 ∧ GdV (dv n)) (l : ys.length ≤ 6) : SzX 3 7000 (.dict (ys.map fun n => (.str n, dv n))) := by
  obtain ⟨a, b, c⟩ := SzX.dic (n := 2) (M := 1100) (l := ys.map fun n => (PyData.str n, dv n)) fun p hp => by
    obtain ⟨n, hn, rfl⟩ := List.mem_map.mp hp
    obtain ⟨m, g⟩ := h n hn
    obtain ⟨q1, q2⟩ := names_sz n m
    exact ⟨q1, g.tm, Nat.zero_le _, g.dp, by have := g.wz; show wtx (PyData.str n) + wtx (dv n) ≤ 1100; omega⟩
  rw [List.length_map] at c
  refine ⟨a, Nat.succ_le_succ b, ?_⟩
  show wtxKv _ + 4 ≤ 7000
  have : ys.length * (1100 + 4) ≤ 6 * 1104 := Nat.mul_le_mul_right _ l
  omega
theorem szl_gd {dv : Str → PyData} : ∀ {ns : List Str}, (∀ n ∈ ns, GdV (dv n)) → SzL 2 (ns.length * 1002) (ns.map dv)
  | [], _ => by
    show SzL 2 (0 * 1002) []
    rw [Nat.zero_mul]
    exact SzL.nil
  | n :: r, h => by
    have := SzL.cons (h n List.mem_cons_self) (szl_gd (ns := r) fun m hm => h m (List.mem_cons_of_mem _ hm))
    refine this.mono (Nat.le_refl _) ?_
    rw [List.length_cons, Nat.add_mul, Nat.one_mul]
    omega
theorem ok_sty {dv : Str → PyData} (h : ∀ n ∈ names22, GdV (dv n)) : OkX (.tuple (names22.map dv)) := okx_of (SzX.tup (szl_gd h)) (by decide) (by decide)
theorem finS_gd {stf : Str → RSt} : ∀ (L : List Str) (dS : Str → PyData), (∀ f ∈ L, ∀ n ∈ (stf f).2, GdV ((stf f).1 n)) → (∀ n ∈ names22, GdV (dS n)) → ∀ n ∈ names22, GdV (finS dS stf L n)
  | [], _, _, h => h
  | f :: r, dS, hL, h => by
    show ∀ n ∈ names22, GdV (finS (stepS stf dS f) stf r n)
    refine finS_gd r _ (fun g hg => hL g (List.mem_cons_of_mem _ hg)) fun n hn => ?_
    show GdV (if n ∈ (stf f).2 then (stf f).1 n else dS n)
    by_cases c : n ∈ (stf f).2
    · rw [if_pos c]
      exact hL f List.mem_cons_self n c
    · rw [if_neg c]
      exact h n hn
/-- what is asked of the drawn layers' values -/
structure LvOk (fs : List Str) (stf : Str → RSt) : Prop where
  fl : ∀ f ∈ fs, ∀ n ∈ (stf f).2, FlatD ((stf f).1 n)
  gd : ∀ f ∈ fs, ∀ n ∈ (stf f).2, GdV ((stf f).1 n)
theorem layers_of2 {H : Hp} {d b : Addr} {fs : List Str} {lv : Str → V} (hd : H d = some (.dK (lay lv fs))) (nd : d ≠ b) (h : ∀ f ∈ fs, ∃ a, lv f = .ref a ∧ LayD K (hid b H) a) :
    ∃ stf : Str → RSt, LayersOf K (hid b H) d fs stf ∧ LvOk fs stf := by
  have ex : ∀ f : Str, ∃ st : RSt, f ∈ fs → (∃ a, lv f = .ref a ∧ LayM K (hid b H) a st) ∧ (∀ n ∈ st.2, FlatD (st.1 n)) ∧ ∀ n ∈ st.2, GdV (st.1 n) := fun f => by
    by_cases m : f ∈ fs
    · obtain ⟨a, e, L⟩ := h f m
      obtain ⟨xs, ds, ns, h1, h2, h3, h4, h5, h6⟩ := L.ex
      refine ⟨(dsF ds, ns), fun _ => ⟨⟨a, e, ⟨stV xs, ns, h1, (ord_perm h2 h3).symm, fun n hn => ?_⟩⟩, fun n hn => styd_flat h5 n (h3 n hn), fun n _ => styd_gd h5 n⟩⟩
      exact dxall_at h4 _ (by rw [h6]; exact at22_lt n (h3 n hn))
    · exact ⟨(fun _ => .none, []), fun z => absurd z m⟩
  exact ⟨fun f => (ex f).choose, ⟨lv, by rw [hid_ne nd]; exact hd, fun f hf => ((ex f).choose_spec hf).1⟩, ⟨fun f hf => ((ex f).choose_spec hf).2.1, fun f hf => ((ex f).choose_spec hf).2.2⟩⟩
theorem fold_sz : ∀ f ∈ fold25, tmx (.str f) = true ∧ wtx (.str f) ≤ 100 := by decide +kernel
theorem path_sz : ∀ p ∈ paths25, tmx (.str p) = true ∧ wtx (.str p) ≤ 200 := by decide +kernel
/-- the dict of layers is data of some kind -/
theorem layers_any {H : Hp} {d : Addr} {fs : List Str} {stf : Str → RSt} (L : LayersOf K H d fs stf) (FI : FoldIn fs) (ok : LvOk fs stf) : ∃ D : PyData, Dx K H (.ref d) D ∧ OkX D := by
  obtain ⟨lv, h1, h2⟩ := L.ex
  have ex : ∀ f : Str, ∃ D : PyData, f ∈ fs → Dx K H (lv f) D ∧ SzX 3 7000 D := fun f => by
    by_cases m : f ∈ fs
    · obtain ⟨a, e, M⟩ := h2 f m
      obtain ⟨val, ns, g1, g2, g3⟩ := M.ex
      refine ⟨.dict (ns.map fun n => (.str n, (stf f).1 n)), fun _ => ⟨?_, sz_entries (fun n hn => ?_) ?_⟩⟩
      · rw [e]
        exact lay_dx g1 (g2.nodup_iff.mpr (ordN_nd _)) g3
      · have mo := g2.mem_iff.mp hn
        exact ⟨ordN_names mo, ok.gd f m n (of_decide_eq_true (List.mem_filter.mp mo).2)⟩
      · rw [g2.length_eq]
        exact ordN_len _
    · exact ⟨.none, fun z => absurd z m⟩
  refine ⟨.dict (fs.map fun f => (.str f, (ex f).choose)), lay_dx h1 FI.nd fun f hf => ((ex f).choose_spec hf).1, ?_⟩
  obtain ⟨a, b, c⟩ := SzX.dic (n := 3) (M := 7100) (l := fs.map fun f => (PyData.str f, (ex f).choose)) fun p hp => by
    obtain ⟨f, hf, rfl⟩ := List.mem_map.mp hp
    obtain ⟨q1, q2⟩ := fold_sz f (FI.ns f hf)
    have g := ((ex f).choose_spec hf).2
    exact ⟨q1, g.tm, Nat.zero_le _, g.dp, by have := g.wz; show wtx (PyData.str f) + wtx ((ex f).choose) ≤ 7100; omega⟩
  rw [List.length_map] at c
  have l10 := FI.len
  have : fs.length * (7100 + 4) ≤ 10 * 7104 := Nat.mul_le_mul_right _ l10
  refine ⟨a, Nat.succ_le_succ (Nat.le_trans b (by decide)), ?_⟩
  show wtxKv _ + 4 ≤ 16000000
  omega
/-- folders with their layers, told -/
def TupL (K : PySem.W.Frag) (stf : Str → RSt) (H : Hp) (q : Addr) (f : Str) : Prop := ∃ a, H q = some (.tup [.str f, .ref a]) ∧ LayAt K H a (stf f)
def toldD (stf : Str → RSt) (zs : List Str) : PyData := .list (zs.map fun f => .tuple [.str f, layD (stf f)])
theorem told_dx {H : Hp} {r : Addr} {stf : Str → RSt} {qs : List Addr} {zs : List Str} (h : H r = some (.lst (qs.map V.ref))) (p : Paired (TupL K stf H) qs zs) : Dx K H (.ref r) (toldD stf zs) := by
  refine .lst (SqL.of h) ?_
  have go : ∀ {qs : List Addr} {zs : List Str}, Paired (TupL K stf H) qs zs → DxAll K H (qs.map V.ref) (zs.map fun f => .tuple [.str f, layD (stf f)]) := fun {qs zs} h => by
    induction h with
    | nil => exact .nil
    | cons a _ ih =>
      obtain ⟨b, h1, ⟨val, h2, h3⟩⟩ := a
      exact .cons (.tup (SqT.of h1) (.cons (.str _) (.cons (lay_dx h2 (ordN_nd _) h3) .nil))) ih
  exact go p
theorem szl_told {stf : Str → RSt} : ∀ {zs : List Str}, (∀ f ∈ zs, f ∈ fold25) → (∀ f ∈ zs, ∀ n ∈ (stf f).2, GdV ((stf f).1 n)) → SzL 4 (zs.length * 7200) (zs.map fun f => .tuple [.str f, layD (stf f)])
  | [], _, _ => by
    show SzL 4 (0 * 7200) []
    rw [Nat.zero_mul]
    exact SzL.nil
  | f :: r, h, g => by
    obtain ⟨q1, q2⟩ := fold_sz f (h f List.mem_cons_self)
    have L : SzX 3 7000 (layD (stf f)) := sz_entries (fun n hn => ⟨ordN_names hn, g f List.mem_cons_self n (of_decide_eq_true (List.mem_filter.mp hn).2)⟩) (ordN_len _)
    have t : SzX 4 7150 (.tuple [.str f, layD (stf f)]) := (SzX.tup (SzL.cons (n := 3) (M := 100) ⟨q1, Nat.zero_le _, q2⟩ (SzL.cons L (SzL.nil (M := 0))))).mono (Nat.le_refl _) (by decide)
    refine (SzL.cons t (szl_told (zs := r) (fun x hx => h x (List.mem_cons_of_mem _ hx)) fun x hx => g x (List.mem_cons_of_mem _ hx))).mono (Nat.le_refl _) ?_
    rw [List.length_cons, Nat.add_mul, Nat.one_mul]
    omega
theorem ok_told {fs : List Str} {p : Str} {stf : Str → RSt} (FI : FoldIn fs) (ok : LvOk fs stf) : OkX (toldD stf (forF fs p)) := by
  have l := forF_len fs p
  have s := SzX.lst (szl_told (stf := stf) (zs := forF fs p) (fun f hf => FI.ns f (forF_sub hf)) fun f hf => ok.gd f (forF_sub hf))
  refine okx_of (s.mono (Nat.le_refl _) (?_ : _ ≤ 80000)) (by decide) (by decide)
  have : (forF fs p).length * 7200 ≤ 10 * 7200 := Nat.mul_le_mul_right _ l
  omega
/-! the folders by their length -/
def ln25 : List Str := ["", "a", "b_1", "lib", "old", "a/lib", "lib/ol", "lib/old", "library", "lib/old/a"]
def leF (a b : Str) : Bool := decide (ln25.idxOf a ≤ ln25.idxOf b)
def lnD (f : Str) : PyData := .tuple [.int (f.length : Nat), .str f]
theorem lnD_lt (a b : Str) : PySem.W.dataLt (lnD a) (lnD b) = if PyData.eqv (.int (a.length : Nat)) (.int (b.length : Nat)) = true then (if PyData.eqv (.str a) (.str b) = true then false else ltS a b) else decide (((a.length : Nat) : Int) < ((b.length : Nat) : Int)) := by
  unfold lnD
  rw [PySem.W.dataLt_pair (by simp [PySem.W.alike]) (by simp [PySem.W.alike]), PySem.W.dataLt_str, PySem.W.dataLt_int]
  rfl
def ltD (a b : Str) : Bool := if (a.length == b.length) then (if a == b then false else ltS a b) else decide (a.length < b.length)
theorem lnD_ltD (a b : Str) : PySem.W.dataLt (lnD a) (lnD b) = ltD a b := by
  rw [lnD_lt]
  unfold ltD
  have e1 : PyData.eqv (.int (a.length : Nat)) (.int (b.length : Nat)) = (a.length == b.length) := by
    rw [Bool.eq_iff_iff]
    simp [PyData.eqv]
    exact Int.ofNat_inj
  have e2 : PyData.eqv (.str a) (.str b) = (a == b) := by
    rw [Bool.eq_iff_iff]
    simp [PyData.eqv]
  have e3 : decide (((a.length : Nat) : Int) < ((b.length : Nat) : Int)) = decide (a.length < b.length) := decide_eq_decide.mpr Int.ofNat_lt
  rw [e1, e2, e3]
theorem le_tab : ∀ a ∈ fold25, ∀ b ∈ fold25, leF a b = !ltD b a := by
  have h : fold25.all (fun a => fold25.all fun b => leF a b == !ltD b a) = true := by decide +kernel
  intro a ha b hb
  exact beq_iff_eq.mp (List.all_eq_true.mp (List.all_eq_true.mp h a ha) b hb)
theorem le_data {a b : Str} (ha : a ∈ fold25) (hb : b ∈ fold25) : leF a b = PySem.W.dataLe false id (lnD a) (lnD b) := by
  rw [le_tab a ha b hb, PySem.W.dataLe_eq]
  show _ = !PySem.W.dataLt (lnD b) (lnD a)
  rw [lnD_ltD]
theorem app_ch : ∀ p ∈ paths25, (sf25.filter fun f => appB f p).Pairwise (fun a b => leF a b = true) := by
  have h : paths25.all (fun p => decide ((sf25.filter fun f => appB f p).Pairwise (fun a b => leF a b = true))) = true := by decide +kernel
  intro p hp
  exact of_decide_eq_true (List.all_eq_true.mp h p hp)
theorem idx_inj {a b : Str} (ha : a ∈ fold25) (hb : b ∈ fold25) (h1 : leF a b = true) (h2 : leF b a = true) : a = b := by
  have t : ∀ a ∈ fold25, ln25[ln25.idxOf a]? = some a := by decide +kernel
  have e : ln25.idxOf a = ln25.idxOf b := Nat.le_antisymm (of_decide_eq_true h1) (of_decide_eq_true h2)
  have x := t a ha
  rw [e, t b hb] at x
  exact (Option.some.inj x).symm
theorem pw_one {α : Type} {le : α → α → Bool} : ∀ {xs ys : List α}, xs.Perm ys → (∀ a ∈ xs, ∀ b ∈ xs, le a b = true → le b a = true → a = b) → xs.Pairwise (fun a b => le a b = true) → ys.Pairwise (fun a b => le a b = true) → xs = ys
  | [], ys, p, _, _, _ => (List.Perm.nil_eq p)
  | x :: xs, [], p, _, _, _ => absurd p.length_eq (by simp)
  | x :: xs, y :: ys, p, an, h1, h2 => by
    obtain ⟨a1, a2⟩ := List.pairwise_cons.mp h1
    obtain ⟨b1, b2⟩ := List.pairwise_cons.mp h2
    have e : x = y := by
      rcases List.mem_cons.mp (p.mem_iff.mpr (List.mem_cons_self (a := y) (l := ys))) with e | m
      · exact e.symm
      · rcases List.mem_cons.mp (p.mem_iff.mp (List.mem_cons_self (a := x) (l := xs))) with e | m2
        · exact e
        · exact an x List.mem_cons_self y (List.mem_cons_of_mem _ m) (a1 y m) (b1 x m2)
    subst e
    rw [pw_one (List.Perm.cons_inv p) (fun a ha b hb => an a (List.mem_cons_of_mem _ ha) b (List.mem_cons_of_mem _ hb)) a2 b2]
/-- sorted by (length, name) they are in the order of forF -/
theorem srt_for {fs : List Str} (FI : FoldIn fs) {p : Str} (hp : p ∈ paths25) : srtD ((fs.filter fun f => appB f p).map lnD) = (forF fs p).map lnD := by
  have pm := forF_perm FI p
  have mem : ∀ f ∈ fs.filter (fun f => appB f p), f ∈ fold25 := fun f hf => FI.ns f (List.mem_filter.mp hf).1
  generalize (fs.filter fun f => appB f p) = zs at pm mem ⊢
  unfold srtD
  rw [← List.map_mergeSort (r := leF) fun a ha b hb => le_data (mem a ha) (mem b hb)]
  have q := List.mergeSort_perm zs leF
  have e : zs.mergeSort leF = forF fs p := by
    refine pw_one (q.trans pm) (fun a ha b hb => idx_inj (mem a (q.mem_iff.mp ha)) (mem b (q.mem_iff.mp hb))) ?_ ((app_ch p hp).sublist ?_)
    · exact List.pairwise_mergeSort (fun a b c h1 h2 => by unfold leF at *; rw [decide_eq_true_eq] at *; omega) (fun a b => by unfold leF; rw [Bool.or_eq_true, decide_eq_true_eq, decide_eq_true_eq]; omega) zs
    · have : forF fs p = (sf25.filter fun f => appB f p).filter fun f => decide (f ∈ fs) := by
        unfold forF
        rw [List.filter_filter]
      rw [this]
      exact List.filter_sublist
  rw [e]
theorem ln_alike (zs : List Str) : PySem.W.AllAlike (zs.map lnD) ∧ PySem.W.Sortable (zs.map lnD) ∧ ∀ d ∈ zs.map lnD, d.depth ≤ 60 := by
  refine ⟨fun d hd d' hd' => ?_, .inl fun d hd => ?_, fun d hd => ?_⟩
  · obtain ⟨w, _, rfl⟩ := List.mem_map.mp hd
    obtain ⟨w', _, rfl⟩ := List.mem_map.mp hd'
    simp [lnD, PySem.W.alike, PySem.W.alikeAll]
  · obtain ⟨w, _, rfl⟩ := List.mem_map.mp hd
    exact ⟨_, _, rfl⟩
  · obtain ⟨w, _, rfl⟩ := List.mem_map.mp hd
    exact Nat.le_trans (show max 0 (max 0 0) + 1 ≤ 1 by decide) (by decide)

/-! the law's groups -/
theorem sp25_lt : sp25.Pairwise (fun x y => ltS x y = true) := by decide +kernel
theorem pathsOf_lt (ps : List Str) : (pathsOf ps).Pairwise (fun x y => ltS x y = true) := sp25_lt.sublist List.filter_sublist
def hdS (zs : List Str) : Str := zs.headD ""
structure GrOk (done : List Str) (gs : List (NestedKey × List Str)) : Prop where
  ne : ∀ g ∈ gs, g.2 ≠ []
  sub : ∀ g ∈ gs, ∀ x ∈ g.2, x ∈ done
  pw : gs.Pairwise (fun g h => ltS (hdS g.2) (hdS h.2) = true)
theorem hd_in {zs : List Str} (h : zs ≠ []) : hdS zs ∈ zs := by
  cases zs with
  | nil => exact absurd rfl h
  | cons x r => exact List.mem_cons_self
theorem hd_app {zs ws : List Str} (h : zs ≠ []) : hdS (zs ++ ws) = hdS zs := by
  cases zs with
  | nil => exact absurd rfl h
  | cons x r => rfl
theorem pw_map {α β : Type} {R : α → α → Prop} {R' : β → β → Prop} {f : α → β} : ∀ {l : List α}, l.Pairwise R → (∀ x ∈ l, ∀ y ∈ l, R x y → R' (f x) (f y)) → (l.map f).Pairwise R'
  | [], _, _ => .nil
  | x :: l, h, k => by
    obtain ⟨a, b⟩ := List.pairwise_cons.mp h
    refine List.pairwise_cons.mpr ⟨fun y hy => ?_, pw_map b fun u hu v hv => k u (List.mem_cons_of_mem _ hu) v (List.mem_cons_of_mem _ hv)⟩
    obtain ⟨z, hz, rfl⟩ := List.mem_map.mp hy
    exact k x List.mem_cons_self z (List.mem_cons_of_mem _ hz) (a z hz)
theorem GrOk.step {done : List Str} {gs : List (NestedKey × List Str)} {κ : Str → NestedKey} {p : Str} (G : GrOk done gs) (lt : ∀ x ∈ done, ltS x p = true) : GrOk (done ++ [p]) (grpStep κ gs p) := by
  unfold grpStep
  split
  · refine ⟨fun g hg => ?_, fun g hg x hx => ?_, pw_map G.pw fun g hg h hh r => ?_⟩
    · obtain ⟨y, hy, rfl⟩ := List.mem_map.mp hg
      have := G.ne y hy
      split
      · exact fun z => absurd (List.append_eq_nil_iff.mp z).2 (by simp)
      · exact this
    · obtain ⟨y, hy, rfl⟩ := List.mem_map.mp hg
      split at hx
      · rcases List.mem_append.mp hx with hx | hx
        · exact List.mem_append_left _ (G.sub y hy x hx)
        · exact List.mem_append_right _ hx
      · exact List.mem_append_left _ (G.sub y hy x hx)
    · have e : ∀ y ∈ gs, hdS (if y.1 = κ p then (y.1, y.2 ++ [p]) else y).2 = hdS y.2 := fun y hy => by
        split
        · exact hd_app (G.ne y hy)
        · rfl
      rw [e g hg, e h hh]
      exact r
  · refine ⟨fun g hg => ?_, fun g hg x hx => ?_, List.pairwise_append.mpr ⟨G.pw, List.pairwise_singleton _ _, fun g hg h hh => ?_⟩⟩
    · rcases List.mem_append.mp hg with hg | hg
      · exact G.ne g hg
      · rw [List.mem_singleton.mp hg]
        exact fun z => absurd z (by simp)
    · rcases List.mem_append.mp hg with hg | hg
      · exact List.mem_append_left _ (G.sub g hg x hx)
      · rw [List.mem_singleton.mp hg] at hx
        exact List.mem_append_right _ hx
    · rw [List.mem_singleton.mp hh]
      exact lt _ (G.sub g hg _ (hd_in (G.ne g hg)))
theorem groups_ok {κ : Str → NestedKey} {ps : List Str} (h : ps.Pairwise (fun x y => ltS x y = true)) : GrOk ps (groups κ ps) := by
  have go : ∀ (r d : List Str) (gs : List (NestedKey × List Str)), (d ++ r).Pairwise (fun x y => ltS x y = true) → GrOk d gs → GrOk (d ++ r) (r.foldl (grpStep κ) gs) := fun r => by
    induction r with
    | nil => exact fun d gs _ G => by rw [List.append_nil]; exact G
    | cons p r ih =>
      intro d gs pw G
      have e : d ++ p :: r = (d ++ [p]) ++ r := by rw [List.append_assoc]; rfl
      rw [e] at pw ⊢
      refine ih (d ++ [p]) _ pw (G.step fun x hx => ?_)
      have pw := (List.pairwise_append.mp pw).1
      exact (List.pairwise_append.mp pw).2.2 x hx p List.mem_cons_self
  exact go ps [] [] h ⟨fun g hg => absurd hg (by simp), fun g hg => absurd hg (by simp), .nil⟩
def grpD (gs : List (NestedKey × List Str)) : List PyData := gs.map fun g => .tuple (g.2.map .str)
theorem ltS_ne {x y : Str} (h : ltS x y = true) : (x == y) = false := by
  refine beq_eq_false_iff_ne.mpr fun e => ?_
  subst e
  exact absurd (of_decide_eq_true h) (List.lt_irrefl _)
theorem grp_le {x y : Str} {xs ys : List Str} (h : ltS x y = true) : PySem.W.dataLe false id (.tuple ((x :: xs).map .str)) (.tuple ((y :: ys).map .str)) = true := by
  rw [PySem.W.dataLe_eq]
  show (!PySem.W.dataLt (.tuple (.str y :: ys.map .str)) (.tuple (.str x :: xs.map .str))) = true
  have e : PyData.eqv (.str y) (.str x) = (y == x) := by
    rw [Bool.eq_iff_iff]
    simp [PyData.eqv]
  have ne : (y == x) = false := by
    rw [Bool.beq_comm]
    exact ltS_ne h
  rw [PySem.W.dataLt_tuple, PySem.W.dataLt_cons (by simp [PySem.W.alike]), e, ne, if_neg Bool.false_ne_true, PySem.W.dataLt_str]
  have : ¬ y.cps.toList < x.cps.toList := fun z => List.lt_asymm z (of_decide_eq_true h)
  rw [decide_eq_false this]
  rfl
theorem srt_groups {done : List Str} {gs : List (NestedKey × List Str)} (G : GrOk done gs) : srtD (grpD gs) = grpD gs := by
  unfold srtD
  refine List.mergeSort_of_pairwise (pw_map G.pw fun g hg h hh r => ?_)
  have a := G.ne g hg
  have b := G.ne h hh
  cases eg : g.2 with
  | nil => exact absurd eg a
  | cons x xs =>
    cases eh : h.2 with
    | nil => exact absurd eh b
    | cons y ys =>
      rw [eg, eh] at r
      exact grp_le r
/-- the dict of the law's groups: each group a tuple -/
structure GT (P : Program) (w : World) (K : PySem.W.Frag) (F : Addr) (H : Hp) (ks : List (NestedKey × Addr × V)) (gs : List (NestedKey × List Str)) : Prop where
  at' : NdIn K P w H F ks
  pr : Paired (fun x g => x.1 = g.1 ∧ ∃ q, x.2.2 = .ref q ∧ SqT K H q (g.2.map V.str)) ks gs
theorem GT.keys {F : Addr} {H : Hp} {ks : List (NestedKey × Addr × V)} {gs : List (NestedKey × List Str)} (G : GT P w K F H ks gs) : ks.map (·.1) = gs.map (·.1) := by
  have h := G.pr
  clear G
  induction h with
  | nil => rfl
  | cons a _ ih => rw [List.map_cons, List.map_cons, ih, a.1]
theorem GT.up {F : Addr} {H H' : Hp} {ks : List (NestedKey × Addr × V)} {gs : List (NestedKey × List Str)} (G : GT P w K F H ks gs) (s : ∀ a xs, SqT K H a xs → SqT K H' a xs) (f : ∀ o, H F = some o → H' F = some o) : GT P w K F H' ks gs := by
  refine ⟨⟨?_, fun x hx => ⟨NkV.up s (G.at'.keys x hx).1, (G.at'.keys x hx).2⟩, G.at'.nd⟩, G.pr.mono fun x g ⟨e, q, h1, h2⟩ => ⟨e, q, h1, s _ _ h2⟩⟩
  rcases G.at'.at' with h | ⟨e, h⟩
  · exact .inl (f _ h)
  · exact .inr ⟨e, f _ h⟩
theorem GT.same {F : Addr} {H H' : Hp} {ks : List (NestedKey × Addr × V)} {gs : List (NestedKey × List Str)} (G : GT P w K F H ks gs) (s : Same H H') : GT P w K F H' ks gs := G.up (fun a xs h => sameT s h) fun o h => s _ _ h
theorem GT.mut {F : Addr} {H : Hp} {ks : List (NestedKey × Addr × V)} {gs : List (NestedKey × List Str)} (G : GT P w K F H ks gs) : NoTup H F := by
  rcases G.at'.at' with h | ⟨_, h⟩
  · exact NoTup.of h ⟨(fun _ z => nomatch z), (fun _ _ z => nomatch z)⟩
  · exact NoTup.of h ⟨(fun _ z => nomatch z), (fun _ _ z => nomatch z)⟩
theorem prd_both {α β α' β' : Type} {R : α → β → Prop} {R' : α' → β' → Prop} {f : α → α'} {g : β → β'} : ∀ {xs : List α} {ys : List β}, Paired R xs ys → (∀ x ∈ xs, ∀ y ∈ ys, R x y → R' (f x) (g y)) → Paired R' (xs.map f) (ys.map g)
  | _, _, .nil, _ => .nil
  | _, _, .cons a r, h => .cons (h _ List.mem_cons_self _ List.mem_cons_self a) (prd_both r fun x hx y hy => h x (List.mem_cons_of_mem _ hx) y (List.mem_cons_of_mem _ hy))
/-- what the dict has for a key, and what is put -/
theorem gt_put {F b q : Addr} {H : Hp} {ks : List (NestedKey × Addr × V)} {gs : List (NestedKey × List Str)} {κ : Str → NestedKey} {p : Str} (G : GT P w K F H ks gs) (nk : NkV K H (κ p) (.ref b)) (dk : (κ p).depth ≤ 8)
    (hq : ∀ zs, ((∃ g ∈ gs, g.1 = κ p ∧ g.2 = zs) ∨ (κ p ∉ gs.map (·.1) ∧ zs = [])) → SqT K H q ((zs ++ [p]).map V.str)) :
    GT P w K F (upd H F (ndO P w F (ndPut ks (κ p) b (.ref q)))) (ndPut ks (κ p) b (.ref q)) (grpStep κ gs p) := by
  have up := seq_upd (K := K) (o := ndO P w F (ndPut ks (κ p) b (.ref q))) G.mut
  have keys := G.keys
  by_cases kin : κ p ∈ gs.map (·.1)
  · have some' : (ndGet ks (κ p)).isSome = true := by
      rw [← keys] at kin
      cases h : ndGet ks (κ p) with
      | none => exact absurd kin (nd_none h)
      | some _ => rfl
    have ep : ndPut ks (κ p) b (.ref q) = ks.map (fun x => if x.1 = κ p then (x.1, x.2.1, .ref q) else x) := if_pos some'
    unfold grpStep
    rw [if_pos kin]
    rw [ep] at up ⊢
    have k1 : (ks.map (fun x : NestedKey × Addr × V => if x.1 = κ p then (x.1, x.2.1, V.ref q) else x)).map (·.1) = ks.map (·.1) := by
      rw [List.map_map]
      refine List.map_congr_left fun x _ => ?_
      show (if x.1 = κ p then (x.1, x.2.1, V.ref q) else x).1 = x.1
      split <;> rfl
    refine ⟨⟨.inl upd_same, fun y hy => ?_, by rw [k1]; exact G.at'.nd⟩, prd_both G.pr fun x hx g hg ⟨e, q', e2, h⟩ => ?_⟩
    · obtain ⟨x, hx, rfl⟩ := List.mem_map.mp hy
      have := G.at'.keys x hx
      split
      · exact ⟨NkV.up up this.1, this.2⟩
      · exact ⟨NkV.up up this.1, this.2⟩
    · by_cases c : x.1 = κ p
      · have c2 : g.1 = κ p := e.symm.trans c
        rw [if_pos c, if_pos c2]
        exact ⟨e, q, rfl, up _ _ (hq g.2 (.inl ⟨g, hg, c2, rfl⟩))⟩
      · have c2 : ¬ g.1 = κ p := fun z => c (e.trans z)
        rw [if_neg c, if_neg c2]
        exact ⟨e, q', e2, up _ _ h⟩
  · have kin' := kin
    rw [← keys] at kin'
    have none' : ndGet ks (κ p) = none := by
      cases h : ndGet ks (κ p) with
      | none => rfl
      | some z =>
        obtain ⟨x, hx, e⟩ := Option.map_eq_some_iff.mp h
        have xk : x.1 = κ p := of_decide_eq_true (List.find?_some (p := fun y : NestedKey × Addr × V => decide (y.1 = κ p)) hx)
        exact absurd (List.mem_map.mpr ⟨x, List.mem_of_find?_eq_some hx, xk⟩) kin'
    have ep : ndPut ks (κ p) b (.ref q) = ks ++ [(κ p, b, .ref q)] := if_neg (by rw [none']; exact Bool.false_ne_true)
    unfold grpStep
    rw [if_neg kin]
    rw [ep] at up ⊢
    refine ⟨⟨.inl upd_same, fun y hy => ?_, ?_⟩, Paired.snoc (G.pr.mono fun x g ⟨e, q', e2, h⟩ => ⟨e, q', e2, up _ _ h⟩) ⟨rfl, q, rfl, up _ _ (hq [] (.inr ⟨kin, rfl⟩))⟩⟩
    · rcases List.mem_append.mp hy with hy | hy
      · exact ⟨NkV.up up (G.at'.keys y hy).1, (G.at'.keys y hy).2⟩
      · rw [List.mem_singleton.mp hy]
        exact ⟨NkV.up up nk, dk⟩
    · rw [List.map_append, List.nodup_append]
      refine ⟨G.at'.nd, by simp, fun x hx y hy e => kin' ?_⟩
      have : y = κ p := by simpa using hy
      rw [← this, ← e]
      exact hx
/-- d.get(k, ()) -/
theorem gt_get {F a : Addr} {H : Hp} {ks : List (NestedKey × Addr × V)} {gs : List (NestedKey × List Str)} {k : NestedKey} (G : GT P w K F H ks gs) (ha : SqT K H a []) :
    ∃ (q : Addr) (zs : List Str), ((ndGet ks k).map (·.2)).getD (V.ref a) = .ref q ∧ SqT K H q (zs.map V.str) ∧ ((∃ g ∈ gs, g.1 = k ∧ g.2 = zs) ∨ (k ∉ gs.map (·.1) ∧ zs = [])) := by
  cases h : ndGet ks k with
  | none =>
    have := nd_none h
    rw [G.keys] at this
    exact ⟨a, [], rfl, ha, .inr ⟨this, rfl⟩⟩
  | some z =>
    obtain ⟨x, hx, e⟩ := Option.map_eq_some_iff.mp h
    have xk : x.1 = k := of_decide_eq_true (List.find?_some (p := fun y : NestedKey × Addr × V => decide (y.1 = k)) hx)
    obtain ⟨j, hj⟩ := List.mem_iff_getElem?.mp (List.mem_of_find?_eq_some hx)
    obtain ⟨g, hg, e1, q, e2, sq⟩ := pget1 G.pr hj
    refine ⟨q, g.2, ?_, sq, .inl ⟨g, List.mem_of_getElem? hg, e1.symm.trans xk, rfl⟩⟩
    show z.2 = _
    rw [← e]
    exact e2
theorem nd_uniq {gs : List (NestedKey × List Str)} {k : NestedKey} {zs zs' : List Str} (nd : (gs.map (·.1)).Nodup) (a : (∃ g ∈ gs, g.1 = k ∧ g.2 = zs) ∨ (k ∉ gs.map (·.1) ∧ zs = [])) (b : (∃ g ∈ gs, g.1 = k ∧ g.2 = zs') ∨ (k ∉ gs.map (·.1) ∧ zs' = [])) : zs = zs' := by
  rcases a with ⟨g, hg, e1, e2⟩ | ⟨n, e⟩
  · rcases b with ⟨g', hg', e1', e2'⟩ | ⟨n, _⟩
    · have := nd_inj nd g hg g' hg' (e1.trans e1'.symm)
      rw [← e2, ← e2', this]
    · exact absurd (List.mem_map.mpr ⟨g, hg, e1⟩) n
  · rcases b with ⟨g', hg', e1', _⟩ | ⟨_, e'⟩
    · exact absurd (List.mem_map.mpr ⟨g', hg', e1'⟩) n
    · rw [e, e']
theorem grp_paths {κ : Str → NestedKey} {ps : List Str} (hp : ∀ p ∈ ps, p ∈ paths25) (l : ps.length ≤ 9) (pw : ps.Pairwise (fun x y => ltS x y = true)) : OkX (.list (grpD (groups κ ps))) := by
  have G := groups_ok (κ := κ) pw
  have len := grp_len κ ps [] 0 (fun g hg => absurd hg (by simp))
  have szs : ∀ (zs : List Str), (∀ z ∈ zs, z ∈ paths25) → SzL 0 (zs.length * 202) (zs.map .str) := fun zs => by
    induction zs with
    | nil => exact fun _ => by show SzL 0 (0 * 202) []; rw [Nat.zero_mul]; exact SzL.nil
    | cons z r ih =>
      intro h
      obtain ⟨q1, q2⟩ := path_sz z (h z List.mem_cons_self)
      refine (SzL.cons (n := 0) (M := 200) ⟨q1, Nat.zero_le _, q2⟩ (ih fun x hx => h x (List.mem_cons_of_mem _ hx))).mono (Nat.le_refl _) ?_
      rw [List.length_cons, Nat.add_mul, Nat.one_mul]
      omega
  have each : ∀ g ∈ groups κ ps, SzX 1 2000 (.tuple (g.2.map .str)) := fun g hg => by
    refine (SzX.tup (szs g.2 fun z hz => hp z (G.sub g hg z hz))).mono (Nat.le_refl _) ?_
    have l1 := len g hg
    have : g.2.length * 202 ≤ 9 * 202 := Nat.mul_le_mul_right _ (by omega)
    omega
  have gl : (groups κ ps).length ≤ 9 := by
    have go : ∀ (ps : List Str) (gs : List (NestedKey × List Str)), (ps.foldl (grpStep κ) gs).length ≤ gs.length + ps.length := fun ps => by
      induction ps with
      | nil => exact fun gs => Nat.le_refl _
      | cons p r ih =>
        intro gs
        refine Nat.le_trans (ih (grpStep κ gs p)) ?_
        have : (grpStep κ gs p).length ≤ gs.length + 1 := by
          unfold grpStep
          split
          · rw [List.length_map]
            exact Nat.le_succ _
          · rw [List.length_append]
            exact Nat.le_refl _
        rw [List.length_cons]
        omega
    have := go ps []
    show (ps.foldl (grpStep κ) []).length ≤ 9
    have e : ([] : List (NestedKey × List Str)).length = 0 := rfl
    omega
  have all : ∀ gs : List (NestedKey × List Str), (∀ g ∈ gs, SzX 1 2000 (.tuple (g.2.map .str))) → SzL 1 (gs.length * 2002) (grpD gs) := fun gs => by
    induction gs with
    | nil => exact fun _ => by show SzL 1 (0 * 2002) []; rw [Nat.zero_mul]; exact SzL.nil
    | cons g r ih =>
      intro h
      refine (SzL.cons (h g List.mem_cons_self) (ih fun x hx => h x (List.mem_cons_of_mem _ hx))).mono (Nat.le_refl _) ?_
      rw [List.length_cons, Nat.add_mul, Nat.one_mul]
      omega
  refine okx_of ((SzX.lst (all _ each)).mono (Nat.le_refl _) (?_ : _ ≤ 20000)) (by decide) (by decide)
  have : (groups κ ps).length * 2002 ≤ 9 * 2002 := Nat.mul_le_mul_right _ gl
  omega

theorem hid_hid2 {b P : Addr} {H H' : Hp} (n : H P = none) (f : Fr b H H') : Same (hid b H) (hid2 b P H') := fun a o e => by
  by_cases h : a = b
  · rw [h] at e
    exact absurd e (by unfold hid; rw [if_pos rfl]; exact fun z => nomatch z)
  · rw [hid_ne h] at e
    have m : a ≠ P := fun z => by rw [z, n] at e; cases e
    rw [hid2_ne h m]
    exact f a o h e
/-! readings that stand in a comprehension -/
def rDctB (K : PySem.W.Frag) : List V → Hp → VK → Prop := fun zs G R =>
  ∃ (l : Addr) (ts : List Addr) (es : List (Key × V)), zs = [.ref l] ∧ SqL K G l (ts.map V.ref) ∧ Paired (fun t e => SqT K G t [kV e.1, e.2]) ts es ∧ ∀ d, G d = none → R (.ref d) (upd G d (.dK (mergeK [] es)))
def rSrtB : List V → Hp → VK → Prop := fun zs G R => ∃ (v d : Addr) (val : Str → V) (ns : List Str), zs = [.ref v] ∧ G v = some (DX.itemsO v d) ∧ G d = some (.dK (ns.map fun n => ((.inr n : Key), val n))) ∧ ns.Nodup ∧
  ∀ (ys : List Str) (ts : List Addr) (l : Addr) (G' : Hp), ys.Perm ns → ys.Pairwise (fun x y => ltS y x = false) → (∀ b o, G b = some o → G' b = some o) → G l = none → G' l = some (.lst (ts.map V.ref)) → Paired (fun t n => G' t = some (.tup [.str n, val n])) ts ys → R (.ref l) G'
def rItsB : V → List V → Hp → VK → Prop := fun z zs G R => ∃ (d : Addr) (es : List (Key × V)), z = .ref d ∧ zs = [] ∧ G d = some (.dK es) ∧ ∀ v, G v = none → R (.ref v) (upd G v (DX.itemsO v d))
/-- a path with its due style -/
def PthT (K : PySem.W.Frag) (dS : Str → PyData) (stf : Str → RSt) (fs : List Str) (H : Hp) (t : Addr) (p : Str) : Prop := ∃ c, H t = some (.tup [.str p, .ref c]) ∧ StyAt K H c (finS dS stf (forF fs p))
theorem PthT.mono {dS : Str → PyData} {stf : Str → RSt} {fs : List Str} {H H' : Hp} {t : Addr} {p : Str} (h : PthT K dS stf fs H t p) (s : Same H H') : PthT K dS stf fs H' t p := by
  obtain ⟨c, h1, h2⟩ := h
  exact ⟨c, s _ _ h1, h2.mono s⟩
theorem laid_dxM {H : Hp} {xs : List V} {dS : Str → PyData} {stf : Str → RSt} {f : Str} {val : Str → V} {ns : List Str} (h : DxAll K H xs (names22.map dS)) (pm : ns.Perm (ordN (stf f).2)) (hv : ∀ n ∈ ns, Dx K H (val n) ((stf f).1 n)) : DxAll K H (laidL xs val ns) (names22.map (stepS stf dS f)) := by
  have e : laidL xs val ns = laidL xs val (ordN (stf f).2) := by
    unfold laidL
    refine List.map_congr_left fun n _ => ?_
    by_cases c : n ∈ ns
    · rw [if_pos c, if_pos (pm.mem_iff.mp c)]
    · rw [if_neg c, if_neg fun z => c (pm.mem_iff.mpr z)]
  rw [e]
  exact laid_dx h fun n hn => hv n (pm.mem_iff.mpr hn)
theorem prd_ln {A : Addr → Str → Prop} : ∀ {zs : List Str} {ys : List V}, Paired (fun x e => ∃ t f, x = V.ref t ∧ A t f ∧ e = lnD f) ys (zs.map lnD) → ∃ ts : List Addr, ys = ts.map V.ref ∧ Paired A ts zs
  | [], _, h => by
    cases h
    exact ⟨[], rfl, .nil⟩
  | z :: zs, _, h => by
    cases h with
    | cons a r =>
      obtain ⟨t, f, rfl, h1, e⟩ := a
      obtain ⟨ts, rfl, h2⟩ := prd_ln r
      have ef : z = f := by
        unfold lnD at e
        injection e with e
        injection e with _ e
        injection e with e _
        injection e
      subst ef
      exact ⟨t :: ts, rfl, .cons h1 h2⟩
theorem sty_dx {H : Hp} {a : Addr} {dS : Str → PyData} (S : StyAt K H a dS) : Dx K H (.ref a) (.tuple (names22.map dS)) := by
  obtain ⟨xs, h1, _, h3⟩ := S.ex
  exact .tup h1 h3
theorem same_hid {H H' : Hp} {b : Addr} (s : Same H H') (n : H b = none) : Same H (hid b H') := fun x o e => by
  have m : x ≠ b := fun z => by rw [z, n] at e; cases e
  rw [hid_ne m]
  exact s x o e
theorem hid_put {b : Addr} {H : Hp} (o : HO) : Same (hid b H) (hid b (upd H b o)) := fun x z e => by
  by_cases n : x = b
  · rw [n] at e
    exact absurd e (by unfold hid; rw [if_pos rfl]; exact fun z => nomatch z)
  · rw [hid_ne n] at e ⊢
    rw [upd_ne n]
    exact e
theorem hid_le {b : Addr} {H H' : Hp} (s : Same H H') : Same (hid b H) (hid b H') := hid_fr fun x o _ e => s x o e
theorem notup_lst {H : Hp} {b : Addr} {xs : List V} (h : H b = some (.lst xs)) : NoTup H b := NoTup.of h ⟨(fun _ z => nomatch z), (fun _ _ z => nomatch z)⟩
theorem sty_hid2 {H : Hp} {c x y : Addr} {dS : Str → PyData} (S : StyAt K H c dS) (f : FlatS dS) (nx : NoTup H x) (ny : NoTup H y) : StyAt K (hid2 x y H) c dS := by
  obtain ⟨xs, h1, h2, h3⟩ := S.ex
  have ny' : NoTup (hid x H) y := fun zs => ⟨fun e => (ny zs).1 (hid_same _ _ _ _ e), fun o e => (ny zs).2 o (hid_same _ _ _ _ e)⟩
  have S' : StyAt K (hid y (hid x H)) c dS := ⟨xs, seq_hid ny' (seq_hid nx h1), h2, flats_hid1 ny' (flats_hid1 nx h3 f.all) f.all⟩
  refine S'.mono fun z o e => ?_
  have n1 : z ≠ y := fun q => by rw [q] at e; exact absurd e (by unfold hid; rw [if_pos rfl]; exact fun z => nomatch z)
  rw [hid_ne n1] at e
  have n2 : z ≠ x := fun q => by rw [q] at e; exact absurd e (by unfold hid; rw [if_pos rfl]; exact fun z => nomatch z)
  rw [hid_ne n2] at e
  rw [hid2_ne n2 n1]
  exact e
def kfH (H : Hp) (t : Addr) : Str := match H t with
  | some (.tup [.str p, _]) => p
  | _ => ""
def vfH (H : Hp) (t : Addr) : V := match H t with
  | some (.tup [.str _, v]) => v
  | _ => .non
theorem kfH_of {H : Hp} {t : Addr} {p : Str} {v : V} (h : H t = some (.tup [.str p, v])) : kfH H t = p := by
  unfold kfH
  rw [h]
theorem vfH_of {H : Hp} {t : Addr} {p : Str} {v : V} (h : H t = some (.tup [.str p, v])) : vfH H t = v := by
  unfold vfH
  rw [h]
theorem pth_kf {dS : Str → PyData} {stf : Str → RSt} {fs : List Str} {H : Hp} {ts : List Addr} {ps : List Str} (h : Paired (PthT K dS stf fs H) ts ps) : ts.map (kfH H) = ps ∧ ∀ t ∈ ts, PthT K dS stf fs H t (kfH H t) := by
  induction h with
  | nil => exact ⟨rfl, fun t ht => absurd ht (by simp)⟩
  | cons a _ ih =>
    obtain ⟨c, h1, h2⟩ := a
    have e := kfH_of h1
    refine ⟨by rw [List.map_cons, e, ih.1], fun t ht => ?_⟩
    rcases List.mem_cons.mp ht with rfl | ht
    · rw [e]
      exact ⟨c, h1, h2⟩
    · exact ih.2 t ht
theorem pathsOf_own {ps : List Str} (nd : ps.Nodup) (h : ∀ p ∈ ps, p ∈ paths25) : ps.Perm (pathsOf ps) := by
  refine (List.perm_ext_iff_of_nodup nd ((sp25_perm.nodup_iff.mpr (by decide)).filter _)).mpr fun p => ?_
  rw [List.mem_filter]
  exact ⟨fun q => ⟨sp25_perm.mem_iff.mpr (h p q), decide_eq_true q⟩, fun q => of_decide_eq_true q.2⟩
theorem pathsOf_more {ps qs : List Str} (h : ∀ p ∈ qs, p ∈ ps) : pathsOf (ps ++ qs) = pathsOf ps := by
  unfold pathsOf
  refine List.filter_congr fun p _ => decide_eq_decide.mpr ⟨fun z => ?_, fun z => List.mem_append_left _ z⟩
  rcases List.mem_append.mp z with z | z
  · exact z
  · exact h p z
theorem seq_drawn {g : Bg} {H H' : Hp} {c e : Int} (B : ∃ o, H g.b = some (.lst o)) (D : Vf.Drawn g H H' c e) : ∀ a xs, SqT K H a xs → SqT K H' a xs := fun a xs h => by
  by_cases n : a = g.b
  · subst n
    obtain ⟨o, ho⟩ := B
    rcases h with (h | ⟨_, h⟩) | h
    · rw [ho] at h
      cases h
    · rw [ho] at h
      cases h
    · exact .inr h
  · exact D.seqT n h
theorem path_tame : ∀ p ∈ paths25, tame (.str p) = true := by decide +kernel
theorem paths_tame : ∀ {l : List Str}, (∀ p ∈ l, p ∈ paths25) → tameAll (l.map .str) = true
  | [], _ => rfl
  | x :: r, h => by
    show (tame (.str x) && tameAll (r.map .str)) = true
    rw [path_tame x (h x List.mem_cons_self), paths_tame fun y hy => h y (List.mem_cons_of_mem _ hy)]
    rfl
theorem paths_depth : ∀ l : List Str, PyData.depthAll (l.map .str) = 0
  | [] => rfl
  | x :: r => by
    show max (PyData.depth (.str x)) (PyData.depthAll (r.map .str)) = 0
    rw [paths_depth r]
    rfl
theorem paths_shaped {l : List Str} (h : ∀ p ∈ l, p ∈ paths25) : SeqAt.shaped (.list (l.map .str)) = true := by
  unfold SeqAt.shaped
  rw [Bool.and_eq_true]
  refine ⟨(tameAll_ok _ (paths_tame h)).2.2, decide_eq_true ?_⟩
  show PyData.depthAll (l.map .str) + 1 ≤ 64
  rw [paths_depth]
  decide
theorem strs_dp (H : Hp) : ∀ l : List Str, DpAll K H (l.map V.str) (l.map .str)
  | [] => .nil
  | x :: r => .cons (.str x) (strs_dp H r)
def spLaw25 (K : PySem.W.Frag) : Sp := fun vs H Q _ => ∃ (a : Addr) (ns : List Int), vs = [.ref a] ∧ SqL K H a (ns.map V.int) ∧ ns.length ≤ 63 ∧ ∀ H', Q (.bl true) H'
theorem fn_law25 (T : Txt K mg w) (sb : ∃ o, base.get? sysModules = some o ∧ o.cls = .type "dict") {f : Addr} {fd : FuncData} (F : Fun K "law" "law" s_p_law f fd)
    (c_l_bag : Cal P w K mg base 1 "_law_bag" (spBag K) []) (c_l_take : Cal P w K mg base 1 "_law_take" spTake []) (c_l_mixed : Cal P w K mg base 2 "_law_mixed" (spMixed K) []) (c_l_alike : CalG P w K mg base 1 "_law_alike" (spAlikeV K)) (c_l_style : Cal P w K mg base 3 "_law_style" (spStyl K) [])
    (c_l_folders : Cal P w K mg base 5 "_law_folders" (spFolders K) []) (c_l_laid : Cal P w K mg base 2 "_law_laid" (spLaid K) []) (c_p_style_for : Cal P w K mg base 4 "style_for" (spStyFor K) []) (c_p_layers_for : Cal P w K mg base 2 "layers_for" (spFor K) [])
    (c_p_same_style_paths : Cal P w K mg base 5 "same_style_paths" (spSame K) []) :
    FnG P w K mg base 8 f fd ["_law_script"] (spLaw25 K) := by
  refine fnG_of F sc_p_law (fun vs H Q E h => ?_) (fun cdv A outer s H vs Q E hr gd h => ?_)
  · obtain ⟨a, ns, rfl, _⟩ := h
    rfl
  · obtain ⟨a, ns, rfl, hq, hl, k⟩ := h
    have hu := u1 hr
    refine ⟨_,
      (pss_cons (ps_set (i := 1) sc_p_law.nd rfl (Or.inl rfl) (pe_c c_l_bag hr (by first | decide | omega) rfl (pa_cons (pv 0) pa_nil)))
        (pss_cons (ps_for PassesOwn.never rfl (pi_range1 (by rfl) T.n_range (pa_cons pe_int pa_nil)) (pg_name (i := 2) sc_p_law.nd rfl (Or.inl rfl))
        (pss_cons (ps_asg (pe_tup (pa_cons (pe_c c_l_style hr (by first | decide | omega) rfl (pa_cons (pv 1) pa_nil)) (pa_cons (pe_c c_l_folders hr (by first | decide | omega) rfl (pa_cons (pv 1) pa_nil)) (pa_cons (pe_lst pa_nil) pa_nil)))) (pg_tup rfl (pgs_cons (pg_name (i := 3) sc_p_law.nd rfl (Or.inl rfl)) (pgs_cons (pg_name (i := 4) sc_p_law.nd rfl (Or.inr rfl)) (pgs_cons (pg_name (i := 5) sc_p_law.nd rfl (Or.inl rfl)) pgs_nil)))))
        (pss_cons (ps_set (i := 6) sc_p_law.nd rfl (Or.inl rfl) (pe_callB (call_reprV (u65 hr) gd sb) (by rfl) T.n_repr (by decide +kernel) (pa_cons (pv 4) pa_nil)))
        (pss_cons (ps_for PassesOwn.never rfl (pi_list (pe_slice sl_list (pe_c c_l_mixed hr (by first | decide | omega) rfl (pa_cons (pv 1) (pa_cons (pe_lst (pa_cons pe_str (pa_cons pe_str (pa_cons pe_str (pa_cons pe_str (pa_cons pe_str (pa_cons pe_str (pa_cons pe_str (pa_cons pe_str (pa_cons pe_str pa_nil)))))))))) pa_nil))) po_none (po_some pe_int))) (pg_name (i := 7) sc_p_law.nd rfl (Or.inr rfl))
        (pss_cons (ps_par (i := 9) (j := 10) (by rfl) sc_p_law.nd rfl rfl (by decide) rfl rfl (pa_cons (pv 3) (pa_cons (pe_lock (pe_lc (own := [("_law_folder", 8)]) (g := gName 8) rfl sc_p_law.nd (pi_keys (pv 4)) (blkOk_by (N := ["_law_script", "_law_bag_here", "_law_turn", "_law_style_here", "_law_layers", "_law_paths", "_law_said", "_law_path", "_law_folder", "_law_due", "_law_folders_here", "_law_told", "_law_layer_here", "_law_groups", "_law_some", "_law_kept", "_law_size", "_law_one_here"]) (sc := defScope s_p_law) (by decide +kernel)) (fun _ _ _ _ _ => pg_name (i := 8) sc_p_law.nd rfl (Or.inl rfl)) (fun _ _ _ _ _ => (pts_one (PW.pt (pw_or (pt_cmpR op_eq (pv 8) pe_str (nomark _)) (pw_or1 (pt_val (show PE _ _ (tBM K "str" _ _ _) from pe_bm PySem.F.plainAttrs_str PySem.F.slot_str_startswith PySem.F.type_str_startswith mt_startswith (pv 7) (pa_cons (pe_op op_add_str (pv 8) pe_str) pa_nil)))))))) (fun _ _ _ _ _ => (pv 8)))) pa_nil)) (by rfl))
        (pss_cons (ps_setLc (i := 10) (own := [("_law_size", 16), ("_law_folder", 8)]) (g := gTup K 2 (gCons (gName 16) (gCons (gName 8) gNil))) (tt := tYes) rfl sc_p_law.nd rfl rfl (sw_true rfl rfl rfl (by decide +kernel)) (pi_list (pe_callB (call_sortedX (u70 hr)) (by rfl) T.n_sorted (by decide +kernel) (pa_cons (pe_lc (own := [("_law_folder", 8)]) (g := gName 8) (tt := tYes) rfl sc_p_law.nd (pi_list (pv 10)) (blkOk_by (N := ["_law_script", "_law_bag_here", "_law_turn", "_law_style_here", "_law_layers", "_law_paths", "_law_said", "_law_path", "_law_folder", "_law_due", "_law_folders_here", "_law_told", "_law_layer_here", "_law_groups", "_law_some", "_law_kept", "_law_size", "_law_one_here"]) (sc := defScope s_p_law) (by decide +kernel)) (fun _ _ _ _ _ => pg_name (i := 8) sc_p_law.nd rfl (Or.inl rfl)) (fun _ _ _ _ _ => pts_nil) (fun _ _ _ _ _ => (pe_tup (pa_cons (pe_callB (show CallR _ (.builtin "len") (rLenK K) from call_len) (by rfl) T.n_len PySem.boot_len (pa_cons (pv 8) pa_nil)) (pa_cons (pv 8) pa_nil))))) pa_nil))) (blkOk_by (N := ["_law_script", "_law_bag_here", "_law_turn", "_law_style_here", "_law_layers", "_law_paths", "_law_said", "_law_path", "_law_folder", "_law_due", "_law_folders_here", "_law_told", "_law_layer_here", "_law_groups", "_law_some", "_law_kept", "_law_size", "_law_one_here"]) (sc := defScope s_p_law) (by decide +kernel)) (fun _ _ _ _ _ => (pg_tup rfl (pgs_cons (pg_name (i := 16) sc_p_law.nd rfl (Or.inl rfl)) (pgs_cons (pg_name (i := 8) sc_p_law.nd rfl (Or.inl rfl)) pgs_nil)))) (fun _ _ _ _ _ => pts_nil) (fun _ _ _ _ _ => (pv 8)))
        (pss_cons (ps_for PassesOwn.never rfl (pi_list (pv 10)) (pg_name (i := 8) sc_p_law.nd rfl (Or.inl rfl))
        (pss_one (ps_set (i := 9) sc_p_law.nd rfl (Or.inl rfl) (pe_c c_l_laid hr (by first | decide | omega) rfl (pa_cons (pv 9) (pa_cons (pe_dget hu (pv 4) (pv 8) (fun _ _ => rfl)) pa_nil))))))
        (pss_cons (ps_if (pt_not (pt_val (pe_cG c_l_alike (hr.mono (by decide)) gd rfl (pa_cons (pe_c c_p_style_for hr (by first | decide | omega) rfl (pa_cons (pv 3) (pa_cons (pv 4) (pa_cons (pv 7) pa_nil)))) (pa_cons (pv 9) pa_nil)))))
        (pss_one (ps_ret pe_bl))
        pss_nil)
        (pss_cons (ps_set (i := 11) sc_p_law.nd rfl (Or.inl rfl) (pe_c c_p_layers_for hr (by first | decide | omega) rfl (pa_cons (pv 4) (pa_cons (pv 7) pa_nil))))
        (pss_cons (ps_if (pt_not (pt_val (pe_cG c_l_alike (hr.mono (by decide)) gd rfl (pa_cons (pv 11) (pa_cons (pe_lc (own := [("_law_one_here", 17)]) (g := gName 17) (tt := tYes) rfl sc_p_law.nd (pi_list (pv 10)) (blkOk_by (N := ["_law_script", "_law_bag_here", "_law_turn", "_law_style_here", "_law_layers", "_law_paths", "_law_said", "_law_path", "_law_folder", "_law_due", "_law_folders_here", "_law_told", "_law_layer_here", "_law_groups", "_law_some", "_law_kept", "_law_size", "_law_one_here"]) (sc := defScope s_p_law) (by decide +kernel)) (fun _ _ _ _ _ => pg_name (i := 17) sc_p_law.nd rfl (Or.inl rfl)) (fun _ _ _ _ _ => pts_nil) (fun _ _ _ _ _ => (pe_tup (pa_cons (pv 17) (pa_cons (pe_callTy (show CallR _ (.type "dict") (rDctB K) from by exact call_dictP rfl) (by rfl) T.n_dict (by decide +kernel) (pa_cons (pe_callB (show CallR _ (.builtin "sorted") rSrtB from by exact call_sortedIt rfl) (by rfl) T.n_sorted (by decide +kernel) (pa_cons (show PE _ _ (tBM0 K "dict" rItsB _) from pe_bm0 PySem.F.plainAttrs_dict PySem.F.slot_dict_items PySem.F.type_dict_items mt_itemsK (pe_dget hu (pv 4) (pv 17) (fun _ _ => rfl))) pa_nil)) pa_nil)) pa_nil))))) pa_nil)))))
        (pss_one (ps_ret pe_bl))
        pss_nil)
        (pss_cons (ps_for PassesOwn.never rfl (pi_list (pv 11)) (pg_tup rfl (pgs_cons (pg_name (i := 8) sc_p_law.nd rfl (Or.inl rfl)) (pgs_cons (pg_name (i := 12) sc_p_law.nd rfl (Or.inl rfl)) pgs_nil)))
        (pss_one (ps_dput hu (pv 12) pe_str pe_int rfl)))
        (pss_one (ps_expr (pe_bm PySem.F.plainAttrs_list PySem.F.slot_list_append PySem.F.type_list_append mt_append (pv 5) (pa_cons (pe_tup (pa_cons (pv 7) (pa_cons (pv 9) pa_nil))) pa_nil))))))))))))
        (pss_cons (ps_set (i := 13) sc_p_law.nd rfl (Or.inl rfl) pe_dnewK)
        (pss_cons (ps_for PassesOwn.never rfl (pi_list (pe_callB call_sortedP (by rfl) T.n_sorted (by decide +kernel) (pa_cons (pv 5) pa_nil))) (pg_tup rfl (pgs_cons (pg_name (i := 7) sc_p_law.nd rfl (Or.inr rfl)) (pgs_cons (pg_name (i := 9) sc_p_law.nd rfl (Or.inl rfl)) pgs_nil)))
        (pss_one (ps_putN (Nat.lt_of_le_of_lt (Nat.add_le_add_left (by decide : 20 ≤ 65) _) (u65 hr)) (pv 13) (pv 9) (pe_op op_catU (pe_nm PySem.F.slot_dict_get PySem.F.type_dict_get (mt_getN (Nat.lt_of_le_of_lt (Nat.add_le_add_left (by decide : 20 ≤ 65) _) (u65 hr))) (pv 13) (pa_cons (pv 9) (pa_cons (pe_tup pa_nil) pa_nil))) (pe_tup (pa_cons (pv 7) pa_nil))) rfl)))
        (pss_cons (ps_setLc (i := 14) (own := [("_law_path", 7), ("_law_due", 9)]) (g := gTup K 2 (gCons (gName 7) (gCons (gName 9) gNil))) (tt := tYes) rfl sc_p_law.nd rfl rfl (sw_true rfl rfl rfl (by decide +kernel)) (pi_list (pe_op op_cat (pv 5) (pe_slice sl_list (pv 5) po_none (po_some (pe_c c_l_take hr (by first | decide | omega) rfl (pa_cons (pv 1) (pa_cons pe_int pa_nil))))))) (blkOk_by (N := ["_law_script", "_law_bag_here", "_law_turn", "_law_style_here", "_law_layers", "_law_paths", "_law_said", "_law_path", "_law_folder", "_law_due", "_law_folders_here", "_law_told", "_law_layer_here", "_law_groups", "_law_some", "_law_kept", "_law_size", "_law_one_here"]) (sc := defScope s_p_law) (by decide +kernel)) (fun _ _ _ _ _ => (pg_tup rfl (pgs_cons (pg_name (i := 7) sc_p_law.nd rfl (Or.inl rfl)) (pgs_cons (pg_name (i := 9) sc_p_law.nd rfl (Or.inl rfl)) pgs_nil)))) (fun _ _ _ _ _ => pts_nil) (fun _ _ _ _ _ => (pv 7)))
        (pss_cons (ps_par (i := 15) (j := 11) (by rfl) sc_p_law.nd rfl rfl (by decide) rfl rfl (pa_cons (pe_callTy call_list_of (by rfl) T.n_list (by decide +kernel) (pa_cons (pv 14) pa_nil)) (pa_cons (pe_c c_p_same_style_paths hr (by first | decide | omega) rfl (pa_cons (pv 3) (pa_cons (pv 4) (pa_cons (pv 14) pa_nil)))) pa_nil)) (by rfl))
        (pss_one (ps_if (PW.pt (pw_or (pt_not (pt_val (pe_cG c_l_alike (hr.mono (by decide)) gd rfl (pa_cons (pv 11) (pa_cons (pe_callB (call_sortedVN rfl (u70 hr)) (by rfl) T.n_sorted (by decide +kernel) (pa_cons (pe_nm0 PySem.F.slot_dict_values PySem.F.type_dict_values mt_valuesN (pv 13)) pa_nil)) pa_nil))))) (pw_or (pt_cmpR op_ne (pe_callB (call_reprV (u65 hr) gd sb) (by rfl) T.n_repr (by decide +kernel) (pa_cons (pv 4) pa_nil)) (pv 6) (nomark _)) (pw_or1 (pt_cmpR (op_neD hr.units) (pv 14) (pv 15) (nomark _))))))
        (pss_one (ps_ret pe_bl))
        pss_nil))))))))))
        (pss_one (ps_ret pe_bl))))
      , ?_⟩
    have le : ∀ n : Nat, n ≤ 10 → n ≤ sizeLine := fun n h => Nat.le_trans h (by decide)
    refine ⟨_, rfl, a, ns, rfl, hq, hl, fun g H0 s0 B0 => ?_⟩
    refine ⟨2, rfl, by decide, by decide, ?_⟩
    refine for_range (lo := 0) (n := 2) (fun i σ H' => ∃ (w2 w3 w4 w5 w6 w7 w8 w9 w10 w11 w12 w13 w14 w15 w16 w17 : Option V), σ = [some (.ref a), some (.ref g.b), w2, w3, w4, w5, w6, w7, w8, w9, w10, w11, w12, w13, w14, w15, w16, w17] ∧ Bag H' g 0 0) ⟨none, none, none, none, none, none, none, none, none, none, none, none, none, none, none, none, rfl, B0⟩ ?_ ?_
    · rintro ti σ H4 hi ⟨w2, w3, w4, w5, w6, w7, w8, w9, w10, w11, w12, w13, w14, w15, w16, w17, rfl, B4⟩
      refine ⟨_, rfl, g, 0, 0, rfl, B4, fun sa xs ds H5 D5 Z5 => ?_⟩
      have S5 := Z5.at25
      have sd := Z5.ok
      clear Z5
      refine ⟨_, rfl, g, rfl, D5.bag, fun d fs lv H6 D6 nd fd qd FI l6 hlv => ?_⟩
      have S6 := S5.mono (hid_fr D6.fr)
      obtain ⟨stf, L6, ok⟩ := layers_of2 qd nd fun f hf => let ⟨a, h1, _, _, h4⟩ := hlv f hf; ⟨a, h1, h4⟩
      have D46 := D5.trans D6
      clear S5 hlv D6 D5
      refine ⟨le 0 (by decide), fun pa hP => ?_⟩
      have nP := D46.bag.ne_new hP
      have hP4 : H4 pa = none := by
        cases e : H4 pa with
        | none => rfl
        | some o =>
          have := D46.keep nP e
          rw [hP] at this
          cases this
      have D7 := D46.new (o := HO.lst []) hP
      have E7 := (Drawn.of D46.bag).new (o := HO.lst []) hP
      have P7 : (upd H6 pa (HO.lst [])) pa = some (.lst []) := upd_same
      have S7 := S6.mono (hid_hid2 hP E7.fr)
      have L7 := L6.mono (hid_hid2 hP E7.fr)
      have P0 : hid2 g.b pa (upd H6 pa (HO.lst [])) pa = none := if_pos (.inr rfl)
      generalize upd H6 pa (HO.lst []) = H7 at D7 E7 P7 S7 L7 P0 ⊢
      clear S6 L6 D46 E7 qd hP
      refine ⟨le 3 (by decide), fun pt hpt => ?_⟩
      have s8 := same_new (o := HO.tup [V.ref sa, V.ref d, V.ref pa]) hpt
      refine ⟨pt, _, rfl, SqT.of upd_same, rfl, ?_⟩
      refine ⟨_, _, rfl, _, _, rfl, _, _, rfl, rfl, ?_⟩
      have D8 := D7.trans (Drawn.same D7.bag s8)
      have nPt : pa ≠ pt := fun z => by rw [z, hpt] at P7; cases P7
      have P8 := s8 _ _ P7
      have sx : Same (hid2 g.b pa H7) (hid2 g.b pa (upd H7 pt (HO.tup [V.ref sa, V.ref d, V.ref pa]))) := hid2_mono fun x o _ _ e => s8 x o e
      have S8 := S7.mono sx
      have L8 := L7.mono sx
      generalize upd H7 pt (HO.tup [V.ref sa, V.ref d, V.ref pa]) = H8 at D8 P8 S8 L8 ⊢
      clear sx s8 nPt hpt S7 L7 P7 D7 P0
      obtain ⟨DD, dD8, okD⟩ := layers_any L8 FI ok
      refine ⟨_, rfl, .ref d, DD, rfl, Dx.same (hid2_le fun _ _ _ _ e => e) dD8, okD, ?_⟩
      generalize hsh : PyData.shown DD = SH
      refine ⟨_, rfl, le 9 (by decide), fun pl hpl => ?_⟩
      have D9 := D8.new (o := HO.lst (paths25.map V.str)) hpl
      have E9 := (Drawn.of D8.bag).new (o := HO.lst (paths25.map V.str)) hpl
      refine ⟨g, pl, paths25.map V.str, 0, 0, rfl, D9.bag, .inl (SqL.of upd_same), D8.bag.ne_new hpl, by show 9 ≤ 100; decide, fun q ys H10 pm hq q10 D10 => ?_⟩
      obtain ⟨us, rfl, pu⟩ := strs_perm pm
      have lu : us.length = 9 := pu.length_eq
      refine ⟨_, rfl, q, us.map V.str, rfl, SqL.of q10, fun r hr => ?_⟩
      have ec : cutV (us.map V.str) none (some (6 : Int)) = (us.take 6).map V.str := by
        rw [List.map_take]
        exact cut_to (us.map V.str) (j := 6) (by rw [List.length_map, lu]; decide)
      rw [ec]
      have D11 := (D9.trans D10).new (o := HO.lst ((us.take 6).map V.str)) hr
      have E11 := (E9.trans D10).new (o := HO.lst ((us.take 6).map V.str)) hr
      have pnd : (us.take 6).Nodup := (pu.nodup_iff.mpr (by decide)).sublist (List.take_sublist _ _)
      have pin : ∀ p ∈ us.take 6, p ∈ paths25 := fun p hp => pu.mem_iff.mp (List.mem_of_mem_take hp)
      have l6 : (us.take 6).length = 6 := by
        rw [List.length_take]
        omega
      have q11 : (upd H10 r (HO.lst ((us.take 6).map V.str))) r = some (.lst ((us.take 6).map V.str)) := upd_same
      have nr := (D9.trans D10).bag.ne_new hr
      have P11 := E11.keep nP P8
      have nrP : r ≠ pa := fun z => by rw [z, (E9.trans D10).keep nP P8] at hr; cases hr
      have sx : Same (hid2 g.b pa H8) (hid2 g.b pa (upd H10 r (HO.lst ((us.take 6).map V.str)))) := hid2_mono fun x o n _ e => E11.fr x o n e
      have S11 := S8.mono sx
      have L11 := L8.mono sx
      have dD := Dx.same sx dD8
      clear sx hpl D9 E9 pm hq q10 D10 pu lu ec hr E11 dD8 S8 L8 P8 D8
      generalize us.take 6 = ps at D11 pnd pin l6 q11 P11 S11 L11 dD ⊢
      generalize upd H10 r (HO.lst (ps.map V.str)) = H11 at D11 q11 P11 S11 L11 dD ⊢
      clear fd
      have FS : FlatS (dsF ds) := styd_flat sd
      have GS : ∀ n ∈ names22, GdV (dsF ds n) := fun n _ => styd_gd sd n
      have rZ : (hid2 g.b pa H11) r = some (.lst (ps.map V.str)) := by rw [hid2_ne nr nrP]; exact q11
      have Zp : (hid2 g.b pa H11) pa = none := if_pos (.inr rfl)
      have z11 : Same (hid2 g.b pa H11) H11 := hid2_le fun _ _ _ _ e => e
      have zbn' : ∀ {x o}, (hid2 g.b pa H11) x = some o → x ≠ g.b := fun {x o} e z => by
        rw [z] at e
        exact absurd e (by unfold hid2; rw [if_pos (.inl rfl)]; exact fun z => nomatch z)
      generalize hid2 g.b pa H11 = Hz at S11 L11 dD rZ Zp z11 zbn'
      generalize dsF ds = dS at S11 FS GS
      refine ⟨r, rfl, ⟨_, SqL.of q11⟩, for_it (walk_list (K := K) (a := r) (xs := ps.map V.str)) (fun i σ H' => ∃ (ts : List Addr) (w7 w8 w9 w10 w11 w12 : Option V), σ = [some (.ref a), some (.ref g.b), some (.int (0 + (ti : Nat))), some (.ref sa), some (.ref d), some (.ref pa), some (.str SH), w7, w8, w9, w10, w11, w12, w13, w14, w15, w16, w17] ∧ Vf.Drawn g H4 H' 0 0 ∧ Same Hz H' ∧ H' pa = some (.lst (ts.map V.ref)) ∧ Paired (PthT K dS stf fs (hid2 g.b pa H')) ts (ps.take i))
        ⟨[], _, _, _, _, _, _, rfl, D11, z11, P11, .nil⟩ (fun i σ' H' _ ⟨_, _, _, _, _, _, _, _, _, h, _⟩ => SqL.of (h _ _ rZ)) ?_ ?_⟩
      · clear w7 w8 w9 w10 w11 w12 D11 q11 P11 z11
        rintro i x σ' Ha Hb hpi ⟨ts, v7, v8, v9, v10, v11, v12, rfl, Da, za, Pa, pr⟩ ⟨rfl, hx⟩
        rw [List.getElem?_map] at hx
        obtain ⟨p, hp, rfl⟩ := Option.map_eq_some_iff.mp hx
        have mp := pin p (List.mem_of_getElem? hp)
        have et : ps.take (i + 1) = ps.take i ++ [p] := by
          rw [List.take_add_one, hp]
          rfl
        obtain ⟨lv', hF, hL⟩ := L11.ex
        have FL := FI.len
        refine ⟨_, rfl, ?_⟩
        refine ⟨d, _, za _ _ hF, trivial, fun od => ?_⟩
        refine ⟨_, rfl, d, od, rfl, .inl ⟨lay lv' fs, upd_same, fun D hD => ?_⟩⟩
        have nD : D ≠ d := fun z => by rw [z, upd_same] at hD; cases hD
        have hD : Hb D = none := by rw [upd_ne nD] at hD; exact hD
        have Zd := za.free hD
        refine lc_it (walk_keys (d := d) (o := od) (kvs := lay lv' fs)) (fun i H' => H' D = some (.lst (((fs.take i).filter fun f => appB f p).map V.str)) ∧ H' d = some (.frz od (.dK (lay lv' fs))) ∧ ∀ b o, b ≠ d → Hb b = some o → H' b = some o)
          ⟨upd_same, by rw [upd_ne (Ne.symm nD), upd_same], fun b o n e => by rw [upd_ne (ne_of_none e hD), upd_ne n]; exact e⟩ (fun i H' _ ⟨_, h, _⟩ => h) ?_ ?_
        · rintro i x H2 H3 hi ⟨d2, f2, s2⟩ ⟨rfl, kk, v, hx, rfl⟩
          unfold lay at hx
          rw [List.getElem?_map] at hx
          obtain ⟨fo, hf, e1⟩ := Option.map_eq_some_iff.mp hx
          cases e1
          have et : fs.take (i + 1) = fs.take i ++ [fo] := by
            rw [List.take_add_one, hf]
            rfl
          have f4 := FI.ns fo (List.mem_of_getElem? hf)
          refine ⟨rfl, ?_⟩
          refine ⟨_, rfl, rfl, _, rfl, ?_⟩
          have ee : decide (kV (Sum.inr fo) = V.str "") = decide (fo = "") := decide_eq_decide.mpr ⟨fun z => V.str.inj z, fun z => by rw [z]; rfl⟩
          rw [ee]
          have lz : ((((fs.take i).filter fun f => appB f p).map V.str)).length < sizeLine := by
            rw [List.length_map]
            have l1 := List.length_filter_le (fun f => appB f p) (fs.take i)
            have l2 : (fs.take i).length ≤ fs.length := (List.take_sublist _ _).length_le
            exact Nat.lt_of_le_of_lt (show _ ≤ 10 by omega) (by decide)
          have yes : appB fo p = true → ((upd H3 D (HO.lst ((((fs.take i).filter fun f => appB f p).map V.str) ++ [.str fo]))) D = some (.lst (((fs.take (i + 1)).filter fun f => appB f p).map V.str)) ∧ (upd H3 D (HO.lst ((((fs.take i).filter fun f => appB f p).map V.str) ++ [.str fo]))) d = some (.frz od (.dK (lay lv' fs))) ∧ ∀ b o, b ≠ d → Hb b = some o → (upd H3 D (HO.lst ((((fs.take i).filter fun f => appB f p).map V.str) ++ [.str fo]))) b = some o) := fun h => by
            refine ⟨?_, ?_, fun b o n e => ?_⟩
            · rw [upd_same, et, List.filter_append, List.filter_cons_of_pos (p := fun f => appB f p) h, List.map_append]
              rfl
            · rw [upd_ne (Ne.symm nD)]
              exact f2
            · rw [upd_ne (ne_of_none e hD)]
              exact s2 b o n e
          refine ite2 (fun h => ?_) (fun h => ?_)
          · have hb : appB fo p = true := by unfold appB; rw [h] <;> rfl
            exact ⟨_, rfl, _, d2, lz, yes hb⟩
          · have h0 : decide (fo = "") = false := Bool.eq_false_iff.mpr h
            have l1 := f4_len fo f4
            have le' : fo.length + (("/" : Str)).length ≤ sizeLine := by
              have : (("/" : Str)).length = 1 := rfl
              rw [this]
              exact Nat.le_trans (show _ ≤ 101 by omega) (by decide)
            refine ⟨_, rfl, rfl, _, rfl, _, _, rfl, rfl, le', _, _, rfl, rfl, _, rfl, ?_⟩
            refine ite2 (fun h2 => ?_) (fun h2 => ?_)
            · have hb : appB fo p = true := by unfold appB; rw [h0, h2] <;> rfl
              exact ⟨_, rfl, _, d2, lz, yes hb⟩
            · have hb : appB fo p = false := by unfold appB; rw [h0, Bool.eq_false_iff.mpr h2] <;> rfl
              refine ⟨?_, f2, s2⟩
              rw [et, List.filter_append, List.filter_cons_of_neg (p := fun f => appB f p) (by rw [hb]; exact Bool.false_ne_true), List.filter_nil, List.append_nil]
              exact d2
        · rintro H2 ⟨d2, f2, s2⟩
          have e : fs.take (lay lv' fs).length = fs := by
            unfold lay
            rw [List.length_map, List.take_length]
          rw [e] at d2
          refine ⟨f2, ?_⟩
          have sb3 : Same Hb (upd H2 d (.dK (lay lv' fs))) := fun b o e => by
            by_cases n : b = d
            · subst n
              rw [za _ _ hF] at e
              rw [upd_same, e]
            · rw [upd_ne n]
              exact s2 b o n e
          have d3 : (upd H2 d (HO.dK (lay lv' fs))) D = some (.lst ((fs.filter fun f => appB f p).map V.str)) := by
            rw [upd_ne nD]
            exact d2
          generalize upd H2 d (HO.dK (lay lv' fs)) = H3 at sb3 d3 ⊢
          clear s2 f2 d2 e
          refine ⟨_, _, rfl, ?_⟩
          have srt := srt_for FI mp
          have fin25 : ∀ f ∈ fs.filter (fun f => appB f p), f ∈ fold25 := fun f hf => FI.ns f (List.mem_filter.mp hf).1
          have fl10 : (fs.filter fun f => appB f p).length ≤ 10 := Nat.le_trans (List.length_filter_le _ _) FL
          generalize (fs.filter fun f => appB f p) = zs0 at d3 srt fin25 fl10
          refine ⟨_, rfl, D, rfl, ⟨_, SqL.of d3⟩, fun D2 hD2 => ?_⟩
          have nDD : D ≠ D2 := fun z => by rw [z, hD2] at d3; cases d3
          refine lc_it (walk_list (K := K) (a := D) (xs := zs0.map V.str)) (fun i H' => ∃ ts : List Addr, H' D2 = some (.lst (ts.map V.ref)) ∧ Paired (fun t f => hid D2 H' t = some (.tup [.int (f.length : Nat), .str f])) ts (zs0.take i) ∧ Same H3 H') ⟨[], upd_same, .nil, same_put (Same.refl _) hD2⟩ (fun i H' _ ⟨_, _, _, h⟩ => SqL.of (h _ _ d3)) ?_ ?_
          · rintro i x H4' H5' hi ⟨ts', d4, pr4, s4⟩ ⟨rfl, hx⟩
            rw [List.getElem?_map] at hx
            obtain ⟨fo, hf, rfl⟩ := Option.map_eq_some_iff.mp hx
            have l1 := f4_len fo (fin25 fo (List.mem_of_getElem? hf))
            have et : zs0.take (i + 1) = zs0.take i ++ [fo] := by
              rw [List.take_add_one, hf]
              rfl
            refine ⟨rfl, ?_⟩
            delta tYes
            refine iteT ?_
            refine ⟨_, rfl, _, fo.length, rfl, ⟨Nat.le_trans l1 (by decide), rfl⟩, _, rfl, le 2 (by decide), fun t ht => ?_⟩
            have tD : t ≠ D2 := fun z => by rw [z, d4] at ht; cases ht
            have d5 := upd_some (u := HO.tup [.int (fo.length : Nat), .str fo]) d4 ht
            have s5 := s4.trans (same_new (o := HO.tup [V.int (fo.length : Nat), V.str fo]) ht)
            refine ⟨_, d5, ?_, ts' ++ [t], ?_, ?_, same_put s5 hD2⟩
            · rw [List.length_map, pr4.length, List.length_take]
              exact Nat.lt_of_le_of_lt (show _ ≤ 10 by omega) (by decide)
            · rw [upd_same, List.map_append]
              rfl
            · have upx : ∀ (o o' : HO) x z, hid D2 H5' x = some z → hid D2 (upd (upd H5' t o) D2 o') x = some z := fun o o' x z e => by
                by_cases n : x = D2
                · rw [n] at e
                  exact absurd e (by unfold hid; rw [if_pos rfl]; exact fun z => nomatch z)
                · rw [hid_ne n] at e ⊢
                  rw [upd_ne n]
                  exact upd_some e ht
              rw [et]
              refine Paired.snoc (pr4.mono fun t f h => upx _ _ _ _ h) ?_
              rw [hid_ne tD, upd_ne tD, upd_same]
          · rintro H4' ⟨ts', d4, pr4, s4⟩
            rw [List.length_map, List.take_length] at pr4
            have pr4 : Paired (fun t f => H4' t = some (.tup [.int (f.length : Nat), .str f])) ts' zs0 := pr4.mono fun t f h => hid_same _ _ _ _ h
            obtain ⟨al, so, de⟩ := ln_alike zs0
            refine ⟨D2, ts'.map V.ref, zs0.map lnD, fun x e => ∃ t f, x = .ref t ∧ H4' t = some (.tup [.int (f.length : Nat), .str f]) ∧ e = lnD f, rfl, SqL.of d4, prd_both pr4 fun t _ f _ h => ⟨t, f, rfl, h, rfl⟩, fun x e ⟨t, f, e1, h, e2⟩ => ?_, al, so, de, fun ys q pq hq => ?_⟩
            · rw [e1, e2]
              exact .tup (SqT.of h) (.cons (.int _) (.cons (.str _) .nil))
            · rw [srt] at pq
              obtain ⟨t5, rfl, pr5⟩ := prd_ln pq
              have zsub : ∀ f ∈ forF fs p, f ∈ fs := fun f hf => forF_sub hf
              have zl := forF_len fs p
              have okT := ok_told (p := p) FI ok
              obtain ⟨zs, ez⟩ : ∃ zs, zs = forF fs p := ⟨_, rfl⟩
              rw [← ez] at pr5 zsub zl okT
              have s5 := (sb3.trans s4).trans (same_new (o := HO.lst (t5.map V.ref)) hq)
              have q5 : (upd H4' q (HO.lst (t5.map V.ref))) q = some (.lst (t5.map V.ref)) := upd_same
              have pr5 := pr5.mono fun t f h => upd_some (u := HO.lst (t5.map V.ref)) h hq
              generalize upd H4' q (HO.lst (t5.map V.ref)) = H5' at s5 q5 pr5 ⊢
              clear hq pq srt fin25 fl10 d3 d4 pr4 al so de s4 sb3
              refine ⟨q, rfl, ⟨_, SqL.of q5⟩, fun D3 hD3 => ?_⟩
              refine lc_it (walk_list (K := K) (a := q) (xs := t5.map V.ref)) (fun i H' => H' D3 = some (.lst ((zs.take i).map V.str)) ∧ Same H5' H') ⟨upd_same, same_put (Same.refl _) hD3⟩ (fun i H' _ ⟨_, h⟩ => SqL.of (h _ _ q5)) ?_ ?_
              · rintro i x H6' H7' hi ⟨d6, s6⟩ ⟨rfl, hx⟩
                rw [List.getElem?_map] at hx
                obtain ⟨t, ht, rfl⟩ := Option.map_eq_some_iff.mp hx
                obtain ⟨fo, hf, h5⟩ := pget1 pr5 ht
                refine ⟨t, _, rfl, SqT.of (s6 _ _ h5), rfl, ?_⟩
                refine ⟨_, _, rfl, _, _, rfl, rfl, rfl, ?_⟩
                delta tYes
                refine iteT ?_
                refine ⟨_, rfl, _, d6, ?_, ?_, same_put s6 hD3⟩
                · rw [List.length_map, List.length_take]
                  exact Nat.lt_of_le_of_lt (show _ ≤ 10 by omega) (by decide)
                · rw [upd_same, List.take_add_one, hf, List.map_append]
                  rfl
              · rintro H6' ⟨d6, s6⟩
                rw [List.length_map, pr5.length, List.take_length] at d6
                have s7 := s5.trans s6
                clear pr5 q5 hD3 s5 s6
                refine ⟨_, rfl, D3, rfl, ⟨_, SqL.of d6⟩, for_it (walk_list (K := K) (a := D3) (xs := zs.map V.str)) (fun i σ H' => ∃ (c : Addr) (u8 : Option V), σ = [some (.ref a), some (.ref g.b), some (.int (0 + (ti : Nat))), some (.ref sa), some (.ref d), some (.ref pa), some (.str SH), some (.str p), u8, some (.ref c), some (.ref D3), v11, v12, w13, w14, w15, w16, w17] ∧ Same H6' H' ∧ StyAt K H' c (finS dS stf (zs.take i)))
                  ⟨sa, _, rfl, Same.refl _, S11.mono (za.trans s7)⟩ (fun i σ' H' _ ⟨_, _, _, h, _⟩ => SqL.of (h _ _ d6)) ?_ ?_⟩
                · rintro i x σ' H8' H9' hi ⟨c, u8, rfl, s8, ⟨xs1, c1, c2, c3⟩⟩ ⟨rfl, hx⟩
                  rw [List.getElem?_map] at hx
                  obtain ⟨fo, hf, rfl⟩ := Option.map_eq_some_iff.mp hx
                  have mem := zsub fo (List.mem_of_getElem? hf)
                  have s9 := (za.trans s7).trans s8
                  obtain ⟨b', lb, LB⟩ := hL fo mem
                  obtain ⟨val, ns', hb', np, hv⟩ := (LB.mono s9).ex
                  have dg : DGet H9' d (kV (.inr fo)) (some (.ref b')) := by
                    refine .inl ⟨_, .inr fo, .inl (s9 _ _ hF), rfl, ?_⟩
                    rw [← lb]
                    exact (lay_val lv' mem).symm
                  refine ⟨_, rfl, _, rfl, _, rfl, d, .ref b', rfl, dg, c, b', xs1, val, ns', rfl, c1, c2, hb', np.nodup_iff.mpr (ordN_nd _), by rw [np.length_eq]; exact Nat.le_trans (ordN_len _) (by decide), fun n hn => ordN_names (np.mem_iff.mp hn), fun r' H10' s10 r10 => ?_⟩
                  refine ⟨r', _, rfl, s8.trans s10, ⟨_, r10, rfl, ?_⟩⟩
                  have e : finS dS stf (zs.take (i + 1)) = stepS stf (finS dS stf (zs.take i)) fo := by
                    rw [List.take_add_one, hf]
                    unfold finS
                    rw [List.foldl_append]
                    rfl
                  rw [e]
                  exact laid_dxM (DxAll.same s10 c3) np fun n hn => Dx.same s10 (hv n hn)
                · rintro σ' H8' ⟨c, u8, rfl, s8, S8'⟩
                  rw [List.length_map, List.take_length] at S8'
                  have s9 := s7.trans s8
                  have d8 := s8 _ _ d6
                  clear s7 s8 d6
                  have s9z := za.trans s9
                  refine ⟨_, rfl, _, rfl, _, rfl, sa, d, p, fs, stf, dS, rfl, S11.mono s9z, L11.mono s9z, FI, mp, fun r1 H10 s10 S10 => ?_⟩
                  rw [← ez] at S10
                  have okS : OkX (.tuple (names22.map (finS dS stf zs))) := ok_sty (finS_gd zs dS (fun f hf => ok.gd f (zsub f hf)) GS)
                  refine ⟨_, rfl, .ref r1, .ref c, _, rfl, sty_dx S10, sty_dx (S8'.mono s10), okS, fun H11' s11 => ⟨_, rfl, ?_⟩⟩
                  refine iteF ?_
                  have t11 := s9.trans (s10.trans s11)
                  have SC := S8'.mono (s10.trans s11)
                  have d11 := (s10.trans s11) _ _ d8
                  clear s10 s11 S10 okS s9z S8' d8
                  have zt := za.trans t11
                  refine ⟨_, rfl, _, rfl, d, p, fs, stf, rfl, L11.mono zt, FI, mp, fun rt H12 qs s12 nrt rq pq => ?_⟩
                  rw [← ez] at pq
                  have z12 := zt.trans s12
                  have d12 := s12 _ _ d11
                  have hF12 := z12 _ _ hF
                  have rtn : Hz rt = none := zt.free nrt
                  refine ⟨_, rfl, ?_⟩
                  refine ⟨_, rfl, D3, rfl, ⟨_, SqL.of d12⟩, fun D4 hD4 => ?_⟩
                  have Z4 := z12.free hD4
                  refine lc_it (walk_list (K := K) (a := D3) (xs := zs.map V.str)) (fun i H' => ∃ ts' : List Addr, H' D4 = some (.lst (ts'.map V.ref)) ∧ Paired (TupL K stf (hid D4 H')) ts' (zs.take i) ∧ Same H12 H') ⟨[], upd_same, .nil, same_put (Same.refl _) hD4⟩ (fun i H' _ ⟨_, _, _, h⟩ => SqL.of (h _ _ d12)) ?_ ?_
                  · rintro i x H13 H14 hi ⟨ts', d13, pr13, s13⟩ ⟨rfl, hx⟩
                    rw [List.getElem?_map] at hx
                    obtain ⟨fo, hf, rfl⟩ := Option.map_eq_some_iff.mp hx
                    have mem := zsub fo (List.mem_of_getElem? hf)
                    have z13 := z12.trans s13
                    obtain ⟨b', lb, LB⟩ := hL fo mem
                    obtain ⟨val, ns', hb', np, hv⟩ := LB.ex
                    have hb13 := z13 _ _ hb'
                    have dg : DGet H14 d (kV (.inr fo)) (some (.ref b')) := by
                      refine .inl ⟨_, .inr fo, .inl (z13 _ _ hF), rfl, ?_⟩
                      rw [← lb]
                      exact (lay_val lv' mem).symm
                    have et : zs.take (i + 1) = zs.take i ++ [fo] := by
                      rw [List.take_add_one, hf]
                      rfl
                    refine ⟨rfl, ?_⟩
                    delta tYes
                    refine iteT ?_
                    refine ⟨_, rfl, _, rfl, _, rfl, d, .ref b', rfl, dg, .inr (.inr (.inl ⟨rfl, .inl ⟨_, hb13⟩⟩)), b', _, rfl, rfl, hb13, fun v hv13 => ?_⟩
                    refine ⟨v, b', val, ns', rfl, upd_same, upd_some hb13 hv13, np.nodup_iff.mpr (ordN_nd _), fun ys tl l H15 yp yo s15 hl15 l15 p15 => ?_⟩
                    obtain rfl : ys = ordN (stf fo).2 := sorted_is (yp.trans np) yo (ordN_pw _)
                    have s15 : Same H14 H15 := (same_new hv13).trans s15
                    refine ⟨l, tl, lay val (ordN (stf fo).2), rfl, SqL.of l15, ?_, fun dn hdn => ?_⟩
                    · unfold lay
                      exact prd_map (p15.mono fun t n h => h) fun t _ n h => SqT.of h
                    rw [lay_new val (ordN_nd _)]
                    have s16 := s15.trans (same_new (o := HO.dK (lay val (ordN (stf fo).2))) hdn)
                    have dn16 : (upd H15 dn (HO.dK (lay val (ordN (stf fo).2)))) dn = some (.dK (lay val (ordN (stf fo).2))) := upd_same
                    have dnD : dn ≠ D4 := fun z => by rw [z, s15 _ _ d13] at hdn; cases hdn
                    generalize upd H15 dn (HO.dK (lay val (ordN (stf fo).2))) = H16 at s16 dn16 ⊢
                    refine ⟨le 2 (by decide), fun tt htt => ?_⟩
                    have s17 := s16.trans (same_new (o := HO.tup [V.str fo, V.ref dn]) htt)
                    have dn17 := upd_some (u := HO.tup [V.str fo, V.ref dn]) dn16 htt
                    have t17 : (upd H16 tt (HO.tup [V.str fo, V.ref dn])) tt = some (.tup [.str fo, .ref dn]) := upd_same
                    have ttD : tt ≠ D4 := fun z => by rw [z, s16 _ _ d13] at htt; cases htt
                    generalize upd H16 tt (HO.tup [V.str fo, V.ref dn]) = H17 at s17 dn17 t17 ⊢
                    have up1 : Same (hid D4 H14) (hid D4 (upd H17 D4 (HO.lst (ts'.map V.ref ++ [V.ref tt])))) := (hid_le s17).trans (hid_put _)
                    have zh : Same Hz (hid D4 (upd H17 D4 (HO.lst (ts'.map V.ref ++ [V.ref tt])))) := (same_hid z13 Z4).trans up1
                    refine ⟨_, s17 _ _ d13, ?_, ts' ++ [tt], ?_, ?_, same_put (s13.trans s17) hD4⟩
                    · rw [List.length_map, pr13.length, List.length_take]
                      exact Nat.lt_of_le_of_lt (show _ ≤ 10 by omega) (by decide)
                    · rw [upd_same, List.map_append]
                      rfl
                    · rw [et]
                      refine Paired.snoc (pr13.mono fun t f ⟨b, h1, h2⟩ => ⟨b, up1 _ _ h1, h2.mono up1⟩) ⟨dn, ?_, ⟨val, ?_, fun n hn => Dx.same zh (hv n (np.mem_iff.mpr hn))⟩⟩
                      · rw [hid_ne ttD, upd_ne ttD]
                        exact t17
                      · rw [hid_ne dnD, upd_ne dnD]
                        exact dn17
                  · rintro H13 ⟨ts', d13, pr13, s13⟩
                    rw [List.length_map, List.take_length] at pr13
                    have pr13 : Paired (TupL K stf H13) ts' zs := pr13.mono fun t f ⟨b, h1, h2⟩ => ⟨b, hid_same _ _ _ _ h1, h2.mono (hid_same _ _)⟩
                    have pq13 : Paired (TupL K stf H13) qs zs := pq.mono fun t f ⟨b, h1, _, h2⟩ => ⟨b, s13 _ _ h1, h2.mono s13⟩
                    refine ⟨.ref rt, .ref D4, _, rfl, told_dx (s13 _ _ rq) pq13, told_dx d13 pr13, okT, fun H14 s14 => ⟨_, rfl, ?_⟩⟩
                    refine iteF ?_
                    have u14 := s12.trans (s13.trans s14)
                    have rq14 := (s13.trans s14) _ _ rq
                    have pq14 : Paired (fun t f => ∃ b, H14 t = some (.tup [.str f, .ref b]) ∧ H11' b = none ∧ ∃ kvs, H14 b = some (.dK kvs) ∧ kvs.length ≤ 6) qs zs := pq.mono fun t f ⟨b, h1, h0, ⟨val, h2, _⟩⟩ => ⟨b, (s13.trans s14) _ _ h1, h0, _, (s13.trans s14) _ _ h2, by unfold lay; rw [List.length_map]; exact ordN_len _⟩
                    clear s12 s13 s14 d13 pr13 pq13 pq rq hD4 Z4
                    refine ⟨_, rfl, rt, rfl, ⟨_, SqL.of rq14⟩, for_it (walk_list (K := K) (a := rt) (xs := qs.map V.ref)) (fun i σ H' => ∃ (u8 u12 : Option V), σ = [some (.ref a), some (.ref g.b), some (.int (0 + (ti : Nat))), some (.ref sa), some (.ref d), some (.ref pa), some (.str SH), some (.str p), u8, some (.ref c), some (.ref D3), some (.ref rt), u12, w13, w14, w15, w16, w17] ∧ Same H11' H' ∧ H' rt = some (.lst (qs.map V.ref)) ∧
                      Paired (fun t f => ∃ b, H' t = some (.tup [.str f, .ref b]) ∧ H11' b = none ∧ ∃ kvs, H' b = some (.dK kvs) ∧ kvs.length ≤ 6 + i) qs zs)
                      ⟨_, _, rfl, u14, rq14, pq14⟩ (fun i σ' H' _ ⟨_, _, _, _, h, _⟩ => SqL.of h) ?_ ?_⟩
                    · rintro i x σ' H15 H16 hi ⟨u8, u12, rfl, s15, r15, p15⟩ ⟨rfl, hx⟩
                      rw [List.getElem?_map] at hx
                      obtain ⟨t, ht, rfl⟩ := Option.map_eq_some_iff.mp hx
                      obtain ⟨fo, hf, b, tb, nb, kvs, hb, lk⟩ := pget1 p15 ht
                      have il : i < 10 := Nat.lt_of_lt_of_le (List.getElem?_eq_some_iff.mp hf).1 zl
                      refine ⟨t, _, rfl, SqT.of tb, rfl, ?_⟩
                      refine ⟨_, _, rfl, _, _, rfl, rfl, ?_⟩
                      refine ⟨_, rfl, b, _, rfl, DPut.k (k := .inr "width") hb (Nat.lt_of_le_of_lt (show _ ≤ 20 by omega) (by decide)), ?_⟩
                      have brt : rt ≠ b := fun z => by rw [← z, r15] at hb; cases hb
                      refine ⟨_, _, rfl, same_put s15 nb, by rw [upd_ne brt]; exact r15, p15.mono fun t' f' ⟨b', tb', nb', kvs', hb', lk'⟩ => ⟨b', ?_, nb', ?_⟩⟩
                      · rw [upd_ne (fun z => by rw [z, hb] at tb'; cases tb')]
                        exact tb'
                      · by_cases e : b' = b
                        · rw [e, upd_same]
                          refine ⟨_, rfl, ?_⟩
                          have := length_putK kvs (.inr "width") (V.int 8)
                          omega
                        · rw [upd_ne e]
                          exact ⟨kvs', hb', by omega⟩
                    · rintro σ' H15 ⟨u8, u12, rfl, s15, _, _⟩
                      have s16 := t11.trans s15
                      have SC := SC.mono s15
                      clear t11 s15
                      have Pc := s16 _ _ Pa
                      have Dc := Da.trans (Drawn.same Da.bag s16)
                      refine ⟨_, rfl, .inl ⟨rfl, _, SqL.of Pc⟩, _, rfl, _, rfl, le 2 (by decide), fun tn htn => ?_⟩
                      have npt : pa ≠ tn := fun z => by rw [← z, Pc] at htn; cases htn
                      have s17 := s16.trans (same_new (o := HO.tup [V.str p, V.ref c]) htn)
                      have Dd := Dc.new (o := HO.tup [V.str p, V.ref c]) htn
                      have Pd := upd_some (u := HO.tup [V.str p, V.ref c]) Pc htn
                      have SD := SC.mono (same_new (o := HO.tup [V.str p, V.ref c]) htn)
                      have t17 : (upd H15 tn (HO.tup [V.str p, V.ref c])) tn = some (.tup [.str p, .ref c]) := upd_same
                      have ntb := Dc.bag.ne_new htn
                      generalize upd H15 tn (HO.tup [V.str p, V.ref c]) = H16 at s17 Dd Pd SD t17 ⊢
                      clear Dc Pc SC s16 htn
                      have lts : ts.length ≤ 6 := by
                        rw [pr.length, List.length_take]
                        omega
                      have flc : FlatS (finS dS stf (forF fs p)) := fin_flat FS _ fun x hx => ok.fl x (forF_sub hx)
                      have SH2 : StyAt K (hid2 g.b pa H16) c (finS dS stf (forF fs p)) := by
                        obtain ⟨ob, hob⟩ := Dd.bag.ob
                        rw [← ez]
                        rw [← ez] at flc
                        exact sty_hid2 SD flc (notup_lst hob) (notup_lst Pd)
                      have upP : ∀ (o : HO), Same (hid2 g.b pa H16) (hid2 g.b pa (upd H16 pa o)) := fun o => hid2_mono fun x z _ n e => by rw [upd_ne n]; exact e
                      have up0 : Same (hid2 g.b pa Hb) (hid2 g.b pa H16) := hid2_mono fun x o _ _ e => s17 x o e
                      refine ⟨pa, _, _, rfl, rfl, Pd, ?_, ts ++ [tn], _, _, _, _, _, _, rfl, Dd.put B4 hP4, same_put (za.trans s17) Zp, ?_, ?_⟩
                      · rw [List.length_map]
                        exact Nat.lt_of_le_of_lt lts (by decide)
                      · rw [upd_same, List.map_append]
                        rfl
                      · rw [et]
                        refine Paired.snoc (pr.mono fun t f h => (h.mono up0).mono (upP _)) ⟨c, ?_, SH2.mono (upP _)⟩
                        rw [hid2_ne ntb (Ne.symm npt), upd_ne (Ne.symm npt)]
                        exact t17
      · clear w7 w8 w9 w10 w11 w12 D11 q11 P11 z11
        rintro σ Ha ⟨ts, v7, v8, v9, v10, v11, v12, rfl, Da, za, Pa, pr⟩
        rw [List.length_map, List.take_length] at pr
        obtain ⟨ekf, kfT⟩ := pth_kf pr
        obtain ⟨kf, eK⟩ : ∃ kf, kf = kfH (hid2 g.b pa Ha) := ⟨_, rfl⟩
        rw [← eK] at ekf kfT
        clear eK
        have hT : ∀ t ∈ ts, Ha t = some (.tup [.str (kf t), vfH Ha t]) := fun t ht => by
          obtain ⟨c, h1, _⟩ := kfT t ht
          have h1 := hid2_le (fun _ _ _ _ e => e) _ _ h1
          rw [h1, vfH_of h1]
        refine fun G hG => ?_
        have nG := Da.bag.ne_new hG
        have nGp : pa ≠ G := fun z => by rw [← z, Pa] at hG; cases hG
        have s1 := same_new (o := HO.dK []) hG
        have Z1 := za.free hG
        have G1 : (upd Ha G (HO.dK [])) G = some (.dK []) := upd_same
        have D1 := Da.new (o := HO.dK []) hG
        generalize upd Ha G (HO.dK []) = H1 at s1 G1 D1 ⊢
        refine ⟨_, rfl, pa, ts, kf, vfH Ha, rfl, SqL.of (s1 _ _ Pa), fun t ht => s1 _ _ (hT t ht), fun t ht u hu e => nd_inj (by rw [ekf]; exact pnd) t ht u hu e, fun ys q yp yo hq => ?_⟩
        have ezs : ys.map kf = pathsOf ps := by
          refine sorted_is ?_ (List.Pairwise.map _ (fun _ _ h => h) yo) (pathsOf_pw ps)
          have := yp.map kf
          rw [ekf] at this
          exact this.trans (pathsOf_own pnd pin)
        have q2 : (upd H1 q (HO.lst (ys.map V.ref))) q = some (.lst (ys.map V.ref)) := upd_same
        have s2 := s1.trans (same_new (o := HO.lst (ys.map V.ref)) hq)
        have G2 := upd_some (u := HO.lst (ys.map V.ref)) G1 hq
        have D2 := D1.new (o := HO.lst (ys.map V.ref)) hq
        have nqG : q ≠ G := fun z => by rw [z, G1] at hq; cases hq
        generalize upd H1 q (HO.lst (ys.map V.ref)) = H2 at q2 s2 G2 D2 ⊢
        have s0 : Same Ha (hid G H2) := same_hid s2 hG
        have q0 : (hid G H2) q = some (.lst (ys.map V.ref)) := by rw [hid_ne nqG]; exact q2
        have g0 : (hid G H2) G = none := if_pos rfl
        have sh : Same (hid G H2) H2 := hid_same _ _
        have hB : Drawn g H4 (hid G H2) 0 0 := Da.trans (Drawn.same Da.bag s0)
        generalize hid G H2 = Hy at s0 q0 g0 sh hB
        clear s1 s2 G1 D1 hq H1
        have kfY : ∀ t ∈ ts, ∃ c, Hy t = some (.tup [.str (kf t), .ref c]) ∧ StyAt K Hy c (finS dS stf (forF fs (kf t))) := fun t ht => by
          obtain ⟨c, h1, h2⟩ := kfT t ht
          exact ⟨c, s0 _ _ (hid2_le (fun _ _ _ _ e => e) _ _ h1), (h2.mono (hid2_le fun _ _ _ _ e => e)).mono s0⟩
        refine ⟨q, rfl, ⟨_, SqL.of q2⟩, for_it (walk_list (K := K) (a := q) (xs := ys.map V.ref)) (fun i σ H' => ∃ (ks : List (NestedKey × Addr × V)) (u7 u9 : Option V), σ = [some (.ref a), some (.ref g.b), some (.int (0 + (ti : Nat))), some (.ref sa), some (.ref d), some (.ref pa), some (.str SH), u7, v8, u9, v10, v11, v12, some (.ref G), w14, w15, w16, w17] ∧ Same Hy H' ∧ GT P w K G H' ks (groups (kap dS stf fs) ((ys.map kf).take i)) ∧ ks.length ≤ i)
          ⟨[], _, _, rfl, sh, ⟨⟨.inr ⟨rfl, G2⟩, fun x hx => absurd hx (by simp), .nil⟩, .nil⟩, Nat.le_refl _⟩ (fun i σ' H' _ ⟨_, _, _, _, h, _⟩ => SqL.of (h _ _ q0)) ?_ ?_⟩
        · rintro i x σ' H3 H4' hyi ⟨ks, u7, u9, rfl, s3, G3, lk⟩ ⟨rfl, hx⟩
          rw [List.getElem?_map] at hx
          obtain ⟨t, ht, rfl⟩ := Option.map_eq_some_iff.mp hx
          have tm := yp.mem_iff.mp (List.mem_of_getElem? ht)
          obtain ⟨c, t0, S0⟩ := kfY t tm
          have iy : i < 6 := by
            have l1 : i < ys.length := (List.getElem?_eq_some_iff.mp ht).1
            have l2 := yp.length_eq
            have l3 := congrArg List.length ekf
            rw [List.length_map] at l3
            omega
          have et : groups (kap dS stf fs) ((ys.map kf).take (i + 1)) = grpStep (kap dS stf fs) (groups (kap dS stf fs) ((ys.map kf).take i)) (kf t) := by
            rw [List.take_add_one, List.getElem?_map, ht]
            exact groups_snoc _ _ _
          have flp : FlatS (finS dS stf (forF fs (kf t))) := fin_flat FS _ fun x hx => ok.fl x (forF_sub hx)
          refine ⟨t, _, rfl, SqT.of (s3 _ _ t0), rfl, ?_⟩
          refine ⟨_, _, rfl, _, _, rfl, rfl, ?_⟩
          refine ⟨_, rfl, ⟨G, ks, rfl, G3.at'⟩, _, rfl, le 0 (by decide), fun e0 he0 => ?_⟩
          have s5 := s3.trans (same_new (o := HO.tup []) he0)
          have G5 := G3.same (same_new (o := HO.tup []) he0)
          have nk5 : NkV K (upd H4' e0 (HO.tup [])) (kap dS stf fs (kf t)) (.ref c) := sty_key (S0.mono s5) flp
          obtain ⟨q0', zs0, eq0, sq0, alt0⟩ := gt_get (k := kap dS stf fs (kf t)) G5 (SqT.of upd_same : SqT K (upd H4' e0 (HO.tup [])) e0 [])
          refine ⟨G, c, ks, kap dS stf fs (kf t), .ref e0, rfl, rfl, G5.at', nk5, sty_depth flp, ?_⟩
          generalize upd H4' e0 (HO.tup []) = H5' at s5 G5 nk5 sq0 ⊢
          refine ⟨_, rfl, le 1 (by decide), fun e1 he1 => ?_⟩
          have s6 := s5.trans (same_new (o := HO.tup [V.str (kf t)]) he1)
          have G6 := G5.same (same_new (o := HO.tup [V.str (kf t)]) he1)
          have q6 := sameT (same_new (o := HO.tup [V.str (kf t)]) he1) sq0
          have p6 : (upd H5' e1 (HO.tup [V.str (kf t)])) e1 = some (.tup [.str (kf t)]) := upd_same
          generalize upd H5' e1 (HO.tup [V.str (kf t)]) = H6' at s6 G6 q6 p6 ⊢
          have len0 : zs0.length ≤ 9 := by
            rcases alt0 with ⟨gr, hgr, _, e2⟩ | ⟨_, e⟩
            · have := grp_len (kap dS stf fs) ((ys.map kf).take i) [] 0 (fun g hg => absurd hg (by simp)) gr hgr
              rw [List.length_take] at this
              rw [← e2]
              omega
            · rw [e]
              exact Nat.zero_le _
          refine ⟨q0', e1, zs0.map V.str, [.str (kf t)], eq0, rfl, q6, SqT.of p6, ?_, fun r' H7' s7 r7 => ?_⟩
          · rw [List.length_map]
            exact Nat.le_trans (show zs0.length + 1 ≤ 10 by omega) (by decide)
          have s8 := s6.trans s7
          have G7 := G6.same s7
          have nk7 : NkV K H7' (kap dS stf fs (kf t)) (.ref c) := sty_key (S0.mono s8) flp
          have gnd : ((groups (kap dS stf fs) ((ys.map kf).take i)).map (·.1)).Nodup := by
            rw [← G7.keys]
            exact G7.at'.nd
          refine ⟨_, rfl, _, rfl, G, c, ks, kap dS stf fs (kf t), rfl, rfl, G7.at', nk7, sty_depth flp, by omega, ?_⟩
          refine ⟨ndPut ks (kap dS stf fs (kf t)) c (.ref r'), _, _, rfl, same_put s8 g0, ?_, Nat.le_trans (ndPut_len _ _ _ _) (Nat.succ_le_succ lk)⟩
          rw [et]
          refine gt_put G7 nk7 (sty_depth flp) fun zs' alt' => ?_
          rw [nd_uniq gnd alt' alt0, List.map_append]
          exact r7
        · rintro σ' H3 ⟨ks, u7, u9, rfl, s3, G3, lk⟩
          have eY : (ys.map kf).take (ys.map V.ref).length = pathsOf ps := by
            rw [← ezs, List.length_map, ← List.length_map (f := kf), List.take_length]
          rw [eY] at G3
          have pg := grp_paths (κ := kap dS stf fs) (fun p hp => pathsOf_in hp) (pathsOf_len ps) (pathsOf_lt ps)
          have GO := groups_ok (κ := kap dS stf fs) (pathsOf_lt ps)
          have l6k : ks.length ≤ 6 := by
            have l2 := yp.length_eq
            have l3 := congrArg List.length ekf
            rw [List.length_map] at l3 lk
            omega
          have P3 := s3 _ _ (s0 _ _ Pa)
          have D3 := hB.trans (Drawn.same hB.bag s3)
          have lts : ts.length = 6 := by
            have l3 := congrArg List.length ekf
            rw [List.length_map] at l3
            omega
          refine ⟨_, rfl, _, rfl, _, rfl, g, 3, 0, 0, rfl, D3.bag, by decide, by decide, fun m H5 m0 m1 D5 => ?_⟩
          obtain ⟨n, rfl⟩ := Int.eq_ofNat_of_zero_le m0
          have n3 : n < 3 := Int.ofNat_lt.mp m1
          have hob := D3.bag.ob
          have D45 := D3.trans D5
          have zbn : Hz g.b = none := by
            cases e : Hz g.b with
            | none => rfl
            | some o => exact absurd rfl (zbn' e)
          have z5 : Same Hz H5 := fun x o e => D5.fr x o (fun z => by rw [z, zbn] at e; cases e) ((za.trans (s0.trans s3)) _ _ e)
          have P5 := D5.keep nP P3
          have G5 := G3.up (seq_drawn hob D5) fun o h => D5.keep nG h
          have k5 : ∀ t ∈ ts, ∃ c, H5 t = some (.tup [.str (kf t), .ref c]) := fun t ht => by
            obtain ⟨c, h1, _⟩ := kfY t ht
            obtain ⟨ob, hb⟩ := hB.bag.ob
            exact ⟨c, D5.keep (fun z => by rw [z, hb] at h1; cases h1) (s3 _ _ h1)⟩
          clear G3 D5 P3 D3 hob m0 m1 s3
          refine ⟨_, rfl, pa, ts.map V.ref, rfl, SqL.of P5, fun r1 hr1 => ?_⟩
          have ec : cutV (ts.map V.ref) none (some ((n : Nat) : Int)) = (ts.take n).map V.ref := by
            rw [List.map_take]
            exact cut_to (ts.map V.ref) (j := n) (by rw [List.length_map]; omega)
          rw [ec]
          have s6 : Same H5 (upd H5 r1 (HO.lst ((ts.take n).map V.ref))) := same_new hr1
          have r6 : (upd H5 r1 (HO.lst ((ts.take n).map V.ref))) r1 = some (.lst ((ts.take n).map V.ref)) := upd_same
          generalize upd H5 r1 (HO.lst ((ts.take n).map V.ref)) = H6 at s6 r6 ⊢
          refine ⟨pa, r1, ts.map V.ref, (ts.take n).map V.ref, rfl, rfl, s6 _ _ P5, r6, ?_, fun l hl1 => ?_⟩
          · rw [List.length_map, List.length_map, List.length_take]
            exact Nat.le_trans (show _ ≤ 12 by omega) (by decide)
          rw [← List.map_append]
          have s7 := s6.trans (same_new (o := HO.lst ((ts ++ ts.take n).map V.ref)) hl1)
          have l7 : (upd H6 l (HO.lst ((ts ++ ts.take n).map V.ref))) l = some (.lst ((ts ++ ts.take n).map V.ref)) := upd_same
          generalize upd H6 l (HO.lst ((ts ++ ts.take n).map V.ref)) = H7 at s7 l7 ⊢
          have tin : ∀ t ∈ ts ++ ts.take n, t ∈ ts := fun t ht => by
            rcases List.mem_append.mp ht with h | h
            · exact h
            · exact List.mem_of_mem_take h
          refine ⟨l, rfl, ⟨_, SqL.of l7⟩, fun D hD => ?_⟩
          refine lc_it (walk_list (K := K) (a := l) (xs := (ts ++ ts.take n).map V.ref)) (fun i H' => H' D = some (.lst ((((ts ++ ts.take n).take i).map kf).map V.str)) ∧ Same H7 H') ⟨upd_same, same_put (Same.refl _) hD⟩ (fun i H' _ ⟨_, h⟩ => SqL.of (h _ _ l7)) ?_ ?_
          · rintro i x H8 H9 hi ⟨d8, s8⟩ ⟨rfl, hx⟩
            rw [List.getElem?_map] at hx
            obtain ⟨t, ht, rfl⟩ := Option.map_eq_some_iff.mp hx
            obtain ⟨c, h5⟩ := k5 t (tin t (List.mem_of_getElem? ht))
            refine ⟨t, _, rfl, SqT.of ((s7.trans s8) _ _ h5), rfl, ?_⟩
            refine ⟨_, _, rfl, _, _, rfl, rfl, rfl, ?_⟩
            delta tYes
            refine iteT ?_
            refine ⟨_, rfl, _, d8, ?_, ?_, same_put s8 hD⟩
            · rw [List.length_map, List.length_map, List.length_take, List.length_append, List.length_take]
              exact Nat.lt_of_le_of_lt (show _ ≤ 12 by omega) (by decide)
            · rw [upd_same, List.take_add_one, ht, List.map_append, List.map_append]
              rfl
          · rintro H8 ⟨d8, s8⟩
            rw [List.length_map, List.take_length, List.map_append, List.map_take, ekf] at d8
            have s58 := s7.trans s8
            have G8 := G5.same s58
            have z8 := z5.trans s58
            have D48 := D45.trans (Drawn.same D45.bag s58)
            clear G5 z5 D45 s58 s8 s7 l7 P5 k5 hD hl1 r6 s6 ec hr1
            have psub : ∀ x ∈ ps.take n, x ∈ ps := fun x hx => List.mem_of_mem_take hx
            have epm : pathsOf (ps ++ ps.take n) = pathsOf ps := pathsOf_more psub
            have pin2 : ∀ x ∈ ps ++ ps.take n, x ∈ paths25 := fun x hx => by
              rcases List.mem_append.mp hx with h | h
              · exact pin x h
              · exact pin x (psub x h)
            have len2 : (ps ++ ps.take n).length ≤ 20 := by
              rw [List.length_append, List.length_take]
              omega
            have ne2 : ps ++ ps.take n ≠ [] := fun z => by
              have := congrArg List.length z
              rw [List.length_append, l6] at this
              exact absurd this (by simp)
            generalize hqs : ps ++ ps.take n = qs at d8 epm pin2 len2 ne2
            refine ⟨_, rfl, D, _, rfl, .inl (SqL.of d8), fun kl hkl => ?_⟩
            have s9 := same_new (o := HO.lst (qs.map V.str)) hkl
            have kl9 : (upd H8 kl (HO.lst (qs.map V.str))) kl = some (.lst (qs.map V.str)) := upd_same
            have d9 := s9 _ _ d8
            generalize upd H8 kl (HO.lst (qs.map V.str)) = H9 at s9 kl9 d9 ⊢
            refine ⟨_, rfl, _, rfl, _, rfl, sa, d, D, qs, fs, stf, dS, rfl, S11.mono (z8.trans s9), L11.mono (z8.trans s9), FI, SqL.of d9, pin2, ne2, len2, FS, ok.fl, fun rt H10 tts s10 _ rt10 pt10 => ?_⟩
            rw [epm] at pt10
            refine ⟨_, _, rfl, ?_⟩
            have s8 := s9.trans s10
            have G10 := G8.same s8
            refine ⟨_, rfl, _, rfl, ⟨G, ks, rfl, G10.at'⟩, G, ks, rfl, rfl, G10.at', fun v hv => ?_⟩
            have G11 := G10.same (same_new (o := valuesO v G) hv)
            have rt11 := upd_some (u := valuesO v G) rt10 hv
            have pt11 := pt10.mono fun t gr h => upd_some (u := valuesO v G) h hv
            have s11 := s8.trans (same_new (o := valuesO v G) hv)
            have v11' : (upd H10 v (valuesO v G)) v = some (valuesO v G) := upd_same
            have kl11 := upd_some (u := valuesO v G) (s10 _ _ kl9) hv
            generalize upd H10 v (valuesO v G) = H11x at G11 rt11 pt11 s11 v11' kl11 ⊢
            generalize groups (kap dS stf fs) (pathsOf ps) = gs at G11 pt11 pg GO
            refine ⟨v, G, ks, grpD gs, rfl, v11', G11.at', prd_both G11.pr fun x _ gr hgr ⟨_, q', e2, sq⟩ => ?_, fun ys2 q2' py hq2 => ?_⟩
            · cases eg : gr.2 with
              | nil => exact absurd eg (GO.ne gr hgr)
              | cons z zs =>
                rw [eg] at sq
                exact ⟨q', z, zs, e2, sq, rfl⟩
            rw [srt_groups GO] at py
            have s12 := s11.trans (same_new (o := HO.lst ys2) hq2)
            have kl12 := upd_some (u := HO.lst ys2) kl11 hq2
            have dx1 : Dx K (upd H11x q2' (HO.lst ys2)) (.ref rt) (.list (grpD gs)) := by
              refine .lst (SqL.of (upd_some rt11 hq2)) ?_
              have go : ∀ {tts : List Addr} {gs : List (NestedKey × List Str)}, Paired (GrpT H11x) tts gs → DxAll K (upd H11x q2' (HO.lst ys2)) (tts.map V.ref) (grpD gs) := fun {tts gs} h => by
                induction h with
                | nil => exact .nil
                | cons a _ ih => exact .cons (.tup (SqT.of (upd_some a hq2)) (strs_dx _)) ih
              exact go pt11
            have dx2 : Dx K (upd H11x q2' (HO.lst ys2)) (.ref q2') (.list (grpD gs)) := by
              refine .lst (SqL.of upd_same) ?_
              have go : ∀ {xs : List V} {es : List PyData}, Paired (TxT K H11x) xs es → DxAll K (upd H11x q2' (HO.lst ys2)) xs es := fun {xs es} h => by
                induction h with
                | nil => exact .nil
                | cons a _ ih =>
                  obtain ⟨t, x, ws, rfl, h1, rfl⟩ := a
                  exact .cons (.tup (sameT (same_new hq2) h1) (strs_dx _)) ih
              exact go py
            refine ⟨.ref rt, .ref q2', _, rfl, dx1, dx2, pg, fun H13 s13 => ⟨_, rfl, ?_⟩⟩
            have kl13 := s13 _ _ kl12
            have s13 := s12.trans s13
            have Z13 := z8.trans s13
            refine iteF ?_
            refine ⟨_, rfl, .ref d, DD, rfl, Dx.same Z13 dD, okD, _, rfl, rfl, ?_⟩
            rw [hsh, show decide (V.str SH = V.str SH) = true from decide_eq_true rfl]
            refine ⟨_, rfl, ?_⟩
            refine iteF ?_
            refine ⟨_, rfl, _, rfl, .list (qs.map .str), .list (qs.map .str), .lst (SqL.of (s13 _ _ d8)) (strs_dp _ qs), .lst (SqL.of kl13) (strs_dp _ qs), paths_shaped pin2, paths_shaped pin2, ?_⟩
            rw [SeqAt.eqv_refl (.list (qs.map .str)) (tameAll_ok _ (paths_tame pin2)).2.2]
            refine ⟨_, rfl, ?_⟩
            refine iteF ?_
            exact ⟨_, _, _, _, _, _, _, _, _, _, _, _, _, _, _, _, rfl, D48.bag.same s13⟩
    · rintro σ H5 ⟨w2, w3, w4, w5, w6, w7, w8, w9, w10, w11, w12, w13, w14, w15, w16, w17, rfl, B5⟩
      exact k H5

theorem law_all (T : Txt K mg w) (sb : ∃ o, base.get? sysModules = some o ∧ o.cls = .type "dict") {f : Addr} {fd : FuncData} (F : Fun K "law" "law" s_p_law f fd) : FnG P w K mg base 8 f fd ["_law_script"] (spLaw25 K) := by
  have take : Cal P w K mg base 1 "_law_take" spTake [] := c_l_take T
  have one : Cal P w K mg base 2 "_law_one" (spOne K) [] := c_l_one T take
  have mixed : Cal P w K mg base 2 "_law_mixed" (spMixed K) [] := c_l_mixed T take
  have alike : CalG P w K mg base 1 "_law_alike" (spAlikeV K) := c_l_alike T sb
  have asc : Cal P w K mg base 1 "_ascending" spAsc [] := c_p_ascending T
  have laid : Cal P w K mg base 3 "laid" (spLaid K) [] := c_p_laid T (c_p_named T) (c_p_style_of T) (c_p_over T asc)
  have wds : Cal P w K mg base 1 "_law_style_words" spWds [] := c_l_style_words T
  have sty : Cal P w K mg base 3 "_law_style" (spStyl K) [] := c_l_style T take one
  have fol : Cal P w K mg base 5 "_law_folders" (spFolders K) [] := c_l_folders T (c_l_layer T wds sty mixed one) mixed one
  have lfor : Cal P w K mg base 2 "layers_for" (spFor K) [] := c_p_layers_for T asc
  have sfor : Cal P w K mg base 4 "style_for" (spStyFor K) [] := c_p_style_for T lfor laid
  exact fn_law25 T sb F (c_l_bag T) take mixed alike sty fol (c_l_laid T wds) sfor lfor (c_p_same_style_paths T sfor)

end
theorem all_mk {l : PySem.W.OpenLaw} {w : World} {K : PySem.W.Frag} {h : Heap} {mg : Str → Option Value} {fa : Addr} (X : K.In h) (G : h.Ns mainGlobals mg) (hfa : mg "law" = some (.ref fa))
    {f0 : Addr} {od0 an0 : Option Addr} {sl0 : Array (Option Value)} {oc0 kV0 dc0 pm0 cd0 ct0 : Value}
    {f1 : Addr} {od1 an1 : Option Addr} {sl1 : Array (Option Value)} {oc1 kV1 dc1 pm1 cd1 ct1 : Value}
    {f2 : Addr} {od2 an2 : Option Addr} {sl2 : Array (Option Value)} {oc2 kV2 dc2 pm2 cd2 ct2 : Value}
    {f3 : Addr} {od3 an3 : Option Addr} {sl3 : Array (Option Value)} {oc3 kV3 dc3 pm3 cd3 ct3 : Value}
    {f4 : Addr} {od4 an4 : Option Addr} {sl4 : Array (Option Value)} {oc4 kV4 dc4 pm4 cd4 ct4 : Value}
    {f5 : Addr} {od5 an5 : Option Addr} {sl5 : Array (Option Value)} {oc5 kV5 dc5 pm5 cd5 ct5 : Value}
    {f6 : Addr} {od6 an6 : Option Addr} {sl6 : Array (Option Value)} {oc6 kV6 dc6 pm6 cd6 ct6 : Value}
    {f7 : Addr} {od7 an7 : Option Addr} {sl7 : Array (Option Value)} {oc7 kV7 dc7 pm7 cd7 ct7 : Value}
    {f8 : Addr} {od8 an8 : Option Addr} {sl8 : Array (Option Value)} {oc8 kV8 dc8 pm8 cd8 ct8 : Value}
    {f9 : Addr} {od9 an9 : Option Addr} {sl9 : Array (Option Value)} {oc9 kV9 dc9 pm9 cd9 ct9 : Value}
    {f10 : Addr} {od10 an10 : Option Addr} {sl10 : Array (Option Value)} {oc10 kV10 dc10 pm10 cd10 ct10 : Value}
    {f11 : Addr} {od11 an11 : Option Addr} {sl11 : Array (Option Value)} {oc11 kV11 dc11 pm11 cd11 ct11 : Value}
    {f12 : Addr} {od12 an12 : Option Addr} {sl12 : Array (Option Value)} {oc12 kV12 dc12 pm12 cd12 ct12 : Value}
    {f13 : Addr} {od13 an13 : Option Addr} {sl13 : Array (Option Value)} {oc13 kV13 dc13 pm13 cd13 ct13 : Value}
    {f14 : Addr} {od14 an14 : Option Addr} {sl14 : Array (Option Value)} {oc14 kV14 dc14 pm14 cd14 ct14 : Value}
    {f15 : Addr} {od15 an15 : Option Addr} {sl15 : Array (Option Value)} {oc15 kV15 dc15 pm15 cd15 ct15 : Value}
    {f16 : Addr} {od16 an16 : Option Addr} {sl16 : Array (Option Value)} {oc16 kV16 dc16 pm16 cd16 ct16 : Value}
    {f17 : Addr} {od17 an17 : Option Addr} {sl17 : Array (Option Value)} {oc17 kV17 dc17 pm17 cd17 ct17 : Value}
    {f18 : Addr} {od18 an18 : Option Addr} {sl18 : Array (Option Value)} {oc18 kV18 dc18 pm18 cd18 ct18 : Value}
    {e_NAMES : Addr} {its_NAMES : Array Value} {tn_NAMES : Nat} {ts_NAMES : Array (Option Value)}
    (a0 : PySem.W.nsIn K mainGlobals "named" = some (some (.ref f0))) (l0 : K.lookup f0 = some ⟨oc0, od0, .func (PySem.W.fnOf "named" "named" (defArgs s_p_named) (defBody s_p_named) (defScope s_p_named) .none kV0 dc0 pm0 an0 cd0 ct0), sl0⟩) (c0 : PySem.W.codeIn K cd0 "named" = true) (k0 : PySem.W.keepIn K (.ref f0) = true)
    (a1 : PySem.W.nsIn K mainGlobals "style_of" = some (some (.ref f1))) (l1 : K.lookup f1 = some ⟨oc1, od1, .func (PySem.W.fnOf "style_of" "style_of" (defArgs s_p_style_of) (defBody s_p_style_of) (defScope s_p_style_of) .none kV1 dc1 pm1 an1 cd1 ct1), sl1⟩) (c1 : PySem.W.codeIn K cd1 "style_of" = true) (k1 : PySem.W.keepIn K (.ref f1) = true)
    (a2 : PySem.W.nsIn K mainGlobals "_ascending" = some (some (.ref f2))) (l2 : K.lookup f2 = some ⟨oc2, od2, .func (PySem.W.fnOf "_ascending" "_ascending" (defArgs s_p_ascending) (defBody s_p_ascending) (defScope s_p_ascending) .none kV2 dc2 pm2 an2 cd2 ct2), sl2⟩) (c2 : PySem.W.codeIn K cd2 "_ascending" = true) (k2 : PySem.W.keepIn K (.ref f2) = true)
    (a3 : PySem.W.nsIn K mainGlobals "laid" = some (some (.ref f3))) (l3 : K.lookup f3 = some ⟨oc3, od3, .func (PySem.W.fnOf "laid" "laid" (defArgs s_p_laid) (defBody s_p_laid) (defScope s_p_laid) .none kV3 dc3 pm3 an3 cd3 ct3), sl3⟩) (c3 : PySem.W.codeIn K cd3 "laid" = true) (k3 : PySem.W.keepIn K (.ref f3) = true)
    (a4 : PySem.W.nsIn K mainGlobals "over" = some (some (.ref f4))) (l4 : K.lookup f4 = some ⟨oc4, od4, .func (PySem.W.fnOf "over" "over" (defArgs s_p_over) (defBody s_p_over) (defScope s_p_over) .none kV4 dc4 pm4 an4 cd4 ct4), sl4⟩) (c4 : PySem.W.codeIn K cd4 "over" = true) (k4 : PySem.W.keepIn K (.ref f4) = true)
    (a5 : PySem.W.nsIn K mainGlobals "layers_for" = some (some (.ref f5))) (l5 : K.lookup f5 = some ⟨oc5, od5, .func (PySem.W.fnOf "layers_for" "layers_for" (defArgs s_p_layers_for) (defBody s_p_layers_for) (defScope s_p_layers_for) .none kV5 dc5 pm5 an5 cd5 ct5), sl5⟩) (c5 : PySem.W.codeIn K cd5 "layers_for" = true) (k5 : PySem.W.keepIn K (.ref f5) = true)
    (a6 : PySem.W.nsIn K mainGlobals "style_for" = some (some (.ref f6))) (l6 : K.lookup f6 = some ⟨oc6, od6, .func (PySem.W.fnOf "style_for" "style_for" (defArgs s_p_style_for) (defBody s_p_style_for) (defScope s_p_style_for) .none kV6 dc6 pm6 an6 cd6 ct6), sl6⟩) (c6 : PySem.W.codeIn K cd6 "style_for" = true) (k6 : PySem.W.keepIn K (.ref f6) = true)
    (a7 : PySem.W.nsIn K mainGlobals "same_style_paths" = some (some (.ref f7))) (l7 : K.lookup f7 = some ⟨oc7, od7, .func (PySem.W.fnOf "same_style_paths" "same_style_paths" (defArgs s_p_same_style_paths) (defBody s_p_same_style_paths) (defScope s_p_same_style_paths) .none kV7 dc7 pm7 an7 cd7 ct7), sl7⟩) (c7 : PySem.W.codeIn K cd7 "same_style_paths" = true) (k7 : PySem.W.keepIn K (.ref f7) = true)
    (a8 : PySem.W.nsIn K mainGlobals "_law_bag" = some (some (.ref f8))) (l8 : K.lookup f8 = some ⟨oc8, od8, .func (PySem.W.fnOf "_law_bag" "_law_bag" (defArgs s_l_bag) (defBody s_l_bag) (defScope s_l_bag) .none kV8 dc8 pm8 an8 cd8 ct8), sl8⟩) (c8 : PySem.W.codeIn K cd8 "_law_bag" = true) (k8 : PySem.W.keepIn K (.ref f8) = true)
    (a9 : PySem.W.nsIn K mainGlobals "_law_take" = some (some (.ref f9))) (l9 : K.lookup f9 = some ⟨oc9, od9, .func (PySem.W.fnOf "_law_take" "_law_take" (defArgs s_l_take) (defBody s_l_take) (defScope s_l_take) .none kV9 dc9 pm9 an9 cd9 ct9), sl9⟩) (c9 : PySem.W.codeIn K cd9 "_law_take" = true) (k9 : PySem.W.keepIn K (.ref f9) = true)
    (a10 : PySem.W.nsIn K mainGlobals "_law_one" = some (some (.ref f10))) (l10 : K.lookup f10 = some ⟨oc10, od10, .func (PySem.W.fnOf "_law_one" "_law_one" (defArgs s_l_one) (defBody s_l_one) (defScope s_l_one) .none kV10 dc10 pm10 an10 cd10 ct10), sl10⟩) (c10 : PySem.W.codeIn K cd10 "_law_one" = true) (k10 : PySem.W.keepIn K (.ref f10) = true)
    (a11 : PySem.W.nsIn K mainGlobals "_law_mixed" = some (some (.ref f11))) (l11 : K.lookup f11 = some ⟨oc11, od11, .func (PySem.W.fnOf "_law_mixed" "_law_mixed" (defArgs s_l_mixed) (defBody s_l_mixed) (defScope s_l_mixed) .none kV11 dc11 pm11 an11 cd11 ct11), sl11⟩) (c11 : PySem.W.codeIn K cd11 "_law_mixed" = true) (k11 : PySem.W.keepIn K (.ref f11) = true)
    (a12 : PySem.W.nsIn K mainGlobals "_law_alike" = some (some (.ref f12))) (l12 : K.lookup f12 = some ⟨oc12, od12, .func (PySem.W.fnOf "_law_alike" "_law_alike" (defArgs s_l_alike) (defBody s_l_alike) (defScope s_l_alike) .none kV12 dc12 pm12 an12 cd12 ct12), sl12⟩) (c12 : PySem.W.codeIn K cd12 "_law_alike" = true) (k12 : PySem.W.keepIn K (.ref f12) = true)
    (a13 : PySem.W.nsIn K mainGlobals "_law_style" = some (some (.ref f13))) (l13 : K.lookup f13 = some ⟨oc13, od13, .func (PySem.W.fnOf "_law_style" "_law_style" (defArgs s_l_style) (defBody s_l_style) (defScope s_l_style) .none kV13 dc13 pm13 an13 cd13 ct13), sl13⟩) (c13 : PySem.W.codeIn K cd13 "_law_style" = true) (k13 : PySem.W.keepIn K (.ref f13) = true)
    (a14 : PySem.W.nsIn K mainGlobals "_law_style_words" = some (some (.ref f14))) (l14 : K.lookup f14 = some ⟨oc14, od14, .func (PySem.W.fnOf "_law_style_words" "_law_style_words" (defArgs s_l_style_words) (defBody s_l_style_words) (defScope s_l_style_words) .none kV14 dc14 pm14 an14 cd14 ct14), sl14⟩) (c14 : PySem.W.codeIn K cd14 "_law_style_words" = true) (k14 : PySem.W.keepIn K (.ref f14) = true)
    (a15 : PySem.W.nsIn K mainGlobals "_law_laid" = some (some (.ref f15))) (l15 : K.lookup f15 = some ⟨oc15, od15, .func (PySem.W.fnOf "_law_laid" "_law_laid" (defArgs s_l_laid) (defBody s_l_laid) (defScope s_l_laid) .none kV15 dc15 pm15 an15 cd15 ct15), sl15⟩) (c15 : PySem.W.codeIn K cd15 "_law_laid" = true) (k15 : PySem.W.keepIn K (.ref f15) = true)
    (a16 : PySem.W.nsIn K mainGlobals "_law_layer" = some (some (.ref f16))) (l16 : K.lookup f16 = some ⟨oc16, od16, .func (PySem.W.fnOf "_law_layer" "_law_layer" (defArgs s_l_layer) (defBody s_l_layer) (defScope s_l_layer) .none kV16 dc16 pm16 an16 cd16 ct16), sl16⟩) (c16 : PySem.W.codeIn K cd16 "_law_layer" = true) (k16 : PySem.W.keepIn K (.ref f16) = true)
    (a17 : PySem.W.nsIn K mainGlobals "_law_folders" = some (some (.ref f17))) (l17 : K.lookup f17 = some ⟨oc17, od17, .func (PySem.W.fnOf "_law_folders" "_law_folders" (defArgs s_l_folders) (defBody s_l_folders) (defScope s_l_folders) .none kV17 dc17 pm17 an17 cd17 ct17), sl17⟩) (c17 : PySem.W.codeIn K cd17 "_law_folders" = true) (k17 : PySem.W.keepIn K (.ref f17) = true)
    (a18 : PySem.W.nsIn K mainGlobals "law" = some (some (.ref f18))) (l18 : K.lookup f18 = some ⟨oc18, od18, .func (PySem.W.fnOf "law" "law" (defArgs s_p_law) (defBody s_p_law) (defScope s_p_law) .none kV18 dc18 pm18 an18 cd18 ct18), sl18⟩) (c18 : PySem.W.codeIn K cd18 "law" = true) (k18 : PySem.W.keepIn K (.ref f18) = true)
    (z_abs : PySem.W.nsIn K mainGlobals "abs" = some none)
    (z_int : PySem.W.nsIn K mainGlobals "int" = some none)
    (z_len : PySem.W.nsIn K mainGlobals "len" = some none)
    (z_range : PySem.W.nsIn K mainGlobals "range" = some none)
    (z_repr : PySem.W.nsIn K mainGlobals "repr" = some none)
    (z_zip : PySem.W.nsIn K mainGlobals "zip" = some none)
    (z_dict : PySem.W.nsIn K mainGlobals "dict" = some none)
    (z_sorted : PySem.W.nsIn K mainGlobals "sorted" = some none)
    (z_set : PySem.W.nsIn K mainGlobals "set" = some none)
    (z_list : PySem.W.nsIn K mainGlobals "list" = some none)
    (z_tuple : PySem.W.nsIn K mainGlobals "tuple" = some none)
    (z_enumerate : PySem.W.nsIn K mainGlobals "enumerate" = some none)
    (ta_NAMES : PySem.W.nsIn K mainGlobals "NAMES" = some (some (.ref e_NAMES))) (tl_NAMES : K.lookup e_NAMES = some ⟨.type "tuple", none, .seq its_NAMES tn_NAMES, ts_NAMES⟩) (tv_NAMES : Vals (tp_NAMES.map V.str) its_NAMES.toList) (tz_NAMES : its_NAMES.size ≤ sizeLine) :
    ∃ (fd : FuncData) (L : List (Addr × Addr)), (∀ p ∈ L, PySem.W.codeHdIn K p.1 p.2 = true ∧ K.lookup p.2 = none) ∧ L.map (·.2) = [] ∧ (∀ (s : Shared) (v : Value), BindsTo s fd ⟨[v], []⟩ [("_law_script", v)]) ∧ ∀ base : Heap, K.In base → base.Ns mainGlobals mg → (True → ∃ o, base.get? sysModules = some o ∧ o.cls = .type "dict") → (∀ p ∈ L, LamX.TabB base mg p.1 p.2) → FnG l.prog w K mg base 8 fa fd ["_law_script"] (spLaw25 K) := by
  have e := hfa.symm.trans (PySem.W.mg_of X G a18)
  cases e
  have T : Txt K mg w := {
    d_p_named := defIn_mk X G a0 l0 c0 k0 fun _ _ _ _ _ _ us hl => match us, hl with | [_], _ => rfl
    d_p_style_of := defIn_mk X G a1 l1 c1 k1 fun _ _ _ _ _ _ us hl => match us, hl with | [_], _ => rfl
    d_p_ascending := defIn_mk X G a2 l2 c2 k2 fun _ _ _ _ _ _ us hl => match us, hl with | [_], _ => rfl
    d_p_laid := defIn_mk X G a3 l3 c3 k3 fun _ _ _ _ _ _ us hl => match us, hl with | [_, _], _ => rfl
    d_p_over := defIn_mk X G a4 l4 c4 k4 fun _ _ _ _ _ _ us hl => match us, hl with | [_, _], _ => rfl
    d_p_layers_for := defIn_mk X G a5 l5 c5 k5 fun _ _ _ _ _ _ us hl => match us, hl with | [_, _], _ => rfl
    d_p_style_for := defIn_mk X G a6 l6 c6 k6 fun _ _ _ _ _ _ us hl => match us, hl with | [_, _, _], _ => rfl
    d_p_same_style_paths := defIn_mk X G a7 l7 c7 k7 fun _ _ _ _ _ _ us hl => match us, hl with | [_, _, _], _ => rfl
    d_l_bag := defIn_mk X G a8 l8 c8 k8 fun _ _ _ _ _ _ us hl => match us, hl with | [_], _ => rfl
    d_l_take := defIn_mk X G a9 l9 c9 k9 fun _ _ _ _ _ _ us hl => match us, hl with | [_, _], _ => rfl
    d_l_one := defIn_mk X G a10 l10 c10 k10 fun _ _ _ _ _ _ us hl => match us, hl with | [_, _], _ => rfl
    d_l_mixed := defIn_mk X G a11 l11 c11 k11 fun _ _ _ _ _ _ us hl => match us, hl with | [_, _], _ => rfl
    d_l_alike := defIn_mk X G a12 l12 c12 k12 fun _ _ _ _ _ _ us hl => match us, hl with | [_, _], _ => rfl
    d_l_style := defIn_mk X G a13 l13 c13 k13 fun _ _ _ _ _ _ us hl => match us, hl with | [_], _ => rfl
    d_l_style_words := defIn_mk X G a14 l14 c14 k14 fun _ _ _ _ _ _ us hl => match us, hl with | [], _ => rfl
    d_l_laid := defIn_mk X G a15 l15 c15 k15 fun _ _ _ _ _ _ us hl => match us, hl with | [_, _], _ => rfl
    d_l_layer := defIn_mk X G a16 l16 c16 k16 fun _ _ _ _ _ _ us hl => match us, hl with | [_], _ => rfl
    d_l_folders := defIn_mk X G a17 l17 c17 k17 fun _ _ _ _ _ _ us hl => match us, hl with | [_], _ => rfl
    d_p_law := defIn_mk X G a18 l18 c18 k18 fun _ _ _ _ _ _ us hl => match us, hl with | [_], _ => rfl
    n_abs := PySem.W.mg_none_of X G z_abs
    n_int := PySem.W.mg_none_of X G z_int
    n_len := PySem.W.mg_none_of X G z_len
    n_range := PySem.W.mg_none_of X G z_range
    n_repr := PySem.W.mg_none_of X G z_repr
    n_zip := PySem.W.mg_none_of X G z_zip
    n_dict := PySem.W.mg_none_of X G z_dict
    n_sorted := PySem.W.mg_none_of X G z_sorted
    n_set := PySem.W.mg_none_of X G z_set
    n_list := PySem.W.mg_none_of X G z_list
    n_tuple := PySem.W.mg_none_of X G z_tuple
    n_enumerate := PySem.W.mg_none_of X G z_enumerate
    ti_NAMES := ⟨_, _, PySem.W.mg_of X G ta_NAMES, tl_NAMES, rfl, rfl, fun H => .inr ⟨_, _, _, tl_NAMES, rfl, rfl, tz_NAMES, tv_NAMES⟩⟩
    t_NAMES := ⟨_, PySem.W.mg_of X G ta_NAMES, fun H => .inr ⟨_, _, _, tl_NAMES, rfl, rfl, tz_NAMES, tv_NAMES⟩⟩
  }
  have F := fun_mk (st := s_p_law) l18 c18 k18
  refine ⟨_, [], fun p hp => ?_, rfl, fun s v => .of_eq rfl, fun base kin _ SB TB => law_all T (SB trivial) F   ⟩
  simp only [List.mem_cons, List.not_mem_nil, or_false] at hp
end Lw
open PySem PySem.W PyProof.Rows
local macro_rules | `(tactic| o_head ($f $a $b $c)) => `(tactic| o_head (Vf.sysHook ($f $a $b $c)))
set_option maxRecDepth 100000 in
set_option maxHeartbeats 0 in
theorem PySem.Challenge.cw_leastlaid_k25_whole_nearest_styles_holds : PySem.Challenge.rw_leastlaid_k25_whole_nearest_styles.Holds := by
  w_on; o_law; k_head; (case hw => w_witness2)
  k_fill
  refine Vf.walk_ofX (S := True) (l := PySem.Challenge.rw_leastlaid_k25_whole_nearest_styles) (n := 63) (k := 8) (x := "_law_script") (sp := fun w => Lw.spLaw25 _) (Ts := []) rfl (by decide) rfl ⟨rfl, by decide, by decide⟩ (fun w h Y => ⟨⟨PySem.W.kIn_of Y.1, fun _ h => nomatch h⟩, fun _ => Y.2⟩) ?F (fun _ _ a ns hl _ hS => ⟨a, ns, rfl, hS, hl, fun _ => rfl⟩)
  case F =>
    intro w mg fa h KX G hmg
    refine' Lw.all_mk KX G hmg ?a0 ?l0 ?c0 ?k0 ?a1 ?l1 ?c1 ?k1 ?a2 ?l2 ?c2 ?k2 ?a3 ?l3 ?c3 ?k3 ?a4 ?l4 ?c4 ?k4 ?a5 ?l5 ?c5 ?k5 ?a6 ?l6 ?c6 ?k6 ?a7 ?l7 ?c7 ?k7 ?a8 ?l8 ?c8 ?k8 ?a9 ?l9 ?c9 ?k9 ?a10 ?l10 ?c10 ?k10 ?a11 ?l11 ?c11 ?k11 ?a12 ?l12 ?c12 ?k12 ?a13 ?l13 ?c13 ?k13 ?a14 ?l14 ?c14 ?k14 ?a15 ?l15 ?c15 ?k15 ?a16 ?l16 ?c16 ?k16 ?a17 ?l17 ?c17 ?k17 ?a18 ?l18 ?c18 ?k18 ?z_abs ?z_int ?z_len ?z_range ?z_repr ?z_zip ?z_dict ?z_sorted ?z_set ?z_list ?z_tuple ?z_enumerate ?ta_NAMES ?tl_NAMES ?tv_NAMES ?tz_NAMES
    (case a0 => k_is)
    (case l0 => k_is)
    (case c0 => k_is)
    (case k0 => k_is)
    (case a1 => k_is)
    (case l1 => k_is)
    (case c1 => k_is)
    (case k1 => k_is)
    (case a2 => k_is)
    (case l2 => k_is)
    (case c2 => k_is)
    (case k2 => k_is)
    (case a3 => k_is)
    (case l3 => k_is)
    (case c3 => k_is)
    (case k3 => k_is)
    (case a4 => k_is)
    (case l4 => k_is)
    (case c4 => k_is)
    (case k4 => k_is)
    (case a5 => k_is)
    (case l5 => k_is)
    (case c5 => k_is)
    (case k5 => k_is)
    (case a6 => k_is)
    (case l6 => k_is)
    (case c6 => k_is)
    (case k6 => k_is)
    (case a7 => k_is)
    (case l7 => k_is)
    (case c7 => k_is)
    (case k7 => k_is)
    (case a8 => k_is)
    (case l8 => k_is)
    (case c8 => k_is)
    (case k8 => k_is)
    (case a9 => k_is)
    (case l9 => k_is)
    (case c9 => k_is)
    (case k9 => k_is)
    (case a10 => k_is)
    (case l10 => k_is)
    (case c10 => k_is)
    (case k10 => k_is)
    (case a11 => k_is)
    (case l11 => k_is)
    (case c11 => k_is)
    (case k11 => k_is)
    (case a12 => k_is)
    (case l12 => k_is)
    (case c12 => k_is)
    (case k12 => k_is)
    (case a13 => k_is)
    (case l13 => k_is)
    (case c13 => k_is)
    (case k13 => k_is)
    (case a14 => k_is)
    (case l14 => k_is)
    (case c14 => k_is)
    (case k14 => k_is)
    (case a15 => k_is)
    (case l15 => k_is)
    (case c15 => k_is)
    (case k15 => k_is)
    (case a16 => k_is)
    (case l16 => k_is)
    (case c16 => k_is)
    (case k16 => k_is)
    (case a17 => k_is)
    (case l17 => k_is)
    (case c17 => k_is)
    (case k17 => k_is)
    (case a18 => k_is)
    (case l18 => k_is)
    (case c18 => k_is)
    (case k18 => k_is)
    (case z_abs => k_is)
    (case z_int => k_is)
    (case z_len => k_is)
    (case z_range => k_is)
    (case z_repr => k_is)
    (case z_zip => k_is)
    (case z_dict => k_is)
    (case z_sorted => k_is)
    (case z_set => k_is)
    (case z_list => k_is)
    (case z_tuple => k_is)
    (case z_enumerate => k_is)
    (case ta_NAMES => k_is)
    (case tl_NAMES => k_is)
    (case tv_NAMES => exact .cons ⟨_, rfl⟩ (.cons ⟨_, rfl⟩ (.cons ⟨_, rfl⟩ (.cons ⟨_, rfl⟩ (.cons ⟨_, rfl⟩ (.cons ⟨_, rfl⟩ (.nil)))))))
    (case tz_NAMES => decide)
