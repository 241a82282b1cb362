import PyProof.Rows.All
import Wide.All
import OpenK.AllK
import Wide.FinOn
import HandS.ForMost
import HandS.Evl
import HandS.Codes
import HandS.RaiseMore
import PyProof.ReprRoads
import HandS.RaiseOp
import HandS.Walk
import PyProof.StrLawsRepr
import PyProof.FitsInt
import HandS.Lambda
import HandS.EndTab
import HandS.CallLocal
import HandS.EndOwn
import HandS.ExcInit
import HandS.ExcField
import HandS.ExcOwn
import HandS.WordsExc
import HandS.SortInts
import HandS.Style
import PyProof.StrLawsOcc
import HandS.StrMore
import PyProof.StrOps2
import HandS.DictComp
import HandS.SortRule
import HandS.More
import HandS.Deep
import KE.KEqNest
import KE.SortData
import KE.KDictLaw
import HandS.TupAny
import PySem.Challenge.RW_leastlaid_k05_brackets_paired
set_option Elab.async false
set_option linter.all false
set_option maxRecDepth 100000
set_option maxHeartbeats 4000000
/-! Own words, for every law: defs whose promise is kept where no repr is under way (FnG), repr of data, a list's item changed by +=. -/
namespace Vf
open PySem PySem.Spec PyProof.Rows L2

/-- a def that keeps its promise wherever no repr is under way -/
structure FnG (P : Program) (w : World) (K : PySem.W.Frag)
    (mg : Str → Option Value) (base : Heap) (k : Nat) (f : Addr)
    (fd : FuncData) (ps : List Str) (sp : Sp) : Prop where
  many : ∀ vs H Q E, sp vs H Q E → vs.length = ps.length
  go : ∀ (A : Around) (outer : List Env) (s : Shared) (H : Hp)
    (args : Args) (us : List Value) (vs : List V) (Q : VK) (E : XK),
    Room k A → A.guards = some [] → Env0 P w K mg base A outer s H →
    BindsTo s fd args (ps.zip us) → Vals vs us → sp vs H Q E →
    codeAny (model P w) A (.call (.ref f) args)
      (CR CX0 outer P w H s Q E) s

section
variable {P : Program} {w : World} {K : PySem.W.Frag}
  {mg : Str → Option Value} {base : Heap}

theorem FnG.of_fn {k : Nat} {f : Addr} {fd : FuncData} {ps : List Str} {sp : Sp}
    (F : FnOk P w K mg base CX0 k f fd ps sp) : FnG P w K mg base k f fd ps sp :=
  ⟨F.len, fun A o s H a us vs Q E hr _ e b r q =>
    F.run A o s H a us vs Q E hr e b r q⟩

/-- by its body, as Fun.ok does it -/
theorem fnG_of {x qual : Str} {st : Stmt} {f : Addr} {fd : FuncData}
    {N ps : List Str} {k : Nat} {sp : Sp}
    (F : Fun K x qual st f fd) (S : FnScope N ps (defScope st))
    (many : ∀ vs H Q E, sp vs H Q E → vs.length = ps.length)
    (body : ∀ (cdv : Value) (A : Around) (outer : List Env)
      (s : Shared) (H : Hp) (vs : List V) (Q : VK) (E : XK),
      Room k (A.deeper (envOfC qual (defScope st)
        s.heap.objs.size f cdv)) →
      A.guards = some [] → sp vs H Q E →
      ∃ t, PSs (cxOf CX0 P w K mg base N qual (defScope st)
          f cdv A outer s H E).nox (defBody st) t ∧
        t { nx := fun _ H' => Q .non H', rt := Q }
          (start N vs) H) :
    FnG P w K mg base (k + 1) f fd ps sp := by
  obtain ⟨_, _, _, _, _, _, cdv, _, _, rfl, lk, hcd⟩ := F.ex
  refine ⟨many, fun A outer s H args us vs Q E hr hg e0 hb r hsp => ?_⟩
  have hlen := many _ _ _ _ hsp
  have KX : K.In s.heap := e0.mod.kin.keeps
    (fun b o e => (e0.bs b o e).1)
  have lim := e0.mod.nolimit.keeps
    (fun b o e => (e0.bs b o e).1)
  have kinds : ∀ y ∈ ps.zip us,
      (defScope st).names.lookup y.1 = some .local ∨
      ((defScope st).names.lookup y.1 = some .cell ∧
        ((cellsFrom (s.heap.objs.size + 1)
          (defScope st).names []).lookup y.1).isSome = true) := by
    rintro ⟨n, v⟩ hy
    cases S.par n (List.of_mem_zip hy).1 with
    | inl q => exact .inl q
    | inr q => exact .inr ⟨q, PySem.W.cellsFrom_some _ _ _ (.inl q)⟩
  refine codeAny_call_function hr.depth (KX _ _ lk) rfl
    S.co S.gen rfl (PySem.W.codeRec_of KX hcd) (hb _ _ _ _ ?_)
  refine wpAny_newFunctionEnv_cells S.kind kinds
    (fun env he s1 x => ?_)
  subst he
  refine ⟨lim.keeps x.toInCall.keep, codeAny_func ?_⟩
  obtain ⟨t, ht, hq⟩ := body cdv A outer s H vs Q E
    (hr.deeper _) hg hsp
  have I := inv_start (CX := CX0) (E := E) S hr.hd e0 hlen r x
  refine wpAny_mono (ht.nox.run [] s1 (start N vs) H _ I hq)
    (fun fl s' hs => ?_) (fun _ _ hs => hs)
  cases fl with
  | brk => exact (hs.choose_spec.choose_spec.2 : False).elim
  | cont => exact (hs.choose_spec.choose_spec.2 : False).elim
  | next =>
    obtain ⟨_, H', J, q⟩ := hs
    exact ⟨V.non, H', J.os, J.bare, J.base, J.hok, rfl, q⟩
  | ret u =>
    obtain ⟨v, _, H', J, rv, q⟩ := hs
    exact ⟨v, H', J.os, J.bare, J.base, J.hok, rv, q⟩
end

/-- a call of such a def -/
theorem pe_callG {X : Cx} {k : Nat} {f : Addr} {fd : FuncData}
    {ps : List Str} {sp : Sp} {x : Str} {p pos : Pos}
    {e : Expr} {es : List Expr} {t : TA}
    (F : FnG X.prog X.w X.K X.mg X.base k f fd ps sp)
    (hr : Room k X.A) (gd : X.A.guards = some [])
    (hg : Gl X x) (hm : X.mg x = some (.ref f))
    (hk : PySem.W.keepIn X.K (.ref f) = true)
    (hb : Binds X.K fd ps []) (ha : PA X (e :: es) t)
    (hdb : (x == ("__debug__" : Str)) = false := by decide)
    (he : starEach (e :: es) X.env =
      (false, eval e X.env) :: starEach es X.env := by rfl)
    (hpl : (backTo pos (starEach es X.env)).any (·.1) = false := by rfl) :
    PE X (.Call (.Name x p) (e :: es) [] pos) (tCall sp [] E0 t) := by
  refine ⟨fun pins s σ H Q I h => wpAny_Call_Name_kw (ld_glob I hg hm ?_ hdb)⟩
  refine PySem.W.callWith_K (h₀ := X.base) I.ok.mod.kin hk
    (thn (ha.run pos pins s σ H _ I h) ?_) he hpl
  rintro us s1 ⟨vs, H1, I1, r, q⟩
  refine ⟨I1.kIn, ?_⟩
  have q' : sp vs H1 Q E0 := by
    have := q
    rw [List.append_nil] at this
    exact this
  have hl : us.length = ps.length := by
    rw [← r.length]
    exact F.many _ _ _ _ q'
  have hb' := hb s1 us I1.kIn (by rw [List.append_nil]; exact hl)
  rw [List.append_nil] at hb'
  refine wpAny_call (codeAny_mono (F.go X.A X.stack s1 H1 ⟨us, []⟩ us vs
    Q E0 hr gd I1.env0 hb' r q') ?_)
  intro res s' hq
  cases res with
  | error e => exact (hq : False).elim
  | ok fl =>
    cases fl with
    | ret u => exact I1.after hq
    | next => exact (hq : False).elim
    | brk => exact (hq : False).elim
    | cont => exact (hq : False).elim

/-- repr of a list or a tuple of data -/
theorem call_reprD {X : Cx} (gd : X.A.guards = some []) (hu : X.A.units + 64 < cLine) :
    CallR X (.builtin "repr") (fun xs H Q => ∃ a d, xs = [.ref a] ∧
      Dp X.K H (.ref a) d ∧ d.showable = true ∧ d.hasDict = false ∧
      d.depth ≤ 60 ∧ d.shown.length ≤ sizeLine ∧ Q (.str d.shown) H) := by
  intro pins s σ H xs us Q I r h
  obtain ⟨a, d, rfl, hd, sh, nd, dp, sz, q⟩ := h
  cases r with
  | cons rv rn =>
    cases rn
    obtain rfl := rv
    obtain ⟨as, rd⟩ := Dp.reads I d _ _ hd rfl
    refine repr_of_reads' rd sh (PyData.noDict_hsm nd) gd (by omega)
      (fun _ _ e => e) (fun h' u tk hk => ?_) sz
    exact ⟨.str d.shown, H, I.kept hk, ⟨u, rfl⟩, q⟩

end Vf

set_option Elab.async false
set_option linter.all false
set_option maxRecDepth 100000
set_option maxHeartbeats 4000000
/-! The end of a law whose def is an FnG. -/
namespace Vf
open PySem PySem.Spec PyProof.Rows L2

section
variable {P : Program} {w : World} {K : PySem.W.Frag}
  {mg mb : Str → Option Value} {k : Nat} {fa a : Addr} {fd : FuncData}
  {x : Str} {sp : Sp} {s₁ : Shared} {vs : List Value} {ns : List Int}

/-- what must be true behind the call -/
abbrev LawEnd (s₁ : Shared) : Result → Shared → Prop := fun r s' =>
  r = .ok (.ret (.bool true)) ∧ OldK s₁.heap s'.heap ∧
    s'.os = s₁.os ∧ AllBare s'.gens

theorem law_goes (KX : K.In s₁.heap)
    (hns : s₁.heap.Ns mainGlobals mg) (hb : s₁.heap.Ns builtinsNs mb)
    (hbb : ∀ y : Str, y ≠ "__name__" → mb y = bootBuiltins y)
    (hlim : s₁.heap.NoLimit) (hgen : s₁.gens = #[])
    (ha : s₁.heap.get? a =
      some { cls := .type "list", data := .seq vs.toArray })
    (hr : Room k callerA)
    (F : ∀ base : Heap, K.In base → base.Ns mainGlobals mg →
      FnG P w K mg base k fa fd [x] sp)
    (bind : ∀ (s : Shared) (u : Value),
      BindsTo s fd ⟨[u], []⟩ [(x, u)])
    (H : Hp) (hO : Only H) (ok : HOk P w H s₁.heap)
    (alone : ∀ b, H b ≠ none → b = a)
    (notK : H a ≠ none → K.lookup a = none)
    (hs : sp [.ref a] H (fun v _ => v = .bl true) fun _ _ _ => False) :
    codeAny (model P w) callerA (.call (.ref fa) ⟨[.ref a], []⟩)
      (LawEnd s₁) s₁ := by
  have free : ∀ {b : Addr} {o : Obj} {es : Array DictEntry} {ep : Nat},
      s₁.heap.get? b = some o → o.data = .dict es ep → H b = none := by
    intro b o es ep e d
    cases q : H b with
    | none => rfl
    | some u =>
      have z : b = a := alone b (by rw [q]; exact Option.some_ne_none u)
      rw [z, ha] at e
      cases e
      cases d
  have ns' : ∀ {b : Addr} {m : Str → Option Value},
      s₁.heap.Ns b m → (hidT s₁.heap H).Ns b m := by
    rintro b m ⟨o, es, ep, e, d, r⟩
    exact ⟨o, es, ep, hidT_get e (free e d), d, r⟩
  have kin : K.In (hidT s₁.heap H) := by
    intro b o e
    refine hidT_get (KX b o e) ?_
    cases q : H b with
    | none => rfl
    | some u =>
      have z : b = a := alone b (by rw [q]; exact Option.some_ne_none u)
      have z2 := notK (by rw [← z, q]; exact Option.some_ne_none u)
      rw [z, z2] at e
      cases e
  have lim' : (hidT s₁.heap H).NoLimit := by
    obtain ⟨mc, h1, h2⟩ := hlim
    exact ⟨mc, ns' h1, h2⟩
  have M : Mod K mg (hidT s₁.heap H) :=
    ⟨kin, ns' hns, ⟨mb, ns' hb, hbb⟩, lim'⟩
  have none_in : ∀ b : Addr, b ∉ ([] : List Addr) := fun b => by simp
  have env : Env0 P w K mg (hidT s₁.heap H) callerA [] s₁ H :=
    ⟨rfl, M, fun b o e => of_hidT e, Nat.le_of_eq (hidT_size _ _),
      trivial, fun b z => absurd z (none_in b), ok, .of_eq hgen⟩
  refine codeAny_mono ((F _ kin (ns' hns)).go callerA [] s₁ H
    ⟨[.ref a], []⟩ [.ref a] [.ref a] _ _ hr rfl env
    (bind s₁ (.ref a)) (.cons rfl .nil) hs) ?_
  intro r s' h
  cases r with
  | error e => exact (h : False).elim
  | ok fl =>
    cases fl with
    | next => exact (h : False).elim
    | brk => exact (h : False).elim
    | cont => exact (h : False).elim
    | ret u =>
      obtain ⟨v, H', os, bare, un, ok', rv, q⟩ := h
      obtain rfl : v = .bl true := q
      obtain rfl : u = Value.bool true := rv
      refine ⟨rfl, OldK.of_keep (fun b o e => ?_), os, bare⟩
      cases q : H b with
      | none => exact un.keep b o e q (none_in b) (none_in b)
      | some u =>
        rcases hO b with z | ⟨ob, xs, z⟩
        · rw [q] at z
          cases z
        · obtain ⟨e1, _⟩ := ok b _ z
          obtain ⟨e2, _⟩ := ok' b _ (un.frzs b ob _ z)
          rw [e] at e1
          cases e1
          exact e2

theorem law_goes2 (KX : K.In s₁.heap)
    (hns : s₁.heap.Ns mainGlobals mg) (hb : s₁.heap.Ns builtinsNs mb)
    (hbb : ∀ y : Str, y ≠ "__name__" → mb y = bootBuiltins y)
    (hlim : s₁.heap.NoLimit) (hgen : s₁.gens = #[])
    (ha : s₁.heap.get? a =
      some { cls := .type "list", data := .seq vs.toArray })
    (hi : IntsAre vs ns) (hl : ns.length ≤ sizeLine)
    (hr : Room k callerA)
    (F : ∀ base : Heap, K.In base → base.Ns mainGlobals mg →
      FnG P w K mg base k fa fd [x] sp)
    (bind : ∀ (s : Shared) (u : Value),
      BindsTo s fd ⟨[u], []⟩ [(x, u)])
    (hs : ∀ H : Hp, Only H → SqL K H a (ns.map V.int) →
      sp [.ref a] H (fun v _ => v = .bl true) fun _ _ _ => False) :
    codeAny (model P w) callerA (.call (.ref fa) ⟨[.ref a], []⟩)
      (LawEnd s₁) s₁ := by
  have rv := vals_ints hi
  cases hk : K.lookup a with
  | some o =>
    have e := KX a o hk
    rw [ha] at e
    cases e
    refine law_goes KX hns hb hbb hlim hgen ha hr F bind
      (fun _ => none) (fun _ => .inl rfl) (fun b u z => by cases z)
      (fun b z => absurd rfl z) (fun z => absurd rfl z) (hs _ (fun _ => .inl rfl) ?_)
    refine .inr ⟨_, vs.toArray, _, hk, rfl, rfl, rfl, ?_, by simpa using rv⟩
    rw [List.size_toArray, hi.length]
    exact hl
  | none =>
    have only : Only (fun b => if b = a then some (.frz { cls := .type "list", data := .seq vs.toArray } (.lst (ns.map V.int))) else none) := by
      intro b
      by_cases q : b = a
      · exact .inr ⟨_, _, if_pos q⟩
      · exact .inl (if_neg q)
    refine law_goes KX hns hb hbb hlim hgen ha hr F bind _ only
      (fun b u z => ?_) (fun b z => ?_) (fun _ => hk)
      (hs _ only (.inl (.inr ⟨_, if_pos rfl⟩)))
    · by_cases q : b = a
      · have z' := (if_pos q).symm.trans z
        cases z'
        subst q
        exact ⟨ha, by rw [List.length_map]; exact hl, vs, _, rv, ha⟩
      · have z' := (if_neg q).symm.trans z
        cases z'
    · by_cases q : b = a
      · exact q
      · exact absurd (if_neg q) z
end

/-- the goal that the head leaves -/
theorem walk_ofG {l : PySem.W.OpenLaw} {n k : Nat} {q : Program}
    {loose : List Str} {XP : (Str → Option Value) → Heap → Prop}
    {YP : World → Heap → Prop} {d : DefRec}
    {K : Params → PySem.W.Frag} {sp : World → Sp} {x : Str}
    (hn : l.most = some n) (hn2 : n ≤ sizeLine)
    (hdf : d.params.defaults = []) (hr : Room k callerA)
    (hY : ∀ (w : World) (h : Heap), YP w h → (K w.params).In h)
    (F : ∀ (w : World) (mg : Str → Option Value) (fa : Addr) (h : Heap),
      (K w.params).In h → h.Ns mainGlobals mg →
      mg d.name = some (.ref fa) →
      ∃ fd : FuncData,
        (∀ (s : Shared) (u : Value), BindsTo s fd ⟨[u], []⟩ [(x, u)]) ∧
        ∀ base : Heap, (K w.params).In base → base.Ns mainGlobals mg →
          FnG l.prog w (K w.params) mg base k fa fd [x] (sp w))
    (hsp : ∀ (w : World) (H : Hp) (a : Addr) (ns : List Int),
      ns.length ≤ n → Only H → SqL (K w.params) H a (ns.map V.int) →
      sp w [.ref a] H (fun v _ => v = .bl true) fun _ _ _ => False) :
    PySem.W.WalkO q loose XP YP l.row.toRowW d []
      (fun f vs => PySem.call f vs) := by
  refine Att.attach_call hn hdf ?_
  intro w s₀ s₁ mg mb fa o pm cd doc a vs ns G Y ho hd hcd hmg hobj hints hlen hg
  have KX := hY w _ Y
  obtain ⟨fd, hb, hF⟩ := F w mg fa _ KX G.T.g hmg
  exact law_goes2 KX G.T.g G.T.b G.T.builtins G.T.nolimit hg hobj
    hints (Nat.le_trans hlen hn2) hr hF hb
    (fun H hO hS => hsp w H a ns hlen hO hS)
end Vf

set_option Elab.async false
set_option linter.all false
set_option maxRecDepth 100000
set_option maxHeartbeats 4000000
/-! Own words: defs of the module as they are called; a list's item by +=; the bag of a law's draws. -/
namespace Vf
open PySem PySem.Spec PyProof.Rows L2
open C8 (Cal pe_c pe_gc CalAt)

/-- a def of the text, as the top has laid it -/
structure DefIn (K : PySem.W.Frag) (mg : Str → Option Value) (x : Str) (st : Stmt) (ps : List Str) : Prop where
  ex : ∃ f fd, Fun K x x st f fd ∧ mg x = some (.ref f) ∧ Binds K fd ps []

section
variable {P : Program} {w : World} {K : PySem.W.Frag} {mg : Str → Option Value} {base : Heap}

theorem defIn_mk {x : Str} {st : Stmt} {ps : List Str} {h : Heap} {f : Addr} {oc : Value} {od an : Option Addr} {osl : Array (Option Value)} {kV doc pm cdv ct : Value}
    (X : K.In h) (G : h.Ns mainGlobals mg) (a : PySem.W.nsIn K mainGlobals x = some (some (.ref f)))
    (l : K.lookup f = some ⟨oc, od, .func (PySem.W.fnOf x x (defArgs st) (defBody st) (defScope st) .none kV doc pm an cdv ct), osl⟩)
    (c : PySem.W.codeIn K cdv x = true) (k : PySem.W.keepIn K (.ref f) = true)
    (b : ∀ (kV doc pm : Value) (an : Option Addr) (cdv ct : Value) (us : List Value), us.length = ps.length →
      bindArgs (PySem.W.fnOf x x (defArgs st) (defBody st) (defScope st) .none kV doc pm an cdv ct) ⟨us, []⟩ = pure (ps.zip us)) : DefIn K mg x st ps := by
  have F := fun_mk (st := st) l c k
  exact ⟨f, _, F, PySem.W.mg_of X G a, F.binds b⟩
theorem calOf {x : Str} {st : Stmt} {N ps : List Str} {k : Nat} {sp : Sp}
    (D : DefIn K mg x st ps) (S : FnScope N ps (defScope st))
    (many : ∀ vs H Q E, sp vs H Q E → vs.length = ps.length)
    (body : ∀ (f : Addr) (cdv : Value) (A : Around) (outer : List Env) (s : Shared) (H : Hp) (vs : List V) (Q : VK) (E : XK),
      Room k (A.deeper (envOfC x (defScope st) s.heap.objs.size f cdv)) → sp vs H Q E →
      ∃ t, PSs (cxOf CX0 P w K mg base N x (defScope st) f cdv A outer s H E).nox (defBody st) t ∧ t { nx := fun _ H' => Q .non H', rt := Q } (start N vs) H) :
    Cal P w K mg base (k + 1) x sp [] := by
  obtain ⟨f, fd, F, hm, hb⟩ := D.ex
  exact ⟨f, fd, ps, [], F.ok S many (fun cdv A o s H vs Q E hr h => body f cdv A o s H vs Q E hr h), hm, F.kp, hb, .nil⟩

/-- such a def, where no repr is under way -/
structure CalG (P : Program) (w : World) (K : PySem.W.Frag) (mg : Str → Option Value) (base : Heap) (k : Nat) (x : Str) (sp : Sp) : Prop where
  ex : ∃ (f : Addr) (fd : FuncData) (ps : List Str), FnG P w K mg base k f fd ps sp ∧ mg x = some (.ref f) ∧ PySem.W.keepIn K (.ref f) = true ∧ Binds K fd ps []
theorem calGOf {x : Str} {st : Stmt} {N ps : List Str} {k : Nat} {sp : Sp}
    (D : DefIn K mg x st ps) (S : FnScope N ps (defScope st))
    (many : ∀ vs H Q E, sp vs H Q E → vs.length = ps.length)
    (body : ∀ (f : Addr) (cdv : Value) (A : Around) (outer : List Env) (s : Shared) (H : Hp) (vs : List V) (Q : VK) (E : XK),
      Room k (A.deeper (envOfC x (defScope st) s.heap.objs.size f cdv)) → A.guards = some [] → sp vs H Q E →
      ∃ t, PSs (cxOf CX0 P w K mg base N x (defScope st) f cdv A outer s H E).nox (defBody st) t ∧ t { nx := fun _ H' => Q .non H', rt := Q } (start N vs) H) :
    CalG P w K mg base (k + 1) x sp := by
  obtain ⟨f, fd, F, hm, hb⟩ := D.ex
  exact ⟨f, fd, ps, fnG_of F S many (fun cdv A o s H vs Q E hr h => body f cdv A o s H vs Q E hr h), hm, F.kp, hb⟩
end

section
variable {X : Cx} {k j : Nat} {x : Str} {sp : Sp} {p pos : Pos} {e o i : Expr} {es : List Expr} {t : TA}
theorem pe_c0 (c : Cal X.prog X.w X.K X.mg X.base k x sp []) (hr : Room j X.A) (hk : k ≤ j) (hg : Gl X x)
    (hdb : (x == ("__debug__" : Str)) = false := by decide) : PE X (.Call (.Name x p) [] [] pos) (tCall sp [] E0 tNil) := by
  obtain ⟨f, fd, ps, ds, F, hm, kp, b, d⟩ := c.ex
  exact pe_call0 F (hr.mono hk) hg hm kp b d pass0 hdb
theorem pe_cG (c : CalG X.prog X.w X.K X.mg X.base k x sp) (hr : Room k X.A) (gd : X.A.guards = some []) (hg : Gl X x) (ha : PA X (e :: es) t)
    (hdb : (x == ("__debug__" : Str)) = false := by decide) (he : starEach (e :: es) X.env = (false, eval e X.env) :: starEach es X.env := by rfl) (hpl : (backTo pos (starEach es X.env)).any (·.1) = false := by rfl) :
    PE X (.Call (.Name x p) (e :: es) [] pos) (tCall sp [] E0 t) := by
  obtain ⟨f, fd, ps, F, hm, kp, b⟩ := c.ex
  exact pe_callG F hr gd hg hm kp b ha hdb he hpl

/-- xs[i] read on the way of xs[i] += .. -/
theorem get_list : PGet X (rIxL X.K) := by
  intro pins s σ H x y v u Q I rx ry h
  obtain ⟨p, xs, i, z, rfl, rfl, hq, he, q⟩ := h
  cases rx
  obtain ⟨t, rfl⟩ := ry
  obtain ⟨its, r, pl, hz⟩ := I.list hq
  obtain ⟨j, h1, h2, h3, h4, h5⟩ := atI_get he
  obtain ⟨w, ew, rw'⟩ := r.get h2
  have hl := r.length
  have hn := line63
  have fin : EP X pins σ Q w s := ⟨z, H, I, rw', q⟩
  by_cases h0 : 0 ≤ i
  · have hj : i.toNat = j := by
      rw [seqIndex_of h0 h5] at h1
      exact Option.some.inj h1
    exact wpAny_getItem_list pl.isList h0 (by omega) (by rw [hj]; simpa using ew) fin
  · have hj : (i + (its.toArray.size : Int)).toNat = j := by
      rw [seqIndex_neg (by omega) h4] at h1
      rw [List.size_toArray, ← hl]
      exact Option.some.inj h1
    exact wpAny_getItem_list_neg pl.isList (by omega) (by rw [List.size_toArray]; omega) (by omega) (by rw [hj]; simpa using ew) fin
end

/-! ### the bag -/
/-- all but b stands as it stood -/
def Fr (b : Addr) (H H' : Hp) : Prop := ∀ a o, a ≠ b → H a = some o → H' a = some o
theorem Fr.refl (b : Addr) (H : Hp) : Fr b H H := fun _ _ _ h => h
theorem Fr.trans {b : Addr} {H H1 H2 : Hp} (x : Fr b H H1) (y : Fr b H1 H2) : Fr b H H2 := fun a o n h => y a o n (x a o n h)
theorem Fr.new {b p : Addr} {H H' : Hp} {o : HO} (x : Fr b H H') (n : H' p = none) : Fr b H (upd H' p o) := fun a u na h => by
  have := x a u na h
  rw [upd_ne (ne_of_none this n)]
  exact this
theorem Fr.at {b : Addr} {H H' : Hp} {o : HO} (x : Fr b H H') : Fr b H (upd H' b o) := fun a u na h => by
  rw [upd_ne na]
  exact x a u na h
theorem Fr.put {b p : Addr} {H H' : Hp} {o : HO} (x : Fr b H H') (n : H p = none) : Fr b H (upd H' p o) := fun a u na h => by
  rw [upd_ne (ne_of_none h n)]
  exact x a u na h
/-- tuples stay -/
def Tk (H H' : Hp) : Prop := ∀ a xs, H a = some (.tup xs) → H' a = some (.tup xs)
theorem Tk.refl (H : Hp) : Tk H H := fun _ _ h => h
theorem Tk.trans {H H1 H2 : Hp} (x : Tk H H1) (y : Tk H1 H2) : Tk H H2 := fun a o h => y a o (x a o h)
theorem Tk.of {H H' : Hp} (x : Same H H') : Tk H H' := fun a o h => x a _ h
theorem Tk.new {p : Addr} {H H' : Hp} {o : HO} (x : Tk H H') (n : H' p = none) : Tk H (upd H' p o) := fun a u h => by
  have := x a u h
  rw [upd_ne (ne_of_none this n)]
  exact this
theorem Tk.put {p : Addr} {H H' : Hp} {o : HO} (x : Tk H H') (n : ∀ xs, H p ≠ some (.tup xs)) : Tk H (upd H' p o) := fun a u h => by
  by_cases q : a = p
  · rw [q] at h
    exact absurd h (n u)
  · rw [upd_ne q]
    exact x a u h

/-- a bag stands at b, its numbers at L -/
structure Bg where
  b : Addr
  L : Addr
/-- the six things in a bag: c and e the last two -/
structure Bag (H : Hp) (g : Bg) (c e : Int) : Prop where
  ex : ∃ (z m i : Int) (ns : List Int),
    H g.b = some (.lst [.int z, .int m, .int i, .ref g.L, .int c, .int e]) ∧ H g.L = some (.lst (ns.map V.int)) ∧
    0 ≤ z ∧ 0 ≤ m ∧ m < 2147483647 ∧ 0 ≤ i ∧ (∀ n ∈ ns, (0 : Int) ≤ n) ∧ ns.length ≤ 63
  ne : g.L ≠ g.b
theorem Bag.ob {H : Hp} {g : Bg} {c e : Int} (B : Bag H g c e) : ∃ o, H g.b = some (.lst o) := by
  obtain ⟨z, m, i, ns, h, _⟩ := B.ex
  exact ⟨_, h⟩
theorem Bag.obL {H : Hp} {g : Bg} {c e : Int} (B : Bag H g c e) : ∃ o, H g.L = some (.lst o) := by
  obtain ⟨z, m, i, ns, h, h2, _⟩ := B.ex
  exact ⟨_, h2⟩
theorem Bag.ne_new {H : Hp} {g : Bg} {p : Addr} {c e : Int} (B : Bag H g c e) (n : H p = none) : p ≠ g.b := fun z => by
  obtain ⟨o, h⟩ := B.ob
  rw [← z, n] at h
  cases h
theorem Bag.ne_newL {H : Hp} {g : Bg} {p : Addr} {c e : Int} (B : Bag H g c e) (n : H p = none) : p ≠ g.L := fun z => by
  obtain ⟨o, h⟩ := B.obL
  rw [← z, n] at h
  cases h
theorem Bag.put {H : Hp} {g : Bg} {p : Addr} {c e : Int} {o : HO} (B : Bag H g c e) (n : p ≠ g.b) (n2 : p ≠ g.L) : Bag (upd H p o) g c e := by
  obtain ⟨z, m, i, ns, h, h2, r⟩ := B.ex
  exact ⟨⟨z, m, i, ns, by rw [upd_ne n.symm]; exact h, by rw [upd_ne n2.symm]; exact h2, r⟩, B.ne⟩
theorem Bag.new {H : Hp} {g : Bg} {p : Addr} {c e : Int} {o : HO} (B : Bag H g c e) (n : H p = none) : Bag (upd H p o) g c e := B.put (B.ne_new n) (B.ne_newL n)
theorem Bag.same {H H' : Hp} {g : Bg} {c e : Int} (B : Bag H g c e) (n : Same H H') : Bag H' g c e := by
  obtain ⟨z, m, i, ns, h, h2, r⟩ := B.ex
  exact ⟨⟨z, m, i, ns, n _ _ h, n _ _ h2, r⟩, B.ne⟩
theorem Bag.tk {H H' : Hp} {g : Bg} {c e : Int} (B : Bag H g c e) (f : Fr g.b H H') : Tk H H' := fun a xs h => f a _ (fun z => by
  obtain ⟨o, h2⟩ := B.ob
  rw [← z, h] at h2
  cases h2) h
/-- behind a draw: the bag stands, and all else -/
structure Drawn (g : Bg) (H H' : Hp) (c e : Int) : Prop where
  bag : Bag H' g c e
  fr : Fr g.b H H'
  tk : Tk H H'
section
variable {g : Bg} {a p : Addr} {H H1 H2 H' : Hp} {c e c' e' : Int} {o : HO}
theorem Drawn.trans (x : Drawn g H H1 c e) (y : Drawn g H1 H2 c' e') : Drawn g H H2 c' e' := ⟨y.bag, x.fr.trans y.fr, x.tk.trans y.tk⟩
theorem Drawn.new (x : Drawn g H H' c e) (n : H' p = none) : Drawn g H (upd H' p o) c e := ⟨x.bag.new n, x.fr.new n, x.tk.new n⟩
theorem Drawn.of (B : Bag H g c e) : Drawn g H H c e := ⟨B, .refl _ _, .refl _⟩
theorem Drawn.mk' (B : Bag H g c' e') (B' : Bag H' g c e) (f : Fr g.b H H') : Drawn g H H' c e := ⟨B', f, B.tk f⟩
theorem Drawn.same (B : Bag H g c e) (n : Same H H') : Drawn g H H' c e := ⟨B.same n, fun a o _ h => n a o h, .of n⟩
/-- a store into what H did not know -/
theorem Drawn.put (x : Drawn g H H' c e) (B : Bag H g c' e') (n : H p = none) : Drawn g H (upd H' p o) c e :=
  ⟨x.bag.put (B.ne_new n) (B.ne_newL n), x.fr.put n, x.tk.put fun xs h => by rw [n] at h; cases h⟩
theorem Drawn.keep (x : Drawn g H H' c e) (n : a ≠ g.b) (h : H a = some o) : H' a = some o := x.fr a o n h
theorem upd_some {u : HO} (h : H a = some o) (n : H p = none) : upd H p u a = some o := by
  rw [upd_ne (ne_of_none h n)]
  exact h
theorem Drawn.seqL {K : PySem.W.Frag} {xs : List V} (x : Drawn g H H' c e) (n : a ≠ g.b) (h : SqL K H a xs) : SqL K H' a xs := by
  rcases h with (h | ⟨o, h⟩) | h
  · exact .inl (.inl (x.fr _ _ n h))
  · exact .inl (.inr ⟨o, x.fr _ _ n h⟩)
  · exact .inr h
theorem Drawn.seqT {K : PySem.W.Frag} {xs : List V} (x : Drawn g H H' c e) (n : a ≠ g.b) (h : SqT K H a xs) : SqT K H' a xs := by
  rcases h with (h | ⟨o, h⟩) | h
  · exact .inl (.inl (x.fr _ _ n h))
  · exact .inl (.inr ⟨o, x.fr _ _ n h⟩)
  · exact .inr h
end
/-- an item below the length -/
theorem at_of {α : Type} {xs : List α} {r : Int} (h0 : 0 ≤ r) (h1 : r < (xs.length : Int)) : ∃ v, v ∈ xs ∧ atI xs r = some v := by
  obtain ⟨j, rfl⟩ := Int.eq_ofNat_of_zero_le h0
  have hj : j < xs.length := by omega
  exact ⟨xs[j], List.getElem_mem hj, atI_nat (j := j) (List.getElem?_eq_getElem hj)⟩

/-! ### what defs that draw promise -/
/-- a draw below n -/
def spTake : Sp := fun vs H Q _ => ∃ (g : Bg) (n c e : Int), vs = [.ref g.b, .int n] ∧ Bag H g c e ∧ 0 < n ∧ n < 1073741824 ∧
  ∀ (r : Int) (H' : Hp), 0 ≤ r → r < n → Drawn g H H' c e → Q (.int r) H'
/-- a list, a tuple, or a text is handed in, one of its items comes back -/
def spOne (K : PySem.W.Frag) : Sp := fun vs H Q _ => ∃ (g : Bg) (x : V) (c e : Int), vs = [.ref g.b, x] ∧ Bag H g c e ∧
  ((∃ p xs, x = .ref p ∧ (SqL K H p xs ∨ SqT K H p xs) ∧ p ≠ g.b ∧ 0 < xs.length ∧ xs.length < 1000 ∧ ∀ (v : V) (H' : Hp), v ∈ xs → Drawn g H H' c e → Q v H') ∨
   (∃ z : Str, x = .str z ∧ 0 < z.length ∧ z.length < 1000 ∧ ∀ (h : Nat) (H' : Hp), h ∈ z.cps.toList → Drawn g H H' c e → Q (.str ⟨#[h]⟩) H'))

/-! ### data in tuples -/
mutual
/-- what stands there, and lies in tuples alone -/
inductive Tr (H : Hp) : V → PyData → Prop
  | non : Tr H .non .none
  | bl (b : Bool) : Tr H (.bl b) (.bool b)
  | int (i : Int) : Tr H (.int i) (.int i)
  | str (x : Str) : Tr H (.str x) (.str x)
  | tup {a : Addr} {xs : List V} {ds : List PyData} : H a = some (.tup xs) → TrAll H xs ds → Tr H (.ref a) (.tuple ds)
inductive TrAll (H : Hp) : List V → List PyData → Prop
  | nil : TrAll H [] []
  | cons {v : V} {vs : List V} {d : PyData} {ds : List PyData} : Tr H v d → TrAll H vs ds → TrAll H (v :: vs) (d :: ds)
end
mutual
theorem Tr.keep {H H' : Hp} (k : Tk H H') : ∀ {v : V} {d : PyData}, Tr H v d → Tr H' v d
  | _, _, .non => .non
  | _, _, .bl b => .bl b
  | _, _, .int i => .int i
  | _, _, .str x => .str x
  | _, _, .tup h r => .tup (k _ _ h) (TrAll.keep k r)
theorem TrAll.keep {H H' : Hp} (k : Tk H H') : ∀ {v : List V} {d : List PyData}, TrAll H v d → TrAll H' v d
  | _, _, .nil => .nil
  | _, _, .cons h r => .cons (Tr.keep k h) (TrAll.keep k r)
end
mutual
theorem Tr.dp {K : PySem.W.Frag} {H : Hp} : ∀ {v : V} {d : PyData}, Tr H v d → Dp K H v d
  | _, _, .non => .non
  | _, _, .bl b => .bl b
  | _, _, .int i => .int i
  | _, _, .str x => .str x
  | _, _, .tup h r => .tup (SqT.of h) (TrAll.dp r)
theorem TrAll.dp {K : PySem.W.Frag} {H : Hp} : ∀ {v : List V} {d : List PyData}, TrAll H v d → DpAll K H v d
  | _, _, .nil => .nil
  | _, _, .cons h r => .cons (Tr.dp h) (TrAll.dp r)
end
theorem TrAll.len {H : Hp} : ∀ {v : List V} {d : List PyData}, TrAll H v d → v.length = d.length
  | _, _, .nil => rfl
  | _, _, .cons _ r => congrArg (· + 1) (TrAll.len r)
theorem TrAll.app {H : Hp} : ∀ {v u : List V} {d f : List PyData}, TrAll H v d → TrAll H u f → TrAll H (v ++ u) (d ++ f)
  | _, _, _, _, .nil, q => q
  | _, _, _, _, .cons h r, q => .cons h (TrAll.app r q)
theorem TrAll.one {H : Hp} {v : V} {d : PyData} (h : Tr H v d) : TrAll H [v] [d] := .cons h .nil
theorem TrAll.strs {H : Hp} : ∀ l : List Str, TrAll H (l.map V.str) (l.map PyData.str)
  | [] => .nil
  | x :: r => .cons (.str x) (TrAll.strs r)
theorem TrAll.get {H : Hp} : ∀ {v : List V} {d : List PyData} {i : Nat} {x : V}, TrAll H v d → v[i]? = some x → ∃ y, d[i]? = some y ∧ Tr H x y
  | _, _, _, _, .nil, h => by simp at h
  | _, _, 0, x, .cons h r, q => ⟨_, rfl, by
    have e := Option.some.inj q
    rw [← e]
    exact h⟩
  | _, _, i + 1, x, .cons h r, q => by
    rw [List.getElem?_cons_succ] at q ⊢
    exact TrAll.get r q
end Vf

set_option Elab.async false
set_option linter.all false
set_option maxRecDepth 100000
set_option maxHeartbeats 4000000
/-! Own words: dicts that the top has written, asked by ints and texts; a list extended by a tuple. -/
namespace Vf
open PySem PySem.Spec PyProof.Rows L2

/-- the entries of a written dict, by keys and values -/
def KdL (w : World) : List (Key × V) → List DictEntry → Prop
  | [], [] => True
  | (k, v) :: r, e :: q => keyIs k e.key = true ∧ e.hash = keyH w k ∧ RelV v e.val ∧ KdL w r q
  | _, _ => False
theorem KdL.keys {P : Program} {w : World} : ∀ {kvs : List (Key × V)} {l : List DictEntry}, KdL w kvs l → ∀ e ∈ l, ∃ k, (mixKind P w).is k e.key = true ∧ e.hash = (mixKind P w).hash k
  | [], [], _, e, he => by cases he
  | (k, v) :: r, e :: q, h, e', he => by
    rcases List.mem_cons.mp he with rfl | he
    · exact ⟨k, h.1, h.2.1⟩
    · exact KdL.keys h.2.2.2 e' he
  | [], _ :: _, h, _, _ => h.elim
  | _ :: _, [], h, _, _ => h.elim
theorem KdL.val {w : World} : ∀ {kvs : List (Key × V)} {l : List DictEntry}, KdL w kvs l → ∀ k, RelO (valV kvs k) ((l.find? fun e => keyIs k e.key).map (·.val))
  | [], [], _, k => True.intro
  | (k', v) :: r, e :: q, h, k => by
    have ih := KdL.val h.2.2.2 k
    unfold valV at ih ⊢
    rw [List.find?_cons, List.find?_cons]
    by_cases hk : k' = k
    · subst hk
      rw [h.1, decide_eq_true rfl]
      exact h.2.2.1
    · have h1 : keyIs k e.key = false := by
        cases hb : keyIs k e.key with
        | false => rfl
        | true =>
          have a1 := h.1
          rcases keyIs_shape a1 with ⟨i, t, e1, e2⟩ | ⟨x, t, e1, e2⟩
          · rcases keyIs_shape hb with ⟨j, u, e3, e4⟩ | ⟨y, u, e3, e4⟩
            · rw [e2] at e4
              cases e4
              exact absurd (e1.trans e3.symm) hk
            · rw [e2] at e4
              cases e4
          · rcases keyIs_shape hb with ⟨j, u, e3, e4⟩ | ⟨y, u, e3, e4⟩
            · rw [e2] at e4
              cases e4
            · rw [e2] at e4
              cases e4
              exact absurd (e1.trans e3.symm) hk
      rw [h1, decide_eq_false hk]
      exact ih
  | [], _ :: _, h, _ => h.elim
  | _ :: _, [], h, _ => h.elim
/-- a dict of the module stands at d -/
def KD (K : PySem.W.Frag) (w : World) (d : Addr) (kvs : List (Key × V)) : Prop :=
  ∃ es n, K.lookup d = some ⟨.type "dict", none, .dict es n, #[]⟩ ∧ (d == sysModules) = false ∧ KdL w kvs es.toList
theorem KD.map {P : Program} {w : World} {K : PySem.W.Frag} {d : Addr} {kvs : List (Key × V)} {h : Heap} (D : KD K w d kvs) (X : K.In h) :
    ∃ f, h.MapOf (mixKind P w) d f ∧ ∀ k, RelO (valV kvs k) (f k) := by
  obtain ⟨es, n, hl, _, hk⟩ := D
  refine ⟨_, ⟨_, es, n, X _ _ hl, ⟨rfl, rfl, rfl⟩, rfl, fun e he => hk.keys e (Array.mem_toList_iff.mpr he), fun _ => rfl⟩, fun k => ?_⟩
  have q := hk.val k
  obtain ⟨l⟩ := es
  unfold findBy
  rw [List.find?_toArray]
  exact q
/-- d[k], there -/
def rKGet (K : PySem.W.Frag) (w : World) : R2 := fun x y H Q => ∃ d kvs k v, x = .ref d ∧ y = kV k ∧ KD K w d kvs ∧ valV kvs k = some v ∧ Q v H
/-- d.get(k, z) -/
def tKGet2 (K : PySem.W.Frag) (w : World) (td ty tx : TE) : TE := fun σ H Q => td σ H fun x H1 => ty σ H1 fun y H2 => tx σ H2 fun z H3 =>
  ∃ d kvs k, x = .ref d ∧ y = kV k ∧ KD K w d kvs ∧ Q ((valV kvs k).getD z) H3
section
variable {X : Cx} {o e f : Expr} {apos cpos : Pos} {td ty tx : TE}
theorem ix_kd : IxR X (rKGet X.K X.w) := by
  intro value slice pins s σ H x y v u Q I rx ry h hs
  obtain ⟨d, kvs, k, z, rfl, rfl, D, hv, q⟩ := h
  cases rx
  obtain ⟨g, hm, hg⟩ := D.map (P := X.prog) I.kIn
  have q2 := hg k
  rw [hv] at q2
  obtain ⟨z', e1, r1⟩ := q2.some_of
  exact tail_any hm.typeIs PySem.F.slot_dict_getitem.lookup (wpAny_getItem_of (kV_is ry) hm e1 ⟨z, H, I.tok _, r1, q⟩) hs
theorem pe_kget2 (ho : PE X o td) (he : PE X e ty) (hf : PE X f tx) (hD : ∀ σ H Q, td σ H Q → td σ H (fun x H1 => (∃ d kvs, x = .ref d ∧ KD X.K X.w d kvs) ∧ Q x H1)) (m : M2 X o "get" apos e f cpos) :
    PE X (.Call (.Attribute o "get" apos) [e, f] [] cpos) (tKGet2 X.K X.w td ty tx) := by
  refine ⟨fun pins s σ H Q I h => ?_⟩
  have h' := hD _ _ _ h
  refine wpAny_Call_method m.base m.few m.line PySem.F.plainAttrs_dict PySem.F.slot_dict_get PySem.F.type_dict_get (thn (ho.run pins s σ H _ I h') ?_)
  rintro u s1 ⟨x, H1, I1, rx, ⟨d, kvs0, rfl, D⟩, q1⟩
  cases rx
  obtain ⟨g, hm, hg⟩ := D.map (P := X.prog) I1.kIn
  obtain ⟨es, n, hl, low, _⟩ := D
  refine ⟨hm.typeIs, fun b z => ?_, ?_⟩
  · cases z
    exact ⟨_, I1.kIn _ _ hl, rfl⟩
  rw [m.trees]
  refine Calls.callWith_builtin rfl (Calls.evalArgs_plain (Calls.spliced_cons (thn (he.run pins s1 σ H1 _ I1 q1) ?_)))
  rintro iv s2 ⟨y, H2, I2, ry, q2⟩
  refine Calls.spliced_cons (thn (hf.run pins s2 σ H2 _ I2 q2) ?_)
  rintro fv s3 ⟨z, H3, I3, rz, d', kvs, k, ed, ey, D3, q3⟩
  cases ed
  subst ey
  refine Calls.spliced_nil ?_
  obtain ⟨g3, hm3, hg3⟩ := D3.map (P := X.prog) I3.kIn
  refine call_meetsIn PySem.F.slot_dict_get hm3.typeIs PySem.F.entry_dict_get (PySem.F.args_dict_get_3 _ _ _) (meets_dict_get_default (mixKind X.prog X.w) d (kV_is ry) low fv) ⟨_, hm3, ?_⟩
  exact ⟨_, H3, I3.tok _, (hg3 k).getD rz, q3⟩

/-- xs.extend(t), t a tuple -/
def rExtendT (K : PySem.W.Frag) : V → List V → Hp → VK → Prop := fun x vs H Q => ∃ l b xs zs, x = .ref l ∧ vs = [.ref b] ∧ H l = some (.lst xs) ∧ SqT K H b zs ∧ xs.length + zs.length ≤ sizeLine ∧ Q .non (upd H l (.lst (xs ++ zs)))
theorem extend_tuple (l b : Addr) (its its2 : Array Value) (n n2 : Nat) (dd : Option Addr) (sl : Array (Option Value))
    (h0 : ¬(!its.isEmpty && Builtin.List.listTooLong (its.size + its2.size)) = true)
    (h1 : its.size ≤ sizeLine) (h2 : its.size + its2.size ≤ sizeLine + 1) :
    Meets (Builtin.«list.extend» ⟨[.ref l, .ref b], []⟩) (fun _ R s =>
      s.heap.get? l = some { cls := .type "list", dict := none, data := .seq its n, slots := #[] } ∧
      s.heap.get? b = some { cls := .type "tuple", dict := dd, data := .seq its2 n2, slots := sl } ∧
      R (.ok (.ret Value.none)) { s with heap := s.heap.update l (Obj.mapSeq fun x => x ++ its2), toks := s.toks }) :=
  .of_wp fun prog w A R s h => by
    obtain ⟨hp, g, d, tk, os⟩ := s
    obtain ⟨hl, hb, h⟩ := h
    have f1 := AutoSeq1.idx_int
    have f2 := AutoSeq1.sub_tuple_tuple
    have f3 := AutoSeq1.sub_list_list
    have f4 := AutoSeq1.sub_tuple_list
    have f5 := AutoSeq1.sub_list_tuple
    have hz' : (its ++ its2).size ≤ sizeLine + 1 := by
      rw [Array.size_append]
      exact h2
    wp_walk using (wpAny_updateSeq hl rfl (hz := h1) (_hz' := hz')), AutoSeq1.wpAny_loadPart' hl, AutoSeq1.wpAny_loadPart' hb
    exact ⟨_, rfl, h⟩
theorem mt_extendT : MtM X "list.extend" (rExtendT X.K) := by
  intro pins s σ H x vs v us Q I rx rv h
  obtain ⟨l, b, xs, zs, rfl, rfl, hH, hB, hz, q⟩ := h
  cases rx
  obtain ⟨u, rfl, ru⟩ := rv.one
  cases ru
  obtain ⟨z, its, n, r, hl, e⟩ := I.lstM hH
  obtain ⟨its2, r2, ⟨⟨cls, dd, dat, sl⟩, ho, hc, n2, hd⟩, hz2⟩ := I.tuple hB
  simp only at hc hd
  subst hc hd
  have hl2 := r2.length
  have hsz : its.toArray.size + its2.toArray.size ≤ sizeLine := by
    rw [List.size_toArray, List.size_toArray]
    omega
  have hlong : ¬ (!its.toArray.isEmpty && Builtin.List.listTooLong (its.toArray.size + its2.toArray.size)) = true := by
    rw [notLongL hsz, Bool.and_false]
    exact Bool.false_ne_true
  refine call_meets PySem.F.slot_list_extend ⟨_, e, rfl⟩ PySem.F.entry_list_extend (PySem.F.args_list_extend_2 _ _)
    (extend_tuple l b its.toArray its2.toArray n n2 dd sl hlong (by rw [List.size_toArray]; omega) (by omega)) ⟨e, ho, ?_⟩
  refine ⟨.non, _, I.lset (its' := its ++ its2) hH e (by simp) (r.append r2) ?_, rfl, q⟩
  rw [List.length_append]
  omega
end
end Vf

set_option Elab.async false
set_option linter.all false
set_option maxRecDepth 100000
set_option maxHeartbeats 4000000
/-! Own words: data that are shown alike. -/
namespace Vf
open PySem PySem.Spec PyProof.Rows L2
mutual
/-- data without dicts, whose ints and texts may be shown -/
def tame : PyData → Bool
  | .none => true
  | .bool _ => true
  | .int i => decide (i.natAbs < 10 ^ 30)
  | .str x => x.cps.all (· < 0x110000)
  | .list xs => tameAll xs
  | .tuple xs => tameAll xs
  | .dict _ => false
def tameAll : List PyData → Bool
  | [] => true
  | x :: r => tame x && tameAll r
end
mutual
/-- no less than the length of what is shown -/
def wt : PyData → Nat
  | .none => 4
  | .bool _ => 5
  | .int _ => 32
  | .str x => 10 * x.length + 2
  | .list xs => wtAll xs + 4
  | .tuple xs => wtAll xs + 4
  | .dict _ => 0
def wtAll : List PyData → Nat
  | [] => 0
  | x :: r => wt x + 2 + wtAll r
end
theorem listText_le (ts : List Str) : (listText ts).length ≤ piled ts + 2 := by
  have e1 : (("[" : Str)).length = 1 := rfl
  have e2 : (("]" : Str)).length = 1 := rfl
  unfold listText
  rw [Str.length_append]
  have e2' : (("]" : String) : Str).length = 1 := rfl
  cases ts with
  | nil =>
    show (("[" : Str)).length + _ ≤ _
    rw [e1, piled_nil]
    exact Nat.le_refl _
  | cons t r =>
    show (textFrom (0 + 1) (("[" : Str) ++ _ ++ t) r).length + _ ≤ _
    rw [textFrom_length_pos r 1 _ (by decide), piled_cons, Str.length_append, Str.length_append, e1]
    have e3 : (Str.ofString (if 0 > 0 then ", " else "" : String)).length = 0 := rfl
    rw [e3, e2']
    omega
theorem tupleText_le (ts : List Str) : (tupleText ts).length ≤ piled ts + 3 := by
  unfold tupleText
  rw [Str.length_append, Str.length_append]
  have e1 : (("(" : Str)).length = 1 := rfl
  have e2 : (Str.ofString (if ts.length == 1 then ",)" else ")" : String)).length ≤ 2 := by
    split
    · exact Nat.le_refl _
    · exact Nat.le_succ 1
  have e3 : (Str.join ", " ts).length ≤ piled ts := by
    by_cases h : ts = []
    · subst h
      exact Nat.le_refl _
    · have := join_length_add ts h
      omega
  rw [e1]
  omega
theorem ofs_len (i : Int) (h : i.natAbs < 10 ^ 30) : (Str.ofString (toString i)).length ≤ 30 + 1 := by
  have e : (Str.ofString (toString i)).length = (toString i).length := PySem.ofString_length _
  rw [e]
  exact int_text_length_le10 (by decide) h
mutual
theorem shown_le : ∀ d : PyData, tame d = true → d.shown.length ≤ wt d
  | .none, _ => Nat.le_refl _
  | .bool b, _ => by
    cases b
    · exact Nat.le_refl _
    · exact Nat.le_succ 4
  | .int i, h => by
    have h' : i.natAbs < 10 ^ 30 := of_decide_eq_true h
    exact Nat.le_trans (ofs_len i h') (by show 30 + 1 ≤ 32; decide)
  | .str x, h => by
    refine Nat.le_trans (StrLaws.reprText_len x ?_) (Nat.le_refl _)
    intro c hc
    have h' : x.cps.all (· < 0x110000) = true := h
    rw [← Array.all_toList, List.all_eq_true] at h'
    have := of_decide_eq_true (h' c hc)
    omega
  | .list xs, h => by
    have := shownAll_le xs h
    have := listText_le (PyData.shownAll xs)
    show (listText (PyData.shownAll xs)).length ≤ wtAll xs + 4
    omega
  | .tuple xs, h => by
    have := shownAll_le xs h
    have := tupleText_le (PyData.shownAll xs)
    show (tupleText (PyData.shownAll xs)).length ≤ wtAll xs + 4
    omega
  | .dict _, h => by cases h
theorem shownAll_le : ∀ xs : List PyData, tameAll xs = true → piled (PyData.shownAll xs) ≤ wtAll xs
  | [], _ => Nat.le_refl _
  | x :: r, h => by
    have h' : (tame x && tameAll r) = true := h
    rw [Bool.and_eq_true] at h'
    have := shown_le x h'.1
    have := shownAll_le r h'.2
    show piled (x.shown :: PyData.shownAll r) ≤ wt x + 2 + wtAll r
    rw [piled_cons]
    omega
end
mutual
theorem tame_ok : ∀ d : PyData, tame d = true → d.showable = true ∧ d.hasDict = false ∧ d.canLay0 = true
  | .none, _ => ⟨rfl, rfl, rfl⟩
  | .bool b, _ => ⟨rfl, rfl, rfl⟩
  | .int i, h => by
    have h' : i.natAbs < 10 ^ 30 := of_decide_eq_true h
    refine ⟨?_, rfl, rfl⟩
    show decide (i.natAbs.log2 < 1920) = true
    refine decide_eq_true ?_
    by_cases h0 : i.natAbs = 0
    · rw [h0]
      decide
    · exact (Nat.log2_lt h0).mpr (Nat.lt_trans h' (by decide +kernel))
  | .str x, h => ⟨rfl, rfl, h⟩
  | .list xs, h => tameAll_ok xs h
  | .tuple xs, h => tameAll_ok xs h
  | .dict _, h => by cases h
theorem tameAll_ok : ∀ xs : List PyData, tameAll xs = true → PyData.showableAll xs = true ∧ PyData.hasDictAll xs = false ∧ PyData.canLayAll0 xs = true
  | [], _ => ⟨rfl, rfl, rfl⟩
  | x :: r, h => by
    have h' : (tame x && tameAll r) = true := h
    rw [Bool.and_eq_true] at h'
    obtain ⟨a1, a2, a3⟩ := tame_ok x h'.1
    obtain ⟨b1, b2, b3⟩ := tameAll_ok r h'.2
    refine ⟨?_, ?_, ?_⟩
    · show (PyData.showable x && PyData.showableAll r) = true
      rw [a1, b1] <;> rfl
    · show (PyData.hasDict x || PyData.hasDictAll r) = false
      rw [a2, b2] <;> rfl
    · show (PyData.canLay0 x && PyData.canLayAll0 r) = true
      rw [a3, b3] <;> rfl
end
/-- data of a size that may be shown -/
structure OkD (d : PyData) : Prop where
  tm : tame d = true
  dp : d.depth ≤ 60
  sz : wt d ≤ 16000000
theorem OkD.shaped {d : PyData} (h : OkD d) : SeqAt.shaped d = true := by
  unfold SeqAt.shaped
  rw [Bool.and_eq_true]
  exact ⟨(tame_ok d h.tm).2.2, decide_eq_true (Nat.le_trans h.dp (by decide))⟩
theorem OkD.show {d : PyData} (h : OkD d) : d.shown.length ≤ sizeLine := Nat.le_trans (shown_le d h.tm) (Nat.le_trans h.sz (by decide))
theorem OkD.refl {d : PyData} (h : OkD d) : PyData.eqv d d = true := SeqAt.eqv_refl d (tame_ok d h.tm).2.2
/-- repr of a list or a tuple, of a truth, of an int -/
theorem call_repr {X : Cx} (gd : X.A.guards = some []) (hu : X.A.units + 64 < cLine) :
    CallR X (.builtin "repr") (fun xs H Q => ∃ a d, xs = [.ref a] ∧ Dp X.K H (.ref a) d ∧ OkD d ∧ Q (.str d.shown) H) := by
  intro pins s σ H xs us Q I r h
  obtain ⟨a, d, rfl, hd, ok, q⟩ := h
  obtain ⟨h1, h2, h3⟩ := tame_ok d ok.tm
  exact call_reprD gd hu pins s σ H [.ref a] us Q I r ⟨a, d, rfl, hd, h1, h2, ok.dp, ok.show, q⟩
def rListOf (K : PySem.W.Frag) : List V → Hp → VK → Prop := fun xs H Q => ∃ p ys, xs = [.ref p] ∧ (SqL K H p ys ∨ SqT K H p ys) ∧ ∀ l, H l = none → Q (.ref l) (upd H l (.lst ys))
def rLenK (K : PySem.W.Frag) : List V → Hp → VK → Prop := fun xs H Q => ∃ x n, xs = [x] ∧ LenV K x H n ∧ Q (.int n) H
def rTupOf (K : PySem.W.Frag) : List V → Hp → VK → Prop := fun xs H Q => ∃ p ys, xs = [.ref p] ∧ ((SqL K H p ys ∧ ∀ l, H l = none → Q (.ref l) (upd H l (.tup ys))) ∨ (SqT K H p ys ∧ Q (.ref p) H))
/-- two things alike -/
def spAlike (K : PySem.W.Frag) : Sp := fun vs H Q _ => ∃ (a b : Addr) (d : PyData), vs = [.ref a, .ref b] ∧ Dp K H (.ref a) d ∧ Dp K H (.ref b) d ∧ OkD d ∧ ∀ H', Same H H' → Q (.bl true) H'
theorem same_new {H : Hp} {p : Addr} {o : HO} (h : H p = none) : Same H (upd H p o) := fun b u e => by
  rw [upd_ne (ne_of_none e h)]
  exact e
theorem Tr.new {H : Hp} {v : V} {d : PyData} {p : Addr} {o : HO} (t : Tr H v d) (h : H p = none) : Tr (upd H p o) v d := t.keep ((Tk.refl H).new h)
theorem TrAll.new {H : Hp} {v : List V} {d : List PyData} {p : Addr} {o : HO} (t : TrAll H v d) (h : H p = none) : TrAll (upd H p o) v d := t.keep ((Tk.refl H).new h)
theorem same_put {H H' : Hp} {p : Addr} {o : HO} (s : Same H H') (h : H p = none) : Same H (upd H' p o) := fun b u e => by
  rw [upd_ne (ne_of_none e h)]
  exact s b u e
end Vf

set_option Elab.async false
set_option linter.all false
set_option maxRecDepth 100000
set_option maxHeartbeats 4000000
/-! Own words: a lambda of one parameter, handed to a def; a local that holds such a one, or a def. -/
namespace Vf
open PySem PySem.Spec PyProof.Rows L2
open LamX (CodeO TabS Tabs ExtN TabB)
/-- the lambda that stands at f, its code at c -/
def LamO (f c : Addr) (q : Str) (ar : Arguments) (bd : Expr) (sc : Scope) : HO :=
  .ext fun h => ∃ pm ct : Value, h.get? f = some (PySem.W.kla_obj "<lambda>" q ar bd sc [] pm c ct)
/-- what a call takes at f -/
def Callee (K : PySem.W.Frag) (H : Hp) (f : Addr) : Prop :=
  (∃ oc od fd sl, K.lookup f = some ⟨oc, od, .func fd, sl⟩) ∨ ∃ c q ar bd sc, H f = some (LamO f c q ar bd sc)
/-- f, called with one thing, keeps the promise -/
def One (P : Program) (w : World) (K : PySem.W.Frag) (mg : Str → Option Value) (base : Heap) (k : Nat) (f : Addr) (sp : Sp) : Prop :=
  ∀ (A : Around) (outer : List Env) (s : Shared) (H : Hp) (u : Value) (v : V) (Q : VK) (E : XK),
    Room k A → Env0 P w K mg base A outer s H → RelV v u → sp [v] H Q E →
    codeAny (model P w) A (.call (.ref f) ⟨[u], []⟩) (CR CX0 outer P w H s Q E) s
section
variable {P : Program} {w : World} {K : PySem.W.Frag} {mg : Str → Option Value} {base : Heap}
/-- a def of the text -/
theorem one_def {k : Nat} {x : Str} {sp : Sp} (C : C8.Cal P w K mg base k x sp []) : ∃ f, mg x = some (.ref f) ∧ (∃ fd ps, FnOk P w K mg base CX0 k f fd ps sp) ∧ One P w K mg base k f sp := by
  obtain ⟨f, fd, ps, ds, F, hm, kp, b, d⟩ := C
  cases d
  refine ⟨f, hm, ⟨fd, ps, F⟩, fun A o s H u v Q E hr e0 rv h => ?_⟩
  have KX : K.In s.heap := e0.mod.kin.keeps fun b o e => (e0.bs b o e).1
  have hl : ([u] : List Value).length = ps.length := F.len _ _ _ _ h
  exact F.run A o s H ⟨[u], []⟩ [u] [v] Q E hr e0 (b s [u] KX hl) (.cons rv .nil) h
/-- a lambda, by its body -/
theorem one_lam {k : Nat} {q p : Str} {ar : Arguments} {bd : Expr} {sc : Scope} {N : List Str} {sp : Sp} (f c : Addr)
    (S : FnScope N [p] sc) (nc : ∀ y ∈ sc.names, y.2 ≠ .cell)
    (bind : ∀ (pm ct u : Value), bindArgs (PySem.W.kla_fn "<lambda>" q ar bd sc [] pm (.ref c) ct) ⟨[u], []⟩ = pure [(p, u)])
    (body : ∀ (A : Around) (outer : List Env) (s : Shared) (H : Hp) (v : V) (Q : VK) (E : XK),
      Room k (A.deeper (envOfC q sc s.heap.objs.size f (.ref c))) → sp [v] H Q E →
      ∃ te : TE, PE (cxOf CX0 P w K mg base N q sc f (.ref c) A outer s H E).nox bd te ∧ te (start N [v]) H Q) :
    One P w K mg base (k + 1) f fun vs H Q E => H f = some (LamO f c q ar bd sc) ∧ H c = some (CodeO c q) ∧ sp vs H Q E := by
  intro A outer s H u v Q E hr e0 rv h
  obtain ⟨hf, hc, hs⟩ := h
  obtain ⟨⟨pm, ct, of⟩, _, _⟩ := e0.hok f _ hf
  obtain ⟨⟨oc, vs, t, e1, e2, e3⟩, _, _⟩ := e0.hok c _ hc
  have lim : s.heap.NoLimit := e0.mod.nolimit.keeps fun b o e => (e0.bs b o e).1
  refine PySem.W.kla_callFunE hr.depth of rfl S.co S.gen rfl ⟨c, oc, vs, t, rfl, e1, e2, e3⟩ ?_
  rw [bind]
  refine wpAny_pure ?_
  refine wpAny_newFunctionEnv_cells S.kind (fun y hy => ?_) fun env he s1 x => ?_
  · obtain rfl : y = (p, u) := by simpa using hy
    exact (S.par p (by simp)).elim .inl fun z => absurd rfl (nc _ (PySem.mem_of_lookup z))
  subst he
  refine ⟨lim.keeps x.toInCall.keep, ?_⟩
  obtain ⟨te, ht, hq⟩ := body A outer s H v Q E (hr.deeper _) hs
  have I := inv_start (CX := CX0) (E := E) (us := [u]) (vs := [v]) S hr.hd e0 rfl (.cons rv .nil) x
  refine PySem.W.kla_codeExpr (wpAny_mono (ht.nox.run [] s1 (start N [v]) H Q I hq) (fun u' s' hs => ?_) fun _ _ hs => hs)
  obtain ⟨v', H', J, rv', q'⟩ := hs
  exact ⟨v', H', J.os, J.bare, J.base, J.hok, rv', q'⟩
end

/-! ### a lambda is made -/
/-- what the making of a lambda gives on -/
def tLamV (T : List (Addr × Str)) (q : Str) (ar : Arguments) (bd : Expr) (sc : Scope) : TE := fun _ H Q =>
  Tabs T H ∧ ∀ (f c : Addr) (H1 : Hp), ExtN H H1 → Tabs T H1 → H1 f = some (LamO f c q ar bd sc) → H1 c = some (CodeO c q) → H f = none → H c = none ∨ H c = some (CodeO c q) → Q (.ref f) H1
section
variable {X : Cx} {pins : List (Addr × Obj)} {σ : L2.St} {H : Hp} {s : Shared}
/-- a lambda's object, laid behind all others -/
theorem inv_lam {c : Addr} {q : Str} {ar : Arguments} {bd : Expr} {sc : Scope} {pm ct : Value} {h' : Heap} {tk : Nat} (I : Inv X pins σ H { s with heap := h', toks := tk }) :
    Inv X pins σ (upd H h'.objs.size (LamO h'.objs.size c q ar bd sc)) { s with heap := h'.push (PySem.W.kla_obj "<lambda>" q ar bd sc [] pm c ct), toks := tk } := by
  refine I.laid (fun b u e => Heap.get?_push_of_some _ e) (Nat.le_refl _) ?_
  refine ⟨⟨pm, ct, Heap.get?_push_size _ rfl⟩, ⟨_, Heap.get?_push_size _ rfl⟩, ?_⟩
  rintro h1 h2 ⟨pm', ct', e⟩ st
  exact ⟨pm', ct', st _ e⟩
theorem lam_ne_tbl {f c : Addr} {q : Str} {ar : Arguments} {bd : Expr} {sc : Scope} (ps : Array Value) : LamO f c q ar bd sc ≠ .tbl ps := fun z => by
  unfold LamO at z
  cases z
theorem tabs_new {T : List (Addr × Str)} {f : Addr} {o : HO} (t : Tabs T H) (n : H f = none) : Tabs T (upd H f o) :=
  t.ext fun b u e => by
    rw [upd_ne (ne_of_none e n)]
    exact e
theorem pe_lam {T : List (Addr × Str)} {c P : Addr} {ar : Arguments} {bd : Expr} {sc : Scope} {pos : Pos} (TB : TabB X.base X.mg c P) (hcode : X.env.code = .ref c)
    (hm : (P, X.env.qual ++ "<lambda>") ∈ T) (hu : ∀ p ∈ T, p.1 = P → p.2 = X.env.qual ++ "<lambda>") (hdef : defaultsOf ar X.env = ([], []))
    (hfree : ∀ y ∈ sc.names, y.2 ≠ .free) (hclo : cloFrom X.env.cells sc.names [] = []) :
    PE X (.Lambda ar bd sc pos) (tLamV T (X.env.qual ++ "<lambda>") ar bd sc) := by
  refine ⟨fun pins s σ H Q I h => ?_⟩
  obtain ⟨hT, go⟩ := h
  obtain ⟨ps, atP, tri, known⟩ := hT _ hm
  have oP : s.heap.get? P = some { cls := .none, data := .fields ps } := I.hok P _ atP
  have bP : s.heap.BuiltinsAt X.mg P := TB.bm.keeps I.bk
  have cl := closure_ok (scope := sc) (env := X.env) fun y hy e => absurd e (hfree y hy)
  rw [hclo] at cl
  refine PySem.W.kla_eval hdef ?_
  cases found : codeAmong pos ps.toList with
  | some cv =>
    obtain ⟨c1, rfl, known1⟩ := known pos cv found
    refine PySem.W.kla_makeFunctionHit (mg := X.mg) (c := c) (P := P) (ps := ps) cl I.ok.glob (I.mod.glob.keeps I.bk) hcode (TB.code.keeps I.bk) oP tri found bP ?_
    intro ct h' tk keep size
    have I1 : Inv X pins σ H { s with heap := h', toks := tk } := I.kept keep
    have nf : H h'.objs.size = none := I.hok.fresh size
    refine ⟨.ref h'.objs.size, _, inv_lam I1, rfl, go _ c1 _ (fun b o e _ => ?_) (tabs_new hT nf) upd_same ?_ nf (.inr known1)⟩
    · rw [upd_ne (ne_of_none e nf)]
      exact e
    · rw [upd_ne (ne_of_none known1 nf)]
      exact known1
  | none =>
    refine PySem.W.kla_makeFunction (mg := X.mg) (c := c) (P := P) (ps := ps) cl I.ok.glob (I.mod.glob.keeps I.bk) hcode (TB.code.keeps I.bk) oP tri found TB.gP bP ?_
    intro c1 ct h' tk but ge lt code tab
    obtain ⟨c2, oc, vs, t, ec, e1, e2, e3⟩ := code
    cases ec
    have nc : H c1 = none := I.hok.fresh ge
    have I1 := LamX.inv_table (t' := tk) (more := #[rawInt pos.line, rawInt pos.col, .ref c1]) I atP (fun b o nb e => but b o nb e) tab ge ⟨oc, vs, t, e1, e2, e3⟩
    have size : s.heap.objs.size ≤ h'.objs.size := Nat.le_trans ge (Nat.le_of_lt lt)
    have nP : P ≠ c1 := ne_of_none atP nc
    have nf : upd (upd H P (.tbl (ps ++ #[rawInt pos.line, rawInt pos.col, .ref c1]))) c1 (CodeO c1 (X.env.qual ++ "<lambda>")) h'.objs.size = none := I1.hok.fresh (Nat.le_refl _)
    have ext : ExtN H (upd (upd H P (.tbl (ps ++ #[rawInt pos.line, rawInt pos.col, .ref c1]))) c1 (CodeO c1 (X.env.qual ++ "<lambda>"))) := by
      intro b o e notTab
      have nbP : b ≠ P := fun z => by
        rw [z, atP] at e
        exact notTab ps (Option.some.inj e).symm
      rw [upd_ne (ne_of_none e nc), upd_ne nbP]
      exact e
    have tabs : Tabs T (upd (upd H P (.tbl (ps ++ #[rawInt pos.line, rawInt pos.col, .ref c1]))) c1 (CodeO c1 (X.env.qual ++ "<lambda>"))) := by
      rintro ⟨P', q'⟩ mem
      by_cases same : P' = P
      · subst same
        obtain rfl : q' = X.env.qual ++ "<lambda>" := hu _ mem rfl
        have list : (ps ++ #[rawInt pos.line, rawInt pos.col, .ref c1]).toList = ps.toList ++ [rawInt pos.line, rawInt pos.col, .ref c1] := by simp
        refine ⟨_, (by rw [upd_ne nP, upd_same]), ?_, fun p1 cv at1 => ?_⟩
        · rw [list]
          exact PySem.TriplesOk_snoc _ _ _ _ tri
        · rw [list] at at1
          rcases LamX.among_app _ tri at1 with z | z
          · obtain ⟨c2, y1, y2⟩ := known p1 cv z
            exact ⟨c2, y1, ext _ _ y2 LamX.codeO_ne⟩
          · exact ⟨c1, z, upd_same⟩
      · obtain ⟨ps2, a1, a2, a3⟩ := hT _ mem
        refine ⟨ps2, ?_, a2, fun p1 cv at1 => ?_⟩
        · show upd (upd H P _) c1 _ P' = _
          rw [upd_ne (ne_of_none a1 nc), upd_ne same]
          exact a1
        · obtain ⟨c2, y1, y2⟩ := a3 p1 cv at1
          exact ⟨c2, y1, ext _ _ y2 LamX.codeO_ne⟩
    refine ⟨.ref h'.objs.size, _, inv_lam I1, rfl, go _ c1 _ (fun b o e n => ?_) (tabs_new tabs nf) upd_same ?_ (I.hok.fresh size) (.inl nc)⟩
    · have e2 := ext b o e n
      rw [upd_ne (ne_of_none e2 nf)]
      exact e2
    · rw [upd_ne (Nat.ne_of_lt lt), upd_same]
/-- a call of a local that holds a def, or such a lambda -/
def tCallV (P : Program) (w : World) (K : PySem.W.Frag) (mg : Str → Option Value) (base : Heap) (k i : Nat) (t : TA) : TE := fun σ H Q =>
  ∃ f sp, σ[i]? = some (some (.ref f)) ∧ One P w K mg base k f sp ∧ Callee K H f ∧ t σ H fun vs H1 => Callee K H1 f ∧ (∃ v, vs = [v]) ∧ sp vs H1 Q E0
theorem Callee.at {f : Addr} (c : Callee X.K H f) (I : Inv X pins σ H s) : PySem.W.FnAt f s.heap := by
  rcases c with ⟨oc, od, fd, sl, e⟩ | ⟨c, q, ar, bd, sc, e⟩
  · exact ⟨oc, od, fd, sl, I.kIn _ _ e⟩
  · obtain ⟨⟨pm, ct, e⟩, _, _⟩ := I.hok f _ e
    exact ⟨_, _, _, _, e⟩
theorem pe_callV {k i : Nat} {x : Str} {p pos : Pos} {e : Expr} {es : List Expr} {t : TA} (hr : Room k X.A) (hN : X.N[i]? = some x) (hv : Vis X.env.scope x) (ha : PA X (e :: es) t)
    (hdb : (x == ("__debug__" : Str)) = false := by decide) (hcd : (x == ("__classdict__" : Str)) = false := by decide)
    (he : starEach (e :: es) X.env = (false, eval e X.env) :: starEach es X.env := by rfl) (hpl : (backTo pos (starEach es X.env)).any (·.1) = false := by rfl) :
    PE X (.Call (.Name x p) (e :: es) [] pos) (tCallV X.prog X.w X.K X.mg X.base k i t) := by
  refine ⟨fun pins s σ H Q I h => ?_⟩
  obtain ⟨f, sp, hs, F, cl, ht⟩ := h
  refine wpAny_Call_Name_kw (thn ((pe_var (pos := p) hN hv hdb hcd).run pins s σ H (fun v H1 => v = .ref f ∧ H1 = H) I ⟨.ref f, hs, rfl, rfl⟩) fun u s1 ⟨v, H1, I1, r1, q1⟩ => ?_)
  obtain ⟨rfl, rfl⟩ := q1
  cases r1
  refine PySem.W.callWith_F (cl.at I1) (thn (ha.run pos pins s1 σ _ _ I1 ht) fun us s2 ⟨vs, H2, I2, r, q⟩ => ?_) he hpl
  obtain ⟨cl2, ⟨v, rfl⟩, q⟩ := q
  refine ⟨cl2.at I2, ?_⟩
  cases r with
  | cons rv rn =>
    cases rn
    refine wpAny_call (codeAny_mono (F X.A X.stack s2 H2 _ _ Q E0 hr I2.env0 rv q) fun r s' hq => ?_)
    cases r with
    | error e => exact (hq : False).elim
    | ok fl =>
      cases fl with
      | ret u => exact I2.after hq
      | next => exact (hq : False).elim
      | brk => exact (hq : False).elim
      | cont => exact (hq : False).elim
end
end Vf

set_option Elab.async false
set_option linter.all false
set_option maxRecDepth 100000
set_option maxHeartbeats 4000000
/-! The end of a law one of whose defs makes lambdas: its code object at c, the table of what it made at P. -/
namespace Vf
open PySem PySem.Spec PyProof.Rows L2
open LamX (CodeO TabS Tabs ExtN TabB)
abbrev tab0 : Obj := { cls := .none, data := .fields #[] }
section
variable {P : Program} {w : World} {K : PySem.W.Frag}
  {mg mb : Str → Option Value} {k : Nat} {fa a : Addr} {fd : FuncData}
  {x : Str} {sp : Sp} {s₁ : Shared} {vs : List Value} {ns : List Int} {c T : Addr}

theorem law_goesT (KX : K.In s₁.heap)
    (hns : s₁.heap.Ns mainGlobals mg) (hb : s₁.heap.Ns builtinsNs mb)
    (hbb : ∀ y : Str, y ≠ "__name__" → mb y = bootBuiltins y)
    (hlim : s₁.heap.NoLimit) (hgen : s₁.gens = #[])
    (hT : s₁.heap.get? T = some tab0) (nT : K.lookup T = none) (C : PySem.W.CodeHd s₁.heap c T)
    (hbm : ∃ (bm : Addr) (ob : Obj), mg "__builtins__" = some (.ref bm) ∧ bm ≠ builtinsNs ∧ s₁.heap.get? bm = some ob ∧ ob.cls = .type "module" ∧ ob.dict = some builtinsNs ∧ ob.data = .plain)
    (ha : s₁.heap.get? a =
      some { cls := .type "list", data := .seq vs.toArray })
    (hr : Room k callerA)
    (F : ∀ base : Heap, K.In base → base.Ns mainGlobals mg → TabB base mg c T →
      FnG P w K mg base k fa fd [x] sp)
    (bind : ∀ (s : Shared) (u : Value),
      BindsTo s fd ⟨[u], []⟩ [(x, u)])
    (H : Hp) (hHT : H T = some (.tbl #[])) (hO : ∀ b, H b = none ∨ b = T ∨ ∃ o xs, H b = some (.frz o (.lst xs))) (ok : HOk P w H s₁.heap)
    (alone : ∀ b, H b ≠ none → b = a ∨ b = T)
    (notK : H a ≠ none → K.lookup a = none)
    (hs : sp [.ref a] H (fun v _ => v = .bl true) fun _ _ _ => False) :
    codeAny (model P w) callerA (.call (.ref fa) ⟨[.ref a], []⟩)
      (LawEnd s₁) s₁ := by
  have free : ∀ {b : Addr} {o : Obj}, s₁.heap.get? b = some o → (∀ xs n, o.data ≠ .seq xs n) → o.data ≠ .fields #[] → H b = none := by
    intro b o e d1 d2
    cases q : H b with
    | none => rfl
    | some u =>
      rcases alone b (by rw [q]; exact Option.some_ne_none u) with z | z
      · rw [z, ha] at e
        cases e
        exact absurd rfl (d1 _ _)
      · rw [z, hT] at e
        cases e
        exact absurd rfl d2
  have ns' : ∀ {b : Addr} {m : Str → Option Value},
      s₁.heap.Ns b m → (hidT s₁.heap H).Ns b m := by
    rintro b m ⟨o, es, ep, e, d, r⟩
    refine ⟨o, es, ep, hidT_get e (free e (fun xs n z => ?_) fun z => ?_), d, r⟩
    · rw [d] at z
      cases z
    · rw [d] at z
      cases z
  have kin : K.In (hidT s₁.heap H) := by
    intro b o e
    refine hidT_get (KX b o e) ?_
    cases q : H b with
    | none => rfl
    | some u =>
      rcases alone b (by rw [q]; exact Option.some_ne_none u) with z | z
      · have z2 := notK (by rw [← z, q]; exact Option.some_ne_none u)
        rw [z, z2] at e
        cases e
      · rw [z, nT] at e
        cases e
  have lim' : (hidT s₁.heap H).NoLimit := by
    obtain ⟨mc, h1, h2⟩ := hlim
    exact ⟨mc, ns' h1, h2⟩
  have M : Mod K mg (hidT s₁.heap H) :=
    ⟨kin, ns' hns, ⟨mb, ns' hb, hbb⟩, lim'⟩
  have notMain : mainGlobals ≠ T := fun z => by
    obtain ⟨o, es, ep, e, d, _⟩ := hns
    rw [z, hT] at e
    cases e
    cases d
  have TB : TabB (hidT s₁.heap H) mg c T := by
    refine ⟨?_, ?_, notMain⟩
    · obtain ⟨o, us, fl, tf, fg, tg, inF, tx, tt, e, r1, r2, r3, rest⟩ := C
      refine ⟨o, us, fl, tf, fg, tg, inF, tx, tt, hidT_get e (free e (fun xs n z => ?_) fun z => ?_), r1, r2, r3, rest⟩
      · rw [r2] at z
        cases z
      · rw [r2] at z
        cases z
        simp at r3
    · obtain ⟨bm, ob, m1, m2, m3, m4, m5, m6⟩ := hbm
      refine ⟨bm, ob, m1, m2, fun z => ?_, fun z => ?_, hidT_get m3 (free m3 (fun xs n z => ?_) fun z => ?_), m4, m5, m6⟩
      · obtain ⟨o, es, ep, e, d, _⟩ := hns
        rw [z, e] at m3
        cases m3
        rw [m6] at d
        cases d
      · rw [z, hT] at m3
        cases m3
        cases m6
      · rw [m6] at z
        cases z
      · rw [m6] at z
        cases z
  have none_in : ∀ b : Addr, b ∉ ([] : List Addr) := fun b => by simp
  have env : Env0 P w K mg (hidT s₁.heap H) callerA [] s₁ H :=
    ⟨rfl, M, fun b o e => of_hidT e, Nat.le_of_eq (hidT_size _ _),
      trivial, fun b z => absurd z (none_in b), ok, .of_eq hgen⟩
  refine codeAny_mono ((F _ kin (ns' hns) TB).go callerA [] s₁ H
    ⟨[.ref a], []⟩ [.ref a] [.ref a] _ _ hr rfl env
    (bind s₁ (.ref a)) (.cons rfl .nil) hs) ?_
  intro r s' h
  cases r with
  | error e => exact (h : False).elim
  | ok fl =>
    cases fl with
    | next => exact (h : False).elim
    | brk => exact (h : False).elim
    | cont => exact (h : False).elim
    | ret u =>
      obtain ⟨v, H', os, bare, un, ok', rv, q⟩ := h
      obtain rfl : v = .bl true := q
      obtain rfl : u = Value.bool true := rv
      have same : ∀ b o, b ≠ T → s₁.heap.get? b = some o → s'.heap.get? b = some o := by
        intro b o nb e
        cases q : H b with
        | none => exact un.keep b o e q (none_in b) (none_in b)
        | some u =>
          rcases hO b with z | z | ⟨ob, xs, z⟩
          · rw [q] at z
            cases z
          · exact absurd z nb
          · obtain ⟨e1, _⟩ := ok b _ z
            obtain ⟨e2, _⟩ := ok' b _ (un.frzs b ob _ z)
            rw [e] at e1
            cases e1
            exact e2
      obtain ⟨more, z⟩ := un.tbls T #[] hHT
      have grown : s'.heap.get? T = some { cls := .none, data := .fields (#[] ++ more) } := ok' T _ z
      refine ⟨rfl, ⟨fun b o e => ?_, fun b o e => ?_⟩, os, bare⟩
      · by_cases nb : b = T
        · subst nb
          rw [hT] at e
          cases e
          exact .inr (.inl ⟨(C.tab hT).isCodeTable, rfl, #[], more, rfl, grown⟩)
        · exact .inl (same b o nb e)
      · by_cases nb : b = T
        · subst nb
          exact ⟨_, grown⟩
        · exact ⟨o, same b o nb e⟩

theorem law_goesT2 (KX : K.In s₁.heap)
    (hns : s₁.heap.Ns mainGlobals mg) (hb : s₁.heap.Ns builtinsNs mb)
    (hbb : ∀ y : Str, y ≠ "__name__" → mb y = bootBuiltins y)
    (hlim : s₁.heap.NoLimit) (hgen : s₁.gens = #[])
    (hT : s₁.heap.get? T = some tab0) (nT : K.lookup T = none) (C : PySem.W.CodeHd s₁.heap c T)
    (hbm : ∃ (bm : Addr) (ob : Obj), mg "__builtins__" = some (.ref bm) ∧ bm ≠ builtinsNs ∧ s₁.heap.get? bm = some ob ∧ ob.cls = .type "module" ∧ ob.dict = some builtinsNs ∧ ob.data = .plain)
    (ha : s₁.heap.get? a =
      some { cls := .type "list", data := .seq vs.toArray })
    (hi : IntsAre vs ns) (hl : ns.length ≤ sizeLine)
    (hr : Room k callerA)
    (F : ∀ base : Heap, K.In base → base.Ns mainGlobals mg → TabB base mg c T →
      FnG P w K mg base k fa fd [x] sp)
    (bind : ∀ (s : Shared) (u : Value),
      BindsTo s fd ⟨[u], []⟩ [(x, u)])
    (hs : ∀ H : Hp, H T = some (.tbl #[]) → SqL K H a (ns.map V.int) →
      sp [.ref a] H (fun v _ => v = .bl true) fun _ _ _ => False) :
    codeAny (model P w) callerA (.call (.ref fa) ⟨[.ref a], []⟩)
      (LawEnd s₁) s₁ := by
  have rv := vals_ints hi
  have aT : a ≠ T := fun z => by
    rw [z, hT] at ha
    cases ha
  cases hk : K.lookup a with
  | some o =>
    have e := KX a o hk
    rw [ha] at e
    cases e
    refine law_goesT KX hns hb hbb hlim hgen hT nT C hbm ha hr F bind
      (fun b => if b = T then some (.tbl #[]) else none) (if_pos rfl) (fun b => ?_) (fun b u z => ?_)
      (fun b z => ?_) (fun z => absurd (if_neg aT) z) (hs _ (if_pos rfl) ?_)
    · by_cases q : b = T
      · exact .inr (.inl q)
      · exact .inl (if_neg q)
    · by_cases q : b = T
      · have z' := (if_pos q).symm.trans z
        cases z'
        subst q
        exact hT
      · have z' := (if_neg q).symm.trans z
        cases z'
    · by_cases q : b = T
      · exact .inr q
      · exact absurd (if_neg q) z
    refine .inr ⟨_, vs.toArray, _, hk, rfl, rfl, rfl, ?_, by simpa using rv⟩
    rw [List.size_toArray, hi.length]
    exact hl
  | none =>
    have e1 : ∀ {p q : Option HO}, (if T = a then p else if T = T then q else none) = q := fun {p q} => by
      rw [if_neg aT.symm, if_pos rfl]
    refine law_goesT KX hns hb hbb hlim hgen hT nT C hbm ha hr F bind
      (fun b => if b = a then some (.frz { cls := .type "list", data := .seq vs.toArray } (.lst (ns.map V.int))) else if b = T then some (.tbl #[]) else none) e1 (fun b => ?_)
      (fun b u z => ?_) (fun b z => ?_) (fun _ => hk)
      (hs _ e1 (.inl (.inr ⟨_, if_pos rfl⟩)))
    · by_cases q : b = a
      · exact .inr (.inr ⟨_, _, if_pos q⟩)
      · by_cases q2 : b = T
        · exact .inr (.inl q2)
        · exact .inl ((if_neg q).trans (if_neg q2))
    · by_cases q : b = a
      · have z' := (if_pos q).symm.trans z
        cases z'
        subst q
        exact ⟨ha, by rw [List.length_map]; exact hl, vs, _, rv, ha⟩
      · by_cases q2 : b = T
        · have z' := ((if_neg q).trans (if_pos q2)).symm.trans z
          cases z'
          subst q2
          exact hT
        · have z' := ((if_neg q).trans (if_neg q2)).symm.trans z
          cases z'
    · by_cases q : b = a
      · exact .inl q
      · by_cases q2 : b = T
        · exact .inr q2
        · exact absurd ((if_neg q).trans (if_neg q2)) z
end

/-- the goal that the head leaves -/
theorem walk_ofT {l : PySem.W.OpenLaw} {n k : Nat} {q : Program}
    {loose : List Str} {XP : (Str → Option Value) → Heap → Prop}
    {YP : World → Heap → Prop} {d : DefRec}
    {K : Params → PySem.W.Frag} {sp : World → Sp} {x : Str} {T : Addr}
    (hn : l.most = some n) (hn2 : n ≤ sizeLine)
    (hdf : d.params.defaults = []) (hr : Room k callerA)
    (hY : ∀ (w : World) (h : Heap), YP w h → (K w.params).In h ∧ h.get? T = some tab0)
    (F : ∀ (w : World) (mg : Str → Option Value) (fa : Addr) (h : Heap),
      (K w.params).In h → h.Ns mainGlobals mg →
      mg d.name = some (.ref fa) →
      ∃ (fd : FuncData) (c : Addr), PySem.W.codeHdIn (K w.params) c T = true ∧ (K w.params).lookup T = none ∧
        (∀ (s : Shared) (u : Value), BindsTo s fd ⟨[u], []⟩ [(x, u)]) ∧
        ∀ base : Heap, (K w.params).In base → base.Ns mainGlobals mg → TabB base mg c T →
          FnG l.prog w (K w.params) mg base k fa fd [x] (sp w))
    (hsp : ∀ (w : World) (H : Hp) (a : Addr) (ns : List Int),
      ns.length ≤ n → H T = some (.tbl #[]) → SqL (K w.params) H a (ns.map V.int) →
      sp w [.ref a] H (fun v _ => v = .bl true) fun _ _ _ => False) :
    PySem.W.WalkO q loose XP YP l.row.toRowW d []
      (fun f vs => PySem.call f vs) := by
  refine Att.attach_call hn hdf ?_
  intro w s₀ s₁ mg mb fa o pm cd doc a vs ns G Y ho hd hcd hmg hobj hints hlen hg
  obtain ⟨KX, hT⟩ := hY w _ Y
  obtain ⟨fd, c, hC, nT, hb, hF⟩ := F w mg fa _ KX G.T.g hmg
  exact law_goesT2 KX G.T.g G.T.b G.T.builtins G.T.nolimit hg hT nT (PySem.W.codeHd_of_K KX hC) G.T.bmain hobj
    hints (Nat.le_trans hlen hn2) hr hF hb
    (fun H hO hS => hsp w H a ns hlen hO hS)

/-- a def of the text whose code object is known -/
structure DefC (K : PySem.W.Frag) (mg : Str → Option Value) (x : Str) (st : Stmt) (ps : List Str) (cd : Value) : Prop where
  ex : ∃ (f : Addr) (oc : Value) (od an : Option Addr) (sl : Array (Option Value)) (kV dc pm ct : Value),
    K.lookup f = some ⟨oc, od, .func (PySem.W.fnOf x x (defArgs st) (defBody st) (defScope st) .none kV dc pm an cd ct), sl⟩ ∧
    PySem.W.codeIn K cd x = true ∧ PySem.W.keepIn K (.ref f) = true ∧ mg x = some (.ref f) ∧
    Binds K (PySem.W.fnOf x x (defArgs st) (defBody st) (defScope st) .none kV dc pm an cd ct) ps []
theorem calOfC {P : Program} {w : World} {K : PySem.W.Frag} {mg : Str → Option Value} {base : Heap} {x : Str} {st : Stmt} {N ps : List Str} {k : Nat} {sp : Sp} {cd : Value}
    (D : DefC K mg x st ps cd) (S : FnScope N ps (defScope st))
    (many : ∀ vs H Q E, sp vs H Q E → vs.length = ps.length)
    (body : ∀ (f : Addr) (A : Around) (outer : List Env) (s : Shared) (H : Hp) (vs : List V) (Q : VK) (E : XK),
      Room k (A.deeper (envOfC x (defScope st) s.heap.objs.size f cd)) → sp vs H Q E →
      ∃ t, PSs (cxOf CX0 P w K mg base N x (defScope st) f cd A outer s H E).nox (defBody st) t ∧ t { nx := fun _ H' => Q .non H', rt := Q } (start N vs) H) :
    C8.Cal P w K mg base (k + 1) x sp [] := by
  obtain ⟨f, oc, od, an, sl, kV, dc, pm, ct, lk, hcd, kp, hm, hb⟩ := D.ex
  refine ⟨f, _, ps, [], ⟨many, fun A outer s H args us vs Q E hr e0 hb r hsp => ?_⟩, hm, kp, hb, .nil⟩
  have hlen := many _ _ _ _ hsp
  have KX : K.In s.heap := e0.mod.kin.keeps fun b o e => (e0.bs b o e).1
  have lim := e0.mod.nolimit.keeps fun b o e => (e0.bs b o e).1
  have kinds : ∀ y ∈ ps.zip us, (defScope st).names.lookup y.1 = some .local ∨
      ((defScope st).names.lookup y.1 = some .cell ∧ ((cellsFrom (s.heap.objs.size + 1) (defScope st).names []).lookup y.1).isSome = true) := by
    rintro ⟨n, v⟩ hy
    cases S.par n (List.of_mem_zip hy).1 with
    | inl q => exact .inl q
    | inr q => exact .inr ⟨q, PySem.W.cellsFrom_some _ _ _ (.inl q)⟩
  refine codeAny_call_function hr.depth (KX _ _ lk) rfl S.co S.gen rfl (PySem.W.codeRec_of KX hcd) (hb _ _ _ _ ?_)
  refine wpAny_newFunctionEnv_cells S.kind kinds fun env he s1 y => ?_
  subst he
  refine ⟨lim.keeps y.toInCall.keep, codeAny_func ?_⟩
  obtain ⟨t, ht, hq⟩ := body f A outer s H vs Q E (hr.deeper _) hsp
  have I := inv_start (CX := CX0) (E := E) S hr.hd e0 hlen r y
  refine wpAny_mono (ht.nox.run [] s1 (start N vs) H _ I hq) (fun fl s' hs => ?_) (fun _ _ hs => hs)
  cases fl with
  | brk => exact (hs.choose_spec.choose_spec.2 : False).elim
  | cont => exact (hs.choose_spec.choose_spec.2 : False).elim
  | next =>
    obtain ⟨_, H', J, q⟩ := hs
    exact ⟨V.non, H', J.os, J.bare, J.base, J.hok, rfl, q⟩
  | ret u =>
    obtain ⟨v, _, H', J, rv, q⟩ := hs
    exact ⟨v, H', J.os, J.bare, J.base, J.hok, rv, q⟩
end Vf

set_option Elab.async false
set_option linter.all false
set_option maxRecDepth 100000
set_option maxHeartbeats 4000000
/-! Own words: an error class of one field; try whose first clause, with a name, takes all that comes. -/
namespace Vf
open PySem PySem.Spec PyProof.Rows L2

/-- the ends behind a suite; what stood in slot i is gone there -/
def clearE (i : Nat) (D : Ends) : Ends :=
  ⟨fun τ G => D.nx (τ.set i none) G, D.rt, fun τ G => D.bk (τ.set i none) G, fun τ G => D.ct (τ.set i none) G⟩
/-- wished of an exception of the body: it is the first clause's -/
def wHd (K : PySem.W.Frag) (c : Value) (i : Nat) (ts : Addr → Value → Option Addr → TS) (D : Ends) : WX :=
  fun z d τ G => PySem.W.exmOne K z c = some true ∧ ∀ a, G a = none → ts a z d (clearE i D) (τ.set i (some (.ref a))) G

section
variable {X : Cx} {x n : Str} {c : Value} {i : Nat} {body suite : List Stmt} {st : Stmt} {np pos q : Pos} {more : List ExceptHandler}
  {tb : WX → TS} {ts : Addr → Value → Option Addr → TS} {D : Ends} {pins : List (Addr × Obj)} {τ : L2.St} {G : Hp} {s : Shared}
/-- the suite runs with the exception in slot i, which is gone behind it -/
theorem hd_suite {a : Addr} {oe : Obj} {z : Value} {d : Option Addr} {vs : Array Value} (nd : X.N.Nodup) (hi : X.N[i]? = some n) (loc : X.env.kindOf n = some .local)
    (run : PSs (X.suite a ((a, oe) :: (X.pn ++ pins))) (st :: suite) (ts a z d)) (J : Inv X pins τ G s)
    {R : Flow → Shared → Prop} {Er Es : Value → Shared → Prop} (hR : ∀ fl t, wpAny (model X.prog X.w) X.A (do bindName X.env n .none; unbindBehindTheSuite X.env n q) (fun _ u => SP X pins D fl u) X.xe t → R fl t)
    (e : s.heap.get? a = some oe) (f : oe.data = .fields vs) (na : G a = none) (nl : a ≠ X.env.locals) (nf : a ∉ X.fs)
    (h : ts a z d (clearE i D) (τ.set i (some (.ref a))) G) :
    wpAny (model X.prog X.w) (X.A.mark (some (.ref a))) (storeName X.env n (.ref a))
      (fun _ t => wpAny (model X.prog X.w) (X.A.mark (some (.ref a))) (execs (st :: suite) X.env) R Er t) Es s := by
  have S := J.suite e f na nl nf
  refine store_ok (X := X.suite a ((a, oe) :: (X.pn ++ pins))) (v := .ref a) S nd hi (.inl loc) rfl (fun t T => ?_) (.inr loc)
  refine wpAny_mono (run.run [] t _ G _ T h) (fun fl u hu => hR fl u ?_) fun _ _ no => no.elim
  have away : ∀ {τ' : L2.St} {G' : Hp}, Inv (X.suite a ((a, oe) :: (X.pn ++ pins))) [] τ' G' u → (∀ u', Inv X pins (τ'.set i none) G' u' → SP X pins D fl u') →
      wpAny (model X.prog X.w) X.A (do bindName X.env n .none; unbindBehindTheSuite X.env n q) (fun _ u' => SP X pins D fl u') X.xe u :=
    fun I' k => gone_ok (I'.unsuite J.ok) nd hi loc k
  cases fl with
  | ret v =>
    obtain ⟨v', τ', G', I', r, w⟩ := hu
    exact away I' fun u' J' => ⟨v', _, G', J', r, w⟩
  | next =>
    obtain ⟨τ', G', I', w⟩ := hu
    exact away I' fun u' J' => ⟨_, G', J', w⟩
  | brk =>
    obtain ⟨τ', G', I', w⟩ := hu
    exact away I' fun u' J' => ⟨_, G', J', w⟩
  | cont =>
    obtain ⟨τ', G', I', w⟩ := hu
    exact away I' fun u' J' => ⟨_, G', J', w⟩
end
end Vf
namespace Vf
open PySem PySem.Spec PyProof.Rows L2
section
variable {X : Cx} {x n : Str} {c : Value} {i : Nat} {body suite : List Stmt} {st : Stmt} {np pos q : Pos} {more : List ExceptHandler}
  {tb : WX → TS} {ts : Addr → Value → Option Addr → TS} {D : Ends} {pins : List (Addr × Obj)} {s : Shared} {e : Value} {xo : Value → Shared → Prop}
/-- an exception that has landed is no frame -/
theorem no_frame {B : Heap} {es : List Env} {h : Heap} {a : Addr} {o : Obj} {vs : Array Value} (fr : h.FunFrames B es) (g : h.get? a = some o) (f : o.data = .fields vs) : a ∉ frs es := fun m => by
  obtain ⟨_, u, g', no⟩ := fr.mem m
  obtain rfl := Option.some.inj (g.symm.trans g')
  exact no _ f
/-- the name of the clause is read -/
theorem hd_name {a : Addr} {oe : Obj} {τ : L2.St} {G : Hp} {Q : Value → Shared → Prop} {Er : Value → Shared → Prop} (hc : Names X x c) (S : Inv (X.suite a ((a, oe) :: (X.pn ++ pins))) [] τ G s) (k : Q c s) :
    wpAny (model X.prog X.w) (X.A.mark (some (.ref a))) (eval (.Name x np) X.env) Q Er s := by
  rcases hc with ⟨gl, nb, own | ⟨free, boot, nn⟩⟩
  · exact ld_glob S gl own k nb
  · exact ld_blt S gl free boot k nn nb
theorem hd_catch (hs : X.stack = X.env :: X.outer) (hf : X.env.frame = some X.env.locals) (nd : X.N.Nodup) (hi : X.N[i]? = some n) (loc : X.env.kindOf n = some .local) (hc : Names X x c) (ok : X.Ok)
    (hsu : ∀ (a : Addr) (oe : Obj) (z : Value) (d : Option Addr) (pn : List (Addr × Obj)), Zc z d oe → (∃ vs, oe.data = .fields vs) → PSs (X.suite a ((a, oe) :: pn)) (st :: suite) (ts a z d))
    (air : XE (X.tr (X.pn ++ pins) xo) (wHd X.K c i ts D) e s) :
    wpAny (model X.prog X.w) X.A (noteFrame e X.env) (fun _ t => wpAny (model X.prog X.w) X.A (setFlight e none)
      (fun _ u => wpAny (model X.prog X.w) X.A (handleBy e X.env (.ExceptHandler (some (.Name x np)) (some n) (st :: suite) q :: more)) (SP X pins D) X.xe u) X.xe t) X.xe s := by
  obtain ⟨a, B, s0, pn, τ, G, z, d, rfl, J0, new, up, sky, na, os, bare, me, go⟩ := air
  have J : Inv X pins τ G s0 := J0.ofTry ok
  have frames : X.A.frames = some (X.env :: X.outer) := ok.frames.trans (congrArg some hs)
  refine Sky.land (B := B) Zc.steady frames hf (by rw [← hs]; exact sky) fun h1 fl1 up1 => ?_
  have J1 : Inv X pins τ G { s with heap := h1 } := J.landed new fl1.1 (up.trans up1) os bare
  obtain ⟨o1, v1, g1, z1, d1⟩ := fl1.there
  have nf := no_frame fl1.2.2.1 g1 d1
  have nl : a ≠ X.env.locals := fun eq => nf (List.mem_filterMap.mpr ⟨X.env, List.mem_cons_self, hf.trans (congrArg some eq.symm)⟩)
  have nfs : a ∉ X.fs := fun m => by
    obtain ⟨en, m1, m2⟩ := List.mem_filterMap.mp m
    exact nf (List.mem_filterMap.mpr ⟨en, List.mem_cons_of_mem _ m1, m2⟩)
  refine wpAny_handleBy_cons (codeAny_handlers_test (hd_name hc (J1.suite g1 d1 na nl nfs) ?_)) (fun no => by cases no)
  have lt : PySem.W.Looks (model X.prog X.w) h1 (typeOf (.ref a)) z := fun _ _ _ _ k w => wpAny_typeOf_ref (k _ _ g1) (by rw [z1.1]; exact w)
  refine (PySem.W.exm_one J1.kIn lt me).here (codeAny_handlers_suite_as (HandSPX.lands_againZ fl1 fun h2 fl2 up2 => ?_))
  obtain ⟨o2, v2, g2, z2, d2⟩ := fl2.there
  have J2 : Inv X pins τ G { s with heap := h2 } := J.landed new fl2.1 ((up.trans up1).trans up2) os bare
  exact hd_suite nd hi loc (hsu a o2 z d (X.pn ++ pins) z2 ⟨_, d2⟩) J2 (fun fl t w => w) g2 d2 na nl nfs (go a na)
/-- try: body, except x as n: suite, and more clauses that nothing comes to -/
theorem ps_try_hd (hs : X.stack = X.env :: X.outer) (hf : X.env.frame = some X.env.locals) (nd : X.N.Nodup) (hi : X.N[i]? = some n) (loc : X.env.kindOf n = some .local) (hc : Names X x c)
    (hb : ∀ (W : WX) (pn : List (Addr × Obj)) (xe : Value → Shared → Prop), Takes (X.tr pn xe) W → PSs (X.tr pn xe) body (tb W))
    (hsu : ∀ (a : Addr) (oe : Obj) (z : Value) (d : Option Addr) (pn : List (Addr × Obj)), Zc z d oe → (∃ vs, oe.data = .fields vs) → PSs (X.suite a ((a, oe) :: pn)) (st :: suite) (ts a z d)) :
    PS X (.Try body (.ExceptHandler (some (.Name x np)) (some n) (st :: suite) q :: more) [] [] pos) (fun D τ G => tb (wHd X.K c i ts D) D τ G) := by
  refine ⟨fun pins s τ G D I h => wpAny_Try_except ?_⟩
  have ok := I.ok
  have run := (hb (wHd X.K c i ts D) (X.pn ++ pins) _ fun u t air => hd_catch (np := np) (q := q) (more := more) hs hf nd hi loc hc ok hsu air).run [] s τ G D (I.toTry _) h
  refine wpAny_mono run (fun fl t w => ?_) fun _ _ w => w
  cases fl with
  | ret v =>
    obtain ⟨v', τ', G', J, r, w⟩ := w
    exact ⟨v', τ', G', J.ofTry ok, r, w⟩
  | next =>
    obtain ⟨τ', G', J, w⟩ := w
    exact wpAny_execs_nil ⟨τ', G', J.ofTry ok, w⟩
  | brk =>
    obtain ⟨τ', G', J, w⟩ := w
    exact ⟨τ', G', J.ofTry ok, w⟩
  | cont =>
    obtain ⟨τ', G', J, w⟩ := w
    exact ⟨τ', G', J.ofTry ok, w⟩
end
end Vf
namespace Vf
open PySem PySem.Spec PyProof.Rows L2
/-- an error class of the text that keeps one thing -/
structure XcT (K : PySem.W.Frag) (mg : Str → Option Value) (x fld : Str) (C fI : Addr) : Prop where
  gl : mg x = some (.ref C)
  cl : OexC K C
  ini : PySem.W.findIn K (.ref C) "__init__" = some (some (.ref fI))
  fn : PySem.W.typeIn K (.ref fI) = some (.type "function")
  no : PySem.W.findIn K (.ref C) fld = some none
  xf : XfC K C
  me : PySem.W.exmOne K (.ref C) (.ref C) = some true
/-- its __init__ -/
def spXi (C : Addr) (fld : Str) : Sp := fun vs H Q _ => ∃ (a : Addr) (v : V), vs = [.ref a, v] ∧ H a = some (exo a C none) ∧
  ∀ d, H d = none → d ≠ a → Q .non (upd (upd H d (exd d [(fld, v)])) a (exo a C (some d)))
theorem xi_ok {P : Program} {w : World} {K : PySem.W.Frag} {mg : Str → Option Value} {base : Heap} {x fld qual : Str} {C fI : Addr} {fd : FuncData} {sI : Stmt} {p1 p2 p3 p4 : Pos}
    (T : XcT K mg x fld C fI) (F : Fun K "__init__" qual sI fI fd) (S : FnScope ["self", fld] ["self", fld] (defScope sI))
    (hb : defBody sI = [.Assign [.Attribute (.Name "self" p1) fld p2] (.Name fld p3) p4])
    (v1 : Vis (defScope sI) "self") (v2 : Vis (defScope sI) fld) (nb : (fld == ("__debug__" : Str)) = false) (nc : (fld == ("__classdict__" : Str)) = false) :
    FnOk P w K mg base CX0 1 fI fd ["self", fld] (spXi C fld) := by
  refine F.ok S (fun vs H Q E h => ?_) (fun cdv A outer s H vs Q E hr h => ?_)
  · obtain ⟨a, v, rfl, _⟩ := h
    rfl
  · obtain ⟨a, v, rfl, ha, k⟩ := h
    rw [hb]
    refine ⟨_, pss_one (ps_ost (f := fld) (pe_var (i := 0) rfl v1 (by decide) (by decide)) (pe_var (i := 1) rfl v2 nb nc)), ?_⟩
    exact ⟨_, rfl, _, rfl, a, C, rfl, T.cl, T.no, .inl ⟨ha, fun d nd ne => k d nd ne⟩⟩
/-- the class, ready to be raised -/
structure XcR (P : Program) (w : World) (K : PySem.W.Frag) (mg : Str → Option Value) (base : Heap) (x fld : Str) (C : Addr) : Prop where
  ex : ∃ (fI : Addr) (fd : FuncData), XcT K mg x fld C fI ∧ FnOk P w K mg base CX0 1 fI fd ["self", fld] (spXi C fld) ∧ Binds K fd ["self", fld] []
theorem ps_raiseX {X : Cx} {W : WX} {x fld : Str} {C : Addr} {k : Nat} {e : Expr} {ta : TA} {p pos pos2 : Pos} (hc : X.calm = true) (R : XcR X.prog X.w X.K X.mg X.base x fld C) (hr : Room k X.A) (h2 : 2 ≤ k) (tk : Takes X W) (ha : PA X [e] ta) (hg : Gl X x := by rfl)
    (hdb : (x == ("__debug__" : Str)) = false := by decide) (he : starEach (e :: []) X.env = (false, eval e X.env) :: starEach [] X.env := by rfl) (hpl : (backTo pos (starEach [] X.env)).any (·.1) = false := by rfl) :
    PS X (.Raise (some (.Call (.Name x p) [e] [] pos)) none pos2) (fun _ σ H => tMkO C (spXi C fld) [] ta σ H fun cls d H' => W cls d σ H') := by
  obtain ⟨fI, fd, T, F, b⟩ := R.ex
  exact ps_raise hc tk (pmk_oex T.cl T.ini T.fn F (hr.mono h2) b .nil pass0 hg T.gl ha hdb he hpl)
/-- what is asked where it is made -/
theorem raiseX_in {C : Addr} {fld : Str} {H1 : Hp} {v : V} {Q : XK} (h : ∀ d H2, Same H1 H2 → H1 d = none → H2 d = some (.xd [(fld, v)]) → Q (.ref C) (some d) H2) :
    [v].length ≤ 1000 ∧ ∀ a, H1 a = none → spXi C fld (.ref a :: ([v] ++ [])) (upd H1 a (exo a C none))
      (fun u H2 => u = .non ∧ ∃ (d : Addr) (fs : List (Str × V)), H2 a = some (exo a C (some d)) ∧ H2 d = some (exd d fs) ∧ H1 d = none ∧ Q (.ref C) (some d) (upd (del H2 a) d (.xd fs))) (fun _ _ _ => False) := by
  refine ⟨Nat.le_trans (Nat.le_refl 1) (by decide), fun a na => ⟨a, v, rfl, upd_same, fun d nd ne => ⟨rfl, d, [(fld, v)], upd_same, ?_, ?_, h d _ (fun b o hb => ?_) ?_ upd_same⟩⟩⟩
  · rw [upd_ne ne, upd_same]
  · rw [upd_ne ne] at nd
    exact nd
  · rw [upd_ne ne] at nd
    rw [upd_ne (ne_of_none hb nd), del_ne (ne_of_none hb na), upd_ne (ne_of_none hb na), upd_ne (ne_of_none hb nd), upd_ne (ne_of_none hb na)]
    exact hb
  · rw [upd_ne ne] at nd
    exact nd
theorem sameT {K : PySem.W.Frag} {H H' : Hp} {a : Addr} {xs : List V} (e : Same H H') (h : SqT K H a xs) : SqT K H' a xs := by
  rcases h with (h | ⟨o, h⟩) | h
  · exact .inl (.inl (e _ _ h))
  · exact .inl (.inr ⟨o, e _ _ h⟩)
  · exact .inr h
/-- what a for walks: a list or a tuple -/
theorem pi_either {X : Cx} {tg l : Expr} {tl : TE} (hl : PE X l tl) : PI X tg l (fun σ H R => iList X.K tl σ H R ∨ iTup X.K tl σ H R) :=
  ⟨fun pins s σ H R I h => h.elim ((pi_list hl).run pins s σ H R I) ((pi_tup hl).run pins s σ H R I)⟩
/-- the turns over either -/
theorem for_either {K : PySem.W.Frag} {a : Addr} {xs : List V} {i : Nat} {g : TG} {tb : TS} {D : Ends} {σ : L2.St} {H0 H : Hp} (hq : SqL K H0 a xs ∨ SqT K H0 a xs) (hi : σ[i]? = some (some (.ref a)))
    (Pv : Nat → L2.St → Hp → Prop) (h0 : Pv 0 σ H) (hl : ∀ i σ' H', Pv i σ' H' → Same H0 H')
    (hs : ∀ i x σ H, xs[i]? = some x → Pv i σ H → g x σ H fun σ2 H2 => tb { D with nx := Pv (i + 1), ct := Pv (i + 1), bk := D.nx } σ2 H2) (hd : ∀ σ H, Pv xs.length σ H → D.nx σ H) :
    tFor (fun σ H R => iList K (tVar i) σ H R ∨ iTup K (tVar i) σ H R) g tb D σ H := by
  rcases hq with hq | hq
  · exact .inl ⟨.ref a, hi, a, rfl, ⟨xs, (hl 0 σ H h0).seq hq⟩, for_list (K := K) (a := a) (xs := xs) Pv h0 (fun j σ' H' _ p => (hl j σ' H' p).seq hq) hs hd⟩
  · exact .inr ⟨.ref a, hi, a, rfl, ⟨xs, sameT (hl 0 σ H h0) hq⟩, for_tup (K := K) (a := a) (xs := xs) Pv h0 (fun j σ' H' _ p => sameT (hl j σ' H' p) hq) hs hd⟩
end Vf
namespace Vf
open PySem PySem.Spec PyProof.Rows L2
/-- a def of the text that may raise -/
structure CalX (P : Program) (w : World) (K : PySem.W.Frag) (mg : Str → Option Value) (base : Heap) (k : Nat) (x : Str) (ps : List Str) (sp : Sp) : Prop where
  ex : ∃ (f : Addr) (fd : FuncData), FnOk P w K mg base (L2.CX P w) k f fd ps sp ∧ mg x = some (.ref f) ∧ PySem.W.keepIn K (.ref f) = true ∧ Binds K fd ps []
theorem calXOf {P : Program} {w : World} {K : PySem.W.Frag} {mg : Str → Option Value} {base : Heap} {x : Str} {st : Stmt} {N ps : List Str} {k : Nat} {sp : Sp}
    (D : DefIn K mg x st ps) (S : FnScope N ps (defScope st)) (many : ∀ vs H Q E, sp vs H Q E → vs.length = ps.length)
    (body : ∀ (f : Addr) (cdv : Value) (A : Around) (outer : List Env) (s : Shared) (H : Hp) (vs : List V) (Q : VK) (E : XK),
      Room k (A.deeper (envOfC x (defScope st) s.heap.objs.size f cdv)) → sp vs H Q E →
      ∃ t, PSs (cxOf (L2.CX P w) P w K mg base N x (defScope st) f cdv A outer s H E) (defBody st) t ∧ t { nx := fun _ H' => Q .non H', rt := Q } (start N vs) H) :
    CalX P w K mg base (k + 1) x ps sp := by
  obtain ⟨f, fd, F, hm, hb⟩ := D.ex
  exact ⟨f, fd, F.okX S many (fun cdv A o s H vs Q E hr h => body f cdv A o s H vs Q E hr h), hm, F.kp, hb⟩
theorem pe_cX {X : Cx} {k j : Nat} {x : Str} {ps : List Str} {sp : Sp} {W : WX} {p pos : Pos} {e : Expr} {es : List Expr} {t : TA} (c : CalX X.prog X.w X.K X.mg X.base k x ps sp) (hr : Room j X.A) (hk : k ≤ j) (hg : Gl X x) (tk : Takes X W) (ha : PA X (e :: es) t)
    (hdb : (x == ("__debug__" : Str)) = false := by decide) (he : starEach (e :: es) X.env = (false, eval e X.env) :: starEach es X.env := by rfl) (hpl : (backTo pos (starEach es X.env)).any (·.1) = false := by rfl) :
    PE X (.Call (.Name x p) (e :: es) [] pos) (tCallS sp (WE W) t) := by
  obtain ⟨f, fd, F, hm, kp, b⟩ := c.ex
  exact pe_callS F (hr.mono hk) hg hm kp b (fun σ => passAt tk σ) ha hdb he hpl
end Vf
namespace Vf
open PySem PySem.Spec PyProof.Rows L2
/-- an error of the class itself is what a clause of it names -/
theorem exm_me {K : PySem.W.Frag} {S : Addr} (sub : PySem.W.subIn K (.ref S) (.type "BaseException") = some true) (is : PySem.W.isClsIn K S = true) (ty : PySem.W.typeIn K (.ref S) = some (.type "type")) (own : PySem.W.subIn K (.ref S) (.ref S) = some true) :
    PySem.W.exmOne K (.ref S) (.ref S) = some true := by
  have is' : (PySem.W.clsIn K S).isSome = true := is
  unfold PySem.W.exmOne PySem.W.kitCls
  simp only [sub, is', ty, own, beq_self_eq_true, Bool.and_self, if_true]
end Vf

set_option Elab.async false
set_option linter.all false
set_option maxRecDepth 100000
set_option maxHeartbeats 4000000
/-! Own words: changes of texts. -/
namespace Vf
open PySem PySem.Spec PyProof.Rows L2
open TL (tl joinL tl_join join_eq)
theorem tl_inj {x y : Str} (h : tl x = tl y) : x = y := Str.ext' (Array.toList_inj.mp h)
theorem tl_cat (x y : Str) : tl (x ++ y) = tl x ++ tl y := by
  show (x ++ y).cps.toList = _
  rw [Str.cps_append, Array.toList_append]
theorem joinL_nil : ∀ l : List (List Nat), joinL [] l = l.flatten
  | [] => rfl
  | [p] => by simp [joinL]
  | p :: q :: r => by
    show p ++ ([] ++ joinL [] (q :: r)) = p ++ (q :: r).flatten
    rw [joinL_nil (q :: r)]
    rfl
theorem tl_glue (l : List Str) : tl (Txt.join "" l) = (l.map tl).flatten := by
  rw [join_eq, tl_join]
  exact joinL_nil _
theorem glue_snoc (l m : List Str) : Txt.join "" (l ++ m) = Txt.join "" l ++ Txt.join "" m := by
  apply tl_inj
  rw [tl_cat, tl_glue, tl_glue, tl_glue, List.map_append, List.flatten_append]
theorem glue_two (l : List Str) (x y : Str) : Txt.join "" (l ++ [x, y]) = Txt.join "" l ++ x ++ y := by
  apply tl_inj
  rw [glue_snoc, tl_cat, tl_cat, tl_cat, tl_glue [x, y]]
  simp
theorem str_len (x : Str) : x.length = (tl x).length := by
  simp [Str.length]
theorem glue_len (l : List Str) : (Txt.join "" l).length = (l.map (·.length)).sum := by
  rw [str_len, tl_glue, List.length_flatten, List.map_map]
  congr 1
theorem sum_le {n : Nat} : ∀ {l : List Str}, (∀ x ∈ l, x.length ≤ n) → (l.map (·.length)).sum ≤ l.length * n
  | [], _ => Nat.zero_le _
  | x :: r, h => by
    have a := h x (List.mem_cons_self ..)
    have b := sum_le fun y hy => h y (List.mem_cons_of_mem _ hy)
    simp only [List.map_cons, List.sum_cons, List.length_cons, Nat.succ_mul]
    omega
/-- signs that can be shown -/
def Nice (x : Str) : Prop := ∀ c ∈ tl x, c < 0x110000
theorem Nice.tame {x : Str} (h : Nice x) : Vf.tame (.str x) = true := by
  show x.cps.all _ = true
  rw [← Array.all_toList, List.all_eq_true]
  exact fun c hc => decide_eq_true (h c hc)
theorem Nice.cat {x y : Str} (a : Nice x) (b : Nice y) : Nice (x ++ y) := fun c hc => by
  rw [tl_cat, List.mem_append] at hc
  exact hc.elim (a c) (b c)
theorem Nice.glue {l : List Str} (h : ∀ x ∈ l, Nice x) : Nice (Txt.join "" l) := fun c hc => by
  rw [tl_glue, List.mem_flatten] at hc
  obtain ⟨p, hp, hc⟩ := hc
  obtain ⟨x, hx, rfl⟩ := List.mem_map.mp hp
  exact h x hx c hc
theorem cut_mem {x : Str} {lo hi : Option Int} {c : Nat} (h : c ∈ tl (cutS x lo hi)) : c ∈ tl x := by
  unfold cutS at h
  simp only [tl] at h ⊢
  first
    | exact List.mem_of_mem_drop (List.mem_of_mem_take (by simpa using h))
    | exact List.mem_of_mem_take (List.mem_of_mem_drop (by simpa using h))
theorem Nice.cut {x : Str} (h : Nice x) (lo hi : Option Int) : Nice (cutS x lo hi) := fun c hc => h c (cut_mem hc)
theorem nice_of {x : Str} (h : (tl x).all (· < 0x110000) = true) : Nice x := fun c hc => of_decide_eq_true (List.all_eq_true.mp h c hc)

/-- a change: its begin, its end, its string -/
structure Ch where
  b : Int
  e : Int
  s : Str
def chD (c : Ch) : PyData := .tuple [.int c.b, .int c.e, .str c.s]
/-- the first change that is refused, l being the end of the one ahead -/
def firstBad (n : Int) : Int → List Ch → Option Ch
  | _, [] => none
  | l, c :: r => if n < c.e ∨ c.b < l then some c else firstBad n c.e r
def stp (t : Str) (p : List Str × Int) (c : Ch) : List Str × Int := (p.1 ++ [cutS t (some p.2) (some c.b), c.s], c.e)
def stAt (t : Str) (cs : List Ch) (i : Nat) : List Str × Int := (cs.take i).foldl (stp t) ([], 0)
theorem stAt_succ {t : Str} {cs : List Ch} {i : Nat} {c : Ch} (h : cs[i]? = some c) : stAt t cs (i + 1) = stp t (stAt t cs i) c := by
  unfold stAt
  rw [List.take_add_one, h, List.foldl_append]
  rfl
theorem drop_at {α : Type} {cs : List α} {i : Nat} {c : α} (h : cs[i]? = some c) : cs.drop i = c :: cs.drop (i + 1) := by
  obtain ⟨hi, e⟩ := List.getElem?_eq_some_iff.mp h
  rw [List.drop_eq_getElem_cons hi, e]
/-- what all make -/
def allCh (t : Str) (cs : List Ch) : Str := Txt.join "" (stAt t cs cs.length).1 ++ cutS t (some (stAt t cs cs.length).2) none
def dueD (t : Str) (cs : List Ch) : PyData := match firstBad t.length 0 cs with
  | some c => .tuple [.str "no change", chD c]
  | none => .tuple [.str "told", .str (allCh t cs)]
theorem due_bad {t : Str} {cs : List Ch} {c : Ch} (h : firstBad t.length 0 cs = some c) : dueD t cs = .tuple [.str "no change", chD c] := by
  unfold dueD
  rw [h]
theorem due_ok {t : Str} {cs : List Ch} (h : firstBad t.length 0 cs = none) : dueD t cs = .tuple [.str "told", .str (allCh t cs)] := by
  unfold dueD
  rw [h]
/-- changes that are not too large -/
structure ChOk (c : Ch) : Prop where
  b : c.b.natAbs ≤ 1000
  e : c.e.natAbs ≤ 1000
  s : c.s.length ≤ 100
  n : Nice c.s
theorem parts_ok {t : Str} (nt : Nice t) (lt : t.length ≤ 1000) {cs : List Ch} (h : ∀ c ∈ cs, ChOk c) : ∀ i, (stAt t cs i).1.length ≤ 2 * i ∧ ∀ x ∈ (stAt t cs i).1, x.length ≤ 1000 ∧ Nice x
  | 0 => ⟨Nat.le_refl _, fun x hx => by cases hx⟩
  | i + 1 => by
    obtain ⟨a, b⟩ := parts_ok nt lt h i
    cases e : cs[i]? with
    | none =>
      have : stAt t cs (i + 1) = stAt t cs i := by
        unfold stAt
        rw [List.take_add_one, e]
        simp
      rw [this]
      exact ⟨by omega, b⟩
    | some c =>
      have k := h c (List.mem_of_getElem? e)
      rw [stAt_succ e]
      refine ⟨?_, fun x hx => ?_⟩
      · show ((stAt t cs i).1 ++ [_, _]).length ≤ _
        rw [List.length_append]
        simp only [List.length_cons, List.length_nil]
        omega
      · rcases List.mem_append.mp (show x ∈ (stAt t cs i).1 ++ [cutS t (some (stAt t cs i).2) (some c.b), c.s] from hx) with hx | hx
        · exact b x hx
        · rcases List.mem_cons.mp hx with rfl | hx
          · exact ⟨Nat.le_trans (cutS_length _ _ _) lt, nt.cut _ _⟩
          · cases List.mem_singleton.mp hx
            exact ⟨Nat.le_trans k.s (by decide), k.n⟩
theorem all_len {t : Str} (nt : Nice t) (lt : t.length ≤ 1000) {cs : List Ch} (h : ∀ c ∈ cs, ChOk c) (lc : cs.length ≤ 100) (i : Nat) (hi : i ≤ cs.length) :
    (Txt.join "" (stAt t cs i).1).length ≤ 200000 ∧ ((stAt t cs i).1.map (·.length)).sum ≤ 200000 := by
  obtain ⟨a, b⟩ := parts_ok nt lt h i
  have z := sum_le fun x hx => (b x hx).1
  rw [glue_len]
  omega
theorem chD_ok {c : Ch} (h : ChOk c) : tame (chD c) = true ∧ (chD c).depth = 1 ∧ wt (chD c) ≤ 2000 := by
  obtain ⟨hb, he, hs, hn⟩ := h
  refine ⟨?_, rfl, ?_⟩
  · show (decide (c.b.natAbs < 10 ^ 30) && (decide (c.e.natAbs < 10 ^ 30) && (tame (.str c.s) && true))) = true
    rw [hn.tame, decide_eq_true (Nat.lt_of_le_of_lt hb (by decide +kernel)), decide_eq_true (Nat.lt_of_le_of_lt he (by decide +kernel))] <;> rfl
  · show 32 + 2 + (32 + 2 + (10 * c.s.length + 2 + 2 + 0)) + 4 ≤ 2000
    omega
theorem firstBad_mem {n : Int} : ∀ {cs : List Ch} {l : Int} {c : Ch}, firstBad n l cs = some c → c ∈ cs
  | [], _, _, h => by cases h
  | x :: r, l, c, h => by
    unfold firstBad at h
    split at h
    · cases h
      exact List.mem_cons_self ..
    · exact List.mem_cons_of_mem _ (firstBad_mem h)
theorem due_okd {t : Str} (nt : Nice t) (lt : t.length ≤ 1000) {cs : List Ch} (h : ∀ c ∈ cs, ChOk c) (lc : cs.length ≤ 100) : OkD (dueD t cs) := by
  cases e : firstBad t.length 0 cs with
  | some c =>
    rw [due_bad e]
    obtain ⟨a1, a2, a3⟩ := chD_ok (h c (firstBad_mem e))
    refine ⟨?_, ?_, ?_⟩
    · show (tame (.str "no change") && (tame (chD c) && true)) = true
      rw [a1, show tame (.str "no change") = true by decide +kernel] <;> rfl
    · show max 0 (max (chD c).depth 0) + 1 ≤ 60
      rw [a2]
      decide
    · show 10 * ("no change" : Str).length + 2 + 2 + (wt (chD c) + 2 + 0) + 4 ≤ 16000000
      rw [show (("no change" : Str)).length = 9 from rfl]
      omega
  | none =>
    rw [due_ok e]
    obtain ⟨p1, p2⟩ := parts_ok nt lt h cs.length
    have q := (all_len nt lt h lc cs.length (Nat.le_refl _)).1
    have nn : Nice (allCh t cs) := (Nice.glue fun x hx => (p2 x hx).2).cat (nt.cut _ _)
    have ll : (allCh t cs).length ≤ 201000 := by
      unfold allCh
      have := cutS_length t (some (stAt t cs cs.length).2) none
      rw [Str.length_append]
      omega
    refine ⟨?_, Nat.le_trans (Nat.le_refl 1) (by decide), ?_⟩
    · show (tame (.str "told") && (tame (.str (allCh t cs)) && true)) = true
      rw [nn.tame, show tame (.str "told") = true by decide +kernel] <;> rfl
    · show 10 * ("told" : Str).length + 2 + 2 + (10 * (allCh t cs).length + 2 + 2 + 0) + 4 ≤ 16000000
      rw [show (("told" : Str)).length = 4 from rfl]
      omega
theorem chs_okd : ∀ {cs : List Ch}, (∀ c ∈ cs, ChOk c) → tameAll (cs.map chD) = true ∧ PyData.depthAll (cs.map chD) ≤ 1 ∧ wtAll (cs.map chD) ≤ cs.length * 2002
  | [], _ => ⟨rfl, Nat.zero_le _, Nat.le_refl _⟩
  | c :: r, h => by
    obtain ⟨a1, a2, a3⟩ := chD_ok (h c (List.mem_cons_self ..))
    obtain ⟨b1, b2, b3⟩ := chs_okd fun x hx => h x (List.mem_cons_of_mem _ hx)
    refine ⟨?_, ?_, ?_⟩
    · show (tame (chD c) && tameAll (r.map chD)) = true
      rw [a1, b1] <;> rfl
    · show max (chD c).depth (PyData.depthAll (r.map chD)) ≤ 1
      rw [a2]
      omega
    · show wt (chD c) + 2 + wtAll (r.map chD) ≤ (r.length + 1) * 2002
      omega
/-- what stands there for a change -/
theorem ch_at {H : Hp} {v : V} {c : Ch} (t : Tr H v (chD c)) : ∃ q, v = .ref q ∧ H q = some (.tup [.int c.b, .int c.e, .str c.s]) := by
  unfold chD at t
  cases t with
  | tup h r =>
    cases r with
    | cons h1 r =>
      cases h1
      cases r with
      | cons h2 r =>
        cases h2
        cases r with
        | cons h3 r =>
          cases h3
          cases r
          exact ⟨_, rfl, h⟩
theorem chs_at {H : Hp} {xs : List V} {cs : List Ch} (t : TrAll H xs (cs.map chD)) {i : Nat} {y : V} (h : xs[i]? = some y) : ∃ c q, cs[i]? = some c ∧ y = .ref q ∧ H q = some (.tup [.int c.b, .int c.e, .str c.s]) ∧ Tr H y (chD c) := by
  obtain ⟨d, hd, ty⟩ := t.get h
  rw [List.getElem?_map] at hd
  obtain ⟨c, hc, rfl⟩ := Option.map_eq_some_iff.mp hd
  obtain ⟨q, rfl, hq⟩ := ch_at ty
  exact ⟨c, q, hc, rfl, hq, ty⟩
end Vf
namespace Vf
open PySem PySem.Spec PyProof.Rows L2
/-- a text, and the changes of it in a list or a tuple -/
structure Chs (K : PySem.W.Frag) (H : Hp) (t : Str) (a : Addr) (xs : List V) (cs : List Ch) : Prop where
  sq : SqL K H a xs ∨ SqT K H a xs
  tr : TrAll H xs (cs.map chD)
  nt : Nice t
  lt : t.length ≤ 1000
  ok : ∀ c ∈ cs, ChOk c
  lc : cs.length ≤ 100
theorem Chs.len {K : PySem.W.Frag} {H : Hp} {t : Str} {a : Addr} {xs : List V} {cs : List Ch} (h : Chs K H t a xs cs) : xs.length = cs.length := by
  rw [h.tr.len, List.length_map]
theorem Chs.same {K : PySem.W.Frag} {H H' : Hp} {t : Str} {a : Addr} {xs : List V} {cs : List Ch} (h : Chs K H t a xs cs) (s : Same H H') : Chs K H' t a xs cs :=
  ⟨h.sq.elim (fun q => .inl (s.seq q)) (fun q => .inr (sameT s q)), h.tr.keep (Tk.of s), h.nt, h.lt, h.ok, h.lc⟩
def spAllX (K : PySem.W.Frag) (C : Addr) : Sp := fun vs H Q E => ∃ (t : Str) (a : Addr) (xs : List V) (cs : List Ch), vs = [.str t, .ref a] ∧ Chs K H t a xs cs ∧
  (∀ c v d H', firstBad t.length 0 cs = some c → Tr H' v (chD c) → Same H H' → H' d = some (.xd [(("change" : Str), v)]) → E (.ref C) (some d) H') ∧
  (firstBad t.length 0 cs = none → ∀ H', Same H H' → Q (.str (allCh t cs)) H')
/-- told, or refused -/
def spDue (K : PySem.W.Frag) : Sp := fun vs H Q _ => ∃ (t : Str) (a : Addr) (xs : List V) (cs : List Ch), vs = [.str t, .ref a] ∧ Chs K H t a xs cs ∧
  ∀ v H', Same H H' → Tr H' v (dueD t cs) → Q v H'
def spAllC (K : PySem.W.Frag) : Sp := fun vs H Q _ => ∃ (t : Str) (a : Addr) (xs : List V) (cs : List Ch), vs = [.str t, .ref a] ∧ Chs K H t a xs cs ∧ ∀ H', Same H H' → Q (.str (allCh t cs)) H'
end Vf
namespace Vf
open PySem PySem.Spec PyProof.Rows L2
/-- one of some written things -/
theorem pick_of {K : PySem.W.Frag} {g : Bg} {H1 : Hp} {c e : Int} {l : List V} {p : Addr} {Q : VK} (B : Bag H1 g c e) (hp : H1 p = none) (h0 : 0 < l.length) (h1 : l.length < 1000)
    (k : ∀ v H3, v ∈ l → Drawn g H1 H3 c e → Q v H3) : spOne K [.ref g.b, .ref p] (upd H1 p (.lst l)) Q E0 :=
  ⟨g, _, c, e, rfl, B.new hp, .inl ⟨p, l, rfl, .inl (SqL.of upd_same), B.ne_new hp, h0, h1, fun v H3 hv D => k v H3 hv (((Drawn.of B).new hp).trans D)⟩⟩
theorem strs_in {l : List Str} {v : V} (h : v ∈ l.map V.str) : ∃ z, z ∈ l ∧ v = .str z := by
  obtain ⟨z, hz, rfl⟩ := List.mem_map.mp h
  exact ⟨z, hz, rfl⟩
theorem ints_in {l : List Int} {v : V} (h : v ∈ l.map V.int) : ∃ z, z ∈ l ∧ v = .int z := by
  obtain ⟨z, hz, rfl⟩ := List.mem_map.mp h
  exact ⟨z, hz, rfl⟩
theorem TrAll.set' {H : Hp} {v : V} {d : PyData} (t : Tr H v d) : ∀ {vs : List V} {ds : List PyData} (j : Nat), TrAll H vs ds → TrAll H (vs.set j v) (ds.set j d)
  | _, _, _, .nil => .nil
  | _, _, 0, .cons _ r => .cons t r
  | _, _, j + 1, .cons h r => .cons h (TrAll.set' t j r)
theorem tr_due {H : Hp} {v : V} {t : Str} {cs : List Ch} (h : Tr H v (dueD t cs)) : ∃ p, v = .ref p := by
  cases e : firstBad t.length 0 cs with
  | some c =>
    rw [due_bad e] at h
    cases h
    exact ⟨_, rfl⟩
  | none =>
    rw [due_ok e] at h
    cases h
    exact ⟨_, rfl⟩
theorem lst_okd {cs : List Ch} (h : ∀ c ∈ cs, ChOk c) (l : cs.length ≤ 100) : OkD (.list (cs.map chD)) ∧ OkD (.tuple (cs.map chD)) := by
  obtain ⟨a, b, c⟩ := chs_okd h
  refine ⟨⟨a, ?_, ?_⟩, ⟨a, ?_, ?_⟩⟩
  · show PyData.depthAll (cs.map chD) + 1 ≤ 60
    omega
  · show wtAll (cs.map chD) + 4 ≤ 16000000
    omega
  · show PyData.depthAll (cs.map chD) + 1 ≤ 60
    omega
  · show wtAll (cs.map chD) + 4 ≤ 16000000
    omega
/-- where the item stood -/
theorem at_of_ix {α : Type} {xs : List α} {r : Int} (h0 : 0 ≤ r) (h1 : r < (xs.length : Int)) : ∃ (j : Nat) (v : α), xs[j]? = some v ∧ atI xs r = some v ∧ ixN xs.length r = some j := by
  obtain ⟨j, rfl⟩ := Int.eq_ofNat_of_zero_le h0
  have hj : j < xs.length := by omega
  refine ⟨j, xs[j], List.getElem?_eq_getElem hj, atI_nat (j := j) (List.getElem?_eq_getElem hj), ?_⟩
  first
    | exact ixN_nat hj
    | (unfold ixN; simp [hj])
theorem chs_set {cs : List Ch} {c : Ch} (j : Nat) (h : ∀ x ∈ cs, ChOk x) (hc : ChOk c) : ∀ x ∈ cs.set j c, ChOk x := fun x hx => by
  rcases List.mem_or_eq_of_mem_set hx with q | q
  · exact h x q
  · rw [q]
    exact hc
end Vf

set_option Elab.async false
set_option linter.all false
set_option maxRecDepth 100000
set_option maxHeartbeats 4000000
/-! The end of a law some of whose defs make lambdas: their code objects and the tables of what they made, in a list. -/
namespace Vf
open PySem PySem.Spec PyProof.Rows L2
open LamX (CodeO TabS Tabs ExtN TabB)
abbrev tabE : Obj := { cls := .none, data := .fields #[] }
section
variable {P : Program} {w : World} {K : PySem.W.Frag}
  {mg mb : Str → Option Value} {k : Nat} {fa a : Addr} {fd : FuncData}
  {x : Str} {sp : Sp} {s₁ : Shared} {vs : List Value} {ns : List Int} {L : List (Addr × Addr)}

theorem law_goesY {S : Prop} (hS : S → ∃ (o : Obj) (es : Array DictEntry) (n : Nat), s₁.heap.get? sysModules = some o ∧ o.cls = .type "dict" ∧ o.data = .dict es n) (KX : K.In s₁.heap)
    (hns : s₁.heap.Ns mainGlobals mg) (hb : s₁.heap.Ns builtinsNs mb)
    (hbb : ∀ y : Str, y ≠ "__name__" → mb y = bootBuiltins y)
    (hlim : s₁.heap.NoLimit) (hgen : s₁.gens = #[])
    (hT : ∀ p ∈ L, s₁.heap.get? p.2 = some tabE ∧ K.lookup p.2 = none ∧ PySem.W.CodeHd s₁.heap p.1 p.2)
    (hbm : ∃ (bm : Addr) (ob : Obj), mg "__builtins__" = some (.ref bm) ∧ bm ≠ builtinsNs ∧ s₁.heap.get? bm = some ob ∧ ob.cls = .type "module" ∧ ob.dict = some builtinsNs ∧ ob.data = .plain)
    (ha : s₁.heap.get? a =
      some { cls := .type "list", data := .seq vs.toArray })
    (hr : Room k callerA)
    (F : ∀ base : Heap, K.In base → base.Ns mainGlobals mg → (S → ∃ o, base.get? sysModules = some o ∧ o.cls = .type "dict") → (∀ p ∈ L, TabB base mg p.1 p.2) →
      FnG P w K mg base k fa fd [x] sp)
    (bind : ∀ (s : Shared) (u : Value),
      BindsTo s fd ⟨[u], []⟩ [(x, u)])
    (H : Hp) (hHT : ∀ p ∈ L, H p.2 = some (.tbl #[])) (hO : ∀ b, H b = none ∨ (∃ p ∈ L, b = p.2) ∨ ∃ o xs, H b = some (.frz o (.lst xs))) (ok : HOk P w H s₁.heap)
    (alone : ∀ b, H b ≠ none → b = a ∨ ∃ p ∈ L, b = p.2)
    (notK : H a ≠ none → K.lookup a = none)
    (hs : sp [.ref a] H (fun v _ => v = .bl true) fun _ _ _ => False) :
    codeAny (model P w) callerA (.call (.ref fa) ⟨[.ref a], []⟩)
      (LawEnd s₁) s₁ := by
  have free : ∀ {b : Addr} {o : Obj}, s₁.heap.get? b = some o → (∀ xs n, o.data ≠ .seq xs n) → o.data ≠ .fields #[] → H b = none := by
    intro b o e d1 d2
    cases q : H b with
    | none => rfl
    | some u =>
      rcases alone b (by rw [q]; exact Option.some_ne_none u) with z | ⟨p, hp, z⟩
      · rw [z, ha] at e
        cases e
        exact absurd rfl (d1 _ _)
      · rw [z, (hT p hp).1] at e
        cases e
        exact absurd rfl d2
  have ns' : ∀ {b : Addr} {m : Str → Option Value},
      s₁.heap.Ns b m → (hidT s₁.heap H).Ns b m := by
    rintro b m ⟨o, es, ep, e, d, r⟩
    refine ⟨o, es, ep, hidT_get e (free e (fun xs n z => ?_) fun z => ?_), d, r⟩
    · rw [d] at z
      cases z
    · rw [d] at z
      cases z
  have kin : K.In (hidT s₁.heap H) := by
    intro b o e
    refine hidT_get (KX b o e) ?_
    cases q : H b with
    | none => rfl
    | some u =>
      rcases alone b (by rw [q]; exact Option.some_ne_none u) with z | ⟨p, hp, z⟩
      · have z2 := notK (by rw [← z, q]; exact Option.some_ne_none u)
        rw [z, z2] at e
        cases e
      · rw [z, (hT p hp).2.1] at e
        cases e
  have lim' : (hidT s₁.heap H).NoLimit := by
    obtain ⟨mc, h1, h2⟩ := hlim
    exact ⟨mc, ns' h1, h2⟩
  have M : Mod K mg (hidT s₁.heap H) :=
    ⟨kin, ns' hns, ⟨mb, ns' hb, hbb⟩, lim'⟩
  have TB : ∀ p ∈ L, TabB (hidT s₁.heap H) mg p.1 p.2 := fun p hp => by
    obtain ⟨eT, nT, C⟩ := hT p hp
    have notMain : mainGlobals ≠ p.2 := fun z => by
      obtain ⟨o, es, ep, e, d, _⟩ := hns
      rw [z, eT] at e
      cases e
      cases d
    refine ⟨?_, ?_, notMain⟩
    · obtain ⟨o, us, fl, tf, fg, tg, inF, tx, tt, e, r1, r2, r3, rest⟩ := C
      refine ⟨o, us, fl, tf, fg, tg, inF, tx, tt, hidT_get e (free e (fun xs n z => ?_) fun z => ?_), r1, r2, r3, rest⟩
      · rw [r2] at z
        cases z
      · rw [r2] at z
        cases z
        simp at r3
    · obtain ⟨bm, ob, m1, m2, m3, m4, m5, m6⟩ := hbm
      refine ⟨bm, ob, m1, m2, fun z => ?_, fun z => ?_, hidT_get m3 (free m3 (fun xs n z => ?_) fun z => ?_), m4, m5, m6⟩
      · obtain ⟨o, es, ep, e, d, _⟩ := hns
        rw [z, e] at m3
        cases m3
        rw [m6] at d
        cases d
      · rw [z, eT] at m3
        cases m3
        cases m6
      · rw [m6] at z
        cases z
      · rw [m6] at z
        cases z
  have sb : S → ∃ o, (hidT s₁.heap H).get? sysModules = some o ∧ o.cls = .type "dict" := fun h => by
    obtain ⟨o, es, n, e, c, d⟩ := hS h
    refine ⟨o, hidT_get e (free e (fun xs n z => ?_) fun z => ?_), c⟩
    · rw [d] at z
      cases z
    · rw [d] at z
      cases z
  have none_in : ∀ b : Addr, b ∉ ([] : List Addr) := fun b => by simp
  have env : Env0 P w K mg (hidT s₁.heap H) callerA [] s₁ H :=
    ⟨rfl, M, fun b o e => of_hidT e, Nat.le_of_eq (hidT_size _ _),
      trivial, fun b z => absurd z (none_in b), ok, .of_eq hgen⟩
  refine codeAny_mono ((F _ kin (ns' hns) sb TB).go callerA [] s₁ H
    ⟨[.ref a], []⟩ [.ref a] [.ref a] _ _ hr rfl env
    (bind s₁ (.ref a)) (.cons rfl .nil) hs) ?_
  intro r s' h
  cases r with
  | error e => exact (h : False).elim
  | ok fl =>
    cases fl with
    | next => exact (h : False).elim
    | brk => exact (h : False).elim
    | cont => exact (h : False).elim
    | ret u =>
      obtain ⟨v, H', os, bare, un, ok', rv, q⟩ := h
      obtain rfl : v = .bl true := q
      obtain rfl : u = Value.bool true := rv
      have same : ∀ b o, (∀ p ∈ L, b ≠ p.2) → s₁.heap.get? b = some o → s'.heap.get? b = some o := by
        intro b o nb e
        cases q : H b with
        | none => exact un.keep b o e q (none_in b) (none_in b)
        | some u =>
          rcases hO b with z | ⟨p, hp, z⟩ | ⟨ob, xs, z⟩
          · rw [q] at z
            cases z
          · exact absurd z (nb p hp)
          · obtain ⟨e1, _⟩ := ok b _ z
            obtain ⟨e2, _⟩ := ok' b _ (un.frzs b ob _ z)
            rw [e] at e1
            cases e1
            exact e2
      have grown : ∀ p ∈ L, ∃ more, s'.heap.get? p.2 = some { cls := .none, data := .fields (#[] ++ more) } := fun p hp => by
        obtain ⟨more, z⟩ := un.tbls p.2 #[] (hHT p hp)
        exact ⟨more, ok' p.2 _ z⟩
      refine ⟨rfl, ⟨fun b o e => ?_, fun b o e => ?_⟩, os, bare⟩
      · by_cases nb : ∀ p ∈ L, b ≠ p.2
        · exact .inl (same b o nb e)
        · obtain ⟨p, hz⟩ := Classical.not_forall.mp nb
          obtain ⟨hp, e2⟩ := Classical.not_imp.mp hz
          obtain rfl := Classical.not_not.mp e2
          obtain ⟨more, g⟩ := grown p hp
          rw [(hT p hp).1] at e
          cases e
          exact .inr (.inl ⟨((hT p hp).2.2.tab (hT p hp).1).isCodeTable, rfl, #[], more, rfl, g⟩)
      · by_cases nb : ∀ p ∈ L, b ≠ p.2
        · exact ⟨o, same b o nb e⟩
        · obtain ⟨p, hz⟩ := Classical.not_forall.mp nb
          obtain ⟨hp, e2⟩ := Classical.not_imp.mp hz
          obtain rfl := Classical.not_not.mp e2
          obtain ⟨more, g⟩ := grown p hp
          exact ⟨_, g⟩

theorem law_goesY2 {S : Prop} (hS : S → ∃ (o : Obj) (es : Array DictEntry) (n : Nat), s₁.heap.get? sysModules = some o ∧ o.cls = .type "dict" ∧ o.data = .dict es n) (KX : K.In s₁.heap)
    (hns : s₁.heap.Ns mainGlobals mg) (hb : s₁.heap.Ns builtinsNs mb)
    (hbb : ∀ y : Str, y ≠ "__name__" → mb y = bootBuiltins y)
    (hlim : s₁.heap.NoLimit) (hgen : s₁.gens = #[])
    (hT : ∀ p ∈ L, s₁.heap.get? p.2 = some tabE ∧ K.lookup p.2 = none ∧ PySem.W.CodeHd s₁.heap p.1 p.2)
    (hbm : ∃ (bm : Addr) (ob : Obj), mg "__builtins__" = some (.ref bm) ∧ bm ≠ builtinsNs ∧ s₁.heap.get? bm = some ob ∧ ob.cls = .type "module" ∧ ob.dict = some builtinsNs ∧ ob.data = .plain)
    (ha : s₁.heap.get? a =
      some { cls := .type "list", data := .seq vs.toArray })
    (hi : IntsAre vs ns) (hl : ns.length ≤ sizeLine)
    (hr : Room k callerA)
    (F : ∀ base : Heap, K.In base → base.Ns mainGlobals mg → (S → ∃ o, base.get? sysModules = some o ∧ o.cls = .type "dict") → (∀ p ∈ L, TabB base mg p.1 p.2) →
      FnG P w K mg base k fa fd [x] sp)
    (bind : ∀ (s : Shared) (u : Value),
      BindsTo s fd ⟨[u], []⟩ [(x, u)])
    (hs : ∀ H : Hp, (∀ p ∈ L, H p.2 = some (.tbl #[])) → SqL K H a (ns.map V.int) →
      sp [.ref a] H (fun v _ => v = .bl true) fun _ _ _ => False) :
    codeAny (model P w) callerA (.call (.ref fa) ⟨[.ref a], []⟩)
      (LawEnd s₁) s₁ := by
  have rv := vals_ints hi
  have aT : a ∉ L.map (·.2) := fun z => by
    obtain ⟨p, hp, e⟩ := List.mem_map.mp z
    have e2 := (hT p hp).1
    rw [e, ha] at e2
    cases e2
  have into : ∀ {p : Addr × Addr}, p ∈ L → p.2 ∈ L.map (·.2) := fun hp => List.mem_map.mpr ⟨_, hp, rfl⟩
  have out : ∀ {b : Addr}, b ∈ L.map (·.2) → ∃ p ∈ L, b = p.2 := fun h => by
    obtain ⟨p, hp, e⟩ := List.mem_map.mp h
    exact ⟨p, hp, e.symm⟩
  cases hk : K.lookup a with
  | some o =>
    have e := KX a o hk
    rw [ha] at e
    cases e
    refine law_goesY hS KX hns hb hbb hlim hgen hT hbm ha hr F bind
      (fun b => if b ∈ L.map (·.2) then some (.tbl #[]) else none) (fun p hp => if_pos (into hp)) (fun b => ?_) (fun b u z => ?_)
      (fun b z => ?_) (fun z => absurd (if_neg aT) z) (hs _ (fun p hp => if_pos (into hp)) ?_)
    · by_cases q : b ∈ L.map (·.2)
      · exact .inr (.inl (out q))
      · exact .inl (if_neg q)
    · by_cases q : b ∈ L.map (·.2)
      · have z' := (if_pos q).symm.trans z
        cases z'
        obtain ⟨p, hp, rfl⟩ := out q
        exact (hT p hp).1
      · have z' := (if_neg q).symm.trans z
        cases z'
    · by_cases q : b ∈ L.map (·.2)
      · exact .inr (out q)
      · exact absurd (if_neg q) z
    refine .inr ⟨_, vs.toArray, _, hk, rfl, rfl, rfl, ?_, by simpa using rv⟩
    rw [List.size_toArray, hi.length]
    exact hl
  | none =>
    have e1 : ∀ p ∈ L, ∀ {u v : Option HO}, (if p.2 = a then u else if p.2 ∈ L.map (·.2) then v else none) = v := fun p hp {u v} => by
      rw [if_neg (fun z => aT (by rw [← z]; exact into hp)), if_pos (into hp)]
    refine law_goesY hS KX hns hb hbb hlim hgen hT hbm ha hr F bind
      (fun b => if b = a then some (.frz { cls := .type "list", data := .seq vs.toArray } (.lst (ns.map V.int))) else if b ∈ L.map (·.2) then some (.tbl #[]) else none) (fun p hp => e1 p hp) (fun b => ?_)
      (fun b u z => ?_) (fun b z => ?_) (fun _ => hk)
      (hs _ (fun p hp => e1 p hp) (.inl (.inr ⟨_, if_pos rfl⟩)))
    · by_cases q : b = a
      · exact .inr (.inr ⟨_, _, if_pos q⟩)
      · by_cases q2 : b ∈ L.map (·.2)
        · exact .inr (.inl (out q2))
        · exact .inl ((if_neg q).trans (if_neg q2))
    · by_cases q : b = a
      · have z' := (if_pos q).symm.trans z
        cases z'
        subst q
        exact ⟨ha, by rw [List.length_map]; exact hl, vs, _, rv, ha⟩
      · by_cases q2 : b ∈ L.map (·.2)
        · have z' := ((if_neg q).trans (if_pos q2)).symm.trans z
          cases z'
          obtain ⟨p, hp, rfl⟩ := out q2
          exact (hT p hp).1
        · have z' := ((if_neg q).trans (if_neg q2)).symm.trans z
          cases z'
    · by_cases q : b = a
      · exact .inl q
      · by_cases q2 : b ∈ L.map (·.2)
        · exact .inr (out q2)
        · exact absurd ((if_neg q).trans (if_neg q2)) z
end

/-- the goal that the head leaves -/
theorem walk_ofX {l : PySem.W.OpenLaw} {n k : Nat} {q : Program}
    {loose : List Str} {XP : (Str → Option Value) → Heap → Prop}
    {S : Prop} {YP : World → Heap → Prop} {d : DefRec}
    {K : Params → PySem.W.Frag} {sp : World → Sp} {x : Str} {Ts : List Addr}
    (hn : l.most = some n) (hn2 : n ≤ sizeLine)
    (hdf : d.params.defaults = []) (hr : Room k callerA)
    (hY : ∀ (w : World) (h : Heap), YP w h → ((K w.params).In h ∧ ∀ T ∈ Ts, h.get? T = some tabE) ∧ (S → ∃ (o : Obj) (es : Array DictEntry) (n : Nat), h.get? sysModules = some o ∧ o.cls = .type "dict" ∧ o.data = .dict es n))
    (F : ∀ (w : World) (mg : Str → Option Value) (fa : Addr) (h : Heap),
      (K w.params).In h → h.Ns mainGlobals mg →
      mg d.name = some (.ref fa) →
      ∃ (fd : FuncData) (L : List (Addr × Addr)), (∀ p ∈ L, PySem.W.codeHdIn (K w.params) p.1 p.2 = true ∧ (K w.params).lookup p.2 = none) ∧ L.map (·.2) = Ts ∧
        (∀ (s : Shared) (u : Value), BindsTo s fd ⟨[u], []⟩ [(x, u)]) ∧
        ∀ base : Heap, (K w.params).In base → base.Ns mainGlobals mg → (S → ∃ o, base.get? sysModules = some o ∧ o.cls = .type "dict") → (∀ p ∈ L, TabB base mg p.1 p.2) →
          FnG l.prog w (K w.params) mg base k fa fd [x] (sp w))
    (hsp : ∀ (w : World) (H : Hp) (a : Addr) (ns : List Int),
      ns.length ≤ n → (∀ T ∈ Ts, H T = some (.tbl #[])) → SqL (K w.params) H a (ns.map V.int) →
      sp w [.ref a] H (fun v _ => v = .bl true) fun _ _ _ => False) :
    PySem.W.WalkO q loose XP YP l.row.toRowW d []
      (fun f vs => PySem.call f vs) := by
  refine Att.attach_call hn hdf ?_
  intro w s₀ s₁ mg mb fa o pm cd doc a vs ns G Y ho hd hcd hmg hobj hints hlen hg
  obtain ⟨⟨KX, hT⟩, hS⟩ := hY w _ Y
  obtain ⟨fd, L, hC, hL, hb, hF⟩ := F w mg fa _ KX G.T.g hmg
  refine law_goesY2 hS KX G.T.g G.T.b G.T.builtins G.T.nolimit hg (L := L) (fun p hp => ⟨hT p.2 (hL ▸ List.mem_map.mpr ⟨p, hp, rfl⟩), (hC p hp).2, PySem.W.codeHd_of_K KX (hC p hp).1⟩) G.T.bmain hobj
    hints (Nat.le_trans hlen hn2) hr hF hb
    (fun H hO hS => hsp w H a ns hlen (fun T hT => ?_) hS)
  rw [← hL] at hT
  obtain ⟨p, hp, rfl⟩ := List.mem_map.mp hT
  exact hO p hp
/-- the goal that the head leaves -/
theorem walk_ofY {l : PySem.W.OpenLaw} {n k : Nat} {q : Program}
    {loose : List Str} {XP : (Str → Option Value) → Heap → Prop}
    {YP : World → Heap → Prop} {d : DefRec}
    {K : Params → PySem.W.Frag} {sp : World → Sp} {x : Str} {Ts : List Addr}
    (hn : l.most = some n) (hn2 : n ≤ sizeLine)
    (hdf : d.params.defaults = []) (hr : Room k callerA)
    (hY : ∀ (w : World) (h : Heap), YP w h → (K w.params).In h ∧ ∀ T ∈ Ts, h.get? T = some tabE)
    (F : ∀ (w : World) (mg : Str → Option Value) (fa : Addr) (h : Heap),
      (K w.params).In h → h.Ns mainGlobals mg →
      mg d.name = some (.ref fa) →
      ∃ (fd : FuncData) (L : List (Addr × Addr)), (∀ p ∈ L, PySem.W.codeHdIn (K w.params) p.1 p.2 = true ∧ (K w.params).lookup p.2 = none) ∧ L.map (·.2) = Ts ∧
        (∀ (s : Shared) (u : Value), BindsTo s fd ⟨[u], []⟩ [(x, u)]) ∧
        ∀ base : Heap, (K w.params).In base → base.Ns mainGlobals mg → (∀ p ∈ L, TabB base mg p.1 p.2) →
          FnG l.prog w (K w.params) mg base k fa fd [x] (sp w))
    (hsp : ∀ (w : World) (H : Hp) (a : Addr) (ns : List Int),
      ns.length ≤ n → (∀ T ∈ Ts, H T = some (.tbl #[])) → SqL (K w.params) H a (ns.map V.int) →
      sp w [.ref a] H (fun v _ => v = .bl true) fun _ _ _ => False) :
    PySem.W.WalkO q loose XP YP l.row.toRowW d []
      (fun f vs => PySem.call f vs) :=
  walk_ofX (S := False) hn hn2 hdf hr (fun w h y => ⟨hY w h y, fun f => f.elim⟩)
    (fun w mg fa h a b c => by
      obtain ⟨fd, L, h1, h2, h3, h4⟩ := F w mg fa h a b c
      exact ⟨fd, L, h1, h2, h3, fun base p q _ t => h4 base p q t⟩) hsp
/-- a hook that also looks at sys.modules -/
def sysHook (k : PySem.W.Hook) : PySem.W.Hook where
  α := k.α × Option (Value × Bool)
  obs := fun s => (k.obs s, (s.heap.get? sysModules).map fun o => (o.cls, match o.data with | .dict _ _ => true | _ => false))
  val := fun w => (k.val w, some (.type "dict", true))
  says := fun w h => k.says w h ∧ ∃ (o : Obj) (es : Array DictEntry) (n : Nat), h.get? sysModules = some o ∧ o.cls = .type "dict" ∧ o.data = .dict es n
  of := fun w s x => ⟨k.of w s (Prod.mk.inj x).1, by
    have y := (Prod.mk.inj x).2
    cases e : s.heap.get? sysModules with
    | none =>
      rw [e] at y
      cases y
    | some o =>
      rw [e] at y
      have y1 := (Prod.mk.inj (Option.some.inj y)).1
      have y2 := (Prod.mk.inj (Option.some.inj y)).2
      cases d : o.data with
      | dict es n => exact ⟨o, es, n, rfl, y1, d⟩
      | _ =>
        rw [d] at y2
        cases y2⟩
  keeps := fun w h h' x k2 => ⟨k.keeps w h h' x.1 k2, by
    obtain ⟨o, es, n, e, r⟩ := x.2
    exact ⟨o, es, n, k2 _ _ e, r⟩⟩
end Vf

set_option Elab.async false
set_option linter.all false
set_option maxRecDepth 100000
set_option maxHeartbeats 4000000
/-! Own words: how much two rows begin alike; the least change between two texts. -/
namespace Vf
open PySem PySem.Spec PyProof.Rows L2
open TL (tl joinL tl_join join_eq)
/-- how many begin alike -/
def lcp : List Nat → List Nat → Nat
  | a :: x, b :: y => if a = b then lcp x y + 1 else 0
  | _, _ => 0
theorem lcp_le : ∀ x y : List Nat, lcp x y ≤ x.length ∧ lcp x y ≤ y.length
  | [], _ => ⟨Nat.zero_le _, Nat.zero_le _⟩
  | _ :: _, [] => ⟨Nat.zero_le _, Nat.zero_le _⟩
  | a :: x, b :: y => by
    have ih := lcp_le x y
    unfold lcp
    split
    · simp only [List.length_cons]
      omega
    · exact ⟨Nat.zero_le _, Nat.zero_le _⟩
/-- one turn of a count: there are i that are alike; the next is too, or not -/
theorem lcp_more {x y : List Nat} {i : Nat} (h : lcp x y = i + lcp (x.drop i) (y.drop i)) {a : Nat} (ex : x[i]? = some a) (ey : y[i]? = some a) : lcp x y = (i + 1) + lcp (x.drop (i + 1)) (y.drop (i + 1)) := by
  rw [drop_at ex, drop_at ey] at h
  have : lcp (a :: x.drop (i + 1)) (a :: y.drop (i + 1)) = lcp (x.drop (i + 1)) (y.drop (i + 1)) + 1 := if_pos rfl
  omega
theorem lcp_end {x y : List Nat} {i : Nat} (h : lcp x y = i + lcp (x.drop i) (y.drop i)) {a b : Nat} (ex : x[i]? = some a) (ey : y[i]? = some b) (ne : a ≠ b) : lcp x y = i := by
  rw [drop_at ex, drop_at ey] at h
  have : lcp (a :: x.drop (i + 1)) (b :: y.drop (i + 1)) = 0 := if_neg ne
  omega
theorem lcp_end' {x y : List Nat} {i : Nat} (h : lcp x y = i + lcp (x.drop i) (y.drop i)) (hi : ¬ (i < x.length ∧ i < y.length)) : lcp x y = i := by
  have a := (lcp_le (x.drop i) (y.drop i)).1
  have b := (lcp_le (x.drop i) (y.drop i)).2
  rw [List.length_drop] at a b
  omega
theorem lcp_take : ∀ (x y : List Nat) (i : Nat), i ≤ lcp x y → x.take i = y.take i
  | _, _, 0, _ => by simp
  | [], _, i + 1, h => absurd h (by simp [lcp])
  | _ :: _, [], i + 1, h => absurd h (by simp [lcp])
  | a :: x, b :: y, i + 1, h => by
    unfold lcp at h
    split at h
    · rename_i e
      rw [List.take_succ_cons, List.take_succ_cons, e, lcp_take x y i (by omega)]
    · omega
theorem take_lcp : ∀ (x y : List Nat) (i : Nat), i ≤ x.length → i ≤ y.length → x.take i = y.take i → i ≤ lcp x y
  | _, _, 0, _, _, _ => Nat.zero_le _
  | [], _, i + 1, h, _, _ => by simp at h
  | _ :: _, [], i + 1, _, h, _ => by simp at h
  | a :: x, b :: y, i + 1, h1, h2, h => by
    rw [List.take_succ_cons, List.take_succ_cons] at h
    obtain ⟨e, h⟩ := List.cons.inj h
    have := take_lcp x y i (by simpa using h1) (by simpa using h2) h
    unfold lcp
    rw [if_pos e]
    omega
/-- the begin of the least change, and how much is alike behind it -/
def begB (x y : List Nat) : Nat := lcp x y
def sameB (x y : List Nat) : Nat := lcp (x.drop (begB x y)).reverse (y.drop (begB x y)).reverse
theorem begB_le (x y : List Nat) : begB x y ≤ x.length ∧ begB x y ≤ y.length := lcp_le x y
theorem sameB_le (x y : List Nat) : begB x y + sameB x y ≤ x.length ∧ begB x y + sameB x y ≤ y.length := by
  have a := lcp_le (x.drop (begB x y)).reverse (y.drop (begB x y)).reverse
  have b := begB_le x y
  rw [List.length_reverse, List.length_reverse, List.length_drop, List.length_drop] at a
  unfold sameB
  omega
/-- b, e may be begin and end of a change that leads from x to y -/
def Leads (x y : List Nat) (b e : Nat) : Prop := b ≤ e ∧ e ≤ x.length ∧ b + (x.length - e) ≤ y.length ∧ x.take b = y.take b ∧ x.drop e = y.drop (y.length - (x.length - e))
theorem leads_beg {x y : List Nat} {b e : Nat} (h : Leads x y b e) : b ≤ begB x y := by
  obtain ⟨h1, h2, h3, h4, _⟩ := h
  exact take_lcp x y b (by omega) (by omega) h4
theorem rev_take_drop {x : List Nat} {b k : Nat} (h : b + k ≤ x.length) : (x.drop b).reverse.take k = (x.drop (x.length - k)).reverse := by
  rw [List.take_reverse, List.length_drop, List.drop_drop]
  congr 2
  omega
theorem leads_end {x y : List Nat} {e : Nat} (h : Leads x y (begB x y) e) : x.length - sameB x y ≤ e := by
  obtain ⟨h1, h2, h3, _, h5⟩ := h
  have := take_lcp (x.drop (begB x y)).reverse (y.drop (begB x y)).reverse (x.length - e) (by rw [List.length_reverse, List.length_drop]; omega) (by rw [List.length_reverse, List.length_drop]; omega) (by
    rw [rev_take_drop (by omega), rev_take_drop (by omega)]
    rw [show x.length - (x.length - e) = e by omega, h5])
  have : x.length - e ≤ sameB x y := this
  omega
theorem leads_all (x y : List Nat) : Leads x y (begB x y) (x.length - sameB x y) := by
  have a := begB_le x y
  have b := sameB_le x y
  refine ⟨by omega, by omega, by omega, lcp_take x y _ (Nat.le_refl _), ?_⟩
  have h := lcp_take (x.drop (begB x y)).reverse (y.drop (begB x y)).reverse (sameB x y) (Nat.le_refl _)
  rw [rev_take_drop (by omega), rev_take_drop (by omega)] at h
  rw [show x.length - (x.length - sameB x y) = sameB x y by omega]
  exact List.reverse_inj.mp h
theorem leads_whole (x y : List Nat) : Leads x y (begB x y) x.length := by
  have a := begB_le x y
  refine ⟨a.1, Nat.le_refl _, by omega, lcp_take x y _ (Nat.le_refl _), ?_⟩
  rw [Nat.sub_self, Nat.sub_zero, List.drop_length, List.drop_length]
end Vf

set_option Elab.async false
set_option linter.all false
set_option maxRecDepth 100000
set_option maxHeartbeats 4000000
/-! Own words: repr of a text too; a def whose lambdas' code is known; what tables and drawn bags keep. -/
namespace Vf
open PySem PySem.Spec PyProof.Rows L2
open LamX (CodeO TabS Tabs ExtN TabB)
/-- an object, or a text -/
def ShowV (v : V) : Prop := (∃ a, v = .ref a) ∨ ∃ x, v = .str x
theorem call_repr2 {X : Cx} (gd : X.A.guards = some []) (hu : X.A.units + 64 < cLine) :
    CallR X (.builtin "repr") (fun xs H Q => ∃ v d, xs = [v] ∧ ShowV v ∧ Dp X.K H v d ∧ OkD d ∧ Q (.str d.shown) H) := by
  intro pins s σ H xs us Q I r h
  obtain ⟨v, d, rfl, sv, hd, ok, q⟩ := h
  rcases sv with ⟨a, rfl⟩ | ⟨x, rfl⟩
  · exact call_repr gd hu pins s σ H [.ref a] us Q I r ⟨a, d, rfl, hd, ok, q⟩
  · cases hd
    cases r with
    | cons rv rn =>
      cases rn
      obtain ⟨t, rfl⟩ := rv
      exact PySem.P.repr_of_str ⟨.str _, H, I.tok _, ⟨_, rfl⟩, q⟩ ok.show
/-- two things alike, objects or texts -/
def spAlike2 (K : PySem.W.Frag) : Sp := fun vs H Q _ => ∃ (u v : V) (d : PyData), vs = [u, v] ∧ ShowV u ∧ ShowV v ∧ Dp K H u d ∧ Dp K H v d ∧ OkD d ∧ ∀ H', Same H H' → Q (.bl true) H'
/-- a def of the text whose code object stands at c -/
structure DefK (K : PySem.W.Frag) (mg : Str → Option Value) (x : Str) (st : Stmt) (ps : List Str) (c : Addr) : Prop where
  ex : ∃ (f : Addr) (oc : Value) (od an : Option Addr) (sl : Array (Option Value)) (kV dc pm ct : Value),
    K.lookup f = some ⟨oc, od, .func (PySem.W.fnOf x x (defArgs st) (defBody st) (defScope st) .none kV dc pm an (.ref c) ct), sl⟩ ∧
    PySem.W.codeIn K (.ref c) x = true ∧ PySem.W.keepIn K (.ref f) = true ∧ mg x = some (.ref f) ∧
    Binds K (PySem.W.fnOf x x (defArgs st) (defBody st) (defScope st) .none kV dc pm an (.ref c) ct) ps []
section
variable {P : Program} {w : World} {K : PySem.W.Frag} {mg : Str → Option Value} {base : Heap}
theorem fnG_ofK {x : Str} {st : Stmt} {f c : Addr} {oc : Value} {od an : Option Addr} {sl : Array (Option Value)} {kV dc pm ct : Value} {N ps : List Str} {k : Nat} {sp : Sp}
    (lk : K.lookup f = some ⟨oc, od, .func (PySem.W.fnOf x x (defArgs st) (defBody st) (defScope st) .none kV dc pm an (.ref c) ct), sl⟩) (hcd : PySem.W.codeIn K (.ref c) x = true) (S : FnScope N ps (defScope st))
    (many : ∀ vs H Q E, sp vs H Q E → vs.length = ps.length)
    (body : ∀ (A : Around) (outer : List Env) (s : Shared) (H : Hp) (vs : List V) (Q : VK) (E : XK),
      Room k (A.deeper (envOfC x (defScope st) s.heap.objs.size f (.ref c))) → A.guards = some [] → sp vs H Q E →
      ∃ t, PSs (cxOf CX0 P w K mg base N x (defScope st) f (.ref c) A outer s H E).nox (defBody st) t ∧ t { nx := fun _ H' => Q .non H', rt := Q } (start N vs) H) :
    FnG P w K mg base (k + 1) f (PySem.W.fnOf x x (defArgs st) (defBody st) (defScope st) .none kV dc pm an (.ref c) ct) ps sp := by
  refine ⟨many, fun A outer s H args us vs Q E hr hg e0 hb r hsp => ?_⟩
  have hlen := many _ _ _ _ hsp
  have KX : K.In s.heap := e0.mod.kin.keeps (fun b o e => (e0.bs b o e).1)
  have lim := e0.mod.nolimit.keeps (fun b o e => (e0.bs b o e).1)
  have kinds : ∀ y ∈ ps.zip us, (defScope st).names.lookup y.1 = some .local ∨
      ((defScope st).names.lookup y.1 = some .cell ∧ ((cellsFrom (s.heap.objs.size + 1) (defScope st).names []).lookup y.1).isSome = true) := by
    rintro ⟨n, v⟩ hy
    cases S.par n (List.of_mem_zip hy).1 with
    | inl q => exact .inl q
    | inr q => exact .inr ⟨q, PySem.W.cellsFrom_some _ _ _ (.inl q)⟩
  refine codeAny_call_function hr.depth (KX _ _ lk) rfl S.co S.gen rfl (PySem.W.codeRec_of KX hcd) (hb _ _ _ _ ?_)
  refine wpAny_newFunctionEnv_cells S.kind kinds (fun env he s1 x => ?_)
  subst he
  refine ⟨lim.keeps x.toInCall.keep, codeAny_func ?_⟩
  obtain ⟨t, ht, hq⟩ := body A outer s H vs Q E (hr.deeper _) hg hsp
  have I := inv_start (CX := CX0) (E := E) S hr.hd e0 hlen r x
  refine wpAny_mono (ht.nox.run [] s1 (start N vs) H _ I hq) (fun fl s' hs => ?_) (fun _ _ hs => hs)
  cases fl with
  | brk => exact (hs.choose_spec.choose_spec.2 : False).elim
  | cont => exact (hs.choose_spec.choose_spec.2 : False).elim
  | next =>
    obtain ⟨_, H', J, q⟩ := hs
    exact ⟨V.non, H', J.os, J.bare, J.base, J.hok, rfl, q⟩
  | ret u =>
    obtain ⟨v, _, H', J, rv, q⟩ := hs
    exact ⟨v, H', J.os, J.bare, J.base, J.hok, rv, q⟩
theorem calGOfK {x : Str} {st : Stmt} {N ps : List Str} {k : Nat} {sp : Sp} {c : Addr}
    (D : DefK K mg x st ps c) (S : FnScope N ps (defScope st)) (many : ∀ vs H Q E, sp vs H Q E → vs.length = ps.length)
    (body : ∀ (f : Addr) (A : Around) (outer : List Env) (s : Shared) (H : Hp) (vs : List V) (Q : VK) (E : XK),
      Room k (A.deeper (envOfC x (defScope st) s.heap.objs.size f (.ref c))) → A.guards = some [] → sp vs H Q E →
      ∃ t, PSs (cxOf CX0 P w K mg base N x (defScope st) f (.ref c) A outer s H E).nox (defBody st) t ∧ t { nx := fun _ H' => Q .non H', rt := Q } (start N vs) H) :
    CalG P w K mg base (k + 1) x sp := by
  obtain ⟨f, oc, od, an, sl, kV, dc, pm, ct, lk, hcd, kp, hm, hb⟩ := D.ex
  exact ⟨f, _, ps, fnG_ofK lk hcd S many (fun A o s H vs Q E hr h => body f A o s H vs Q E hr h), hm, kp, hb⟩
end
/-! ### what is kept where lambdas are made -/
section
variable {g : Bg} {H H1 H2 : Hp} {c e : Int} {T : List (Addr × Str)} {p : Addr} {o : HO}
theorem ExtN.tk' (x : ExtN H H1) : Tk H H1 := fun a xs h => x a _ h (fun ps z => by cases z)
theorem ExtN.lst (x : ExtN H H1) {a : Addr} {xs : List V} (h : H a = some (.lst xs)) : H1 a = some (.lst xs) := x a _ h (fun ps z => by cases z)
theorem Bag.ext (B : Bag H g c e) (x : ExtN H H1) : Bag H1 g c e := by
  obtain ⟨z, m, i, ns, h, h2, r⟩ := B.ex
  exact ⟨⟨z, m, i, ns, ExtN.lst x h, ExtN.lst x h2, r⟩, B.ne⟩
theorem Tabs.drawn (t : Tabs T H) (B : Bag H g c e) (D : Drawn g H H1 c e) : Tabs T H1 := fun q hq => by
  obtain ⟨ps, h, tri, k⟩ := t q hq
  obtain ⟨ob, hb⟩ := B.ob
  have keep : ∀ {a : Addr} {u : HO}, H a = some u → (∀ ys, u ≠ .lst ys) → H1 a = some u := fun {a u} ha n => D.fr a u (fun z => by
    rw [z, hb] at ha
    exact n _ (Option.some.inj ha).symm) ha
  refine ⟨ps, keep h (fun ys z => by cases z), tri, fun pos cv hc => ?_⟩
  obtain ⟨c1, e1, e2⟩ := k pos cv hc
  exact ⟨c1, e1, keep e2 (fun ys z => by unfold CodeO at z; cases z)⟩
theorem Tabs.same' (t : Tabs T H) (s : Same H H1) : Tabs T H1 := t.ext s
theorem Tabs.new' (t : Tabs T H) (n : H p = none) : Tabs T (upd H p o) := t.ext (same_new n)
end
end Vf

set_option Elab.async false
set_option linter.all false
set_option maxRecDepth 100000
set_option maxHeartbeats 4000000
/-! Own words: a text's signs in the other order; slices of texts as lists. -/
namespace Vf
open PySem PySem.Spec PyProof.Rows L2
open TL (tl)
def revS (x : Str) : Str := ⟨(tl x).reverse.toArray⟩
theorem tl_revS (x : Str) : tl (revS x) = (tl x).reverse := by
  show ((tl x).reverse.toArray).toList = _
  rw [List.toList_toArray]
theorem rev_is (x : Str) (u : Tok) : Txt.sliceBy x none none (-1, u) = revS x := by
  refine tl_inj ?_
  rw [tl_revS]
  refine (step_rev_list x u).trans ?_
  apply List.ext_getElem
  · simp [Str.length]
  · intro i h1 h2
    simp only [List.length_map, List.length_range] at h1
    have hs : x.length = x.cps.size := rfl
    have h3 : x.cps.size - 1 - i < x.cps.size := by
      rw [hs] at h1
      omega
    simp [List.getElem_reverse, Array.getD, hs, h3]
theorem pe_revS {X : Cx} {e : Expr} {te : TE} {k : Nat} {p1 p2 p3 pos : Pos} (he : PE X e te) :
    PE X (.Subscript e (.Slice none none (some (.UnaryOp .USub (.Constant (.int 1) k p1) p2)) p3) pos) (fun τ G Q => te τ G fun v G1 => ∃ z, v = .str z ∧ z.length ≤ sizeLine ∧ Q (.str (revS z)) G1) := by
  refine ⟨fun pins s τ G Q I h => Subscript_ (thn (he.run pins s τ G _ I h) fun u t ⟨v, G1, J, rv, z, ev, lz, q⟩ => ?_)⟩
  subst ev
  obtain ⟨tk, rfl⟩ := rv
  have step : PO X (some (.UnaryOp .USub (.Constant (.int 1) k p1) p2)) (tPart (tUn (rU fun i => .int (-i)) (tC (.int 1)))) := po_some (pe_un un_neg pe_int)
  refine wpAny_Slice (thn (po_none.run pins t τ G1 (fun o F => o = none ∧ F = G1) J ⟨rfl, rfl⟩) fun a t1 ⟨oa, F1, J1, pa, ea, fa⟩ => ?_)
  subst ea fa
  refine thn (po_none.run pins t1 τ F1 (fun o F => o = none ∧ F = F1) J1 ⟨rfl, rfl⟩) fun b t2 ⟨ob, F2, J2, pb, eb, fb⟩ => ?_
  subst eb fb
  refine thn (step.run pins t2 τ F2 (fun o F => o = some (-1) ∧ F = F2) J2 ⟨1, rfl, -1, rfl, rfl, rfl⟩) fun c t3 ⟨oc, F3, J3, pc, ec, fc⟩ => ?_
  subst ec fc
  obtain ⟨l, rfl, el⟩ := IsPart.raw pa
  obtain ⟨m, rfl, em⟩ := IsPart.raw pb
  obtain ⟨n, rfl, en⟩ := IsPart.raw pc
  obtain rfl : l = none := by cases l <;> simp at el <;> rfl
  obtain rfl : m = none := by cases m <;> simp at em <;> rfl
  obtain ⟨n1, rfl⟩ : ∃ n1, n = some (-1, n1) := by
    cases n with
    | none => simp at en
    | some q =>
      obtain ⟨i, w⟩ := q
      simp at en
      subst en
      exact ⟨w, rfl⟩
  have c0 : ¬ ((((some ((-1 : Int), n1)).map (·.1)).getD 1 == 1 && (slicePicked z none none (some (-1, n1))).length == z.length) = true) := by
    rw [show ((((some ((-1 : Int), n1)).map (·.1)).getD 1 == 1)) = false from rfl]
    simp
  have er := rev_is z n1
  unfold Txt.sliceBy at er
  rw [if_neg c0] at er
  have J4 : Inv X pins τ F3 { t3 with heap := t3.heap.push { cls := .type "slice", data := .fields #[partValue none, partValue none, partValue (some (-1, n1))] } } := J3.kept (t' := t3.toks) fun b ob w => Heap.get?_push_of_some _ w
  refine tail_any (ops := [.str z tk, .ref t3.heap.objs.size]) (typeIs_str _ _ _) PySem.F.slot_str_getitem.lookup ?_ (by with_unfolding_all rfl)
  refine wpAny_getItem_str_slice (l := none) (u := none) (st := some (-1, n1)) ⟨_, Heap.get?_push_size _ rfl, rfl, rfl⟩ rfl ?_
  unfold sliceMade
  rw [if_neg c0, er]
  have lr : (revS z).length ≤ sizeLine := by
    rw [str_len, tl_revS, List.length_reverse, ← str_len]
    exact lz
  exact ⟨lr, .str _, F3, J4.tok _, ⟨_, rfl⟩, q⟩
/-! ### slices as lists -/
theorem tl_cutS (z : Str) (lo hi : Option Int) : tl (cutS z lo hi) = ((tl z).drop (HT.sIx z.length 0 lo)).take (HT.sIx z.length z.length hi - HT.sIx z.length 0 lo) := by
  show (List.toArray _).toList = _
  rw [List.toList_toArray]
theorem sIx_nat (n d : Nat) {i : Nat} : HT.sIx n d (some (i : Int)) = min i n := by
  show (if (i : Int) < 0 then ((i : Int) + n).toNat else min (i : Int).toNat n) = _
  rw [if_neg (by omega)]
  rfl
theorem tl_from (z : Str) (i : Nat) : tl (cutS z (some (i : Int)) none) = (tl z).drop i := by
  rw [tl_cutS, sIx_nat]
  show ((tl z).drop (min i z.length)).take (z.length - min i z.length) = _
  rw [str_len]
  by_cases h : i ≤ (tl z).length
  · rw [Nat.min_eq_left h]
    exact List.take_of_length_le (by rw [List.length_drop]; omega)
  · rw [Nat.min_eq_right (by omega), List.drop_of_length_le (by omega), List.drop_of_length_le (by omega)]
    simp
theorem tl_upto (z : Str) (i : Nat) : tl (cutS z none (some (i : Int))) = (tl z).take i := by
  rw [tl_cutS, sIx_nat]
  show ((tl z).drop 0).take (min i z.length - 0) = _
  rw [str_len, List.drop_zero, Nat.sub_zero]
  by_cases h : i ≤ (tl z).length
  · rw [Nat.min_eq_left h]
  · rw [Nat.min_eq_right (by omega), List.take_of_length_le (by omega), List.take_of_length_le (by omega)]
theorem tl_part (z : Str) (i j : Nat) (hj : j ≤ z.length) : tl (cutS z (some (i : Int)) (some (j : Int))) = ((tl z).take j).drop i := by
  rw [tl_cutS, sIx_nat, sIx_nat]
  rw [str_len] at hj ⊢
  rw [Nat.min_eq_left hj, List.drop_take]
  by_cases h : i ≤ (tl z).length
  · rw [Nat.min_eq_left h]
  · rw [Nat.min_eq_right (by omega), List.drop_of_length_le (by omega), List.drop_of_length_le (by omega)]
    simp
end Vf

set_option Elab.async false
set_option linter.all false
set_option maxRecDepth 100000
set_option maxHeartbeats 4000000
/-! Own words: where the words of a text end, as a function of its signs. -/
namespace Vf
open PySem PySem.Spec PyProof.Rows L2 PySem.Builtin PySem.Builtin.Str PySem.StrLaws
/-! ### the first place of a text in a text -/
def HitAt (x y : Str) (hi k : Nat) : Prop := k + y.length ≤ hi ∧ subAt x y k = true
theorem occ_full (x y : Str) (hi : Nat) : ∀ (l : List Nat) (st : Array Nat × Nat), st.fst.size = 1 → (forIn l st (occBody x y hi 1)).run.fst = st.fst
  | [], st, h => rfl
  | a :: l, st, h => by
    rw [List.forIn_cons]
    unfold occBody
    rw [if_neg (fun z => by
      have := z.1.1.1
      omega)]
    exact occ_full x y hi l _ h
theorem occ_first (x y : Str) (hi : Nat) : ∀ (l : List Nat) (free : Nat), (∀ i ∈ l, free ≤ i) →
    ((forIn l ((#[] : Array Nat), free) (occBody x y hi 1)).run.fst = #[] ∧ ∀ i ∈ l, ¬ HitAt x y hi i) ∨
    ∃ k l1 l2, l = l1 ++ k :: l2 ∧ (forIn l ((#[] : Array Nat), free) (occBody x y hi 1)).run.fst = #[k] ∧ HitAt x y hi k ∧ ∀ i ∈ l1, ¬ HitAt x y hi i
  | [], free, _ => .inl ⟨rfl, by simp⟩
  | a :: l, free, hf => by
    have ha : free ≤ a := hf a (List.mem_cons_self ..)
    rw [List.forIn_cons]
    by_cases hc : HitAt x y hi a
    · refine .inr ⟨a, [], l, rfl, ?_, hc, by simp⟩
      unfold occBody
      rw [if_pos ⟨⟨⟨by simp, ha⟩, hc.1⟩, hc.2⟩]
      exact occ_full x y hi l _ rfl
    · have e : occBody x y hi 1 a ((#[] : Array Nat), free) = pure (ForInStep.yield ((#[] : Array Nat), free)) := by
        unfold occBody
        rw [if_neg fun z => hc ⟨z.1.2, z.2⟩]
      rw [e]
      rcases occ_first x y hi l free (fun i h => hf i (List.mem_cons_of_mem _ h)) with ⟨h1, h2⟩ | ⟨k, l1, l2, h1, h2, h3, h4⟩
      · refine .inl ⟨h1, fun i hi' => ?_⟩
        rcases List.mem_cons.mp hi' with rfl | hm
        · exact hc
        · exact h2 i hm
      · refine .inr ⟨k, a :: l1, l2, by rw [h1]; rfl, h2, h3, fun i hi' => ?_⟩
        rcases List.mem_cons.mp hi' with rfl | hm
        · exact hc
        · exact h4 i hm
theorem from_nat (n i : Nat) : fromIndex n (i : Int) = i := by
  unfold fromIndex
  rw [if_neg (by omega)]
  omega
theorem find3_spec (x y : Str) (i : Nat) :
    (∃ k : Nat, Txt.find3 x y (i : Int) = (k : Int) ∧ i ≤ k ∧ HitAt x y x.length k ∧ ∀ j, i ≤ j → j < k → ¬ HitAt x y x.length j) ∨
    (Txt.find3 x y (i : Int) = -1 ∧ ∀ j, i ≤ j → ¬ HitAt x y x.length j) := by
  unfold Txt.find3
  rw [from_nat, occ_eq]
  have mem : ∀ j, j ∈ List.range' i (x.length + 1 - i) ↔ i ≤ j ∧ j ≤ x.length := fun j => by
    rw [List.mem_range'_1]
    omega
  have out : ∀ j, HitAt x y x.length j → j ≤ x.length := fun j h => Nat.le_trans (Nat.le_add_right _ _) h.1
  rcases occ_first x y x.length (List.range' i (x.length + 1 - i)) i (fun j h => ((mem j).mp h).1) with ⟨h1, h2⟩ | ⟨k, l1, l2, h1, h2, h3, h4⟩
  · rw [h1]
    exact .inr ⟨rfl, fun j hj h => h2 j ((mem j).mpr ⟨hj, out j h⟩) h⟩
  · rw [h2]
    have hk : k ∈ List.range' i (x.length + 1 - i) := by
      rw [h1]
      simp
    refine .inl ⟨k, rfl, ((mem k).mp hk).1, h3, fun j hj hjk h => ?_⟩
    have hm := (mem j).mpr ⟨hj, out j h⟩
    rw [h1] at hm
    rcases List.mem_append.mp hm with q | q
    · exact h4 j q h
    · have ps : (l1 ++ k :: l2).Pairwise (· < ·) := by
        rw [← h1]
        exact List.pairwise_lt_range'
      rcases List.mem_cons.mp q with q | q
      · omega
      · have := (List.pairwise_cons.mp (List.pairwise_append.mp ps).2.1).1 j q
        omega

/-! ### runs -/
def digC (c : Nat) : Bool := decide (48 ≤ c) && decide (c ≤ 57)
def letC (c : Nat) : Bool := (decide (97 ≤ c) && decide (c ≤ 122)) || ((decide (65 ≤ c) && decide (c ≤ 90)) || decide (c = 95))
def wrdC (c : Nat) : Bool := letC c || digC c
def notNl (c : Nat) : Bool := !decide (c = 10)
def runE (g : Nat → Bool) (L : List Nat) (i : Nat) : Nat := i + ((L.drop i).takeWhile g).length
theorem run_step {g : Nat → Bool} {L : List Nat} {i c : Nat} (h : L[i]? = some c) (hg : g c = true) : runE g L i = runE g L (i + 1) := by
  unfold runE
  rw [drop_at h, List.takeWhile_cons, if_pos hg, List.length_cons]
  omega
theorem run_stop {g : Nat → Bool} {L : List Nat} {i c : Nat} (h : L[i]? = some c) (hg : g c = false) : runE g L i = i := by
  unfold runE
  rw [drop_at h, List.takeWhile_cons, hg]
  rfl
theorem run_end {g : Nat → Bool} {L : List Nat} {i : Nat} (h : L.length ≤ i) : runE g L i = i := by
  unfold runE
  rw [List.drop_eq_nil_iff.mpr h]
  rfl
theorem run_le {g : Nat → Bool} {L : List Nat} {i : Nat} (h : i ≤ L.length) : runE g L i ≤ L.length := by
  unfold runE
  have h1 := (List.takeWhile_sublist (l := L.drop i) g).length_le
  rw [List.length_drop] at h1
  omega
theorem run_ge (g : Nat → Bool) (L : List Nat) (i : Nat) : i ≤ runE g L i := Nat.le_add_right _ _
theorem run_gt {g : Nat → Bool} {L : List Nat} {i c : Nat} (h : L[i]? = some c) (hg : g c = true) : i < runE g L i := by
  rw [run_step h hg]
  exact run_ge g L (i + 1)
/-! ### words -/
def numE (L : List Nat) (i : Nat) : Nat :=
  if L[runE digC L i]? = some 46 then
    (if runE digC L (runE digC L i + 1) > runE digC L i + 1 then runE digC L (runE digC L i + 1) else runE digC L i)
  else runE digC L i
def escC (c : Nat) : Bool := decide (c = 34) || (decide (c = 92) || (decide (c = 110) || decide (c = 116)))
/-- behind the mark that opens a quote -/
def quoE : List Nat → Nat → Option Nat
  | [], _ => none
  | c :: r, i => if c = 34 then some (i + 1) else if c = 10 then none else if c = 92 then
      (match r with
      | [] => none
      | d :: q => if escC d then quoE q (i + 2) else none)
    else quoE r (i + 1)
def clsE (t y : Str) (i : Nat) : Option Nat := if Txt.find3 t y (i : Int) < 0 then none else some ((Txt.find3 t y (i : Int)).toNat + y.length)
def twoL : List (List Nat) := [[61, 61], [33, 61], [60, 61], [62, 61], [45, 62]]
def oneL : List Nat := [40, 41, 91, 93, 123, 125, 44, 59, 58, 46, 61, 60, 62, 43, 45, 42, 47, 94]
def wrdE (t : Str) (i : Nat) : Option Nat :=
  match t.cps.toList[i]? with
  | none => none
  | some c =>
    if letC c then some (runE wrdC t.cps.toList i)
    else if digC c then some (numE t.cps.toList i)
    else if c = 34 then quoE (t.cps.toList.drop (i + 1)) (i + 1)
    else if c = 39 then (if (t.cps.toList.drop i).take 3 = [39, 39, 39] then clsE t "'''" (i + 3) else none)
    else if c = 35 then some (runE notNl t.cps.toList i)
    else if (t.cps.toList.drop i).take 2 = [60, 42] then clsE t "*>" (i + 2)
    else if (t.cps.toList.drop i).take 2 ∈ twoL then some (i + 2)
    else if c ∈ oneL then some (i + 1) else none
theorem quo_in : ∀ (n : Nat) (r : List Nat) (i e : Nat), r.length ≤ n → quoE r i = some e → i < e ∧ e ≤ i + r.length
  | _, [], i, e, _, h => by
    unfold quoE at h
    cases h
  | 0, c :: r, i, e, hn, _ => absurd hn (by simp)
  | n + 1, c :: r, i, e, hn, h => by
    rw [List.length_cons] at hn ⊢
    unfold quoE at h
    split at h
    · cases h
      omega
    · split at h
      · cases h
      · split at h
        · cases r with
          | nil => cases h
          | cons d q =>
            have h' : (if escC d then quoE q (i + 2) else none) = some e := h
            rw [List.length_cons] at hn ⊢
            split at h'
            · have := quo_in n q (i + 2) e (by omega) h'
              omega
            · cases h'
        · have := quo_in n r (i + 1) e (by omega) h
          omega
theorem cls_in {t y : Str} {i e : Nat} (h : clsE t y i = some e) : i + y.length ≤ e ∧ e ≤ t.length := by
  unfold clsE at h
  rcases find3_spec t y i with ⟨k, h1, h2, h3, _⟩ | ⟨h1, _⟩
  · rw [h1, if_neg (by omega)] at h
    cases h
    have := h3.1
    exact ⟨by omega, by omega⟩
  · rw [h1] at h
    cases h
theorem len_at {L : List Nat} {i c : Nat} (h : L[i]? = some c) : i < L.length := (List.getElem?_eq_some_iff.mp h).1
theorem take_len {L l : List Nat} {i n : Nat} (h : (L.drop i).take n = l) (hl : l.length = n) (h0 : 0 < n) : i + n ≤ L.length := by
  have := congrArg List.length h
  rw [List.length_take, List.length_drop, hl] at this
  omega
theorem num_in {L : List Nat} {i c : Nat} (h : L[i]? = some c) (hd : digC c = true) : i < numE L i ∧ numE L i ≤ L.length := by
  have h1 := run_gt h hd
  have h2 := run_le (g := digC) (Nat.le_of_lt (len_at h))
  unfold numE
  split
  · rename_i q
    have h3 := run_le (g := digC) (i := runE digC L i + 1) (len_at q)
    split <;> omega
  · omega
theorem wrd_in {t : Str} {i e : Nat} (h : wrdE t i = some e) : i < e ∧ e ≤ t.length := by
  have hL : t.length = t.cps.toList.length := by simp [Str.length]
  rw [hL]
  unfold wrdE at h
  split at h
  · cases h
  · rename_i c hc
    have hl := len_at hc
    split at h
    · rename_i q
      cases h
      exact ⟨run_gt hc (by unfold wrdC; rw [q] <;> rfl), run_le (Nat.le_of_lt hl)⟩
    · split at h
      · rename_i q
        cases h
        exact num_in hc q
      · split at h
        · have := quo_in _ _ _ _ (Nat.le_refl _) h
          rw [List.length_drop] at this
          omega
        · split at h
          · split at h
            · have := cls_in h
              omega
            · cases h
          · split at h
            · rename_i q
              cases h
              refine ⟨run_gt hc ?_, run_le (Nat.le_of_lt hl)⟩
              rw [q] <;> rfl
            · split at h
              · have := cls_in h
                omega
              · split at h
                · rename_i q
                  cases h
                  have q2 : i + 2 ≤ t.cps.toList.length := by
                    have all : ∀ l ∈ twoL, l.length = 2 := by decide
                    exact take_len rfl (all _ q) (by decide)
                  omega
                · split at h
                  · cases h
                    omega
                  · cases h
end Vf

set_option Elab.async false
set_option linter.all false
set_option maxRecDepth 100000
set_option maxHeartbeats 4000000
/-! Own words: a text so many times. -/
namespace Vf
open PySem PySem.Spec PyProof.Rows L2
open TL (tl)
theorem fold_tl (x : Array Nat) : ∀ (n : Nat) (a : Array Nat), ((List.replicate n x).foldl (· ++ ·) a).toList = a.toList ++ (List.replicate n x.toList).flatten
  | 0, a => by simp
  | n + 1, a => by
    rw [List.replicate_succ, List.foldl_cons, fold_tl x n, List.replicate_succ, List.flatten_cons, Array.toList_append, List.append_assoc]
theorem op_rep_str {X : Cx} : OpR X (binaryOp .Mult) (fun x y H Q => ∃ z n, x = .str z ∧ y = .int n ∧ 0 ≤ n ∧ n ≤ 100000 ∧ z.length ≤ 100 ∧ ∀ r : Str, tl r = (List.replicate n.toNat (tl z)).flatten → Q (.str r) H) := by
  intro pins s σ H x y v u Q I rx ry h
  obtain ⟨z, n, rfl, rfl, h0, h1, hz, q⟩ := h
  obtain ⟨t, rfl⟩ := rx
  obtain ⟨t', rfl⟩ := ry
  have sz : z.length * n.toNat ≤ sizeLine := Nat.le_trans (Nat.mul_le_mul hz (show n.toNat ≤ 100000 by omega)) (by decide)
  have fin : ∀ (r : Str) (tk : Nat), tl r = (List.replicate n.toNat (tl z)).flatten → EP X pins σ Q (.str r s.toks) { s with toks := s.toks + 1 } := fun r _ e => ⟨.str r, H, I.tok _, ⟨_, rfl⟩, q r e⟩
  refine PySem.P.mul_str ?_ ?_ ?_ ?_
  · rw [decide_eq_false (by omega), decide_eq_false (by omega)]
    rfl
  · intro a _ c
    have : (100 : Int) ≤ (2 ^ 63 - 1) / n := Int.le_ediv_of_mul_le (by omega) (by omega)
    omega
  · intro _ _
    exact decide_eq_false (Nat.not_lt.mpr sz)
  · split
    · rename_i hn
      have : n = 0 := by omega
      subst this
      exact ⟨by decide, fin Str.empty 0 rfl⟩
    · split
      · rename_i hn hc
        refine ⟨.str z, H, I, ⟨_, rfl⟩, q z ?_⟩
        rw [Bool.or_eq_true] at hc
        rcases hc with hc | hc
        · have : n = 1 := by simpa using hc
          subst this
          simp
        · have : tl z = [] := by
            have : z.length = 0 := by simpa using hc
            exact List.length_eq_zero_iff.mp (by rw [← this]; simp [Str.length])
          rw [this]
          simp
      · refine ⟨?_, fin _ 0 ?_⟩
        · have e : ((List.replicate n.toNat z.cps).foldl (· ++ ·) #[]).size = z.length * n.toNat := by
            rw [← Array.length_toList, fold_tl, List.length_append, List.length_flatten, List.map_replicate]
            simp [Str.length, Nat.mul_comm]
          show ((List.replicate n.toNat z.cps).foldl (· ++ ·) #[]).size ≤ sizeLine
          rw [e]
          exact sz
        · show ((List.replicate n.toNat z.cps).foldl (· ++ ·) #[]).toList = _
          rw [fold_tl]
          rfl
end Vf

set_option Elab.async false
set_option linter.all false
set_option maxRecDepth 100000
set_option maxHeartbeats 4000000
namespace Vf
open PySem PySem.Spec PyProof.Rows L2
/-- sorted of a dict with whole numbers as keys, any number of them -/
theorem call_sortedDA {X : Cx} (hcalm : X.calm = true) : CallR X (.builtin "sorted") fun xs H Q => ∃ (a : Addr) (kvs : List (Key × V)) (ks : List Int), xs = [.ref a] ∧ Rd H a (.dK kvs) ∧ kvs.map (·.1) = ks.map Sum.inl ∧
    ∀ (ys : List Int) (p : Addr), ys.Perm ks → ys.Pairwise (· ≤ ·) → H p = none → Q (.ref p) (upd H p (.lst (ys.map V.int))) := by
  rintro pins s σ H xs us Q hI hv ⟨a, kvs, ks, rfl, hR, hk, k⟩
  obtain ⟨u, rfl, hu⟩ := vals1 hv
  cases hu
  obtain ⟨hn, hd, vs, hKV, hD⟩ := dk_rd hI.hok hR
  obtain ⟨ep, hA⟩ := hD.dictAt
  have lv : vs.length = kvs.length := by
    have := congrArg List.length hKV.keys
    rw [List.length_map, List.length_map] at this
    exact this.symm
  refine PySem.Calls.call_function_entry kind_sorted plain_sorted entry_sorted (args_sorted1 _) ?_
  show wpAny _ _ (Builtin.sorted { pos := [Value.ref a] }) _ _ _
  unfold Builtin.sorted
  refine wpAny_bind (wpAny_pure ?_)
  refine wpAny_bind (PySem.W.kdu_collect (PySem.W.kdl_dict hd) (hI.ok.hd hcalm) hA (by rw [lv]; exact hn) fun h' tk acc hh hit => ?_)
  have la : acc.size = vs.length := hit.1
  have lk : ks.length = vs.length := by
    have := congrArg List.length hk
    rw [List.length_map, List.length_map] at this
    omega
  have hints : IntsAre acc.toList ks := by
    refine ints_each (by rw [Array.length_toList, la, lk]) fun j v hj => ?_
    rw [Array.getElem?_toList] at hj
    obtain ⟨key, x, h1, h2⟩ := hit.2 j v hj
    have e1 : (vs.map (·.1))[j]? = some key := by rw [List.getElem?_map, h1] <;> rfl
    rw [← hKV.keys, hk, List.getElem?_map] at e1
    obtain ⟨i, hi, rfl⟩ := Option.map_eq_some_iff.mp e1
    rcases keyIs_shape (show keyIs (Sum.inl i) v = true from h2) with ⟨i', t, e, rfl⟩ | ⟨_, _, e, _⟩
    · cases e
      exact ⟨_, _, hi, rfl⟩
    · cases e
  have lz : acc.toList.length ≤ sizeLine := by
    rw [Array.length_toList, la, lv]
    exact hn
  refine wpAny_bind (wpAny_newList ?_ lz)
  have hp := Heap.get?_push_size h' (o := { cls := .type "list", data := .seq acc.toList.toArray }) rfl
  have old : ∀ (b : Addr) (u : Obj), s.heap.get? b = some u → b < h'.objs.size ∧ h'.get? b = some u := fun b u hb => ⟨Heap.lt_size (hh b u hb), hh b u hb⟩
  refine wpAny_bind (wpAny_holding (wpAny_call_entry slot_list_sort ⟨_, hp, rfl⟩ entry_list_sort ?_ (args_list_sort _)))
  refine SrtO.list_sort_ord SrtO.swo_int (vs := acc.toList) (n := 0) hp lz (fun h2 => SrtO.ints_sortable hints h2) fun out h1 h2 => ?_
  obtain ⟨o1, o2, o3⟩ := SrtO.ints_out hints h1 h2
  obtain ⟨e, he⟩ := sortedHeap_at (out := out.toArray) hp
  refine ⟨_, rfl, wpAny_pure ⟨_, rfl, ?_⟩⟩
  have hI2 := hI.kept (t' := tk) hh
  refine ⟨.ref h'.objs.size, _, hI2.laid (a := h'.objs.size) (o := .lst ((out.map SrtO.iv).map V.int)) (fun b u hb => ?_) (Nat.le_refl _) ?_, rfl, k _ _ o2 o3 (hI2.hok.fresh (Nat.le_refl _))⟩
  · have x1 := Heap.lt_size hb
    rw [sortedHeap_old (Nat.ne_of_lt x1) (Nat.lt_of_lt_of_eq (Nat.lt_succ_of_lt x1) (size_push' _ _).symm)]
    exact Heap.get?_push_of_some _ hb
  · refine ⟨?_, out, e, vals_of_ints o1, he⟩
    rw [List.length_map, o2.length_eq, lk, lv]
    exact hn
end Vf

set_option Elab.async false
set_option linter.all false
set_option maxRecDepth 100000
set_option maxHeartbeats 4000000
namespace Vf
open PySem PySem.Spec PyProof.Rows L2
/-! Own words: a tuple, walked with its numbers. -/
theorem next_tup_item {prog : Program} {w : World} {A : Around} {E : Value → Shared → Prop} {s : Shared} {it l : Addr} {i : Nat} {items : Array Value} {x : Value} {Q : Value → Shared → Prop}
    (h1 : s.heap.IsTupleIter it l i) (h2 : s.heap.IsTuple l items) (hx : items[i]? = some x)
    (k : ∀ h' : Heap, h'.IsTupleIter it l (i + 1) → Heap.SameBut it s.heap h' → Q x { heap := h', gens := s.gens, drawn := s.drawn, toks := s.toks, os := s.os }) :
    wpAny (model prog w) A (Builtin.SmallTypes.nextOf (.ref it)) Q E s := by
  have ht := h1.typeIs
  obtain ⟨o, ho, hc, hd⟩ := h1
  obtain ⟨o2, ho2, hc2, n, hd2⟩ := h2
  unfold Builtin.SmallTypes.nextOf
  refine wpAny_bind (wpAny_callSpecial?_slot ht F.slot_tuple_iterator_next (wpAny_call_entry F.slot_tuple_iterator_next ht F.entry_tuple_iterator_next ?_ (F.args_tuple_iterator_next_1 _)))
  refine wpAny_bind (wpAny_pure ?_)
  refine wpAny_bind (wpAny_field ho hd rfl ?_)
  refine wpAny_bind (wpAny_field ho hd rfl ?_)
  refine wpAny_bind (wpAny_seqItems ho2 hd2 ?_)
  show wpAny _ _ (match items[(i : Int).toNat]? with
    | some x => _
    | none => _) _ _ _
  rw [Int.toNat_natCast, hx]
  refine wpAny_bind (wpAny_setField ho hd (by show 1 < 2; decide) (wpAny_pure ⟨_, rfl, ?_⟩))
  refine wpAny_pure (k _ ⟨_, Heap.get?_update_self _ ho ?_, ?_, ?_⟩ (Heap.SameBut.update _ _ _))
  · exact Obj.isFreed_of_fields (Obj.data_mapFields hd _)
  · exact (Obj.cls_mapFields _ _).trans hc
  · exact Obj.data_mapFields hd _
theorem next_tup_end {prog : Program} {w : World} {A : Around} {E : Value → Shared → Prop} {s : Shared} {it l : Addr} {i : Nat} {items : Array Value} {Q : Value → Shared → Prop}
    (hA : A.handled = none) (h1 : s.heap.IsTupleIter it l i) (h2 : s.heap.IsTuple l items) (hx : items[i]? = none)
    (k : ∀ (h' : Heap) (e : Addr), Heap.ExtBut it s.heap h' → (∃ o, h'.get? e = some o ∧ o.cls = .type "StopIteration") → E (.ref e) { heap := h', gens := s.gens, drawn := s.drawn, toks := s.toks, os := s.os }) :
    wpAny (model prog w) A (Builtin.SmallTypes.nextOf (.ref it)) Q E s := by
  have ht := h1.typeIs
  obtain ⟨o, ho, hc, hd⟩ := h1
  obtain ⟨o2, ho2, hc2, n, hd2⟩ := h2
  unfold Builtin.SmallTypes.nextOf
  refine wpAny_bind (wpAny_callSpecial?_slot ht F.slot_tuple_iterator_next (wpAny_call_entry F.slot_tuple_iterator_next ht F.entry_tuple_iterator_next ?_ (F.args_tuple_iterator_next_1 _)))
  refine wpAny_bind (wpAny_pure ?_)
  refine wpAny_bind (wpAny_field ho hd rfl ?_)
  refine wpAny_bind (wpAny_field ho hd rfl ?_)
  refine wpAny_bind (wpAny_seqItems ho2 hd2 ?_)
  show wpAny _ _ (match items[(i : Int).toNat]? with
    | some x => _
    | none => _) _ _ _
  rw [Int.toNat_natCast, hx]
  refine wpAny_bind (wpAny_rule ?_)
  refine wpAny_bind (wpAny_setField ho hd (by show 0 < 2; decide) ?_)
  unfold Builtin.SmallTypes.stopIteration newExc
  refine wpAny_bind (wpAny_bind (wpAny_newObj_type ?_ (by show 0 ≤ sizeLine; exact Nat.zero_le _)))
  have fm : firstArgMember (.type "StopIteration") [] = pure .none := by
    unfold firstArgMember
    show (pure (if _ then Value.none else Value.none) : Sem Value) = pure .none
    rw [ite_self]
  refine wpAny_bind (wpAny_of_eq fm ?_)
  refine wpAny_newObj_type ?_ (sizeOk_excFields _ _ _ _ _ _ _ _)
  unfold raiseNew
  refine wpAny_bind (wpAny_handled ?_)
  rw [show A.in1.handled = none from hA]
  refine wpAny_throw (k _ _ (Heap.ExtBut.push (Heap.ExtBut.push (Heap.SameBut.update _ _ _).extBut _) _) ⟨_, Heap.get?_push_size _ rfl, rfl⟩)
theorem isTup_at {h h' : Heap} {a : Addr} {items : Array Value} (x : h.IsTuple a items) (k : ∀ o, h.get? a = some o → h'.get? a = some o) : h'.IsTuple a items := by
  obtain ⟨o, ho, r⟩ := x
  exact ⟨o, k o ho, r⟩
theorem draws_tup {prog : Program} {w : World} {A : Around} (hA : A.handled = none) (it l : Addr) (n : l ≠ it) (items : Array Value) :
    Draws prog w A it [it, l] items.size (fun i v => items[i]? = some v) fun i h => h.IsTupleIter it l i ∧ h.IsTuple l items where
  live := fun i h x => by
    obtain ⟨⟨o, ho, _⟩, _⟩ := x
    exact ⟨o, ho⟩
  frame := fun i h h' x k => ⟨x.1.at (k it (by simp)), isTup_at x.2 (k l (by simp))⟩
  item := fun i s Q E hi x k => by
    refine next_tup_item x.1 x.2 (Array.getElem?_eq_getElem hi) fun h' h1 h2 => ?_
    exact k _ h' s.toks (Array.getElem?_eq_getElem hi) ⟨h1, isTup_at x.2 fun o ho => by rw [h2.2 l n]; exact ho⟩ h2
  done := fun s Q E x k => by
    refine next_tup_end hA x.1 x.2 (by simp) fun h' e h1 h2 => k h' e h1 h2
theorem wp_ite2 {α : Type} {M : Model} {A : Around} {E : Value → Shared → Prop} {s : Shared} {c : Prop} [Decidable c] {a b : Sem α} {Q : α → Shared → Prop} (ha : wpAny M A a Q E s) (hb : wpAny M A b Q E s) : wpAny M A (if c then a else b) Q E s := by
  split
  · exact ha
  · exact hb
theorem meets_enum_tup (l : Addr) (items : Array Value) : Meets (Builtin.«enumerate.__new__» { pos := [.type "enumerate", .ref l] }) fun x R s =>
    s.heap.IsTuple l items ∧ R (.ok (.ret (.ref (s.heap.push { cls := .type "tuple_iterator", data := .fields #[.ref l, .int 0 0] }).objs.size)))
      { heap := (s.heap.push { cls := .type "tuple_iterator", data := .fields #[.ref l, .int 0 0] }).push
          { cls := .type "enumerate", data := .fields #[.none, .bool false, .ref s.heap.objs.size, rawInt 0, .none, .none] },
        gens := s.gens, drawn := s.drawn, toks := s.toks, os := s.os } := by
  intro prog w A R s h
  obtain ⟨ht, k⟩ := h
  have nc : Builtin.SmallTypes.newClass "enumerate" { pos := [.type "enumerate", .ref l] } = pure (Value.type "enumerate", [Value.ref l]) := by
    unfold Builtin.SmallTypes.newClass
    show (isSubtype (.type "enumerate") (.type "enumerate") >>= fun b => if (!b) = true then _ else pure (Value.type "enumerate", [Value.ref l])) = _
    rw [sub_enumerate]
    rfl
  unfold Builtin.«enumerate.__new__»
  refine wpAny_bind (wpAny_of_eq nc ?_)
  refine wpAny_ite_true (by decide) ?_
  unfold Builtin.SmallTypes.calledThroughType
  refine wpAny_bind (wpAny_bind (wpAny_stack_any fun st => wpAny_pure ?_))
  refine wp_ite2 ?_ ?_
  all_goals
    refine wpAny_bind (wpAny_of_eq (a := (Value.ref l, none)) rfl ?_)
    refine wpAny_bind (wpAny_pyIter_tuple ht ?_)
    refine wpAny_bind (wpAny_newObj_type (data := .fields #[.none, .bool false, .ref s.heap.objs.size, rawInt 0, .none, .none]) ?_ (by show 6 ≤ sizeLine + 2; rw [sizeLine_eq]; decide))
    exact wpAny_pure k
theorem call_enum_tup {prog : Program} {w : World} {A : Around} {E : Value → Shared → Prop} {s : Shared} {l : Addr} {items : Array Value} {Q : Value → Shared → Prop} (ht : s.heap.IsTuple l items)
    (k : ∀ h' : Heap, IsEnum h' (s.heap.objs.size + 1) s.heap.objs.size 0 .none → h'.IsTupleIter s.heap.objs.size l 0 → h'.objs.size = s.heap.objs.size + 2 → (∀ (b : Addr) (o : Obj), s.heap.get? b = some o → h'.get? b = some o) →
      Q (.ref (s.heap.objs.size + 1)) { heap := h', gens := s.gens, drawn := s.drawn, toks := s.toks, os := s.os }) :
    wpAny (model prog w) A (call (.type "enumerate") [.ref l]) Q E s := by
  have e1 : (s.heap.push { cls := .type "tuple_iterator", data := .fields #[.ref l, .int 0 0] }).objs.size = s.heap.objs.size + 1 := size_push' _ _
  have g1 := Heap.get?_push_size (s.heap.push { cls := .type "tuple_iterator", data := .fields #[.ref l, .int 0 0] }) (o := { cls := .type "enumerate", data := .fields #[.none, .bool false, .ref s.heap.objs.size, rawInt 0, .none, .none] }) rfl
  rw [e1] at g1
  refine callType_new F.called_enumerate (by decide) (F.typeCall_enumerate_1 _) (F.newCall_enumerate_1 _) (fun obj => F.args_object_init_2 _ _) F.entry_enumerate_new (meets_enum_tup l items) ⟨ht, ?_⟩
  show Shared.TypeIs _ (.ref _) "enumerate" ∧ Q (.ref _) _
  rw [e1]
  refine ⟨⟨_, g1, rfl⟩, k _ g1 ⟨_, Heap.get?_push_of_some _ (Heap.get?_push_size _ rfl), rfl, rfl⟩ ?_ fun b o hb => Heap.get?_push_of_some _ (Heap.get?_push_of_some _ hb)⟩
  rw [size_push', e1]
theorem enum_tup_end {prog : Program} {w : World} {A : Around} {E : Value → Shared → Prop} {s : Shared} {e it l : Addr} {i : Nat} {items : Array Value} {old : Value} {Q : Option Value → Shared → Prop}
    (hA : A.handled = none) (he : IsEnum s.heap e it (i : Nat) old) (h1 : s.heap.IsTupleIter it l i) (h2 : s.heap.IsTuple l items) (n : l ≠ it) (hx : items[i]? = none)
    (k : ∀ h' : Heap, Heap.ExtBut it s.heap h' → Q none { heap := h', gens := s.gens, drawn := s.drawn, toks := s.toks, os := s.os }) : wpAny (model prog w) A (pyNext (.ref e)) Q E s := by
  have d : Draws prog w A.in1 it [it, l] i (fun _ _ => True) (fun j h => j = i ∧ h.IsTupleIter it l j ∧ h.IsTuple l items) :=
    { live := fun j h x => by
        obtain ⟨_, ⟨o, ho, _⟩, _⟩ := x
        exact ⟨o, ho⟩
      frame := fun j h h' x k => ⟨x.1, x.2.1.at (k it (by simp)), isTup_at x.2.2 (k l (by simp))⟩
      item := fun j s Q E hj x k => absurd x.1 (Nat.ne_of_lt hj)
      done := fun s Q E x k => next_tup_end (show A.in1.handled = none from hA) x.2.1 x.2.2 hx fun h' e h1 h2 => k h' e h1 h2 }
  exact wpAny_pyNext_enum_endD d he ⟨rfl, h1, h2⟩ k
/-- the turns of enumerate(t), t a tuple -/
def Itet (K : PySem.W.Frag) (a : Addr) : It where
  go := fun i H => ∃ xs x, SqT K H a xs ∧ xs[i]? = some x
  yld := fun i H v H' => ∃ T x, v = .ref T ∧ H T = none ∧ H' = upd H T (.tup [.int (i : Nat), x]) ∧ ∀ xs, SqT K H a xs → xs[i]? = some x
  stop := fun i H => ∃ xs, SqT K H a xs ∧ xs.length ≤ i
theorem turn_enumT {P : Program} {w : World} {K : PySem.W.Frag} {elts : List Expr} {kk : Nat} {tpos : Pos} (a e it : Addr) :
    Turn P w K (.Tuple elts kk tpos) (Itet K a) [e, it] e fun i h => (∃ old, IsEnum h e it (i : Nat) old) ∧ h.IsTupleIter it a i ∧ e ≠ it where
  mem := by simp
  obj := fun i h x b hb => by
    obtain ⟨⟨old, x1⟩, ⟨o, x2, _, x3⟩, _⟩ := x
    rcases List.mem_cons.mp hb with rfl | hb
    · exact ⟨_, x1, fun v hv => by cases hv⟩
    · rw [List.mem_singleton.mp hb]
      exact ⟨_, x2, fun v hv => by rw [x3] at hv; cases hv⟩
  keep := fun i h h' x k => ⟨⟨x.1.choose, k e (by simp) _ x.1.choose_spec⟩, x.2.1.at (k it (by simp)), x.2.2⟩
  item := by
    rintro X rfl rfl rfl hc i pins s σ H E I fp ⟨⟨old, he⟩, hit, ne⟩ ⟨xs, x, hs, hx⟩
    obtain ⟨its, hv, ht, hl⟩ := I.tuple hs
    obtain ⟨u, hu, ru⟩ := hv.get hx
    have hA : X.A.handled = none := I.ok.hd hc
    obtain ⟨o1, h1, hc1, n1, hd1⟩ := ht
    obtain ⟨o2, h2, hc2, hd2⟩ := hit
    have na : a ≠ it := fun z => by
      rw [z, h2] at h1
      cases h1
      rw [hc2] at hc1
      injection hc1 with hc1
      exact absurd hc1 (by decide)
    have nea : e ≠ a := fun z => by
      have he : s.heap.get? e = _ := he
      rw [z, h1] at he
      injection he with he
      rw [he] at hc1
      injection hc1 with hc1
      exact absurd hc1 (by decide)
    have hi : i < its.toArray.size := by
      rw [List.size_toArray]
      exact (List.getElem?_eq_some_iff.mp hu).1
    refine wpAny_pyNext_enum_itemD (draws_tup (show X.A.in1.handled = none from hA) it a na its.toArray) he ⟨⟨o2, h2, hc2, hd2⟩, ⟨o1, h1, hc1, n1, hd1⟩⟩ hi ne (by simp [ne, nea]) fun x' h' tk px hout hst htup hsz hold => ?_
    refine ⟨_, rfl, wpAny_letOwnedTupleGo_enum hout fun h2' hen hsb => ?_⟩
    have ex : x' = u := by
      rw [List.getElem?_toArray, hu] at px
      cases px
      rfl
    subst ex
    have se : s.heap.objs.size ≠ e := fun z => by
      have := Heap.lt_size (show s.heap.get? e = _ from he)
      rw [z] at this
      exact Nat.lt_irrefl _ this
    have fresh : ∀ b, s.heap.objs.size ≤ b → H b = none := fun b hb => I.hok.fresh hb
    refine ⟨.ref s.heap.objs.size, upd H s.heap.objs.size (.tup [.int (i : Nat), x]), ?_, rfl, ⟨_, x, rfl, fresh _ (Nat.le_refl _), rfl, fun ys hys => ?_⟩, ⟨⟨_, hen⟩, hst.1.at fun o ho => ?_, ne⟩, fun b hb => ?_⟩
    · refine I.turnedNew (ch := [e, it]) (fun b o hb ho => ?_) fp (Nat.le_refl _) ⟨by show 2 ≤ sizeLine; rw [sizeLine_eq]; decide, [.int i tk, x'], ?_, ?_⟩
      · have n1 : b ≠ e := fun z => hb (by rw [z]; simp)
        have n2 : b ≠ it := fun z => hb (by rw [z]; simp)
        rw [hsb.2 b n1]
        exact hold b o n1 n2 ho
      · exact .cons ⟨tk, rfl⟩ (.cons ru .nil)
      · exact ⟨_, (hsb.2 _ se).trans htup, rfl, _, rfl⟩
    · rw [I.tuple_inj hys hs]
      exact hx
    · rw [hsb.2 it (Ne.symm ne)]
      exact ho
    · have hf := (fp b hb).1
      have lt : b < s.heap.objs.size := by
        rcases List.mem_cons.mp hb with rfl | hb
        · exact Heap.lt_size (show s.heap.get? b = _ from he)
        · rw [List.mem_singleton.mp hb]
          exact Heap.lt_size h2
      rw [upd_ne (Nat.ne_of_lt lt)]
      exact hf
  done := by
    rintro X rfl rfl rfl hc i pins s σ H E I fp ⟨⟨old, he⟩, hit, ne⟩ ⟨xs, hs, hx⟩
    obtain ⟨its, hv, ht, hl⟩ := I.tuple hs
    have hA : X.A.handled = none := I.ok.hd hc
    obtain ⟨o1, h1, hc1, n1, hd1⟩ := ht
    have hit2 := hit
    obtain ⟨o2, h2, hc2, hd2⟩ := hit
    have na : a ≠ it := fun z => by
      rw [z, h2] at h1
      cases h1
      rw [hc2] at hc1
      injection hc1 with hc1
      exact absurd hc1 (by decide)
    have f := fp it (by simp)
    refine enum_tup_end hA he hit2 ⟨o1, h1, hc1, n1, hd1⟩ na ?_ fun h' hx' => ?_
    · rw [List.getElem?_toArray]
      exact List.getElem?_eq_none_iff.mpr (by rw [← hv.length]; exact hx)
    · exact ⟨rfl, I.turned (it := it) (fun b o n h => hx' b o n h) f.1 f.2.1 f.2.2.2.1 f.2.2.2.2.1 f.2.2.2.2.2⟩
  self := fun A i s Q E x q => wpAny_pyIter_enum x.1.choose_spec q
def iEnumT (K : PySem.W.Frag) (ta : TA) : TI := fun σ H R => ta σ H fun vs H1 => ∃ a xs, vs = [V.ref a] ∧ SqT K H1 a xs ∧ R (Itet K a) H1
theorem pi_enumT {X : Cx} {e : Expr} {ta : TA} {p pos tpos : Pos} {elts : List Expr} {kk : Nat} (hg : Gl X "enumerate") (hm : X.mg "enumerate" = none) (ha : PA X [e] ta)
    (st : starEach [e] X.env = [(false, eval e X.env)] := by rfl) : PI X (.Tuple elts kk tpos) (.Call (.Name "enumerate" p) [e] [] pos) (iEnumT X.K ta) := by
  refine ⟨fun pins s σ H R I h => ?_⟩
  refine Call_ (ld_blt I hg hm boot_enumerate ?_) (by rfl)
  refine callWith_type1 ?_ st (by rfl)
  refine thn (ha.run pos pins s σ H _ I h) ?_
  rintro us s1 ⟨vs, H1, I1, rv, a, xs, rfl, hs, hr⟩
  obtain ⟨u, rfl, hu⟩ := vals1 rv
  cases hu
  obtain ⟨its, hv, ht, hl⟩ := I1.tuple hs
  refine call_enum_tup ht fun h' h1 h2 h3 h4 => ?_
  refine wpAny_pyIter_enum h1 ⟨_, [s1.heap.objs.size + 1, s1.heap.objs.size], _, _, H1, rfl, I1.kept h4, turn_enumT a _ s1.heap.objs.size, ⟨⟨_, h1⟩, h2, Nat.succ_ne_self _⟩, fun b hb => ?_, hr⟩
  have le : s1.heap.objs.size ≤ b := by
    rcases List.mem_cons.mp hb with rfl | hb
    · exact Nat.le_succ _
    · rw [List.mem_singleton.mp hb]
      exact Nat.le_refl _
  exact I1.fpOk le (I1.hok.fresh le)
theorem walk_enumT {K : PySem.W.Frag} {a : Addr} {xs : List V} : Walk (Itet K a) xs.length (fun H => SqT K H a xs) (YPair (fun i => some (.int (i : Nat))) (fun i => xs[i]?)) where
  goes := fun i H hi h => ⟨xs, xs[i], h, List.getElem?_eq_getElem hi⟩
  stops := fun H h => ⟨xs, h, Nat.le_refl _⟩
  yields := fun i H v H' hi h y => by
    obtain ⟨T, x, rfl, hT, rfl, hx⟩ := y
    exact ⟨T, _, x, rfl, hT, rfl, rfl, hx xs h⟩
/-- k in d, d a dict that the top has written -/
theorem op_in_kdw {X : Cx} : OpR X (compareOp .In) fun x y H Q => ∃ d kvs k, x = kV k ∧ y = .ref d ∧ KD X.K X.w d kvs ∧ Q (.bl (valV kvs k).isSome) H := by
  rintro pins s σ H x y v u Q I rx ry ⟨d, kvs, k, rfl, rfl, D, q⟩
  cases ry
  obtain ⟨g, hm, hg⟩ := D.map (P := X.prog) I.kIn
  obtain ⟨es, n, hl, low, _⟩ := D
  refine wpAny_in_of (kV_is rx) low hm ⟨_, H, I.tok _, ?_, q⟩
  rw [(hg k).isSome_eq]
  rfl
theorem dc_itv {J : It} {n : Nat} {G : Hp → Prop} {Y : Nat → Hp → V → Hp → Prop} (w : Walk J n G Y) {g : TG} {tt : TT} {tk tv : TE} {vs : List Nat} {σ : L2.St} {H1 : Hp} {D : Addr} {Qd : Hp → Prop}
    (Pv : Nat → Hp → Prop) (h0 : Pv 0 (upd H1 D (.dK []))) (hl : ∀ (i : Nat) (H : Hp), i ≤ n → Pv i H → G H)
    (hs : ∀ (i : Nat) (x : V) (H H' : Hp), i < n → Pv i H → Y i H x H' → g x (wipe σ vs) H' fun σ2 H2 => wipe σ2 vs = wipe σ vs ∧ tt σ2 H2 fun b H3 =>
      if b = true then tk σ2 H3 fun y H4 => tv σ2 H4 fun z H5 => ∃ kvs k, y = kV k ∧ H5 D = some (.dK kvs) ∧ kvs.length < sizeLine ∧ Pv (i + 1) (upd H5 D (.dK (putK kvs k z))) else Pv (i + 1) H3)
    (hd : ∀ H, Pv n H → Qd H) :
    ∃ W : Nat → Nat → Hp → Prop, (∃ m, W 0 m (upd H1 D (.dK []))) ∧ ∀ (i m : Nat) (H : Hp), W i m H → J.stop i H ∧ Qd H ∨ J.go i H ∧ ∃ Nx : Hp → Prop, (∀ H', Nx H' → ∃ m', m' < m ∧ W (i + 1) m' H') ∧
      ∀ (x : V) (H' : Hp), J.yld i H x H' → g x (wipe σ vs) H' fun σ2 H2 => wipe σ2 vs = wipe σ vs ∧ tt σ2 H2 fun b H3 =>
        if b = true then tk σ2 H3 fun y H4 => tv σ2 H4 fun z H5 => ∃ kvs k, y = kV k ∧ H5 D = some (.dK kvs) ∧ kvs.length < sizeLine ∧ Nx (upd H5 D (.dK (putK kvs k z))) else Nx H3 := by
  refine ⟨fun i m H => i ≤ n ∧ m = n - i ∧ Pv i H, ⟨n, Nat.zero_le _, rfl, h0⟩, fun i m H ⟨hi, hm, hp⟩ => ?_⟩
  have hg := hl i H hi hp
  rcases Nat.lt_or_ge i n with q | q
  · refine .inr ⟨w.goes i H q hg, Pv (i + 1), fun H' h' => ⟨n - (i + 1), by omega, q, rfl, h'⟩, fun x H' hy => hs i x H H' q hp (w.yields i H x H' q hg hy)⟩
  · obtain rfl : i = n := by omega
    exact .inl ⟨w.stops H hg, hd H hp⟩
end Vf

set_option Elab.async false
set_option linter.all false
set_option maxRecDepth 100000
set_option maxHeartbeats 4000000
/-! Own words: data with dicts in it. -/
namespace Vf
open PySem PySem.Spec PyProof.Rows L2
def keyD : Key → PyData
  | .inl i => .int i
  | .inr x => .str x
mutual
/-- data, dicts with whole numbers and texts as keys among it -/
inductive Dx (K : PySem.W.Frag) (H : Hp) : V → PyData → Prop
  | non : Dx K H .non .none
  | bl (b : Bool) : Dx K H (.bl b) (.bool b)
  | int (i : Int) : Dx K H (.int i) (.int i)
  | str (x : Str) : Dx K H (.str x) (.str x)
  | lst {a : Addr} {xs : List V} {ds : List PyData} : SqL K H a xs → DxAll K H xs ds → Dx K H (.ref a) (.list ds)
  | tup {a : Addr} {xs : List V} {ds : List PyData} : SqT K H a xs → DxAll K H xs ds → Dx K H (.ref a) (.tuple ds)
  | dic {a : Addr} {kvs : List (Key × V)} {ds : List PyData} : Rd H a (.dK kvs) → (kvs.map (·.1)).Nodup → DxAll K H (kvs.map (·.2)) ds → Dx K H (.ref a) (.dict ((kvs.map fun q => keyD q.1).zip ds))
inductive DxAll (K : PySem.W.Frag) (H : Hp) : List V → List PyData → Prop
  | nil : DxAll K H [] []
  | cons {v : V} {vs : List V} {d : PyData} {ds : List PyData} : Dx K H v d → DxAll K H vs ds → DxAll K H (v :: vs) (d :: ds)
end
mutual
theorem Dp.dx {K : PySem.W.Frag} {H : Hp} : ∀ {v : V} {d : PyData}, Dp K H v d → Dx K H v d
  | _, _, .non => .non
  | _, _, .bl b => .bl b
  | _, _, .int i => .int i
  | _, _, .str x => .str x
  | _, _, .lst h a => .lst h (DpAll.dx a)
  | _, _, .tup h a => .tup h (DpAll.dx a)
theorem DpAll.dx {K : PySem.W.Frag} {H : Hp} : ∀ {vs : List V} {ds : List PyData}, DpAll K H vs ds → DxAll K H vs ds
  | _, _, .nil => .nil
  | _, _, .cons a b => .cons (Dp.dx a) (DpAll.dx b)
end
theorem keys_read {P : Program} {w : World} {h : Heap} : ∀ {es : List DictEntry} {vs : List (Key × Value)} {kvs : List (Key × V)}, Pairs (mixKind P w) es vs → KV kvs vs →
    ReadsAll h (es.map (·.key)) (kvs.map fun q => keyD q.1) [] ∧ Vals (kvs.map (·.2)) (es.map (·.val))
  | _, _, _, .nil, hk => by
    cases hk
    exact ⟨.nil, .nil⟩
  | _, _, _, .cons (e := e) (kv := kv) h1 h2 h3, hk => by
    cases hk with
    | cons q r =>
      obtain ⟨i1, i2⟩ := keys_read (h := h) h3 r
      refine ⟨?_, .cons (by show L2.RelV _ e.val; rw [h2]; exact q.2) i2⟩
      have h1 : keyIs kv.1 e.key = true := h1
      rw [← q.1] at h1
      have one : ∀ k : Key, keyIs k e.key = true → Reads h e.key (keyD k) [] := fun k hk => by
        rcases keyIs_shape hk with ⟨i, t, e1, e2⟩ | ⟨x, t, e1, e2⟩
        · rw [e1, e2]
          exact .int i t
        · rw [e1, e2]
          exact .str x t
      exact .cons (one _ h1) i1
theorem zip_fst : ∀ {a b : List PyData}, a.length = b.length → (a.zip b).map (·.1) = a ∧ (a.zip b).map (·.2) = b
  | [], [], _ => ⟨rfl, rfl⟩
  | x :: a, y :: b, h => by
    obtain ⟨h1, h2⟩ := zip_fst (a := a) (b := b) (by rw [List.length_cons, List.length_cons] at h; omega)
    exact ⟨congrArg (x :: ·) h1, congrArg (y :: ·) h2⟩
theorem DxAll.len {K : PySem.W.Frag} {H : Hp} : ∀ {vs : List V} {ds : List PyData}, DxAll K H vs ds → vs.length = ds.length
  | _, _, .nil => rfl
  | _, _, .cons _ r => congrArg (· + 1) r.len
/-- no tracked object is sys.modules, once that stands in the law's own heap -/
theorem sys_free {X : Cx} {pins : List (Addr × Obj)} {σ : L2.St} {H : Hp} {s : Shared} {o : Obj} (hb : X.base.get? sysModules = some o) (I : L2.Inv X pins σ H s) : H sysModules = none :=
  I.base.free _ _ (I.ok.bs _ _ hb).1 (I.ok.bs _ _ hb).2 (I.ok.noex _ _ hb)
theorem rd_sys {X : Cx} {pins : List (Addr × Obj)} {σ : L2.St} {H : Hp} {s : Shared} {o : Obj} (hb : X.base.get? sysModules = some o) (I : L2.Inv X pins σ H s) {a : Addr} {u : HO} (h : Rd H a u) : a ≠ sysModules := fun z => by
  have n := sys_free hb I
  rw [← z] at n
  rcases h with h | ⟨_, h⟩ <;> (rw [n] at h; cases h)
theorem list_sys {X : Cx} {pins : List (Addr × Obj)} {σ : L2.St} {H : Hp} {s : Shared} (hb : ∃ o, X.base.get? sysModules = some o ∧ o.cls = .type "dict") (I : L2.Inv X pins σ H s) {a : Addr} {xs : List V} (h : SqL X.K H a xs) : a ≠ sysModules := by
  obtain ⟨o, h1, h2⟩ := hb
  rcases h with h | ⟨o', its, n, h3, h4, _⟩
  · exact rd_sys h1 I h
  · intro z
    have := I.ok.mod.kin _ _ h3
    rw [z, h1] at this
    cases this
    rw [h2] at h4
    injection h4 with h4
    exact absurd h4 (by decide)
section
variable {X : Cx} {pins : List (Addr × Obj)} {σ : L2.St} {H : Hp} {s : Shared}
mutual
theorem Dx.reads (I : L2.Inv X pins σ H s) : ∀ {v : V} {d : PyData} {u : Value}, Dx X.K H v d → L2.RelV v u → ∃ as, Reads s.heap u d as ∧ ((∃ o, X.base.get? sysModules = some o ∧ o.cls = .type "dict") → sysModules ∉ as)
  | _, _, _, .non, r => by
    cases r
    exact ⟨_, .none, fun _ => by simp⟩
  | _, _, _, .bl b, r => by
    cases r
    exact ⟨_, .bool b, fun _ => by simp⟩
  | _, _, _, .int i, r => by
    obtain ⟨t, rfl⟩ := r
    exact ⟨_, .int i t, fun _ => by simp⟩
  | _, _, _, .str x, r => by
    obtain ⟨t, rfl⟩ := r
    exact ⟨_, .str x t, fun _ => by simp⟩
  | _, _, _, .lst h a, r => by
    cases r
    obtain ⟨its, hv, ⟨o, n, h1, h2, _, h3⟩, _⟩ := I.list h
    obtain ⟨as, ha, hn⟩ := DxAll.reads I a hv
    refine ⟨_, .list h1 h2 h3 ha, fun hb hm => ?_⟩
    rcases List.mem_cons.mp hm with q | q
    · exact list_sys hb I h q.symm
    · exact hn hb q
  | _, _, _, .tup h a, r => by
    cases r
    obtain ⟨its, hv, ⟨o, h1, h2, n, h3⟩, _⟩ := I.tuple h
    obtain ⟨as, ha, hn⟩ := DxAll.reads I a hv
    exact ⟨_, .tuple h1 h2 h3 ha, hn⟩
  | _, _, _, .dic (kvs := kvs) (ds := ds) h _ a, r => by
    cases r
    obtain ⟨_, _, vs, hKV, o, es, ep, h1, h2, h3, _, hp, _⟩ := dk_rd I.hok h
    obtain ⟨r1, r2⟩ := keys_read (h := s.heap) hp hKV
    obtain ⟨as, ha, hn⟩ := DxAll.reads I a r2
    have l := a.len
    rw [List.length_map] at l
    obtain ⟨z1, z2⟩ := zip_fst (a := kvs.map fun q => keyD q.1) (b := ds) (by rw [List.length_map]; exact l)
    refine ⟨_, .dict h1 h2.1 h3 (by rw [z1]; exact r1) (by rw [z2]; exact ha), fun hb hm => ?_⟩
    obtain ⟨o', hb1, _⟩ := hb
    rcases List.mem_append.mp hm with q | q
    · exact rd_sys hb1 I h (List.mem_singleton.mp q).symm
    · exact hn ⟨o', hb1, by assumption⟩ q
theorem DxAll.reads (I : L2.Inv X pins σ H s) : ∀ {vs : List V} {ds : List PyData} {us : List Value}, DxAll X.K H vs ds → Vals vs us → ∃ as, ReadsAll s.heap us ds as ∧ ((∃ o, X.base.get? sysModules = some o ∧ o.cls = .type "dict") → sysModules ∉ as)
  | _, _, _, .nil, r => by
    cases r
    exact ⟨_, .nil, fun _ => by simp⟩
  | _, _, _, .cons a b, r => by
    cases r with
    | cons r1 r2 =>
      obtain ⟨as, h1, n1⟩ := Dx.reads I a r1
      obtain ⟨bs, h2, n2⟩ := DxAll.reads I b r2
      exact ⟨_, .cons h1 h2, fun hb hm => (List.mem_append.mp hm).elim (n1 hb) (n2 hb)⟩
end
end
/-- repr of data with dicts in it -/
def rReprX (K : PySem.W.Frag) (b : Heap) : List V → Hp → VK → Prop := fun xs H Q => ∃ (p : Addr) (d : PyData), xs = [.ref p] ∧ Dx K H (.ref p) d ∧ d.showable = true ∧ d.depth ≤ 60 ∧ d.shown.length ≤ sizeLine ∧ (∃ o, b.get? sysModules = some o ∧ o.cls = .type "dict") ∧ Q (.str d.shown) H
theorem call_reprX {X : Cx} (hu : X.A.units + 65 < cLine) (gd : X.A.guards = some []) : CallR X (.builtin "repr") (rReprX X.K X.base) := by
  rintro pins s σ H xs us Q I hv ⟨p, d, rfl, hd, sh, dp, sz, hb, k⟩
  obtain ⟨u, rfl, hu2⟩ := vals1 hv
  cases hu2
  obtain ⟨as, ha, hn⟩ := hd.reads I rfl
  exact repr_of_reads' ha sh (fun _ => hn hb) gd (by omega) (fun b o h => h) (fun h' u tk hh => ⟨.str d.shown, H, I.kept hh, ⟨u, rfl⟩, k⟩) sz
end Vf

set_option Elab.async false
set_option linter.all false
set_option maxRecDepth 100000
set_option maxHeartbeats 4000000
/-! Own words: == of data with dicts in it, their sizes; sorted of any data. -/
namespace Vf
open PySem PySem.Spec PyProof.Rows L2
open PySem.W (EqTree EachIs AllAlike Sortable)
theorem u70 {k : Nat} {A : Around} (r : Room k A) : A.units + 70 < cLine := by
  have := r.un
  omega
theorem u65 {k : Nat} {A : Around} (r : Room k A) : A.units + 65 < cLine := by
  have := r.un
  omega
theorem u1 {k : Nat} {A : Around} (r : Room k A) : A.units + 1 < cLine := by
  have := r.un
  omega
/-- y in d, d not in d -/
theorem op_inDict {X : Cx} (hu : X.A.units + 1 < cLine) : OpR X (compareOp .In) fun y x H Q => ∃ a o, x = .ref a ∧ DGet H a y o ∧ Q (.bl o.isSome) H := by
  rintro pins s σ H y x u v Q I ry rx ⟨a, o, rfl, g, q⟩
  cases rx
  exact d_in hu I g ry fun s2 I2 => ⟨.bl _, H, I2, rfl, q⟩
theorem op_notInDict {X : Cx} (hu : X.A.units + 1 < cLine) : OpR X (compareOp .NotIn) fun y x H Q => ∃ a o, x = .ref a ∧ DGet H a y o ∧ Q (.bl (!o.isSome)) H := by
  rintro pins s σ H y x u v Q I ry rx ⟨a, o, rfl, g, q⟩
  cases rx
  exact d_notIn hu I g ry fun s2 I2 => ⟨.bl _, H, I2, rfl, q⟩
theorem valV_some (k : Key) : ∀ kvs : List (Key × V), (valV kvs k).isSome = true ↔ k ∈ kvs.map (·.1)
  | [] => by simp [valV]
  | p :: r => by
    rw [List.map_cons, List.mem_cons]
    by_cases e : p.1 = k
    · rw [valV_pos e]
      exact ⟨fun _ => .inl e.symm, fun _ => rfl⟩
    · rw [valV_neg e, valV_some k r]
      exact ⟨.inr, fun h => h.resolve_left fun z => e z.symm⟩
theorem putK_new {kvs : List (Key × V)} {k : Key} (v : V) (h : k ∉ kvs.map (·.1)) : putK kvs k v = kvs ++ [(k, v)] := by
  unfold putK
  rw [if_neg]
  intro z
  obtain ⟨p, hp, e⟩ := List.any_eq_true.mp z
  exact h (by rw [← of_decide_eq_true e]; exact List.mem_map_of_mem hp)
theorem valV_mem : ∀ {kvs : List (Key × V)} {k : Key} {v : V}, (kvs.map (·.1)).Nodup → (k, v) ∈ kvs → valV kvs k = some v
  | p :: r, k, v, n, h => by
    rw [List.map_cons, List.nodup_cons] at n
    rcases List.mem_cons.mp h with e | h
    · rw [← e]
      exact valV_pos rfl
    · rw [valV_neg (fun e => n.1 (by rw [e]; exact List.mem_map_of_mem (f := fun q : Key × V => q.1) h))]
      exact valV_mem n.2 h
theorem merge_new : ∀ {more kvs : List (Key × V)}, ((kvs ++ more).map (·.1)).Nodup → mergeK kvs more = kvs ++ more
  | [], kvs, _ => (List.append_nil kvs).symm
  | p :: r, kvs, h => by
    show mergeK (putK kvs p.1 p.2) r = kvs ++ p :: r
    have e : kvs ++ p :: r = (kvs ++ [p]) ++ r := by rw [List.append_assoc] <;> rfl
    rw [e] at h ⊢
    rw [putK_new p.2 (fun z => by
      rw [List.map_append, List.nodup_append, List.map_append, List.nodup_append] at h
      exact h.1.2.2 p.1 z p.1 (by simp) rfl)]
    exact merge_new h
/-! ### == -/
theorem dx_lst {K : PySem.W.Frag} {H : Hp} {x : V} {d : PyData} {ds : List PyData} (h : Dx K H x d) (e : d = .list ds) : ∃ a xs, x = .ref a ∧ SqL K H a xs ∧ DxAll K H xs ds := by
  cases h <;> try (cases e)
  exact ⟨_, _, rfl, ‹_›, ‹_›⟩
theorem dx_tup {K : PySem.W.Frag} {H : Hp} {x : V} {d : PyData} {ds : List PyData} (h : Dx K H x d) (e : d = .tuple ds) : ∃ a xs, x = .ref a ∧ SqT K H a xs ∧ DxAll K H xs ds := by
  cases h <;> try (cases e)
  exact ⟨_, _, rfl, ‹_›, ‹_›⟩
theorem dx_dic {K : PySem.W.Frag} {H : Hp} {x : V} {d : PyData} {l : List (PyData × PyData)} (h : Dx K H x d) (e : d = .dict l) : ∃ (a : Addr) (kvs : List (Key × V)), x = .ref a ∧ Rd H a (.dK kvs) ∧ (kvs.map (·.1)).Nodup ∧ DxAll K H (kvs.map (·.2)) (l.map (·.2)) ∧ (kvs.map fun q => keyD q.1) = l.map (·.1) := by
  cases h with
  | @dic _ kvs ds h n a =>
    injection e with e
    have hl : (kvs.map fun q => keyD q.1).length = ds.length := by
      rw [List.length_map]
      have := a.len
      rw [List.length_map] at this
      exact this
    have z := zip_fst hl
    rw [e] at z
    refine ⟨_, _, rfl, h, n, ?_, z.1.symm⟩
    rw [z.2]
    exact a
  | _ => cases e
theorem keyD_inj {a b : Key} (h : keyD a = keyD b) : a = b := by
  cases a with
  | inl i =>
    cases b with
    | inl j =>
      injection h with h
      rw [h]
    | inr _ => cases h
  | inr i =>
    cases b with
    | inl j => cases h
    | inr _ =>
      injection h with h
      rw [h]
theorem keys_inj : ∀ {a b : List (Key × V)}, (a.map fun q => keyD q.1) = (b.map fun q => keyD q.1) → a.map (·.1) = b.map (·.1)
  | [], [], _ => rfl
  | [], _ :: _, h => by cases h
  | _ :: _, [], h => by cases h
  | x :: a, y :: b, h => by
    rw [List.map_cons, List.map_cons] at h ⊢
    injection h with h1 h2
    rw [keyD_inj h1, keys_inj h2]
theorem kv_vals : ∀ {ks : List (Key × V)} {vs : List (Key × Value)}, KV ks vs → Vals (ks.map (·.2)) (vs.map (·.2))
  | _, _, .nil => .nil
  | _, _, .cons h r => .cons h.2 (kv_vals r)
section
variable {X : Cx} {pins : List (Addr × Obj)} {σ : L2.St} {H : Hp} {s : Shared}
mutual
theorem Dx.eqT (I : L2.Inv X pins σ H s) : ∀ (d : PyData) (n : Nat) {x y : V} {v u : Value}, d.depth ≤ n → Dx X.K H x d → Dx X.K H y d → L2.RelV x v → L2.RelV y u → EqTree X.prog X.w s n v u true
  | .none, n, _, _, _, _, _, h1, h2, r1, r2 => by
    cases h1
    cases h2
    exact .leaf fun A _ => eqAt_same r1 r2 rfl
  | .bool b, n, _, _, _, _, _, h1, h2, r1, r2 => by
    cases h1
    cases h2
    exact .leaf fun A _ => eqAt_same r1 r2 rfl
  | .int i, n, _, _, _, _, _, h1, h2, r1, r2 => by
    cases h1
    cases h2
    exact .leaf fun A _ => eqAt_same r1 r2 rfl
  | .str z, n, _, _, _, _, _, h1, h2, r1, r2 => by
    cases h1
    cases h2
    exact .leaf fun A _ => eqAt_same r1 r2 rfl
  | .list ds, n, _, _, _, _, hn, h1, h2, r1, r2 => by
    obtain ⟨a, xs, rfl, sa, da⟩ := dx_lst h1 rfl
    obtain ⟨b, ys, rfl, sb, db⟩ := dx_lst h2 rfl
    cases r1
    cases r2
    by_cases e : a = b
    · subst e
      exact .same
    · cases n with
      | zero => exact absurd hn (Nat.not_succ_le_zero _)
      | succ m =>
        obtain ⟨us, v1, p1, _⟩ := I.list sa
        obtain ⟨ws, v2, p2, _⟩ := I.list sb
        have t := EqTree.lists (e := fun _ => true) e p1.isList p2.isList (by
          rw [List.size_toArray, List.size_toArray, ← v1.length, ← v2.length, da.len, db.len]) (fun j g1 g2 => by
          have := Dx.eqTAll I ds m (Nat.le_of_succ_le_succ hn) da db v1 v2 j (by simpa using g1) (by simpa using g2)
          simpa using this)
        rw [show ((List.range us.toArray.size).all fun _ => true) = true from List.all_eq_true.mpr fun _ _ => rfl] at t
        exact t
  | .tuple ds, n, _, _, _, _, hn, h1, h2, r1, r2 => by
    obtain ⟨a, xs, rfl, sa, da⟩ := dx_tup h1 rfl
    obtain ⟨b, ys, rfl, sb, db⟩ := dx_tup h2 rfl
    cases r1
    cases r2
    by_cases e : a = b
    · subst e
      exact .same
    · cases n with
      | zero => exact absurd hn (Nat.not_succ_le_zero _)
      | succ m =>
        obtain ⟨us, v1, p1, _⟩ := I.tuple sa
        obtain ⟨ws, v2, p2, _⟩ := I.tuple sb
        have t := EqTree.tuples (e := fun _ => true) e p1 p2 (fun j g1 g2 => by
          have := Dx.eqTAll I ds m (Nat.le_of_succ_le_succ hn) da db v1 v2 j (by simpa using g1) (by simpa using g2)
          simpa using this)
        have es : us.toArray.size = ws.toArray.size := by
          rw [List.size_toArray, List.size_toArray, ← v1.length, ← v2.length, da.len, db.len]
        rw [show ((List.range (min us.toArray.size ws.toArray.size)).all fun _ => true) = true from List.all_eq_true.mpr fun _ _ => rfl, es, beq_self_eq_true] at t
        exact t
  | .dict l, n, _, _, _, _, hn, h1, h2, r1, r2 => by
    obtain ⟨a, ka, rfl, sa, na, da, ea⟩ := dx_dic h1 rfl
    obtain ⟨b, kb, rfl, sb, nb, db, eb⟩ := dx_dic h2 rfl
    cases r1
    cases r2
    by_cases e : a = b
    · subst e
      exact .same
    · cases n with
      | zero => exact absurd hn (Nat.not_succ_le_zero _)
      | succ m =>
        have ek := keys_inj (ea.trans eb.symm)
        obtain ⟨_, ga, va, KA, DA⟩ := dk_rd I.hok sa
        obtain ⟨_, gb, vb, KB, DB⟩ := dk_rd I.hok sb
        have kk : va.map (·.1) = vb.map (·.1) := by rw [← KA.keys, ← KB.keys, ek]
        have nv : (vb.map (·.1)).Nodup := by rw [← KB.keys]; exact nb
        have vA : Vals (ka.map (·.2)) (va.map (·.2)) := kv_vals KA
        have vB : Vals (kb.map (·.2)) (vb.map (·.2)) := kv_vals KB
        have t := EqTree.dicts (e := fun _ => true) e ga gb DA DB (fun k v y hm hv => by
          obtain ⟨j, hj, ej⟩ := List.getElem_of_mem hm
          have hl : va.length = vb.length := by
            have := congrArg List.length kk
            rw [List.length_map, List.length_map] at this
            exact this
          have hj2 : j < vb.length := by omega
          have k1 : (va.map (·.1))[j]'(by rw [List.length_map]; exact hj) = k := by rw [List.getElem_map, ej]
          have k2 : vb[j].1 = k := by
            rw [← k1]
            simp only [kk, List.getElem_map]
          have q : valueAt vb k = some vb[j].2 := PySem.valueAt_of_mem nv (by rw [← k2]; exact List.getElem_mem hj2)
          rw [q] at hv
          injection hv with hv
          have := Dx.eqTKv I l m (Nat.le_of_succ_le_succ hn) da db vA vB j (by rw [List.length_map]; exact hj) (by rw [List.length_map]; exact hj2)
          rw [List.getElem_map, List.getElem_map, ej, hv] at this
          exact this)
        have hl : (va.length == vb.length) = true := by
          have := congrArg List.length kk
          rw [List.length_map, List.length_map] at this
          rw [this]
          exact beq_self_eq_true _
        have hall : (va.all fun p => (valueAt vb p.1).isSome && true) = true := List.all_eq_true.mpr fun p hp => by
          have : p.1 ∈ vb.map (·.1) := by
            rw [← kk]
            exact List.mem_map_of_mem hp
          rw [PySem.valueAt_isSome.mpr this]
          rfl
        rw [hl, hall] at t
        exact t
theorem Dx.eqTAll (I : L2.Inv X pins σ H s) : ∀ (ds : List PyData) (n : Nat) {xs ys : List V} {us ws : List Value}, PyData.depthAll ds ≤ n → DxAll X.K H xs ds → DxAll X.K H ys ds → Vals xs us → Vals ys ws → ∀ (j : Nat) (h1 : j < us.length) (h2 : j < ws.length), EqTree X.prog X.w s n us[j] ws[j] true
  | [], n, _, _, _, _, _, h1, h2, r1, r2, j, g, _ => by
    cases h1
    cases r1
    exact absurd g (Nat.not_lt_zero _)
  | d :: ds, n, _, _, _, _, hn, h1, h2, r1, r2, j, g1, g2 => by
    cases h1 with
    | cons a1 b1 =>
      cases h2 with
      | cons a2 b2 =>
        cases r1 with
        | cons c1 e1 =>
          cases r2 with
          | cons c2 e2 =>
            have hn : max d.depth (PyData.depthAll ds) ≤ n := hn
            cases j with
            | zero => exact Dx.eqT I d n (by omega) a1 a2 c1 c2
            | succ j => exact Dx.eqTAll I ds n (by omega) b1 b2 e1 e2 j (Nat.lt_of_succ_lt_succ g1) (Nat.lt_of_succ_lt_succ g2)
theorem Dx.eqTKv (I : L2.Inv X pins σ H s) : ∀ (l : List (PyData × PyData)) (n : Nat) {xs ys : List V} {us ws : List Value}, PyData.depthKv l ≤ n → DxAll X.K H xs (l.map (·.2)) → DxAll X.K H ys (l.map (·.2)) → Vals xs us → Vals ys ws → ∀ (j : Nat) (h1 : j < us.length) (h2 : j < ws.length), EqTree X.prog X.w s n us[j] ws[j] true
  | [], n, _, _, _, _, _, h1, h2, r1, r2, j, g, _ => by
    cases h1
    cases r1
    exact absurd g (Nat.not_lt_zero _)
  | (k, d) :: l, n, _, _, _, _, hn, h1, h2, r1, r2, j, g1, g2 => by
    cases h1 with
    | cons a1 b1 =>
      cases h2 with
      | cons a2 b2 =>
        cases r1 with
        | cons c1 e1 =>
          cases r2 with
          | cons c2 e2 =>
            have hn : max (max k.depth d.depth) (PyData.depthKv l) ≤ n := hn
            cases j with
            | zero => exact Dx.eqT I d n (by omega) a1 a2 c1 c2
            | succ j => exact Dx.eqTKv I l n (by omega) b1 b2 e1 e2 j (Nat.lt_of_succ_lt_succ g1) (Nat.lt_of_succ_lt_succ g2)
end
end
end Vf
namespace Vf
open PySem PySem.Spec PyProof.Rows L2
open PySem.W (EqTree EachIs AllAlike Sortable)
/-- x == y, both lists, both tuples or both dicts, of the same data -/
def rEqX (K : PySem.W.Frag) (f : Bool → Bool) : R2 := fun x y H Q => ∃ a b d, x = .ref a ∧ y = .ref b ∧ Dx K H x d ∧ Dx K H y d ∧ d.depth ≤ 60 ∧ Q (.bl (f true)) H
theorem op_eqX {X : Cx} (hu : X.A.units + 64 < cLine) : OpR X (compareOp .Eq) (rEqX X.K id) := by
  rintro pins s σ H x y u v Q I rx ry ⟨a, b, d, rfl, rfl, hx, hy, dp, q⟩
  cases rx
  cases ry
  have fin : EP X pins σ Q (.bool true) s := ⟨.bl true, H, I, rfl, q⟩
  cases d with
  | none => cases hx
  | bool _ => cases hx
  | int _ => cases hx
  | str _ => cases hx
  | list ds =>
    obtain ⟨a', xs, e1, sa, da⟩ := dx_lst hx rfl
    obtain ⟨b', ys, e2, sb, db⟩ := dx_lst hy rfl
    cases e1
    cases e2
    obtain ⟨us, v1, p1, _⟩ := I.list sa
    obtain ⟨ws, v2, p2, _⟩ := I.list sb
    refine PySem.W.eq_listsT (n := 60) (e := fun _ => true) p1.isList p2.isList (by
      rw [List.size_toArray, List.size_toArray, ← v1.length, ← v2.length, da.len, db.len]) (fun j g1 g2 => by
      have := Dx.eqTAll I ds 60 (by have dp : PyData.depthAll ds + 1 ≤ 60 := dp; omega) da db v1 v2 j (by simpa using g1) (by simpa using g2)
      simpa using this) (by omega) ?_
    rw [show ((List.range us.toArray.size).all fun _ => true) = true from List.all_eq_true.mpr fun _ _ => rfl]
    exact fin
  | tuple ds =>
    obtain ⟨a', xs, e1, sa, da⟩ := dx_tup hx rfl
    obtain ⟨b', ys, e2, sb, db⟩ := dx_tup hy rfl
    cases e1
    cases e2
    obtain ⟨us, v1, p1, _⟩ := I.tuple sa
    obtain ⟨ws, v2, p2, _⟩ := I.tuple sb
    refine PySem.W.eq_tuplesT (n := 60) (e := fun _ => true) p1 p2 (fun j g1 g2 => by
      have := Dx.eqTAll I ds 60 (by have dp : PyData.depthAll ds + 1 ≤ 60 := dp; omega) da db v1 v2 j (by simpa using g1) (by simpa using g2)
      simpa using this) (by omega) ?_
    have es : us.toArray.size = ws.toArray.size := by
      rw [List.size_toArray, List.size_toArray, ← v1.length, ← v2.length, da.len, db.len]
    rw [show ((List.range (min us.toArray.size ws.toArray.size)).all fun _ => true) = true from List.all_eq_true.mpr fun _ _ => rfl, es, beq_self_eq_true]
    exact fin
  | dict l =>
    by_cases e : a = b
    · subst e
      have t := Dx.eqT I (.dict l) 61 (by omega) hx hy rfl rfl
      obtain ⟨a', ka, e1, sa, na, da, ea⟩ := dx_dic hx rfl
      cases e1
      obtain ⟨_, ga, va, KA, DA⟩ := dk_rd I.hok sa
      have nv : (va.map (·.1)).Nodup := by rw [← KA.keys]; exact na
      refine PySem.W.eq_dictsT (n := 60) (e := fun _ => true) ga ga DA DA (fun k v y hm hv => ?_) (by omega) ?_
      · rw [PySem.valueAt_of_mem nv hm] at hv
        cases hv
        exact .same
      · have hall : (va.all fun p => (valueAt va p.1).isSome && true) = true := List.all_eq_true.mpr fun p hp => by
          rw [PySem.valueAt_isSome.mpr (List.mem_map_of_mem hp)]
          rfl
        rw [hall, beq_self_eq_true]
        exact fin
    · obtain ⟨a', ka, e1, sa, na, da, ea⟩ := dx_dic hx rfl
      obtain ⟨b', kb, e2, sb, nb, db, eb⟩ := dx_dic hy rfl
      cases e1
      cases e2
      have ek := keys_inj (ea.trans eb.symm)
      obtain ⟨_, ga, va, KA, DA⟩ := dk_rd I.hok sa
      obtain ⟨_, gb, vb, KB, DB⟩ := dk_rd I.hok sb
      have kk : va.map (·.1) = vb.map (·.1) := by rw [← KA.keys, ← KB.keys, ek]
      have nv : (vb.map (·.1)).Nodup := by rw [← KB.keys]; exact nb
      have vA : Vals (ka.map (·.2)) (va.map (·.2)) := kv_vals KA
      have vB : Vals (kb.map (·.2)) (vb.map (·.2)) := kv_vals KB
      refine PySem.W.eq_dictsT (n := 60) (e := fun _ => true) ga gb DA DB (fun k v y hm hv => ?_) (by omega) ?_
      · obtain ⟨j, hj, ej⟩ := List.getElem_of_mem hm
        have hl : va.length = vb.length := by
          have := congrArg List.length kk
          rw [List.length_map, List.length_map] at this
          exact this
        have hj2 : j < vb.length := by omega
        have k1 : (va.map (·.1))[j]'(by rw [List.length_map]; exact hj) = k := by rw [List.getElem_map, ej]
        have k2 : vb[j].1 = k := by
          rw [← k1]
          simp only [kk, List.getElem_map]
        have q : valueAt vb k = some vb[j].2 := PySem.valueAt_of_mem nv (by rw [← k2]; exact List.getElem_mem hj2)
        rw [q] at hv
        injection hv with hv
        have := Dx.eqTKv I l 60 (by have dp : PyData.depthKv l + 1 ≤ 60 := dp; omega) da db vA vB j (by rw [List.length_map]; exact hj) (by rw [List.length_map]; exact hj2)
        rw [List.getElem_map, List.getElem_map, ej, hv] at this
        exact this
      · have hl : (va.length == vb.length) = true := by
          have := congrArg List.length kk
          rw [List.length_map, List.length_map] at this
          rw [this]
          exact beq_self_eq_true _
        have hall : (va.all fun p => (valueAt vb p.1).isSome && true) = true := List.all_eq_true.mpr fun p hp => by
          rw [PySem.valueAt_isSome.mpr (by rw [← kk]; exact List.mem_map_of_mem hp)]
          rfl
        rw [hl, hall]
        exact fin
/-! ### sizes -/
mutual
/-- data whose ints and texts may be shown -/
def tmx : PyData → Bool
  | .none => true
  | .bool _ => true
  | .int i => decide (i.natAbs < 10 ^ 60)
  | .str x => x.cps.all (· < 0x110000)
  | .list xs => tmxAll xs
  | .tuple xs => tmxAll xs
  | .dict l => tmxKv l
def tmxAll : List PyData → Bool
  | [] => true
  | x :: r => tmx x && tmxAll r
def tmxKv : List (PyData × PyData) → Bool
  | [] => true
  | (k, v) :: r => tmx k && (tmx v && tmxKv r)
end
mutual
/-- no less than the length of what is shown -/
def wtx : PyData → Nat
  | .none => 4
  | .bool _ => 5
  | .int _ => 62
  | .str x => 10 * x.length + 2
  | .list xs => wtxAll xs + 4
  | .tuple xs => wtxAll xs + 4
  | .dict l => wtxKv l + 4
def wtxAll : List PyData → Nat
  | [] => 0
  | x :: r => wtx x + 2 + wtxAll r
def wtxKv : List (PyData × PyData) → Nat
  | [] => 0
  | (k, v) :: r => wtx k + wtx v + 4 + wtxKv r
end
theorem dictText_le (ts : List Str) : (dictText ts).length ≤ piled ts + 2 := by
  unfold dictText
  rw [Str.length_append, Str.length_append]
  have e1 : (("{" : Str)).length = 1 := rfl
  have e2 : (("}" : Str)).length = 1 := rfl
  have e3 : (Str.join ", " ts).length ≤ piled ts := by
    by_cases h : ts = []
    · subst h
      exact Nat.le_refl _
    · have := join_length_add ts h
      omega
  rw [e1, e2]
  omega
mutual
theorem shownx_le : ∀ d : PyData, tmx d = true → d.shown.length ≤ wtx d
  | .none, _ => Nat.le_refl _
  | .bool b, _ => by
    cases b
    · exact Nat.le_refl _
    · exact Nat.le_succ 4
  | .int i, h => by
    have h' : i.natAbs < 10 ^ 60 := of_decide_eq_true h
    have e : (Str.ofString (toString i)).length = (toString i).length := PySem.ofString_length _
    have : (Str.ofString (toString i)).length ≤ 60 + 1 := by
      rw [e]
      exact int_text_length_le10 (by decide) h'
    exact Nat.le_trans this (by show 60 + 1 ≤ 62; decide)
  | .str x, h => by
    refine Nat.le_trans (StrLaws.reprText_len x ?_) (Nat.le_refl _)
    intro c hc
    have h' : x.cps.all (· < 0x110000) = true := h
    rw [← Array.all_toList, List.all_eq_true] at h'
    have := of_decide_eq_true (h' c hc)
    omega
  | .list xs, h => by
    have := shownxAll_le xs h
    have := listText_le (PyData.shownAll xs)
    show (listText (PyData.shownAll xs)).length ≤ wtxAll xs + 4
    omega
  | .tuple xs, h => by
    have := shownxAll_le xs h
    have := tupleText_le (PyData.shownAll xs)
    show (tupleText (PyData.shownAll xs)).length ≤ wtxAll xs + 4
    omega
  | .dict l, h => by
    have := shownxKv_le l h
    have := dictText_le (PyData.shownKv l)
    show (dictText (PyData.shownKv l)).length ≤ wtxKv l + 4
    omega
theorem shownxAll_le : ∀ xs : List PyData, tmxAll xs = true → piled (PyData.shownAll xs) ≤ wtxAll xs
  | [], _ => Nat.le_refl _
  | x :: r, h => by
    have h' : (tmx x && tmxAll r) = true := h
    rw [Bool.and_eq_true] at h'
    have := shownx_le x h'.1
    have := shownxAll_le r h'.2
    show piled (x.shown :: PyData.shownAll r) ≤ wtx x + 2 + wtxAll r
    rw [piled_cons]
    omega
theorem shownxKv_le : ∀ l : List (PyData × PyData), tmxKv l = true → piled (PyData.shownKv l) ≤ wtxKv l
  | [], _ => Nat.le_refl _
  | (k, v) :: r, h => by
    have h' : (tmx k && (tmx v && tmxKv r)) = true := h
    rw [Bool.and_eq_true, Bool.and_eq_true] at h'
    have := shownx_le k h'.1
    have := shownx_le v h'.2.1
    have := shownxKv_le r h'.2.2
    show piled ((k.shown ++ ": " ++ v.shown) :: PyData.shownKv r) ≤ wtx k + wtx v + 4 + wtxKv r
    rw [piled_cons, Str.length_append, Str.length_append]
    have e1 : ((": " : Str)).length = 2 := rfl
    rw [e1]
    omega
end
mutual
theorem tmx_ok : ∀ d : PyData, tmx d = true → d.showable = true
  | .none, _ => rfl
  | .bool b, _ => rfl
  | .int i, h => by
    have h' : i.natAbs < 10 ^ 60 := of_decide_eq_true h
    show decide (i.natAbs.log2 < 1920) = true
    refine decide_eq_true ?_
    by_cases h0 : i.natAbs = 0
    · rw [h0]
      decide
    · exact (Nat.log2_lt h0).mpr (Nat.lt_trans h' (by decide +kernel))
  | .str x, h => rfl
  | .list xs, h => tmxAll_ok xs h
  | .tuple xs, h => tmxAll_ok xs h
  | .dict l, h => tmxKv_ok l h
theorem tmxAll_ok : ∀ xs : List PyData, tmxAll xs = true → PyData.showableAll xs = true
  | [], _ => rfl
  | x :: r, h => by
    have h' : (tmx x && tmxAll r) = true := h
    rw [Bool.and_eq_true] at h'
    show (PyData.showable x && PyData.showableAll r) = true
    rw [tmx_ok x h'.1, tmxAll_ok r h'.2] <;> rfl
theorem tmxKv_ok : ∀ l : List (PyData × PyData), tmxKv l = true → PyData.showableKv l = true
  | [], _ => rfl
  | (k, v) :: r, h => by
    have h' : (tmx k && (tmx v && tmxKv r)) = true := h
    rw [Bool.and_eq_true, Bool.and_eq_true] at h'
    show (PyData.showable k && PyData.showable v && PyData.showableKv r) = true
    rw [tmx_ok k h'.1, tmx_ok v h'.2.1, tmxKv_ok r h'.2.2] <;> rfl
end
/-- data of a size that may be shown -/
structure OkX (d : PyData) : Prop where
  tm : tmx d = true
  dp : d.depth ≤ 60
  sz : wtx d ≤ 16000000
theorem OkX.show {d : PyData} (h : OkX d) : d.shown.length ≤ sizeLine := Nat.le_trans (shownx_le d h.tm) (Nat.le_trans h.sz (by decide))
/-- two things alike -/
def spAlikeX (K : PySem.W.Frag) : Sp := fun vs H Q _ => ∃ (a b : Addr) (d : PyData), vs = [.ref a, .ref b] ∧ Dx K H (.ref a) d ∧ Dx K H (.ref b) d ∧ OkX d ∧ ∀ H', Same H H' → Q (.bl true) H'
/-- repr of a list, a tuple or a dict -/
def rReprO (K : PySem.W.Frag) : List V → Hp → VK → Prop := fun xs H Q => ∃ (p : Addr) (d : PyData), xs = [.ref p] ∧ Dx K H (.ref p) d ∧ OkX d ∧ Q (.str d.shown) H
theorem call_reprO {X : Cx} (hu : X.A.units + 65 < cLine) (gd : X.A.guards = some []) (sb : ∃ o, X.base.get? sysModules = some o ∧ o.cls = .type "dict") : CallR X (.builtin "repr") (rReprO X.K) := by
  rintro pins s σ H xs us Q I hv ⟨p, d, rfl, hd, ok, k⟩
  exact call_reprX hu gd pins s σ H [.ref p] us Q I hv ⟨p, d, rfl, hd, tmx_ok d ok.tm, ok.dp, ok.show, sb, k⟩
mutual
/-- what holds of data without dicts -/
theorem tmx_of : ∀ d : PyData, tame d = true → tmx d = true ∧ wtx d ≤ 2 * wt d
  | .none, _ => ⟨rfl, by decide⟩
  | .bool b, _ => ⟨rfl, by show 5 ≤ 2 * 5; decide⟩
  | .int i, h => by
    have h' : i.natAbs < 10 ^ 30 := of_decide_eq_true h
    exact ⟨decide_eq_true (Nat.lt_trans h' (by decide +kernel)), by show 62 ≤ 2 * 32; decide⟩
  | .str x, h => ⟨h, by show 10 * x.length + 2 ≤ 2 * (10 * x.length + 2); omega⟩
  | .list xs, h => by
    obtain ⟨a, b⟩ := tmxAll_of xs h
    exact ⟨a, by show wtxAll xs + 4 ≤ 2 * (wtAll xs + 4); omega⟩
  | .tuple xs, h => by
    obtain ⟨a, b⟩ := tmxAll_of xs h
    exact ⟨a, by show wtxAll xs + 4 ≤ 2 * (wtAll xs + 4); omega⟩
  | .dict _, h => by cases h
theorem tmxAll_of : ∀ xs : List PyData, tameAll xs = true → tmxAll xs = true ∧ wtxAll xs ≤ 2 * wtAll xs
  | [], _ => ⟨rfl, Nat.le_refl _⟩
  | x :: r, h => by
    have h' : (tame x && tameAll r) = true := h
    rw [Bool.and_eq_true] at h'
    obtain ⟨a1, a2⟩ := tmx_of x h'.1
    obtain ⟨b1, b2⟩ := tmxAll_of r h'.2
    refine ⟨?_, ?_⟩
    · show (tmx x && tmxAll r) = true
      rw [a1, b1] <;> rfl
    · show wtx x + 2 + wtxAll r ≤ 2 * (wt x + 2 + wtAll r)
      omega
end
/-! ### sorted -/
theorem each_of_vals {R : V → PyData → Prop} : ∀ {xs : List V} {us : List Value} {ds : List PyData}, Vals xs us → Paired R xs ds → EachIs (fun u d => ∃ x, L2.RelV x u ∧ R x d) us ds
  | _, _, _, .nil, h => by
    cases h
    exact .nil
  | _, _, _, .cons a b, h => by
    cases h with
    | cons p q => exact .cons ⟨_, a, p⟩ (each_of_vals b q)
theorem vals_of_each {R : V → PyData → Prop} : ∀ {us : List Value} {ds : List PyData}, EachIs (fun u d => ∃ x, L2.RelV x u ∧ R x d) us ds → ∃ xs, Vals xs us ∧ Paired R xs ds
  | _, _, .nil => ⟨[], .nil, .nil⟩
  | _, _, .cons ⟨x, a, p⟩ r => by
    obtain ⟨xs, b, q⟩ := vals_of_each r
    exact ⟨x :: xs, .cons a b, .cons p q⟩
/-- data, ascending -/
noncomputable def srtD (ds : List PyData) : List PyData := ds.mergeSort (PySem.W.dataLe false id)
theorem srtD_perm (ds : List PyData) : (srtD ds).Perm ds := List.mergeSort_perm _ _
theorem call_sortedX {X : Cx} (hu : X.A.units + 70 < cLine) : CallR X (.builtin "sorted") (fun vs H Q => ∃ (a : Addr) (xs : List V) (ds : List PyData) (R : V → PyData → Prop), vs = [.ref a] ∧ SqL X.K H a xs ∧ Paired R xs ds ∧ (∀ x d, R x d → Dx X.K H x d) ∧ AllAlike ds ∧ Sortable ds ∧ (∀ d ∈ ds, d.depth ≤ 60) ∧
    ∀ (ys : List V) (p : Addr), Paired R ys (srtD ds) → H p = none → Q (.ref p) (upd H p (.lst ys))) := by
  rintro pins s σ H vs us Q I r ⟨a, xs, ds, R, rfl, hs, hp, hR, hal, hk, hd, q⟩
  obtain ⟨its, rv, hl, hz⟩ := I.list hs
  obtain ⟨u, rfl, ru⟩ := vals1 r
  obtain rfl : u = Value.ref a := ru
  have e := each_of_vals rv hp
  have em : (ds.map id) = ds := List.map_id ds
  have er : EachIs (fun v b => ∃ as, Reads s.heap v (id b) as) its ds := e.mono fun u d hh => by
    obtain ⟨x, rx, h⟩ := hh
    obtain ⟨as, ha, _⟩ := (hR x d h).reads I rx
    exact ⟨as, ha⟩
  have ld := Paired.length hp
  refine PySem.W.sorted_data (enc := id) (bs := ds) hl.isList e er (by rw [em]; exact hal) (by rw [em]; exact hk) (by omega) (fun d hm => by
    have := hd d hm
    show X.A.units + 2 + d.depth < cLine
    omega) fun out lo eo => ?_
  obtain ⟨ys, vy, py⟩ := vals_of_each eo
  obtain ⟨ep, he'⟩ := PyProof.Rows.sortedAll_at s.heap its out.toArray
  have ly : ys.length = xs.length := by
    have := vy.length
    omega
  exact ⟨.ref _, upd H (s.heap.objs.size + 1) (.lst ys), I.laid (t' := s.toks) (fun _ _ => PyProof.Rows.sortedAll_old) (Nat.le_succ _) ⟨by omega, out, ep, vy, he'⟩, rfl, q ys _ py (I.hok.fresh (Nat.le_succ _))⟩
end Vf
namespace Vf
open PySem PySem.Spec PyProof.Rows L2
/-! ### a name set to a dict comprehension on one line -/
theorem ps_setDc {X : Cx} {j : Nat} {z : Str} {pz : Pos} {kx vx tg it : Expr} {tests : List Expr} {sco : Scope} {ow : List (Str × Nat)} {p1 p2 : Pos} {wi : TI} {g : TG} {tt : TT} {tk tv : TE} (calm : X.calm = true) (nd : X.N.Nodup) (hj : X.N[j]? = some z) (hz : X.env.scope.names.lookup z = some .local)
    (sw : swapsWith (.DictComp kx vx [⟨tg, it, tests, 0⟩] sco p1) (some (.Name z pz)) p2.line X.env = pure true) (wit : PI X tg it wi) (blk : BlkOk X.N X.env.scope sco ow)
    (ptg : ∀ (t : Shared) (G : Hp) (B : Addr) (cs : List (Str × Addr)) (pp : List Addr), PG (X.blk t G sco (compEnvC sco cs B X.env) pp) tg g) (pte : ∀ (t : Shared) (G : Hp) (B : Addr) (cs : List (Str × Addr)) (pp : List Addr), PTs (X.blk t G sco (compEnvC sco cs B X.env) pp) tests tt)
    (pkx : ∀ (t : Shared) (G : Hp) (B : Addr) (cs : List (Str × Addr)) (pp : List Addr), PE (X.blk t G sco (compEnvC sco cs B X.env) pp) kx tk) (pvx : ∀ (t : Shared) (G : Hp) (B : Addr) (cs : List (Str × Addr)) (pp : List Addr), PE (X.blk t G sco (compEnvC sco cs B X.env) pp) vx tv)
    (fs : ∀ x, foldedSetIterable it X.env x = pure x := by intro _; rfl) :
    PS X (.Assign [.Name z pz] (.DictComp kx vx [⟨tg, it, tests, 0⟩] sco p1) p2) (tAsg (tDc wi g tt tk tv (ow.map (·.2))) (gName j)) := by
  refine ⟨fun pins s σ H D I w => ?_⟩
  rw [exec_Assign_Name_used _ _ _ _ sw]
  refine wpAny_bind (wpAny_standAt (wpAny_bind ?_))
  have w' : tDc wi g tt tk tv (ow.map (·.2)) σ H (fun x H1 => gName j x σ H1 D.nx) := w
  refine wpAny_bind (thn (dc_core (Qf := fun _ u => SP X pins D .next u) (use := some (assign (.Name z pz) X.env)) calm nd I wit blk ptg pte pkx pvx fs w' fun L C u m H' I' q hn f => ?_) fun _ u hq => wpAny_pure (wpAny_pure hq))
  show wpAny _ _ (assign (.Name z pz) X.env (.ref L)) _ _ _
  refine wpAny_assign_Name (store_ok2 (v := V.ref L) I' nd hj (.inl hz) rfl (fun u2 I2 ⟨a, sb, ha⟩ => ?_) (.inr hz))
  obtain ⟨g0, g1, g2, g3, g4, g5⟩ := f
  have ne : C ≠ a := ha.elim (fun e => by rw [e]; exact g1) fun e h => g4 z a e h.symm
  exact ⟨m, hn.sameBut sb ne, fun h3 sb3 => ⟨_, H', I2.turned (t' := u2.toks) (fun b o hb e => (sb3.2 b hb).trans e) g0 g1 g3 g4 g5, q⟩⟩
theorem swd_true {kx vx : Expr} {gs : List Comprehension} {sco : Scope} {p1 pz : Pos} {z : Str} {n : Nat} {env : Env} (kd : env.scope.kind = .function) (hz : env.scope.names.lookup z = some .local) (ln : (pz.line == p1.line) = true)
    (no : (sco.names.any fun q => q.1 == z && (q.2 == .local || q.2 == .cell)) = false) : swapsWith (.DictComp kx vx gs sco p1) (some (.Name z pz)) n env = pure true := by
  have e1 : env.kindOf z = some .local := hz
  have e2 : env.blockKind = .function := by
    unfold Env.blockKind
    rw [kd] <;> rfl
  have e3 : (sco.names.any fun (x, k) => x == z && (k == .local || k == .cell)) = false := no
  unfold swapsWith
  simp only [e2, e1, e3, Expr.pos, ln]
  rfl
end Vf

set_option Elab.async false
set_option linter.all false
set_option maxRecDepth 100000
set_option maxHeartbeats 4000000
namespace Lw
open PySem PySem.Spec PyProof.Rows L2 Vf
open C8 (Cal pe_c pe_gc CalAt)
def topS (i : Nat) : Stmt := PySem.Challenge.pw_leastlaid_k05_brackets_paired.main.body.getD i (.Pass ⟨0, 0, 0, 0⟩)
abbrev s_p_line_end : Stmt := topS 6
theorem sc_p_line_end : FnScope ["text", "begin", "end"] ["text", "begin"] (defScope s_p_line_end) := ⟨rfl, rfl, rfl, by decide +kernel, rfl, by decide +kernel, by decide +kernel⟩
abbrev s_p_run_end : Stmt := topS 7
theorem sc_p_run_end : FnScope ["text", "begin", "signs", "end"] ["text", "begin", "signs"] (defScope s_p_run_end) := ⟨rfl, rfl, rfl, by decide +kernel, rfl, by decide +kernel, by decide +kernel⟩
abbrev s_p_number_end : Stmt := topS 8
theorem sc_p_number_end : FnScope ["text", "begin", "end", "far"] ["text", "begin"] (defScope s_p_number_end) := ⟨rfl, rfl, rfl, by decide +kernel, rfl, by decide +kernel, by decide +kernel⟩
abbrev s_p_quote_end : Stmt := topS 9
theorem sc_p_quote_end : FnScope ["text", "begin", "at"] ["text", "begin"] (defScope s_p_quote_end) := ⟨rfl, rfl, rfl, by decide +kernel, rfl, by decide +kernel, by decide +kernel⟩
abbrev s_p_closed_end : Stmt := topS 10
theorem sc_p_closed_end : FnScope ["text", "begin", "opening", "closing", "end"] ["text", "begin", "opening", "closing"] (defScope s_p_closed_end) := ⟨rfl, rfl, rfl, by decide +kernel, rfl, by decide +kernel, by decide +kernel⟩
abbrev s_p_sign_end : Stmt := topS 11
theorem sc_p_sign_end : FnScope ["text", "begin", "sign"] ["text", "begin"] (defScope s_p_sign_end) := ⟨rfl, rfl, rfl, by decide +kernel, rfl, by decide +kernel, by decide +kernel⟩
abbrev s_p_word_at : Stmt := topS 12
theorem sc_p_word_at : FnScope ["text", "begin", "end"] ["text", "begin"] (defScope s_p_word_at) := ⟨rfl, rfl, rfl, by decide +kernel, rfl, by decide +kernel, by decide +kernel⟩
abbrev s_p_place_of : Stmt := topS 14
theorem sc_p_place_of : FnScope ["text", "index", "begin"] ["text", "index"] (defScope s_p_place_of) := ⟨rfl, rfl, rfl, by decide +kernel, rfl, by decide +kernel, by decide +kernel⟩
abbrev s_p_behind_fault : Stmt := topS 15
theorem sc_p_behind_fault : FnScope ["text", "at", "reason"] ["text", "at", "reason"] (defScope s_p_behind_fault) := ⟨rfl, rfl, rfl, by decide +kernel, rfl, by decide +kernel, by decide +kernel⟩
abbrev s_p_cut : Stmt := topS 16
theorem sc_p_cut : FnScope ["text", "tokens", "faults", "at", "kind", "end"] ["text"] (defScope s_p_cut) := ⟨rfl, rfl, rfl, by decide +kernel, rfl, by decide +kernel, by decide +kernel⟩
abbrev s_p_paired : Stmt := topS 19
theorem sc_p_paired : FnScope ["text", "tokens", "mates", "faults", "still_open", "at", "token", "word"] ["text", "tokens"] (defScope s_p_paired) := ⟨rfl, rfl, rfl, by decide +kernel, rfl, by decide +kernel, by decide +kernel⟩
abbrev s_p_deep_at : Stmt := topS 20
theorem sc_p_deep_at : FnScope ["text", "tokens", "pairs", "at", "ends", "deep", "found"] ["text", "tokens"] (defScope s_p_deep_at) := ⟨rfl, rfl, rfl, by decide +kernel, rfl, by decide +kernel, by decide +kernel⟩
abbrev s_l_bag : Stmt := topS 22
theorem sc_l_bag : FnScope ["_law_script", "_law_cell"] ["_law_script"] (defScope s_l_bag) := ⟨rfl, rfl, rfl, by decide +kernel, rfl, by decide +kernel, by decide +kernel⟩
abbrev s_l_take : Stmt := topS 23
theorem sc_l_take : FnScope ["_law_bag_here", "_law_many", "_law_cell", "_law_stirred", "_law_value", "_law_begin", "_law_second"] ["_law_bag_here", "_law_many"] (defScope s_l_take) := ⟨rfl, rfl, rfl, by decide +kernel, rfl, by decide +kernel, by decide +kernel⟩
abbrev s_l_one : Stmt := topS 24
theorem sc_l_one : FnScope ["_law_bag_here", "_law_things"] ["_law_bag_here", "_law_things"] (defScope s_l_one) := ⟨rfl, rfl, rfl, by decide +kernel, rfl, by decide +kernel, by decide +kernel⟩
abbrev s_l_keywords : Stmt := topS 25
theorem sc_l_keywords : FnScope [] [] (defScope s_l_keywords) := ⟨rfl, rfl, rfl, by decide +kernel, rfl, by decide +kernel, by decide +kernel⟩
abbrev s_l_name : Stmt := topS 26
theorem sc_l_name : FnScope ["_law_bag_here", "_law_letters", "_law_word", "_law_turn"] ["_law_bag_here"] (defScope s_l_name) := ⟨rfl, rfl, rfl, by decide +kernel, rfl, by decide +kernel, by decide +kernel⟩
abbrev s_l_atom : Stmt := topS 27
theorem sc_l_atom : FnScope ["_law_bag_here", "_law_way", "_law_quotes"] ["_law_bag_here"] (defScope s_l_atom) := ⟨rfl, rfl, rfl, by decide +kernel, rfl, by decide +kernel, by decide +kernel⟩
abbrev s_l_names : Stmt := topS 28
theorem sc_l_names : FnScope ["_law_bag_here", "_law_turn"] ["_law_bag_here"] (defScope s_l_names) := ⟨rfl, rfl, rfl, by decide +kernel, rfl, by decide +kernel, by decide +kernel⟩
abbrev s_l_part : Stmt := topS 29
theorem sc_l_part : FnScope ["_law_bag_here", "_law_deep", "_law_way", "_law_signs", "_law_inner_here", "_law_some", "_law_turn", "_law_key"] ["_law_bag_here", "_law_deep"] (defScope s_l_part) := ⟨rfl, rfl, rfl, by decide +kernel, rfl, by decide +kernel, by decide +kernel⟩
abbrev s_l_expression : Stmt := topS 30
theorem sc_l_expression : FnScope ["_law_bag_here", "_law_deep"] ["_law_bag_here", "_law_deep"] (defScope s_l_expression) := ⟨rfl, rfl, rfl, by decide +kernel, rfl, by decide +kernel, by decide +kernel⟩
abbrev s_l_block : Stmt := topS 31
theorem sc_l_block : FnScope ["_law_bag_here", "_law_deep", "_law_turn"] ["_law_bag_here", "_law_deep"] (defScope s_l_block) := ⟨rfl, rfl, rfl, by decide +kernel, rfl, by decide +kernel, by decide +kernel⟩
abbrev s_l_if : Stmt := topS 32
theorem sc_l_if : FnScope ["_law_bag_here", "_law_deep", "_law_block_here", "_law_way", "_law_other"] ["_law_bag_here", "_law_deep"] (defScope s_l_if) := ⟨rfl, rfl, rfl, by decide +kernel, rfl, by decide +kernel, by decide +kernel⟩
abbrev s_l_statement : Stmt := topS 33
theorem sc_l_statement : FnScope ["_law_bag_here", "_law_deep", "_law_way"] ["_law_bag_here", "_law_deep"] (defScope s_l_statement) := ⟨rfl, rfl, rfl, by decide +kernel, rfl, by decide +kernel, by decide +kernel⟩
abbrev s_l_flat : Stmt := topS 34
theorem sc_l_flat : FnScope ["_law_rows", "_law_found", "_law_row"] ["_law_rows"] (defScope s_l_flat) := ⟨rfl, rfl, rfl, by decide +kernel, rfl, by decide +kernel, by decide +kernel⟩
abbrev s_l_row_words : Stmt := topS 35
theorem sc_l_row_words : FnScope ["_law_words_here", "_law_word"] ["_law_words_here"] (defScope s_l_row_words) := ⟨rfl, rfl, rfl, by decide +kernel, rfl, by decide +kernel, by decide +kernel⟩
abbrev s_l_sign_level : Stmt := topS 36
theorem sc_l_sign_level : FnScope ["_law_sign", "_law_rows", "_law_at", "_law_row"] ["_law_sign"] (defScope s_l_sign_level) := ⟨rfl, rfl, rfl, by decide +kernel, rfl, by decide +kernel, by decide +kernel⟩
abbrev s_l_level : Stmt := topS 37
theorem sc_l_level : FnScope ["_law_tree"] ["_law_tree"] (defScope s_l_level) := ⟨rfl, rfl, rfl, by decide +kernel, rfl, by decide +kernel, by decide +kernel⟩
abbrev s_l_sides : Stmt := topS 38
theorem sc_l_sides : FnScope ["_law_sign", "_law_level_here"] ["_law_sign"] (defScope s_l_sides) := ⟨rfl, rfl, rfl, by decide +kernel, rfl, by decide +kernel, by decide +kernel⟩
abbrev s_l_between : Stmt := topS 39
theorem sc_l_between : FnScope ["_law_rows", "_law_found", "_law_at", "_law_row"] ["_law_rows"] (defScope s_l_between) := ⟨rfl, rfl, rfl, by decide +kernel, rfl, by decide +kernel, by decide +kernel⟩
abbrev s_l_words : Stmt := topS 40
theorem sc_l_words : FnScope ["_law_bag_here", "_law_tree", "_law_is_ahead", "_law_word", "_law_left", "_law_right", "_law_found", "_law_some", "_law_inside", "_law_pairs", "_law_key", "_law_value", "_law_names_here", "_law_name_here", "_law_one_here"] ["_law_bag_here", "_law_tree", "_law_is_ahead"] (defScope s_l_words) := ⟨rfl, rfl, rfl, by decide +kernel, rfl, by decide +kernel, by decide +kernel⟩
abbrev s_l_inner : Stmt := topS 41
theorem sc_l_inner : FnScope ["_law_bag_here", "_law_tree", "_law_least", "_law_is_ahead", "_law_more", "_law_words_here"] ["_law_bag_here", "_law_tree", "_law_least", "_law_is_ahead"] (defScope s_l_inner) := ⟨rfl, rfl, rfl, by decide +kernel, rfl, by decide +kernel, by decide +kernel⟩
abbrev s_l_block_words : Stmt := topS 42
theorem sc_l_block_words : FnScope ["_law_bag_here", "_law_block_here", "_law_found", "_law_statement_here"] ["_law_bag_here", "_law_block_here"] (defScope s_l_block_words) := ⟨rfl, rfl, rfl, by decide +kernel, rfl, by decide +kernel, by decide +kernel⟩
abbrev s_l_statement_words : Stmt := topS 43
theorem sc_l_statement_words : FnScope ["_law_bag_here", "_law_statement_here", "_law_word", "_law_found", "_law_some", "_law_is_if", "_law_other", "_law_names_here", "_law_name_here"] ["_law_bag_here", "_law_statement_here"] (defScope s_l_statement_words) := ⟨rfl, rfl, rfl, by decide +kernel, rfl, by decide +kernel, by decide +kernel⟩
abbrev s_l_program_words : Stmt := topS 44
theorem sc_l_program_words : FnScope ["_law_bag_here", "_law_program_here", "_law_statement_here"] ["_law_bag_here", "_law_program_here"] (defScope s_l_program_words) := ⟨rfl, rfl, rfl, by decide +kernel, rfl, by decide +kernel, by decide +kernel⟩
abbrev s_l_program : Stmt := topS 45
theorem sc_l_program : FnScope ["_law_bag_here", "_law_many", "_law_deep", "_law_found", "_law_turn"] ["_law_bag_here", "_law_many", "_law_deep"] (defScope s_l_program) := ⟨rfl, rfl, rfl, by decide +kernel, rfl, by decide +kernel, by decide +kernel⟩
abbrev s_l_comment : Stmt := topS 46
theorem sc_l_comment : FnScope ["_law_bag_here", "_law_some"] ["_law_bag_here"] (defScope s_l_comment) := ⟨rfl, rfl, rfl, by decide +kernel, rfl, by decide +kernel, by decide +kernel⟩
abbrev s_l_is_letter : Stmt := topS 47
theorem sc_l_is_letter : FnScope ["_law_sign"] ["_law_sign"] (defScope s_l_is_letter) := ⟨rfl, rfl, rfl, by decide +kernel, rfl, by decide +kernel, by decide +kernel⟩
abbrev s_l_run : Stmt := topS 48
theorem sc_l_run : FnScope ["_law_text", "_law_at", "_law_is_good"] ["_law_text", "_law_at", "_law_is_good"] (defScope s_l_run) := ⟨rfl, rfl, rfl, by decide +kernel, rfl, by decide +kernel, by decide +kernel⟩
abbrev s_l_is_digit : Stmt := topS 49
theorem sc_l_is_digit : FnScope ["_law_sign"] ["_law_sign"] (defScope s_l_is_digit) := ⟨rfl, rfl, rfl, by decide +kernel, rfl, by decide +kernel, by decide +kernel⟩
abbrev s_l_quote_end : Stmt := topS 50
theorem sc_l_quote_end : FnScope ["_law_text", "_law_at"] ["_law_text", "_law_at"] (defScope s_l_quote_end) := ⟨rfl, rfl, rfl, by decide +kernel, rfl, by decide +kernel, by decide +kernel⟩
abbrev s_l_word_end : Stmt := topS 51
theorem sc_l_word_end : FnScope ["_law_text", "_law_at", "_law_sign", "_law_end", "_law_more"] ["_law_text", "_law_at"] (defScope s_l_word_end) := ⟨rfl, rfl, rfl, by decide +kernel, rfl, by decide +kernel, by decide +kernel⟩
abbrev s_l_cut : Stmt := topS 52
theorem sc_l_cut : FnScope ["_law_text", "_law_found", "_law_at", "_law_end"] ["_law_text"] (defScope s_l_cut) := ⟨rfl, rfl, rfl, by decide +kernel, rfl, by decide +kernel, by decide +kernel⟩
abbrev s_l_do_part : Stmt := topS 53
theorem sc_l_do_part : FnScope ["_law_one_here", "_law_other"] ["_law_one_here", "_law_other"] (defScope s_l_do_part) := ⟨rfl, rfl, rfl, by decide +kernel, rfl, by decide +kernel, by decide +kernel⟩
abbrev s_l_gap : Stmt := topS 54
theorem sc_l_gap : FnScope ["_law_bag_here", "_law_one_here", "_law_other", "_law_loose", "_law_menu", "_law_gap_here"] ["_law_bag_here", "_law_one_here", "_law_other", "_law_loose"] (defScope s_l_gap) := ⟨rfl, rfl, rfl, by decide +kernel, rfl, by decide +kernel, by decide +kernel⟩
abbrev s_l_written : Stmt := topS 55
theorem sc_l_written : FnScope ["_law_bag_here", "_law_words_here", "_law_loose", "_law_many", "_law_text", "_law_last", "_law_word", "_law_is_row", "_law_turn", "_law_comment_here", "_law_gap_here"] ["_law_bag_here", "_law_words_here", "_law_loose", "_law_many"] (defScope s_l_written) := ⟨rfl, rfl, rfl, by decide +kernel, rfl, by decide +kernel, by decide +kernel⟩
abbrev s_l_some_text : Stmt := topS 56
theorem sc_l_some_text : FnScope ["_law_bag_here", "_law_many", "_law_program_here", "_law_words_here"] ["_law_bag_here", "_law_many"] (defScope s_l_some_text) := ⟨rfl, rfl, rfl, by decide +kernel, rfl, by decide +kernel, by decide +kernel⟩
abbrev s_l_hurt : Stmt := topS 57
theorem sc_l_hurt : FnScope ["_law_bag_here", "_law_text", "_law_at", "_law_way", "_law_more"] ["_law_bag_here", "_law_text"] (defScope s_l_hurt) := ⟨rfl, rfl, rfl, by decide +kernel, rfl, by decide +kernel, by decide +kernel⟩
abbrev s_l_alike : Stmt := topS 62
theorem sc_l_alike : FnScope ["_law_found", "_law_due"] ["_law_found", "_law_due"] (defScope s_l_alike) := ⟨rfl, rfl, rfl, by decide +kernel, rfl, by decide +kernel, by decide +kernel⟩
abbrev s_l_kind : Stmt := topS 58
theorem sc_l_kind : FnScope ["_law_word"] ["_law_word"] (defScope s_l_kind) := ⟨rfl, rfl, rfl, by decide +kernel, rfl, by decide +kernel, by decide +kernel⟩
abbrev s_l_place : Stmt := topS 59
theorem sc_l_place : FnScope ["_law_text", "_law_index", "_law_ahead"] ["_law_text", "_law_index"] (defScope s_l_place) := ⟨rfl, rfl, rfl, by decide +kernel, rfl, by decide +kernel, by decide +kernel⟩
abbrev s_l_cut_all : Stmt := topS 60
theorem sc_l_cut_all : FnScope ["_law_text", "_law_tokens", "_law_faults", "_law_at", "_law_end", "_law_big", "_law_reason"] ["_law_text"] (defScope s_l_cut_all) := ⟨rfl, rfl, rfl, by decide +kernel, rfl, by decide +kernel, by decide +kernel⟩
abbrev s_l_paired : Stmt := topS 61
theorem sc_l_paired : FnScope ["_law_text", "_law_tokens", "_law_pairs", "_law_faults", "_law_opened", "_law_at", "_law_kind_here", "_law_word", "_law_begin"] ["_law_text", "_law_tokens"] (defScope s_l_paired) := ⟨rfl, rfl, rfl, by decide +kernel, rfl, by decide +kernel, by decide +kernel⟩
abbrev s_p_law : Stmt := topS 63
theorem sc_p_law : FnScope ["_law_script", "_law_bag_here", "_law_turn", "_law_text", "_law_signs", "_law_again", "_law_tokens", "_law_due", "_law_told", "_law_depth", "_law_bare", "_law_at", "_law_token", "_law_k", "_law_one_here"] ["_law_script"] (defScope s_p_law) := ⟨rfl, rfl, rfl, by decide +kernel, rfl, by decide +kernel, by decide +kernel⟩
def kd_CLOSING : List (Key × V) := [(.inr "(", .str ")"), (.inr "[", .str "]"), (.inr "{", .str "}")]
def tp_KEYWORDS : List Str := ["let", "set", "give", "if", "else", "while", "for", "in", "def", "fn", "and", "or", "not", "true", "false", "none"]
def tp_ESCAPES : List Str := ["\\\"", "\\\\", "\\n", "\\t"]
def tp_SIGNS : List Str := ["==", "!=", "<=", ">=", "->", "(", ")", "[", "]", "{", "}", ",", ";", ":", ".", "=", "<", ">", "+", "-", "*", "/", "^"]
structure Txt (K : PySem.W.Frag) (mg : Str → Option Value) (w : World) : Prop where
  d_p_line_end : DefIn K mg "line_end" s_p_line_end ["text", "begin"]
  d_p_run_end : DefIn K mg "_run_end" s_p_run_end ["text", "begin", "signs"]
  d_p_number_end : DefIn K mg "_number_end" s_p_number_end ["text", "begin"]
  d_p_quote_end : DefIn K mg "_quote_end" s_p_quote_end ["text", "begin"]
  d_p_closed_end : DefIn K mg "_closed_end" s_p_closed_end ["text", "begin", "opening", "closing"]
  d_p_sign_end : DefIn K mg "_sign_end" s_p_sign_end ["text", "begin"]
  d_p_word_at : DefIn K mg "word_at" s_p_word_at ["text", "begin"]
  d_p_place_of : DefIn K mg "place_of" s_p_place_of ["text", "index"]
  d_p_behind_fault : DefIn K mg "_behind_fault" s_p_behind_fault ["text", "at", "reason"]
  d_p_cut : DefIn K mg "cut" s_p_cut ["text"]
  d_p_paired : DefIn K mg "paired" s_p_paired ["text", "tokens"]
  d_p_deep_at : DefIn K mg "deep_at" s_p_deep_at ["text", "tokens"]
  d_l_bag : DefIn K mg "_law_bag" s_l_bag ["_law_script"]
  d_l_take : DefIn K mg "_law_take" s_l_take ["_law_bag_here", "_law_many"]
  d_l_one : DefIn K mg "_law_one" s_l_one ["_law_bag_here", "_law_things"]
  d_l_keywords : DefIn K mg "_law_keywords" s_l_keywords []
  d_l_name : DefIn K mg "_law_name" s_l_name ["_law_bag_here"]
  d_l_atom : DefIn K mg "_law_atom" s_l_atom ["_law_bag_here"]
  d_l_names : DefIn K mg "_law_names" s_l_names ["_law_bag_here"]
  d_l_part : DefIn K mg "_law_part" s_l_part ["_law_bag_here", "_law_deep"]
  d_l_expression : DefIn K mg "_law_expression" s_l_expression ["_law_bag_here", "_law_deep"]
  d_l_block : DefIn K mg "_law_block" s_l_block ["_law_bag_here", "_law_deep"]
  d_l_if : DefIn K mg "_law_if" s_l_if ["_law_bag_here", "_law_deep"]
  d_l_statement : DefIn K mg "_law_statement" s_l_statement ["_law_bag_here", "_law_deep"]
  d_l_flat : DefIn K mg "_law_flat" s_l_flat ["_law_rows"]
  d_l_row_words : DefIn K mg "_law_row_words" s_l_row_words ["_law_words_here"]
  d_l_sign_level : DefIn K mg "_law_sign_level" s_l_sign_level ["_law_sign"]
  d_l_level : DefIn K mg "_law_level" s_l_level ["_law_tree"]
  d_l_sides : DefIn K mg "_law_sides" s_l_sides ["_law_sign"]
  d_l_between : DefIn K mg "_law_between" s_l_between ["_law_rows"]
  d_l_words : DefIn K mg "_law_words" s_l_words ["_law_bag_here", "_law_tree", "_law_is_ahead"]
  d_l_inner : DefIn K mg "_law_inner" s_l_inner ["_law_bag_here", "_law_tree", "_law_least", "_law_is_ahead"]
  d_l_block_words : DefIn K mg "_law_block_words" s_l_block_words ["_law_bag_here", "_law_block_here"]
  d_l_statement_words : DefIn K mg "_law_statement_words" s_l_statement_words ["_law_bag_here", "_law_statement_here"]
  d_l_program_words : DefIn K mg "_law_program_words" s_l_program_words ["_law_bag_here", "_law_program_here"]
  d_l_program : DefIn K mg "_law_program" s_l_program ["_law_bag_here", "_law_many", "_law_deep"]
  d_l_comment : DefIn K mg "_law_comment" s_l_comment ["_law_bag_here"]
  d_l_is_letter : DefIn K mg "_law_is_letter" s_l_is_letter ["_law_sign"]
  d_l_run : DefIn K mg "_law_run" s_l_run ["_law_text", "_law_at", "_law_is_good"]
  d_l_is_digit : DefIn K mg "_law_is_digit" s_l_is_digit ["_law_sign"]
  d_l_quote_end : DefIn K mg "_law_quote_end" s_l_quote_end ["_law_text", "_law_at"]
  d_l_word_end : DefIn K mg "_law_word_end" s_l_word_end ["_law_text", "_law_at"]
  d_l_cut : DefIn K mg "_law_cut" s_l_cut ["_law_text"]
  d_l_do_part : DefIn K mg "_law_do_part" s_l_do_part ["_law_one_here", "_law_other"]
  d_l_gap : DefIn K mg "_law_gap" s_l_gap ["_law_bag_here", "_law_one_here", "_law_other", "_law_loose"]
  d_l_written : DefIn K mg "_law_written" s_l_written ["_law_bag_here", "_law_words_here", "_law_loose", "_law_many"]
  d_l_some_text : DefIn K mg "_law_some_text" s_l_some_text ["_law_bag_here", "_law_many"]
  d_l_hurt : DefIn K mg "_law_hurt" s_l_hurt ["_law_bag_here", "_law_text"]
  d_l_alike : DefIn K mg "_law_alike" s_l_alike ["_law_found", "_law_due"]
  d_l_kind : DefIn K mg "_law_kind" s_l_kind ["_law_word"]
  d_l_place : DefIn K mg "_law_place" s_l_place ["_law_text", "_law_index"]
  d_l_cut_all : DefIn K mg "_law_cut_all" s_l_cut_all ["_law_text"]
  d_l_paired : DefIn K mg "_law_paired" s_l_paired ["_law_text", "_law_tokens"]
  d_p_law : DefIn K mg "law" s_p_law ["_law_script"]
  n_abs : mg "abs" = none
  n_int : mg "int" = none
  n_len : mg "len" = none
  n_range : mg "range" = none
  n_tuple : mg "tuple" = none
  n_enumerate : mg "enumerate" = none
  n_repr : mg "repr" = none
  n_sorted : mg "sorted" = none
  n_dict : mg "dict" = none
  g_LETTERS : ∃ u, mg "LETTERS" = some u ∧ RelV (.str "ABCDEFGHIJKLMNOPQRSTUVWXYZ_abcdefghijklmnopqrstuvwxyz") u
  g_DIGITS : ∃ u, mg "DIGITS" = some u ∧ RelV (.str "0123456789") u
  k_CLOSING : ∃ d, mg "CLOSING" = some (.ref d) ∧ KD K w d kd_CLOSING
  t_KEYWORDS : ∃ a, mg "KEYWORDS" = some (.ref a) ∧ ∀ H : Hp, SqT K H a (tp_KEYWORDS.map V.str)
  t_ESCAPES : ∃ a, mg "ESCAPES" = some (.ref a) ∧ ∀ H : Hp, SqT K H a (tp_ESCAPES.map V.str)
  t_SIGNS : ∃ a, mg "SIGNS" = some (.ref a) ∧ ∀ H : Hp, SqT K H a (tp_SIGNS.map V.str)
section
variable {P : Program} {w : World} {K : PySem.W.Frag} {mg : Str → Option Value} {base : Heap}

/-! the side of an operation; one step of a reading -/
local macro_rules | `(tactic| walk_at "side") => `(tactic| first
  | (show CMul _ _; first | exact Or.inr (by decide) | exact Or.inl (by decide) | (refine Or.inl ⟨?_, ?_⟩ <;> omega) | (refine Or.inr ⟨?_, ?_⟩ <;> omega))
  | (show CDivN _ _; refine ⟨?_, ?_⟩ <;> omega)
  | (show CPow _ _; exact ⟨by decide, by decide, by decide⟩)
  | (show (0 : Int) < _; first | decide | assumption | omega))
local macro_rules | `(tactic| walk_at "rd1") => `(tactic| first
  | refine ⟨_, _, rfl, rfl, (by walk_at "side"), ?_⟩
  | refine ⟨_, rfl, ?_⟩
  | refine ⟨_, _, rfl, rfl, ?_⟩
  | refine ⟨rfl, ?_⟩
  | refine .inl ⟨_, rfl, ?_⟩
  | refine ⟨_, _, _, _, rfl, rfl, SqL.of (by first | assumption | exact upd_same), atI_nat (j := _) rfl, ?_⟩
  | refine ⟨_, _, _, _, rfl, rfl, (by first | assumption | exact upd_same), rfl, ?_⟩)
local macro_rules | `(tactic| walk_at "rd") => `(tactic| repeat (walk_at "rd1"))

theorem cut_head (ns : List Int) (nn : ∀ n ∈ ns, (0 : Int) ≤ n) (i : Option Int) : ∃ x : Int, 0 ≤ x ∧ (cutV (ns.map V.int) i none ++ [V.int 0])[0]? = some (.int x) := by
  have hm : ∀ v ∈ cutV (ns.map V.int) i none, ∃ x : Int, 0 ≤ x ∧ v = .int x := fun v hv => by
    have h1 : v ∈ ns.map V.int := List.mem_of_mem_drop (List.mem_of_mem_take hv)
    obtain ⟨x, hx, rfl⟩ := List.mem_map.mp h1
    exact ⟨x, nn x hx, rfl⟩
  cases e : cutV (ns.map V.int) i none with
  | nil => exact ⟨0, by decide, rfl⟩
  | cons v r =>
    obtain ⟨x, h0, rfl⟩ := hm v (by rw [e]; exact List.mem_cons_self ..)
    exact ⟨x, h0, rfl⟩
theorem cut_size (ns : List Int) (nl : ns.length ≤ 63) (i : Option Int) : (cutV (ns.map V.int) i none).length + [V.int 0].length ≤ sizeLine := by
  have h := cutV_length (ns.map V.int) i none
  rw [List.length_map] at h
  exact Nat.le_trans (Nat.add_le_add_right (Nat.le_trans h nl) 1) (by decide)
theorem c_l_take (T : Txt K mg w) : Cal P w K mg base 1 "_law_take" spTake [] := by
  refine calOf T.d_l_take sc_l_take (fun vs H Q E h => ?_) (fun f cdv A outer s H vs Q E hr h => ?_)
  · obtain ⟨g, n, c, e, rfl, _⟩ := h
    rfl
  · obtain ⟨g, n, c, e, rfl, B, n0, n1, k⟩ := h
    have hLb := B.ne
    obtain ⟨z, m, i, ns, hb, hL, z0, m0, m1, i0, nn, nl⟩ := B.ex
    refine ⟨_,
      (Evl.pss_cut (ps_if (pt_cmpR op_eq (pe_ix ix_list (pv 0) pe_int (fun _ _ => rfl)) pe_int (nomark _))
        (pss_cons (ps_set (i := 2) sc_l_take.nd rfl (Or.inl rfl) (pe_ix ix_list (pe_op op_cat (pe_slice sl_list (pe_ix ix_list (pv 0) pe_int (fun _ _ => rfl)) (po_some (pe_ix ix_list (pv 0) pe_int (fun _ _ => rfl))) po_none) (pe_lst (pa_cons pe_int pa_nil))) pe_int (fun _ _ => rfl)))
        (pss_cons (ps_augS (pv 0) pe_int get_list pe_int ip_add set_list)
        (pss_cons (ps_if (pt_cmpR op_ge (pv 2) (pe_op op_pow pe_int pe_int) (nomark _))
        (pss_one (ps_asg (pv 2) (pg_sub (pv 0) pe_int set_list)))
        pss_nil)
        (pss_cons (ps_set (i := 3) sc_l_take.nd rfl (Or.inl rfl) (pe_op op_add (pe_op op_add (pe_op op_mul (pe_ix ix_list (pv 0) pe_int (fun _ _ => rfl)) pe_int) (pe_op op_mod (pe_callTy call_int1 (by rfl) T.n_int (by decide +kernel) (pa_cons (pv 2) pa_nil)) pe_int)) (pe_op op_mul pe_int (pe_ix ix_list (pv 0) pe_int (fun _ _ => rfl)))))
        (pss_one (ps_asg (pe_op op_mod (pe_callTy call_int1 (by rfl) T.n_int (by decide +kernel) (pa_cons (pv 3) pa_nil)) pe_int) (pg_sub (pv 0) pe_int set_list)))))))
        pss_nil)
        (pss_cons (ps_if (pt_cmpR op_gt (pe_ix ix_list (pv 0) pe_int (fun _ _ => rfl)) pe_int (nomark _))
        (pss_cons (ps_set (i := 4) sc_l_take.nd rfl (Or.inl rfl) (pe_op op_mod (pe_callTy call_int1 (by rfl) T.n_int (by decide +kernel) (pa_cons (pe_ix ix_list (pv 0) pe_int (fun _ _ => rfl)) pa_nil)) (pv 1)))
        (pss_cons (ps_asg (pe_op op_fdivN (pe_callTy call_int1 (by rfl) T.n_int (by decide +kernel) (pa_cons (pe_ix ix_list (pv 0) pe_int (fun _ _ => rfl)) pa_nil)) (pv 1)) (pg_sub (pv 0) pe_int set_list))
        (pss_one (ps_ret (pv 4)))))
        pss_nil)
        (pss_cons (ps_set (i := 5) sc_l_take.nd rfl (Or.inl rfl) (pe_op op_mod (pe_callTy call_int1 (by rfl) T.n_int (by decide +kernel) (pa_cons (pe_op op_mul (pe_op op_add (pe_ix ix_list (pv 0) pe_int (fun _ _ => rfl)) pe_int) pe_int) pa_nil)) pe_int))
        (pss_cons (ps_set (i := 6) sc_l_take.nd rfl (Or.inl rfl) (pe_op op_mod (pe_callTy call_int1 (by rfl) T.n_int (by decide +kernel) (pa_cons (pe_op op_mul (pe_op op_mod (pe_callTy call_int1 (by rfl) T.n_int (by decide +kernel) (pa_cons (pe_op op_mul (pv 5) (pv 5)) pa_nil)) pe_int) pe_int) pa_nil)) pe_int))
        (pss_one (ps_ret (pe_op op_mod (pe_callTy call_int1 (by rfl) T.n_int (by decide +kernel) (pa_cons (pe_op op_fdivN (pv 6) pe_int) pa_nil)) (pv 1))))))))
      , ?_⟩
    refine ⟨fun σ' H' => ∃ (z1 m1 i1 : Int) (v2 v3 : Option V), σ' = [some (.ref g.b), some (.int n), v2, v3, none, none, none] ∧ Fr g.b H H' ∧
        H' g.b = some (.lst [.int z1, .int m1, .int i1, .ref g.L, .int c, .int e]) ∧ 0 ≤ z1 ∧ 0 ≤ m1 ∧ m1 < 2147483647 ∧ 0 ≤ i1, ?_, ?_⟩
    · walk_at "rd"
      refine ite2 (fun h1 => ?_) (fun h1 => ?_)
      · walk_at "rd"
        refine ⟨_, _, rfl, SqL.of hL, fun p hp => ⟨(by decide), fun q hq => ⟨_, _, _, _, rfl, rfl, upd_some upd_same hq, upd_same, cut_size ns nl _, fun r hr => ?_⟩⟩⟩
        obtain ⟨x, x0, hx⟩ := cut_head ns nn (some i)
        refine ⟨_, _, _, _, rfl, rfl, SqL.of upd_same, atI_nat (j := 0) hx, ?_⟩
        have hb3 := upd_some (u := .lst (cutV (ns.map V.int) (some i) none ++ [.int 0])) (upd_some (u := .lst [.int 0]) (upd_some (u := .lst (cutV (ns.map V.int) (some i) none)) hb hp) hq) hr
        have fr3 : Fr g.b H _ := (((Fr.refl g.b H).new (o := .lst (cutV (ns.map V.int) (some i) none)) hp).new (o := .lst [.int 0]) hq).new (o := .lst (cutV (ns.map V.int) (some i) none ++ [.int 0])) hr
        generalize upd (upd (upd H p _) q _) r _ = H3 at hb3 fr3 ⊢
        -- bag[2] += 1
        walk_at "rd"
        have fr4 : ∀ o1 o2 : HO, Fr g.b H (upd (upd H3 g.b o1) g.b o2) := fun o1 o2 => fr3.at.at
        have md : ∀ y : Int, 0 ≤ y % 2147483647 ∧ y % 2147483647 < 2147483647 := fun y => ⟨Int.emod_nonneg _ (by decide), Int.emod_lt_of_pos _ (by decide)⟩
        refine ite2 (fun h2 => ?_) (fun h2 => ?_)
        · walk_at "rd"
          exact ⟨x, _, i + 1, _, _, rfl, fr3.at.at.at, upd_same, x0, (md _).1, (md _).2, by omega⟩
        · walk_at "rd"
          exact ⟨z, _, i + 1, _, _, rfl, fr3.at.at, upd_same, z0, (md _).1, (md _).2, by omega⟩
      · exact ⟨z, m, i, none, none, rfl, .refl _ _, hb, z0, m0, m1, i0⟩
    · rintro σ' H' ⟨z1, m1, i1, v2, v3, rfl, fr, hb1, z0, m0, mL, i0⟩
      have hn : ∀ y : Int, 0 ≤ y % n ∧ y % n < n := fun y => ⟨Int.emod_nonneg _ (by omega), Int.emod_lt_of_pos _ n0⟩
      walk_at "rd"
      refine ite2 (fun h1 => ?_) (fun h1 => ?_)
      · walk_at "rd"
        refine k _ _ (hn _).1 (hn _).2 (Drawn.mk' B ⟨⟨_, m1, i1, ns, upd_same, by rw [upd_ne hLb]; exact fr _ _ hLb hL, Int.fdiv_nonneg z0 (Int.le_of_lt n0), m0, mL, i0, nn, nl⟩, hLb⟩ fr.at)
      · walk_at "rd"
        exact k _ _ (hn _).1 (hn _).2 (Drawn.mk' B ⟨⟨z1, m1, i1, ns, hb1, fr _ _ hLb hL, z0, m0, mL, i0, nn, nl⟩, hLb⟩ fr)

theorem c_l_one (T : Txt K mg w) (c_l_take : Cal P w K mg base 1 "_law_take" spTake []) : Cal P w K mg base 2 "_law_one" (spOne K) [] := by
  refine calOf T.d_l_one sc_l_one (fun vs H Q E h => ?_) (fun f cdv A outer s H vs Q E hr h => ?_)
  · obtain ⟨g, x, c, e, rfl, _⟩ := h
    rfl
  · obtain ⟨g, x, c, e, rfl, B, h⟩ := h
    refine ⟨_,
      (pss_one (ps_ret (pe_ix ix_seq (pv 1) (pe_c c_l_take hr (by first | decide | omega) rfl (pa_cons (pv 0) (pa_cons (pe_callB call_len (by rfl) T.n_len PySem.boot_len (pa_cons (pv 1) pa_nil)) pa_nil))) (fun _ _ => rfl))))
      , ?_⟩
    rcases h with ⟨p, xs, rfl, hq, pb, h0, h1, k⟩ | ⟨z, rfl, h0, h1, k⟩
    · refine ⟨_, rfl, _, rfl, _, rfl, _, xs.length, rfl, hq.elim (fun q => .inl ⟨_, q, rfl⟩) (fun q => .inr ⟨_, q, rfl⟩), g, xs.length, c, e, rfl, B, by omega, by omega, fun r H' r0 r1 D => ?_⟩
      obtain ⟨v, hv, ha⟩ := at_of r0 r1
      rcases hq with q | q
      · exact .inl ⟨_, _, _, _, rfl, rfl, D.seqL pb q, ha, k v H' hv D⟩
      · exact .inr (.inl ⟨_, _, _, _, rfl, rfl, D.seqT pb q, ha, k v H' hv D⟩)
    · have hz : z.length ≤ sizeLine := Nat.le_trans (Nat.le_of_lt h1) (by decide)
      refine ⟨_, rfl, _, rfl, _, rfl, _, z.length, rfl, ⟨hz, rfl⟩, g, z.length, c, e, rfl, B, by omega, by omega, fun r H' r0 r1 D => ?_⟩
      obtain ⟨v, hv, ha⟩ := at_of (xs := z.cps.toList) r0 (by simpa [Str.length] using r1)
      exact .inr (.inr ⟨_, _, _, rfl, rfl, hz, ha, k v H' hv D⟩)

def kws : List Str := ["let", "set", "give", "if", "else", "while", "for", "in", "def", "fn", "and", "or", "not", "true", "false", "none"]
theorem kws_split : Txt.split "let set give if else while for in def fn and or not true false none" " " = kws := by decide +kernel
def spKws : Sp := fun vs H Q _ => vs = [] ∧ ∀ p, H p = none → Q (.ref p) (upd H p (.lst (kws.map V.str)))
theorem c_l_keywords (T : Txt K mg w) : Cal P w K mg base 1 "_law_keywords" spKws [] := by
  refine calOf T.d_l_keywords sc_l_keywords (fun vs H Q E h => ?_) (fun f cdv A outer s H vs Q E hr h => ?_)
  · obtain ⟨rfl, _⟩ := h
    rfl
  · obtain ⟨rfl, k⟩ := h
    refine ⟨_,
      (pss_one (ps_ret (pe_split pe_str pe_str)))
      , ?_⟩
    refine ⟨⟨_, rfl⟩, _, _, rfl, rfl, rfl, by decide, fun p hp => ?_⟩
    rw [kws_split]
    exact k p hp

def isLetter (c : Nat) : Bool := (decide (65 ≤ c) && decide (c ≤ 90)) || decide (c = 95) || (decide (97 ≤ c) && decide (c ≤ 122))
def isDigit (c : Nat) : Bool := decide (48 ≤ c) && decide (c ≤ 57)
/-- a word that is a name of the language -/
def nameL (l : List Nat) : Bool := match l with
  | [] => false
  | c :: r => isLetter c && r.all fun d => isLetter d || isDigit d
structure NameOk (z : Str) : Prop where
  form : nameL z.cps.toList = true
  free : z ∉ kws
  size : z.length ≤ 12
def spName : Sp := fun vs H Q _ => ∃ (g : Bg) (c e : Int), vs = [.ref g.b] ∧ Bag H g c e ∧
  ∀ (z : Str) (H' : Hp), NameOk z → Drawn g H H' c e → Q (.str z) H'
def someNames : List Str := ["a", "b", "x1", "total", "_", "longer_name", "iff", "in2", "K"]
theorem someNames_ok : ∀ z ∈ someNames, NameOk z := by
  have h : someNames.all (fun z => nameL z.cps.toList && decide (z ∉ kws) && decide (z.length ≤ 12)) = true := by decide +kernel
  intro z hz
  have q := List.all_eq_true.mp h z hz
  rw [Bool.and_eq_true, Bool.and_eq_true] at q
  exact ⟨q.1.1, of_decide_eq_true q.1.2, of_decide_eq_true q.2⟩
theorem letters_ok : ∀ h ∈ (("abcdefghijklmnopqrstuvwxyzABCDEFGHIJKLMNOPQRSTUVWXYZ_" : Str)).cps.toList, isLetter h = true := by
  have h : (("abcdefghijklmnopqrstuvwxyzABCDEFGHIJKLMNOPQRSTUVWXYZ_" : Str)).cps.toList.all isLetter = true := by decide +kernel
  exact fun z hz => List.all_eq_true.mp h z hz
theorem more_ok : ∀ h ∈ (("abcdefghijklmnopqrstuvwxyzABCDEFGHIJKLMNOPQRSTUVWXYZ_" ++ "0123456789" : Str)).cps.toList, (isLetter h || isDigit h) = true := by
  have h : (("abcdefghijklmnopqrstuvwxyzABCDEFGHIJKLMNOPQRSTUVWXYZ_" ++ "0123456789" : Str)).cps.toList.all (fun h => isLetter h || isDigit h) = true := by decide +kernel
  exact fun z hz => List.all_eq_true.mp h z hz
theorem str_app (x y : Str) : (x ++ y).cps.toList = x.cps.toList ++ y.cps.toList := TL.tl_append x y
theorem str_len (x : Str) : x.length = x.cps.toList.length := by simp [Str.length]
theorem nameL_app {l : List Nat} {d : Nat} (h : nameL l = true) (hd : (isLetter d || isDigit d) = true) : nameL (l ++ [d]) = true := by
  cases l with
  | nil => cases h
  | cons c r =>
    have h' : (isLetter c && r.all fun d => isLetter d || isDigit d) = true := h
    rw [Bool.and_eq_true] at h'
    show (isLetter c && (r ++ [d]).all fun d => isLetter d || isDigit d) = true
    rw [Bool.and_eq_true, List.all_append, Bool.and_eq_true]
    exact ⟨h'.1, h'.2, by rw [List.all_cons, List.all_nil, hd] <;> rfl⟩
theorem kw_under {z : Str} (h : z ∈ kws) : z ++ ("_" : Str) ∉ kws := by
  have q : kws.all (fun z => decide (z ++ ("_" : Str) ∉ kws)) = true := by decide +kernel
  exact of_decide_eq_true (List.all_eq_true.mp q z h)
theorem strs_mem {z : V} {l : List Str} (h : z ∈ l.map V.str) : ∃ s ∈ l, z = .str s := by
  obtain ⟨s, hs, rfl⟩ := List.mem_map.mp h
  exact ⟨s, hs, rfl⟩
theorem strs_flat (l : List Str) : (l.map V.str).all flatV = true := by
  rw [List.all_map]
  exact List.all_eq_true.mpr fun _ _ => rfl
theorem inV_strs (z : Str) (l : List Str) : inV (.str z) (l.map V.str) = decide (z ∈ l) := by
  unfold inV
  induction l with
  | nil => rfl
  | cons y r ih =>
    rw [List.map_cons, List.any_cons, ih]
    have e : eqV (.str y) (.str z) = decide (y = z) := rfl
    rw [e]
    by_cases h : y = z
    · subst h
      simp
    · have h' : z ≠ y := fun q => h q.symm
      simp [h, h']
theorem c_l_name (T : Txt K mg w) (c_l_take : Cal P w K mg base 1 "_law_take" spTake []) (c_l_one : Cal P w K mg base 2 "_law_one" (spOne K) [])
    (c_l_keywords : Cal P w K mg base 1 "_law_keywords" spKws []) : Cal P w K mg base 3 "_law_name" spName [] := by
  refine calOf T.d_l_name sc_l_name (fun vs H Q E h => ?_) (fun f cdv A outer s H vs Q E hr h => ?_)
  · obtain ⟨g, c, e, rfl, _⟩ := h
    rfl
  · obtain ⟨g, c, e, rfl, B, k⟩ := h
    refine ⟨_,
      (pss_cons (ps_if (pt_cmpR op_gt (pe_c c_l_take hr (by first | decide | omega) rfl (pa_cons (pv 0) (pa_cons pe_int pa_nil))) pe_int (nomark _))
        (pss_one (ps_ret (pe_c c_l_one hr (by first | decide | omega) rfl (pa_cons (pv 0) (pa_cons (pe_lst (pa_cons pe_str (pa_cons pe_str (pa_cons pe_str (pa_cons pe_str (pa_cons pe_str (pa_cons pe_str (pa_cons pe_str (pa_cons pe_str (pa_cons pe_str pa_nil)))))))))) pa_nil)))))
        pss_nil)
        (pss_cons (ps_set (i := 1) sc_l_name.nd rfl (Or.inl rfl) pe_str)
        (pss_cons (ps_set (i := 2) sc_l_name.nd rfl (Or.inl rfl) (pe_c c_l_one hr (by first | decide | omega) rfl (pa_cons (pv 0) (pa_cons (pv 1) pa_nil))))
        (pss_cons (ps_for PassesOwn.never rfl (pi_range1 (by rfl) T.n_range (pa_cons (pe_c c_l_take hr (by first | decide | omega) rfl (pa_cons (pv 0) (pa_cons pe_int pa_nil))) pa_nil)) (pg_name (i := 3) sc_l_name.nd rfl (Or.inl rfl))
        (pss_one (ps_set (i := 2) sc_l_name.nd rfl (Or.inl rfl) (pe_op op_add_str (pv 2) (pe_c c_l_one hr (by first | decide | omega) rfl (pa_cons (pv 0) (pa_cons (pe_op op_add_str (pv 1) pe_str) pa_nil)))))))
        (pss_one (ps_ret (pe_ifExp (pt_cmpR op_in_seq (pv 2) (pe_c0 c_l_keywords hr (by first | decide | omega) rfl) (by rfl)) (pe_op op_add_str (pv 2) pe_str) (pv 2))))))))
      , ?_⟩
    refine ⟨_, rfl, g, 4, c, e, rfl, B, by decide, by decide, fun r H1 r0 r1 D1 => ?_⟩
    walk_at "rd"
    refine ite2 (fun h1 => ?_) (fun h1 => ?_)
    · refine ⟨_, rfl, by decide, fun p hp => ?_⟩
      have D2 := D1.new (o := .lst (someNames.map V.str)) hp
      refine ⟨g, _, c, e, rfl, D2.bag, .inl ⟨p, someNames.map V.str, rfl, .inl (SqL.of upd_same), D1.bag.ne_new hp, by decide, by decide, fun v H' hv D3 => ?_⟩⟩
      obtain ⟨z, hz, rfl⟩ := strs_mem hv
      exact k z H' (someNames_ok z hz) (D2.trans D3)
    · walk_at "rd"
      refine ⟨g, _, c, e, rfl, D1.bag, .inr ⟨_, rfl, by decide, by decide, fun d H2 hd D2 => ?_⟩⟩
      have D12 := D1.trans D2
      walk_at "rd"
      refine ⟨g, _, c, e, rfl, D12.bag, by decide, by decide, fun r2 H3 r20 r21 D3 => ⟨_, rfl, by omega, by omega, ?_⟩⟩
      refine for_range (lo := 0) (n := r2.toNat) (fun i σ H' => ∃ (z : Str) (v : Option V), σ = [some (.ref g.b), some (.str "abcdefghijklmnopqrstuvwxyzABCDEFGHIJKLMNOPQRSTUVWXYZ_"), some (.str z), v] ∧
        nameL z.cps.toList = true ∧ z.length = i + 1 ∧ Drawn g H H' c e) ⟨⟨#[d]⟩, none, rfl, ?_, rfl, D12.trans D3⟩ ?_ ?_
      · show (isLetter d && true) = true
        rw [letters_ok d hd] <;> rfl
      · rintro i σ H' hi ⟨z, v, rfl, hz, hl, D⟩
        walk_at "rd"
        refine ⟨by decide, g, _, c, e, rfl, D.bag, .inr ⟨_, rfl, by decide, by decide, fun d2 H2 hd2 D2 => ?_⟩⟩
        have e1 : (⟨#[d2]⟩ : Str).length = 1 := rfl
        refine ⟨_, _, rfl, rfl, by rw [hl, e1]; exact Nat.le_trans (show i + 1 + 1 ≤ 9 by omega) (by decide), ?_⟩
        refine ⟨_, _, rfl, ?_, ?_, D.trans D2⟩
        · rw [str_app]
          exact nameL_app hz (more_ok d2 hd2)
        · rw [Str.length_append, hl, e1]
      · rintro σ H' ⟨z, v, rfl, hz, hl, D⟩
        refine ⟨_, rfl, rfl, fun p hp => ?_⟩
        refine ⟨p, kws.map V.str, rfl, .inl (SqL.of upd_same), rfl, strs_flat _, _, rfl, ?_⟩
        have D' := D.new (o := .lst (kws.map V.str)) hp
        rw [if_neg Bool.false_ne_true, inV_strs]
        refine ite2 (fun h2 => ?_) (fun h2 => ?_)
        · have e1 : ("_" : Str).length = 1 := rfl
          refine ⟨_, rfl, _, _, rfl, rfl, by rw [hl, e1]; exact Nat.le_trans (show r2.toNat + 1 + 1 ≤ 9 by omega) (by decide), ?_⟩
          refine k _ _ ⟨?_, kw_under (of_decide_eq_true h2), ?_⟩ D'
          · rw [str_app]
            exact nameL_app hz rfl
          · rw [Str.length_append, hl, e1]
            omega
        · exact ⟨_, rfl, k _ _ ⟨hz, fun q => h2 (decide_eq_true q), by omega⟩ D'⟩

def numbersL : List Str := ["0", "1", "12", "3.5", "007", "10.0", "4689", "86.94"]
def quotesL : List Str := ["\"\"", "\"a b\"", "\"\\\"\\n\"", "\"# <* ;\"", "\"'''\"", "\"\\\\\"", "\"\\t\""]
def constsL : List Str := ["true", "false", "none"]
def rawsL : List Str := ["''''''", "'''a\nb'''", "'''  # x '''", "'''\n'''", "'''\" ''x'''"]
/-- a word of its kind -/
inductive Leaf : Str → Str → Prop
  | name {w : Str} : NameOk w → Leaf "name" w
  | number {w : Str} : w ∈ numbersL → Leaf "number" w
  | quote {w : Str} : w ∈ quotesL → Leaf "quote" w
  | word {w : Str} : w ∈ constsL → Leaf "word" w
  | raw {w : Str} : w ∈ rawsL → Leaf "raw" w
def spAtom : Sp := fun vs H Q _ => ∃ (g : Bg) (c e : Int), vs = [.ref g.b] ∧ Bag H g c e ∧
  ∀ (v : V) (k w : Str) (H' : Hp), Leaf k w → Tr H' v (.tuple [.str k, .str w]) → Drawn g H H' c e → Q v H'
theorem pair_tr {H : Hp} {p : Addr} (k w : Str) : Tr (upd H p (.tup [.str k, .str w])) (.ref p) (.tuple [.str k, .str w]) := .tup upd_same (.cons (.str k) (.cons (.str w) .nil))
theorem c_l_atom (T : Txt K mg w) (c_l_take : Cal P w K mg base 1 "_law_take" spTake []) (c_l_one : Cal P w K mg base 2 "_law_one" (spOne K) [])
    (c_l_name : Cal P w K mg base 3 "_law_name" spName []) : Cal P w K mg base 4 "_law_atom" spAtom [] := by
  refine calOf T.d_l_atom sc_l_atom (fun vs H Q E h => ?_) (fun f cdv A outer s H vs Q E hr h => ?_)
  · obtain ⟨g, c, e, rfl, _⟩ := h
    rfl
  · obtain ⟨g, c, e, rfl, B, k⟩ := h
    refine ⟨_,
      (pss_cons (ps_set (i := 1) sc_l_atom.nd rfl (Or.inl rfl) (pe_c c_l_take hr (by first | decide | omega) rfl (pa_cons (pv 0) (pa_cons pe_int pa_nil))))
        (pss_cons (ps_if (pt_cmpR op_lt (pv 1) pe_int (nomark _))
        (pss_one (ps_ret (pe_tup (pa_cons pe_str (pa_cons (pe_c c_l_name hr (by first | decide | omega) rfl (pa_cons (pv 0) pa_nil)) pa_nil)))))
        pss_nil)
        (pss_cons (ps_if (pt_cmpR op_lt (pv 1) pe_int (nomark _))
        (pss_one (ps_ret (pe_tup (pa_cons pe_str (pa_cons (pe_c c_l_one hr (by first | decide | omega) rfl (pa_cons (pv 0) (pa_cons (pe_lst (pa_cons pe_str (pa_cons pe_str (pa_cons pe_str (pa_cons pe_str (pa_cons pe_str (pa_cons pe_str (pa_cons pe_str (pa_cons pe_str pa_nil))))))))) pa_nil))) pa_nil)))))
        pss_nil)
        (pss_cons (ps_if (pt_cmpR op_eq (pv 1) pe_int (nomark _))
        (pss_cons (ps_set (i := 2) sc_l_atom.nd rfl (Or.inl rfl) (pe_lst (pa_cons pe_str (pa_cons pe_str (pa_cons pe_str (pa_cons pe_str (pa_cons pe_str (pa_cons pe_str (pa_cons pe_str pa_nil)))))))))
        (pss_one (ps_ret (pe_tup (pa_cons pe_str (pa_cons (pe_c c_l_one hr (by first | decide | omega) rfl (pa_cons (pv 0) (pa_cons (pv 2) pa_nil))) pa_nil))))))
        pss_nil)
        (pss_cons (ps_if (pt_cmpR op_eq (pv 1) pe_int (nomark _))
        (pss_one (ps_ret (pe_tup (pa_cons pe_str (pa_cons (pe_c c_l_one hr (by first | decide | omega) rfl (pa_cons (pv 0) (pa_cons (pe_lst (pa_cons pe_str (pa_cons pe_str (pa_cons pe_str pa_nil)))) pa_nil))) pa_nil)))))
        pss_nil)
        (pss_one (ps_ret (pe_tup (pa_cons pe_str (pa_cons (pe_c c_l_one hr (by first | decide | omega) rfl (pa_cons (pv 0) (pa_cons (pe_lst (pa_cons pe_str (pa_cons pe_str (pa_cons pe_str (pa_cons pe_str (pa_cons pe_str pa_nil)))))) pa_nil))) pa_nil))))))))))
      , ?_⟩
    -- one of some written texts, and the tuple of it
    have pick : ∀ (l : List Str) (kd : Str) (H1 : Hp), Drawn g H H1 c e → 0 < l.length → l.length < 1000 → (∀ w ∈ l, Leaf kd w) → ∀ p, H1 p = none →
        ∀ Q' : VK, (∀ w H3, Drawn g H H3 c e → w ∈ l → Q' (.str w) H3) → spOne K [.ref g.b, .ref p] (upd H1 p (.lst (l.map V.str))) Q' E0 := by
      intro l kd H1 D h0 h1 hl p hp Q' q
      have D2 := D.new (o := .lst (l.map V.str)) hp
      refine ⟨g, _, c, e, rfl, D2.bag, .inl ⟨p, l.map V.str, rfl, .inl (SqL.of upd_same), D.bag.ne_new hp, by rw [List.length_map]; exact h0, by rw [List.length_map]; exact h1, fun v H' hv D3 => ?_⟩⟩
      obtain ⟨z, hz, rfl⟩ := strs_mem hv
      exact q z H' (D2.trans D3) hz
    refine ⟨_, rfl, g, 8, c, e, rfl, B, by decide, by decide, fun r H1 r0 r1 D1 => ?_⟩
    walk_at "rd"
    refine ite2 (fun h1 => ?_) (fun h1 => ?_)
    · walk_at "rd"
      refine ⟨g, c, e, rfl, D1.bag, fun z H2 hz D2 => ⟨by show 2 ≤ sizeLine; decide, fun p hp => ?_⟩⟩
      exact k _ _ _ _ (.name hz) (pair_tr _ _) ((D1.trans D2).new hp)
    · walk_at "rd"
      refine ite2 (fun h2 => ?_) (fun h2 => ?_)
      · walk_at "rd"
        refine ⟨by decide, fun p hp => pick numbersL "number" H1 D1 (by decide) (by decide) (fun w hw => .number hw) p hp _ fun w H3 D3 hw => ⟨by show 2 ≤ sizeLine; decide, fun p2 hp2 => ?_⟩⟩
        exact k _ _ _ _ (.number hw) (pair_tr _ _) (D3.new hp2)
      · walk_at "rd"
        refine ite2 (fun h3 => ?_) (fun h3 => ?_)
        · walk_at "rd"
          refine ⟨by decide, fun p hp => ?_⟩
          walk_at "rd"
          refine pick quotesL "quote" H1 D1 (by decide) (by decide) (fun w hw => .quote hw) p hp _ fun w H3 D3 hw => ⟨by show 2 ≤ sizeLine; decide, fun p2 hp2 => ?_⟩
          exact k _ _ _ _ (.quote hw) (pair_tr _ _) (D3.new hp2)
        · walk_at "rd"
          refine ite2 (fun h4 => ?_) (fun h4 => ?_)
          · walk_at "rd"
            refine ⟨by decide, fun p hp => pick constsL "word" H1 D1 (by decide) (by decide) (fun w hw => .word hw) p hp _ fun w H3 D3 hw => ⟨by show 2 ≤ sizeLine; decide, fun p2 hp2 => ?_⟩⟩
            exact k _ _ _ _ (.word hw) (pair_tr _ _) (D3.new hp2)
          · walk_at "rd"
            refine ⟨by decide, fun p hp => pick rawsL "raw" H1 D1 (by decide) (by decide) (fun w hw => .raw hw) p hp _ fun w H3 D3 hw => ⟨by show 2 ≤ sizeLine; decide, fun p2 hp2 => ?_⟩⟩
            exact k _ _ _ _ (.raw hw) (pair_tr _ _) (D3.new hp2)

def spNames : Sp := fun vs H Q _ => ∃ (g : Bg) (c e : Int), vs = [.ref g.b] ∧ Bag H g c e ∧
  ∀ (v : V) (ns : List Str) (H' : Hp), (∀ n ∈ ns, NameOk n) → ns.length ≤ 2 → Tr H' v (.tuple (ns.map .str)) → Drawn g H H' c e → Q v H'
theorem c_l_names (T : Txt K mg w) (c_l_one : Cal P w K mg base 2 "_law_one" (spOne K) [])
    (c_l_name : Cal P w K mg base 3 "_law_name" spName []) : Cal P w K mg base 4 "_law_names" spNames [] := by
  refine calOf T.d_l_names sc_l_names (fun vs H Q E h => ?_) (fun f cdv A outer s H vs Q E hr h => ?_)
  · obtain ⟨g, c, e, rfl, _⟩ := h
    rfl
  · obtain ⟨g, c, e, rfl, B, k⟩ := h
    refine ⟨_,
      (pss_one (ps_ret (pe_callTy call_tuple_of (by rfl) T.n_tuple (by decide +kernel) (pa_cons (pe_lc (own := [("_law_turn", 1)]) (g := gName 1) (tt := tYes) rfl sc_l_names.nd (pi_range1 (by rfl) T.n_range (pa_cons (pe_c c_l_one hr (by first | decide | omega) rfl (pa_cons (pv 0) (pa_cons (pe_lst (pa_cons pe_int (pa_cons pe_int (pa_cons pe_int (pa_cons pe_int pa_nil))))) pa_nil))) pa_nil)) (blkOk_by (N := ["_law_bag_here", "_law_turn"]) (sc := defScope s_l_names) (by decide +kernel)) (fun _ _ _ _ _ => pg_name (i := 1) sc_l_names.nd rfl (Or.inl rfl)) (fun _ _ _ _ _ => pts_nil) (fun _ _ _ _ _ => (pe_c c_l_name hr (by first | decide | omega) rfl (pa_cons (pv 0) pa_nil)))) pa_nil))))
      , ?_⟩
    refine ⟨_, rfl, by decide, fun p hp => ?_⟩
    have D1 := (Drawn.of B).new (o := .lst [.int 0, .int 1, .int 2, .int 1]) hp
    refine ⟨g, _, c, e, rfl, D1.bag, .inl ⟨p, _, rfl, .inl (SqL.of upd_same), B.ne_new hp, by decide, by decide, fun v H2 hv D2 => ?_⟩⟩
    have D12 := D1.trans D2
    obtain ⟨n, hn, rfl⟩ : ∃ n : Nat, n ≤ 2 ∧ v = .int n := by
      simp only [List.mem_cons, List.not_mem_nil, or_false] at hv
      rcases hv with rfl | rfl | rfl | rfl
      · exact ⟨0, by decide, rfl⟩
      · exact ⟨1, by decide, rfl⟩
      · exact ⟨2, by decide, rfl⟩
      · exact ⟨1, by decide, rfl⟩
    refine ⟨_, rfl, by omega, by omega, fun D hD => ?_⟩
    refine lc_range (lo := 0) (n := ((n : Int)).toNat) (fun i H' => ∃ ns : List Str, (∀ n ∈ ns, NameOk n) ∧ ns.length = i ∧ H' D = some (.lst (ns.map V.str)) ∧ Drawn g H2 H' c e) ⟨[], by simp, rfl, upd_same, (Drawn.of D12.bag).put D12.bag hD⟩ ?_ ?_
    · rintro i H' hi ⟨ns, hns, hl, hd, Dw⟩
      refine ⟨rfl, _, rfl, g, c, e, rfl, Dw.bag, fun z H3 hz D3 => ?_⟩
      have nb := D12.bag.ne_new hD
      refine ⟨_, D3.keep nb hd, by rw [List.length_map, hl]; exact Nat.lt_of_lt_of_le (show i < 100 by omega) (by decide), ns ++ [z], ?_, ?_, ?_, (Dw.trans D3).put D12.bag hD⟩
      · intro n hn
        rcases List.mem_append.mp hn with h | h
        · exact hns n h
        · rw [List.mem_singleton.mp h]
          exact hz
      · rw [List.length_append, hl] <;> rfl
      · rw [upd_same, List.map_append] <;> rfl
    · rintro H' ⟨ns, hns, hl, hd, Dw⟩
      refine ⟨_, _, rfl, .inl ⟨SqL.of hd, fun q hq => ?_⟩⟩
      exact k _ ns _ hns (by omega) (.tup upd_same (TrAll.strs ns)) ((D12.trans Dw).new hq)

def signsL : List Str := ["+", "-", "*", "/", "*", "^", "==", "<", "<=", "!=", ">", ">=", "and", "or", "+", "-", "^"]
/-- the expressions that are drawn, by how deep they may be -/
inductive Ex : Nat → PyData → Prop
  | leaf {n : Nat} {k w : Str} : Leaf k w → Ex n (.tuple [.str k, .str w])
  | two {n : Nat} {o : Str} {l r : PyData} : o ∈ signsL → Ex n l → Ex n r → Ex (n + 1) (.tuple [.str "two", .str o, l, r])
  | not {n : Nat} {a : PyData} : Ex n a → Ex (n + 1) (.tuple [.str "not", a])
  | minus {n : Nat} {a : PyData} : Ex n a → Ex (n + 1) (.tuple [.str "minus", a])
  | call {n : Nat} {h : PyData} {ds : List PyData} : Ex n h → ds.length ≤ 3 → (∀ d ∈ ds, Ex n d) → Ex (n + 1) (.tuple [.str "call", h, .tuple ds])
  | field {n : Nat} {h : PyData} {z : Str} : Ex n h → NameOk z → Ex (n + 1) (.tuple [.str "field", h, .str z])
  | index {n : Nat} {a b : PyData} : Ex n a → Ex n b → Ex (n + 1) (.tuple [.str "index", a, b])
  | list {n : Nat} {ds : List PyData} : ds.length ≤ 3 → (∀ d ∈ ds, Ex n d) → Ex (n + 1) (.tuple [.str "list", .tuple ds])
  | map {n : Nat} {ps : List (PyData × PyData)} : ps.length ≤ 3 → (∀ p ∈ ps, Ex n p.1) → (∀ p ∈ ps, Ex n p.2) → Ex (n + 1) (.tuple [.str "map", .tuple (ps.map fun p => .tuple [p.1, p.2])])
  | fn {n : Nat} {ns : List Str} {b : PyData} : ns.length ≤ 2 → (∀ z ∈ ns, NameOk z) → Ex n b → Ex (n + 1) (.tuple [.str "fn", .tuple (ns.map .str), b])
/-- below depth m -/
def spPart (m : Nat) : Sp := fun vs H Q _ => ∃ (g : Bg) (n : Nat) (c e : Int), vs = [.ref g.b, .int n] ∧ n < m ∧ Bag H g c e ∧
  ∀ (v : V) (d : PyData) (H' : Hp) (e' : Int), Ex n d → Tr H' v d → Drawn g H H' c e' → Q v H'
theorem part_none (T : Txt K mg w) : Cal P w K mg base 4 "_law_part" (spPart 0) [] := by
  refine calOf T.d_l_part sc_l_part (fun vs H Q E h => ?_) (fun f cdv A outer s H vs Q E hr h => ?_)
  · obtain ⟨g, n, c, e, rfl, h, _⟩ := h
    exact absurd h (Nat.not_lt_zero _)
  · obtain ⟨g, n, c, e, rfl, h, _⟩ := h
    exact absurd h (Nat.not_lt_zero _)
theorem tr2 {H : Hp} {p : Addr} {x y : V} {d e : PyData} (a : Tr H x d) (b : Tr H y e) (h : H p = none) : Tr (upd H p (.tup [x, y])) (.ref p) (.tuple [d, e]) :=
  .tup upd_same (.cons (a.keep ((Tk.refl H).new h)) (.cons (b.keep ((Tk.refl H).new h)) .nil))
theorem tr3 {H : Hp} {p : Addr} {x y z : V} {d e f : PyData} (a : Tr H x d) (b : Tr H y e) (c : Tr H z f) (h : H p = none) : Tr (upd H p (.tup [x, y, z])) (.ref p) (.tuple [d, e, f]) :=
  .tup upd_same (.cons (a.keep ((Tk.refl H).new h)) (.cons (b.keep ((Tk.refl H).new h)) (.cons (c.keep ((Tk.refl H).new h)) .nil)))
theorem tr4 {H : Hp} {p : Addr} {x y z u : V} {d e f i : PyData} (a : Tr H x d) (b : Tr H y e) (c : Tr H z f) (q : Tr H u i) (h : H p = none) : Tr (upd H p (.tup [x, y, z, u])) (.ref p) (.tuple [d, e, f, i]) :=
  .tup upd_same (.cons (a.keep ((Tk.refl H).new h)) (.cons (b.keep ((Tk.refl H).new h)) (.cons (c.keep ((Tk.refl H).new h)) (.cons (q.keep ((Tk.refl H).new h)) .nil))))
theorem trs {H : Hp} {p : Addr} {xs : List V} {ds : List PyData} (a : TrAll H xs ds) (h : H p = none) : Tr (upd H p (.tup xs)) (.ref p) (.tuple ds) :=
  .tup upd_same (a.keep ((Tk.refl H).new h))
/-- a list that is no tuple changes -/
theorem tk_lst {H : Hp} {p : Addr} {xs : List V} {o : HO} (h : H p = some (.lst xs)) : Tk H (upd H p o) := (Tk.refl H).put fun ys z => by
  rw [h] at z
  cases z
theorem c_l_part (T : Txt K mg w) {m : Nat} (c_l_take : Cal P w K mg base 1 "_law_take" spTake []) (c_l_one : Cal P w K mg base 2 "_law_one" (spOne K) [])
    (c_l_name : Cal P w K mg base 3 "_law_name" spName []) (c_l_names : Cal P w K mg base 4 "_law_names" spNames []) (c_l_atom : Cal P w K mg base 4 "_law_atom" spAtom [])
    (c_l_part : Cal P w K mg base (4 + m) "_law_part" (spPart m) []) : Cal P w K mg base (4 + m + 1) "_law_part" (spPart (m + 1)) [] := by
  refine calOf T.d_l_part sc_l_part (fun vs H Q E h => ?_) (fun f cdv A outer s H vs Q E hr h => ?_)
  · obtain ⟨g, n, c, e, rfl, _⟩ := h
    rfl
  · obtain ⟨g, n, c, e, rfl, hn, B, k⟩ := h
    obtain ⟨z, mm, i, ns, hb, hL, rest⟩ := B.ex
    refine ⟨_,
      (pss_cons (ps_augS (pv 0) pe_int get_list pe_int ip_add set_list)
        (Evl.pss_cut (ps_set (i := 2) sc_l_part.nd rfl (Or.inl rfl) (pe_ifExp (PW.pt (pw_and (pt_cmpR op_gt (pv 1) pe_int (nomark _)) (pw_and1 (pt_cmpR op_lt (pe_ix ix_list (pv 0) pe_int (fun _ _ => rfl)) pe_int (nomark _))))) (pe_c c_l_take hr (by first | decide | omega) rfl (pa_cons (pv 0) (pa_cons pe_int pa_nil))) pe_int))
        (pss_cons (ps_if (pt_cmpR op_lt (pv 2) pe_int (nomark _))
        (pss_one (ps_ret (pe_c c_l_atom hr (by first | decide | omega) rfl (pa_cons (pv 0) pa_nil))))
        pss_nil)
        (pss_cons (ps_if (pt_cmpR op_lt (pv 2) pe_int (nomark _))
        (pss_cons (ps_set (i := 3) sc_l_part.nd rfl (Or.inl rfl) (pe_lst (pa_cons pe_str (pa_cons pe_str (pa_cons pe_str (pa_cons pe_str (pa_cons pe_str (pa_cons pe_str (pa_cons pe_str (pa_cons pe_str (pa_cons pe_str (pa_cons pe_str (pa_cons pe_str (pa_cons pe_str (pa_cons pe_str (pa_cons pe_str (pa_cons pe_str (pa_cons pe_str (pa_cons pe_str pa_nil)))))))))))))))))))
        (pss_one (ps_ret (pe_tup (pa_cons pe_str (pa_cons (pe_c c_l_one hr (by first | decide | omega) rfl (pa_cons (pv 0) (pa_cons (pv 3) pa_nil))) (pa_cons (pe_c c_l_part hr (by first | decide | omega) rfl (pa_cons (pv 0) (pa_cons (pe_op op_sub (pv 1) pe_int) pa_nil))) (pa_cons (pe_c c_l_part hr (by first | decide | omega) rfl (pa_cons (pv 0) (pa_cons (pe_op op_sub (pv 1) pe_int) pa_nil))) pa_nil))))))))
        pss_nil)
        (pss_cons (ps_if (pt_cmpR op_lt (pv 2) pe_int (nomark _))
        (pss_one (ps_ret (pe_tup (pa_cons (pe_ifExp (pt_cmpR op_eq (pv 2) pe_int (nomark _)) pe_str pe_str) (pa_cons (pe_c c_l_part hr (by first | decide | omega) rfl (pa_cons (pv 0) (pa_cons (pe_op op_sub (pv 1) pe_int) pa_nil))) pa_nil)))))
        pss_nil)
        (pss_cons (ps_set (i := 4) sc_l_part.nd rfl (Or.inl rfl) (pe_c c_l_part hr (by first | decide | omega) rfl (pa_cons (pv 0) (pa_cons (pe_op op_sub (pv 1) pe_int) pa_nil))))
        (pss_cons (ps_set (i := 5) sc_l_part.nd rfl (Or.inl rfl) (pe_callTy call_tuple_of (by rfl) T.n_tuple (by decide +kernel) (pa_cons (pe_lc (own := [("_law_turn", 6)]) (g := gName 6) (tt := tYes) rfl sc_l_part.nd (pi_range1 (by rfl) T.n_range (pa_cons (pe_c c_l_one hr (by first | decide | omega) rfl (pa_cons (pv 0) (pa_cons (pe_lst (pa_cons pe_int (pa_cons pe_int (pa_cons pe_int (pa_cons pe_int (pa_cons pe_int pa_nil)))))) pa_nil))) pa_nil)) (blkOk_by (N := ["_law_bag_here", "_law_deep", "_law_way", "_law_signs", "_law_inner_here", "_law_some", "_law_turn", "_law_key"]) (sc := defScope s_l_part) (by decide +kernel)) (fun _ _ _ _ _ => pg_name (i := 6) sc_l_part.nd rfl (Or.inl rfl)) (fun _ _ _ _ _ => pts_nil) (fun _ _ _ _ _ => (pe_c c_l_part hr (by first | decide | omega) rfl (pa_cons (pv 0) (pa_cons (pe_op op_sub (pv 1) pe_int) pa_nil))))) pa_nil)))
        (pss_cons (ps_if (pt_cmpR op_eq (pv 2) pe_int (nomark _))
        (pss_one (ps_ret (pe_tup (pa_cons pe_str (pa_cons (pv 4) (pa_cons (pv 5) pa_nil))))))
        pss_nil)
        (pss_cons (ps_if (pt_cmpR op_eq (pv 2) pe_int (nomark _))
        (pss_cons (ps_if (pt_cmpR op_eq (pe_c c_l_take hr (by first | decide | omega) rfl (pa_cons (pv 0) (pa_cons pe_int pa_nil))) pe_int (nomark _))
        (pss_one (ps_ret (pe_tup (pa_cons pe_str (pa_cons (pv 4) (pa_cons (pe_c c_l_name hr (by first | decide | omega) rfl (pa_cons (pv 0) pa_nil)) pa_nil))))))
        pss_nil)
        (pss_one (ps_ret (pe_tup (pa_cons pe_str (pa_cons (pv 4) (pa_cons (pe_c c_l_part hr (by first | decide | omega) rfl (pa_cons (pv 0) (pa_cons (pe_op op_sub (pv 1) pe_int) pa_nil))) pa_nil)))))))
        pss_nil)
        (pss_cons (ps_if (pt_cmpR op_eq (pv 2) pe_int (nomark _))
        (pss_one (ps_ret (pe_tup (pa_cons pe_str (pa_cons (pv 5) pa_nil)))))
        pss_nil)
        (pss_cons (ps_if (pt_cmpR op_eq (pv 2) pe_int (nomark _))
        (pss_one (ps_ret (pe_tup (pa_cons pe_str (pa_cons (pe_callTy call_tuple_of (by rfl) T.n_tuple (by decide +kernel) (pa_cons (pe_lc (own := [("_law_key", 7)]) (g := gName 7) (tt := tYes) rfl sc_l_part.nd (pi_tup (pv 5)) (blkOk_by (N := ["_law_bag_here", "_law_deep", "_law_way", "_law_signs", "_law_inner_here", "_law_some", "_law_turn", "_law_key"]) (sc := defScope s_l_part) (by decide +kernel)) (fun _ _ _ _ _ => pg_name (i := 7) sc_l_part.nd rfl (Or.inl rfl)) (fun _ _ _ _ _ => pts_nil) (fun _ _ _ _ _ => (pe_tup (pa_cons (pv 7) (pa_cons (pe_c c_l_part hr (by first | decide | omega) rfl (pa_cons (pv 0) (pa_cons (pe_op op_sub (pv 1) pe_int) pa_nil))) pa_nil))))) pa_nil)) pa_nil)))))
        pss_nil)
        (pss_one (ps_ret (pe_tup (pa_cons pe_str (pa_cons (pe_c c_l_names hr (by first | decide | omega) rfl (pa_cons (pv 0) pa_nil)) (pa_cons (pv 4) pa_nil)))))))))))))))))
      , ?_⟩
    walk_at "rd"
    have D1 : Drawn g H (upd H g.b (.lst [.int z, .int mm, .int i, .ref g.L, .int c, .int (e + 1)])) c (e + 1) :=
      .mk' B ⟨⟨z, mm, i, ns, upd_same, by rw [upd_ne B.ne]; exact hL, rest⟩, B.ne⟩ (Fr.refl _ _).at
    refine ⟨fun σ' H' => ∃ r : Int, σ' = [some (.ref g.b), some (.int n), some (.int r), none, none, none, none, none] ∧ 0 ≤ r ∧ r < 15 ∧ (3 ≤ r → 0 < n) ∧ Drawn g H H' c (e + 1), ?_, ?_⟩
    · walk_at "rd"
      refine ite2 (fun h0 => ?_) (fun h0 => ?_)
      · walk_at "rd"
        refine ite2 (fun h1 => ?_) (fun h1 => ?_)
        · exact ⟨_, rfl, g, 15, c, e + 1, rfl, D1.bag, by decide, by decide, fun r H1 r0 r1 D2 => ⟨r, rfl, r0, r1, fun _ => by have := of_decide_eq_true h0; omega, D1.trans D2⟩⟩
        · exact ⟨0, rfl, by decide, by decide, fun h => absurd h (by decide), D1⟩
      · exact ⟨0, rfl, by decide, by decide, fun h => absurd h (by decide), D1⟩
    · rintro σ' H1 ⟨r, rfl, r0, r1, rn, D1⟩
      walk_at "rd"
      refine ite2 (fun h1 => ?_) (fun h1 => ?_)
      · walk_at "rd"
        exact ⟨g, c, e + 1, rfl, D1.bag, fun v kd w H2 hl ht D2 => k v _ H2 _ (.leaf hl) ht (D1.trans D2)⟩
      · have r3 : 3 ≤ r := by
          have := of_decide_eq_false (Bool.eq_false_iff.mpr h1)
          omega
        obtain ⟨n, rfl⟩ : ∃ q, n = q + 1 := ⟨n - 1, by have := rn r3; omega⟩
        have em : ((n + 1 : Nat) : Int) - 1 = (n : Int) := by omega
        -- one more part
        have sub : ∀ (H2 : Hp) (e2 : Int) (Q' : VK), Drawn g H H2 c e2 → (∀ (v : V) (d : PyData) (H' : Hp) (e' : Int), Ex n d → Tr H' v d → Drawn g H2 H' c e' → Q' v H') →
            spPart m [.ref g.b, .int (((n + 1 : Nat) : Int) - 1)] H2 Q' E0 := by
          intro H2 e2 Q' D2 q
          rw [em]
          exact ⟨g, n, c, e2, rfl, by omega, D2.bag, q⟩
        walk_at "rd"
        refine ite2 (fun h2 => ?_) (fun h2 => ?_)
        · walk_at "rd"
          refine ⟨by decide, fun p hp => ?_⟩
          have D2 := D1.new (o := .lst (signsL.map V.str)) hp
          walk_at "rd"
          refine ⟨g, _, c, _, rfl, D2.bag, .inl ⟨p, signsL.map V.str, rfl, .inl (SqL.of upd_same), D1.bag.ne_new hp, by decide, by decide, fun v H3 hv D3 => ?_⟩⟩
          obtain ⟨o, ho, rfl⟩ := strs_mem hv
          have D3 := D2.trans D3
          walk_at "rd"
          refine sub _ _ _ D3 fun v1 d1 H4 e4 x1 t1 D4 => ?_
          walk_at "rd"
          refine sub _ _ _ (D3.trans D4) fun v2 d2 H5 e5 x2 t2 D5 => ⟨by show 4 ≤ sizeLine; decide, fun q hq => ?_⟩
          exact k _ _ _ _ (.two ho x1 x2) (tr4 (.str _) (.str o) (t1.keep D5.tk) t2 hq) ((D3.trans (D4.trans D5)).new hq)
        · walk_at "rd"
          refine ite2 (fun h3 => ?_) (fun h3 => ?_)
          · walk_at "rd"
            refine ite2 (fun h4 => ?_) (fun h4 => ?_)
            · walk_at "rd"
              refine sub _ _ _ D1 fun v1 d1 H2 e2 x1 t1 D2 => ⟨by show 2 ≤ sizeLine; decide, fun q hq => ?_⟩
              exact k _ _ _ _ (.not x1) (tr2 (.str _) t1 hq) ((D1.trans D2).new hq)
            · walk_at "rd"
              refine sub _ _ _ D1 fun v1 d1 H2 e2 x1 t1 D2 => ⟨by show 2 ≤ sizeLine; decide, fun q hq => ?_⟩
              exact k _ _ _ _ (.minus x1) (tr2 (.str _) t1 hq) ((D1.trans D2).new hq)
          · walk_at "rd"
            refine sub _ _ _ D1 fun v1 d1 H2 e2 x1 t1 D2 => ?_
            have D12 := D1.trans D2
            walk_at "rd"
            refine ⟨by decide, fun p hp => ?_⟩
            have D3 := D12.new (o := .lst [.int 0, .int 1, .int 2, .int 1, .int 3]) hp
            refine ⟨g, _, c, _, rfl, D3.bag, .inl ⟨p, _, rfl, .inl (SqL.of upd_same), D12.bag.ne_new hp, by decide, by decide, fun v H4 hv D4 => ?_⟩⟩
            have D34 := D3.trans D4
            have t14 : Tr H4 v1 d1 := t1.keep (((Tk.refl _).new hp).trans D4.tk)
            obtain ⟨j, hj, rfl⟩ : ∃ j : Nat, j ≤ 3 ∧ v = .int j := by
              simp only [List.mem_cons, List.not_mem_nil, or_false] at hv
              rcases hv with rfl | rfl | rfl | rfl | rfl
              · exact ⟨0, by decide, rfl⟩
              · exact ⟨1, by decide, rfl⟩
              · exact ⟨2, by decide, rfl⟩
              · exact ⟨1, by decide, rfl⟩
              · exact ⟨3, by decide, rfl⟩
            refine ⟨_, rfl, by omega, by omega, fun L hL => ?_⟩
            refine lc_range (lo := 0) (n := ((j : Int)).toNat) (fun i H' => ∃ vs ds e', vs.length = i ∧ TrAll H' vs ds ∧ (∀ d ∈ ds, Ex n d) ∧ H' L = some (.lst vs) ∧ Drawn g H4 H' c e')
              ⟨[], [], _, rfl, .nil, by simp, upd_same, (Drawn.of D34.bag).put D34.bag hL⟩ ?_ ?_
            · rintro i H' hi ⟨vs, ds, e', hl, ht, hx, hd, Dw⟩
              have nb := D34.bag.ne_new hL
              refine ⟨rfl, ?_⟩
              walk_at "rd"
              refine sub _ _ _ (D34.trans Dw) fun v5 d5 H5 e5 x5 t5 D5 => ?_
              have hd5 := D5.keep nb hd
              refine ⟨_, hd5, by rw [hl]; exact Nat.lt_of_lt_of_le (show i < 100 by omega) (by decide), vs ++ [v5], ds ++ [d5], e5, by rw [List.length_append, hl] <;> rfl, ?_, ?_, upd_same, (Dw.trans D5).put D34.bag hL⟩
              · exact ((ht.keep D5.tk).app (.one t5)).keep (tk_lst hd5)
              · intro d hd
                rcases List.mem_append.mp hd with q | q
                · exact hx d q
                · rw [List.mem_singleton.mp q]
                  exact x5
            · rintro H5 ⟨vs, ds, e5, hl, ht, hx, hd, D5⟩
              have lds : ds.length ≤ 3 := by
                rw [← ht.len, hl]
                omega
              refine ⟨_, _, rfl, .inl ⟨SqL.of hd, fun q hq => ?_⟩⟩
              have D6 := (D34.trans D5).new (o := .tup vs) hq
              have tq : Tr (upd H5 q (.tup vs)) (.ref q) (.tuple ds) := trs ht hq
              have t16 : Tr (upd H5 q (.tup vs)) v1 d1 := t14.keep (D5.tk.new hq)
              have hq6 : (upd H5 q (.tup vs)) q = some (.tup vs) := upd_same
              have htq : TrAll (upd H5 q (.tup vs)) vs ds := ht.keep ((Tk.refl _).new hq)
              generalize upd H5 q (.tup vs) = H6 at D6 tq t16 hq6 htq ⊢
              walk_at "rd"
              refine ite2 (fun h5 => ?_) (fun h5 => ?_)
              · walk_at "rd"
                refine ⟨by show 3 ≤ sizeLine; decide, fun q2 hq2 => ?_⟩
                exact k _ _ _ _ (.call x1 lds hx) (tr3 (.str _) t16 tq hq2) (D6.new hq2)
              · walk_at "rd"
                refine ite2 (fun h6 => ?_) (fun h6 => ?_)
                · walk_at "rd"
                  refine ⟨g, 2, c, _, rfl, D6.bag, by decide, by decide, fun r2 H7 r20 r21 D7 => ?_⟩
                  have D67 := D6.trans D7
                  have t17 := t16.keep D7.tk
                  walk_at "rd"
                  refine ite2 (fun h7 => ?_) (fun h7 => ?_)
                  · walk_at "rd"
                    refine ⟨g, c, _, rfl, D67.bag, fun z2 H8 hz2 D8 => ⟨by show 3 ≤ sizeLine; decide, fun q2 hq2 => ?_⟩⟩
                    exact k _ _ _ _ (.field x1 hz2) (tr3 (.str _) (t17.keep D8.tk) (.str z2) hq2) ((D67.trans D8).new hq2)
                  · walk_at "rd"
                    refine sub _ _ _ D67 fun v8 d8 H8 e8 x8 t8 D8 => ⟨by show 3 ≤ sizeLine; decide, fun q2 hq2 => ?_⟩
                    exact k _ _ _ _ (.index x1 x8) (tr3 (.str _) (t17.keep D8.tk) t8 hq2) ((D67.trans D8).new hq2)
                · walk_at "rd"
                  refine ite2 (fun h7 => ?_) (fun h7 => ?_)
                  · walk_at "rd"
                    refine ⟨by show 2 ≤ sizeLine; decide, fun q2 hq2 => ?_⟩
                    exact k _ _ _ _ (.list lds hx) (tr2 (.str _) tq hq2) (D6.new hq2)
                  · walk_at "rd"
                    refine ite2 (fun h8 => ?_) (fun h8 => ?_)
                    · walk_at "rd"
                      refine ⟨⟨_, SqT.of hq6⟩, fun L2 hL2 => ?_⟩
                      have nb := D6.bag.ne_new hL2
                      refine lc_tup (K := K) (a := q) (xs := vs) (fun i H' => ∃ us ps e', us.length = i ∧ TrAll H' us ((ps : List (PyData × PyData)).map fun p => .tuple [p.1, p.2]) ∧ (∀ p ∈ ps, Ex n p.1) ∧ (∀ p ∈ ps, Ex n p.2) ∧ H' L2 = some (.lst us) ∧ Drawn g H6 H' c e')
                        ⟨[], [], _, rfl, .nil, by simp, by simp, upd_same, (Drawn.of D6.bag).put D6.bag hL2⟩ ?_ ?_ ?_
                      · rintro i H' hi ⟨us, ps, e', hl, ht, hx1, hx2, hd, Dw⟩
                        exact SqT.of (Dw.tk _ _ hq6)
                      · rintro i x H' hi ⟨us, ps, e', hl, ht, hx1, hx2, hd, Dw⟩
                        obtain ⟨d, hd6, tx⟩ := htq.get hi
                        have li : i < 3 := by
                          have := (List.getElem?_eq_some_iff.mp hd6).1
                          omega
                        refine ⟨rfl, ?_⟩
                        walk_at "rd"
                        refine sub _ _ _ (D6.trans Dw) fun v7 d7 H7 e7 x7 t7 D7 => ⟨by show 2 ≤ sizeLine; decide, fun q2 hq2 => ?_⟩
                        have tp := tr2 (tx.keep (Dw.tk.trans D7.tk)) t7 hq2
                        have hd7 := D7.keep nb hd
                        have hd8 := upd_some (u := .tup [x, v7]) hd7 hq2
                        refine ⟨_, hd8, by rw [hl]; exact Nat.lt_of_lt_of_le (show i < 100 by omega) (by decide), us ++ [.ref q2], ps ++ [(d, d7)], e7, by rw [List.length_append, hl] <;> rfl, ?_, ?_, ?_, upd_same, ((Dw.trans D7).new hq2).put D6.bag hL2⟩
                        · rw [List.map_append]
                          exact ((ht.keep (D7.tk.new hq2)).app (.one tp)).keep (tk_lst hd8)
                        · intro p hp
                          rcases List.mem_append.mp hp with h | h
                          · exact hx1 p h
                          · rw [List.mem_singleton.mp h]
                            exact hx d (List.mem_of_getElem? hd6)
                        · intro p hp
                          rcases List.mem_append.mp hp with h | h
                          · exact hx2 p h
                          · rw [List.mem_singleton.mp h]
                            exact x7
                      · rintro H7 ⟨us, ps, e7, hl, ht, hx1, hx2, hd, D7⟩
                        have lps : ps.length ≤ 3 := by
                          have := ht.len
                          rw [List.length_map, hl] at this
                          have l2 := htq.len
                          omega
                        refine ⟨_, _, rfl, .inl ⟨SqL.of hd, fun q3 hq3 => ⟨by show 2 ≤ sizeLine; decide, fun q2 hq2 => ?_⟩⟩⟩
                        exact k _ _ _ _ (.map lps hx1 hx2) (tr2 (.str _) (trs ht hq3) hq2) (((D6.trans D7).new hq3).new hq2)
                    · walk_at "rd"
                      refine ⟨g, c, _, rfl, D6.bag, fun v8 ns8 H8 hn8 hl8 t8 D8 => ⟨_, rfl, by show 3 ≤ sizeLine; decide, fun q2 hq2 => ?_⟩⟩
                      exact k _ _ _ _ (.fn hl8 hn8 x1) (tr3 (.str _) t8 (t16.keep D8.tk) hq2) ((D6.trans D8).new hq2)

def spBag (K : PySem.W.Frag) : Sp := fun vs H Q _ => ∃ (a : Addr) (ns : List Int), vs = [.ref a] ∧ SqL K H a (ns.map V.int) ∧ ns.length ≤ 63 ∧ ∀ (g : Bg) (H' : Hp), Same H H' → Bag H' g 0 0 → Q (.ref g.b) H'
theorem cut_ints (ns : List Int) (lo hi : Option Int) : ∃ ms : List Int, cutV (ns.map V.int) lo hi = ms.map V.int ∧ ms.length ≤ ns.length := by
  refine ⟨(ns.drop (HT.sIx (ns.map V.int).length 0 lo)).take (HT.sIx (ns.map V.int).length (ns.map V.int).length hi - HT.sIx (ns.map V.int).length 0 lo), ?_, ?_⟩
  · unfold cutV
    rw [List.map_take, List.map_drop]
  · rw [List.length_take, List.length_drop]
    omega
theorem c_l_bag (T : Txt K mg w) : Cal P w K mg base 1 "_law_bag" (spBag K) [] := by
  refine calOf T.d_l_bag sc_l_bag (fun vs H Q E h => ?_) (fun f cdv A outer s H vs Q E hr h => ?_)
  · obtain ⟨a, ns, rfl, _⟩ := h
    rfl
  · obtain ⟨a, ns, rfl, hq, hl, k⟩ := h
    refine ⟨_,
      (pss_one (ps_ret (pe_lst (pa_cons pe_int (pa_cons pe_int (pa_cons pe_int (pa_cons (pe_lc (own := [("_law_cell", 1)]) (g := gName 1) (tt := tYes) rfl sc_l_bag.nd (pi_list (pe_slice sl_list (pv 0) po_none (po_some pe_int))) (blkOk_by (N := ["_law_script", "_law_cell"]) (sc := defScope s_l_bag) (by decide +kernel)) (fun _ _ _ _ _ => pg_name (i := 1) sc_l_bag.nd rfl (Or.inl rfl)) (fun _ _ _ _ _ => pts_nil) (fun _ _ _ _ _ => (pe_callB call_abs (by rfl) T.n_abs (by decide +kernel) (pa_cons (pv 1) pa_nil)))) (pa_cons pe_int (pa_cons pe_int pa_nil)))))))))
      , ?_⟩
    obtain ⟨ms, em, lm⟩ := cut_ints ns none (some 63)
    refine ⟨_, rfl, _, rfl, a, _, rfl, hq, fun p hp => ?_⟩
    rw [em]
    refine ⟨p, rfl, ⟨_, SqL.of upd_same⟩, fun D hD => ?_⟩
    have ap : upd H p (.lst (ms.map V.int)) p = some (.lst (ms.map V.int)) := upd_same
    have s1 : Same H (upd H p (.lst (ms.map V.int))) := same_new hp
    generalize upd H p (HO.lst (ms.map V.int)) = H1 at ap s1 hD ⊢
    refine lc_list (K := K) (a := p) (xs := ms.map V.int) (fun i H' => H' D = some (.lst (((ms.take i).map fun n => if n < 0 then -n else n).map V.int)) ∧ Same H1 H') ⟨upd_same, same_put (Same.refl _) hD⟩ (fun i H' _ ⟨_, s2⟩ => SqL.of (s2 _ _ ap)) ?_ ?_
    · rintro i y H' hi ⟨hd, s2⟩
      rw [List.getElem?_map] at hi
      obtain ⟨n, hn, rfl⟩ := Option.map_eq_some_iff.mp hi
      have li := (List.getElem?_eq_some_iff.mp hn).1
      refine ⟨rfl, _, rfl, n, rfl, _, hd, ?_, ?_, same_put s2 hD⟩
      · rw [List.length_map, List.length_map, List.length_take]
        exact Nat.lt_of_le_of_lt (Nat.min_le_left _ _) (Nat.lt_of_lt_of_le (show i < 100 by omega) (by decide))
      · rw [upd_same, List.take_add_one, hn, List.map_append, List.map_append]
        rfl
    · rintro H2 ⟨hd, s2⟩
      rw [List.length_map, List.take_length] at hd
      refine ⟨by show 6 ≤ sizeLine; decide, fun b hb => ?_⟩
      refine k ⟨b, D⟩ _ ((s1.trans s2).trans (same_new hb)) ⟨⟨0, 1234567891, 0, ms.map fun n => if n < 0 then -n else n, upd_same, upd_some hd hb, by decide, by decide, by decide, by decide, ?_, ?_⟩, ?_⟩
      · intro n hn
        obtain ⟨x, _, rfl⟩ := List.mem_map.mp hn
        show 0 ≤ if x < 0 then -x else x
        split <;> omega
      · rw [List.length_map]
        omega
      · exact ne_of_none hd hb

theorem c_l_expression (T : Txt K mg w) {m : Nat} (c_l_part : Cal P w K mg base (4 + m) "_law_part" (spPart m) []) : Cal P w K mg base (4 + m + 1) "_law_expression" (spPart m) [] := by
  refine calOf T.d_l_expression sc_l_expression (fun vs H Q E h => ?_) (fun f cdv A outer s H vs Q E hr h => ?_)
  · obtain ⟨g, n, c, e, rfl, _⟩ := h
    rfl
  · obtain ⟨g, n, c, e, rfl, hn, B, k⟩ := h
    obtain ⟨z, mm, i, ns, hb, hL, rest⟩ := B.ex
    refine ⟨_,
      (pss_cons (ps_asg pe_int (pg_sub (pv 0) pe_int set_list))
        (pss_one (ps_ret (pe_c c_l_part hr (by first | decide | omega) rfl (pa_cons (pv 0) (pa_cons (pv 1) pa_nil))))))
      , ?_⟩
    have D1 : Drawn g H (upd H g.b (.lst [.int z, .int mm, .int i, .ref g.L, .int c, .int 0])) c 0 :=
      .mk' B ⟨⟨z, mm, i, ns, upd_same, by rw [upd_ne B.ne]; exact hL, rest⟩, B.ne⟩ (Fr.refl _ _).at
    refine ⟨_, rfl, _, _, _, _, rfl, rfl, hb, rfl, ?_⟩
    exact ⟨_, rfl, _, rfl, g, n, c, 0, rfl, hn, D1.bag, fun v d H' e' hx ht D2 => k v d H' e' hx ht (D1.trans D2)⟩

/-- the statements that are drawn, by how deep they may be -/
inductive St : Nat → PyData → Prop
  | nam {n m : Nat} {k z : Str} {d : PyData} : (k = "let" ∨ k = "set") → NameOk z → m ≤ 3 → Ex m d → St n (.tuple [.str k, .str z, d])
  | give0 {n : Nat} : St n (.tuple [.str "give", .none])
  | give {n : Nat} {d : PyData} : Ex 2 d → St n (.tuple [.str "give", d])
  | do_ {n m : Nat} {d : PyData} : m ≤ 3 → Ex m d → St n (.tuple [.str "do", d])
  | ifN {n : Nat} {d : PyData} {bs : List PyData} : Ex 2 d → bs.length ≤ 3 → (∀ x ∈ bs, St n x) → St (n + 1) (.tuple [.str "if", d, .tuple bs, .none])
  | ifB {n : Nat} {d : PyData} {bs cs : List PyData} : Ex 2 d → bs.length ≤ 3 → (∀ x ∈ bs, St n x) → cs.length ≤ 3 → (∀ x ∈ cs, St n x) → St (n + 1) (.tuple [.str "if", d, .tuple bs, .tuple cs])
  | ifI {n : Nat} {d e b o : PyData} {bs : List PyData} : Ex 2 d → bs.length ≤ 3 → (∀ x ∈ bs, St n x) → St n (.tuple [.str "if", e, b, o]) → St (n + 1) (.tuple [.str "if", d, .tuple bs, .tuple [.str "if", e, b, o]])
  | whil {n : Nat} {d : PyData} {bs : List PyData} : Ex 2 d → bs.length ≤ 3 → (∀ x ∈ bs, St n x) → St (n + 1) (.tuple [.str "while", d, .tuple bs])
  | for_ {n : Nat} {z : Str} {d : PyData} {bs : List PyData} : NameOk z → Ex 2 d → bs.length ≤ 3 → (∀ x ∈ bs, St n x) → St (n + 1) (.tuple [.str "for", .str z, d, .tuple bs])
  | def_ {n : Nat} {z : Str} {ns : List Str} {bs : List PyData} : NameOk z → ns.length ≤ 2 → (∀ x ∈ ns, NameOk x) → bs.length ≤ 3 → (∀ x ∈ bs, St n x) → St (n + 1) (.tuple [.str "def", .str z, .tuple (ns.map .str), .tuple bs])
def spSt (m : Nat) : Sp := fun vs H Q _ => ∃ (g : Bg) (k : Nat) (c e : Int), vs = [.ref g.b, .int ((k : Int) - 1)] ∧ k < m ∧ Bag H g c e ∧
  ∀ (v : V) (d : PyData) (H' : Hp) (e' : Int), St k d → Tr H' v d → Drawn g H H' c e' → Q v H'
def spBl (m : Nat) : Sp := fun vs H Q _ => ∃ (g : Bg) (k : Nat) (c e : Int), vs = [.ref g.b, .int k] ∧ k < m ∧ Bag H g c e ∧
  ∀ (v : V) (bs : List PyData) (H' : Hp) (e' : Int), bs.length ≤ 3 → (∀ x ∈ bs, St k x) → Tr H' v (.tuple bs) → Drawn g H H' c e' → Q v H'
def spIf (m : Nat) : Sp := fun vs H Q _ => ∃ (g : Bg) (k : Nat) (c e : Int), vs = [.ref g.b, .int k] ∧ k < m ∧ Bag H g c e ∧
  ∀ (v : V) (d b o : PyData) (H' : Hp) (e' : Int), St (k + 1) (.tuple [.str "if", d, b, o]) → Tr H' v (.tuple [.str "if", d, b, o]) → Drawn g H H' c e' → Q v H'
theorem c_l_block (T : Txt K mg w) {m : Nat} (c_l_one : Cal P w K mg base 2 "_law_one" (spOne K) []) (c_l_statement : Cal P w K mg base (10 + 3 * m) "_law_statement" (spSt m) []) :
    Cal P w K mg base (11 + 3 * m) "_law_block" (spBl m) [] := by
  rw [show 11 + 3 * m = (10 + 3 * m) + 1 by omega]
  refine calOf T.d_l_block sc_l_block (fun vs H Q E h => ?_) (fun f cdv A outer s H vs Q E hr h => ?_)
  · obtain ⟨g, k, c, e, rfl, _⟩ := h
    rfl
  · obtain ⟨g, n, c, e, rfl, hn, B, k⟩ := h
    refine ⟨_,
      (pss_one (ps_ret (pe_callTy call_tuple_of (by rfl) T.n_tuple (by decide +kernel) (pa_cons (pe_lc (own := [("_law_turn", 2)]) (g := gName 2) (tt := tYes) rfl sc_l_block.nd (pi_range1 (by rfl) T.n_range (pa_cons (pe_c c_l_one hr (by first | decide | omega) rfl (pa_cons (pv 0) (pa_cons (pe_lst (pa_cons pe_int (pa_cons pe_int (pa_cons pe_int (pa_cons pe_int (pa_cons pe_int pa_nil)))))) pa_nil))) pa_nil)) (blkOk_by (N := ["_law_bag_here", "_law_deep", "_law_turn"]) (sc := defScope s_l_block) (by decide +kernel)) (fun _ _ _ _ _ => pg_name (i := 2) sc_l_block.nd rfl (Or.inl rfl)) (fun _ _ _ _ _ => pts_nil) (fun _ _ _ _ _ => (pe_c c_l_statement hr (by first | decide | omega) rfl (pa_cons (pv 0) (pa_cons (pe_op op_sub (pv 1) pe_int) pa_nil))))) pa_nil))))
      , ?_⟩
    refine ⟨_, rfl, by decide, fun p hp => pick_of B hp (by decide) (by decide) fun v H1 hv D1 => ?_⟩
    obtain ⟨r, hr3, rfl⟩ : ∃ r : Nat, r ≤ 3 ∧ v = .int r := by
      simp only [List.mem_cons, List.not_mem_nil, or_false] at hv
      rcases hv with rfl | rfl | rfl | rfl | rfl
      · exact ⟨1, by decide, rfl⟩
      · exact ⟨0, by decide, rfl⟩
      · exact ⟨2, by decide, rfl⟩
      · exact ⟨3, by decide, rfl⟩
      · exact ⟨1, by decide, rfl⟩
    refine ⟨_, rfl, by omega, by omega, fun D hD => ?_⟩
    have nD := D1.bag.ne_new hD
    refine lc_range (lo := 0) (n := ((r : Int)).toNat) (fun i H' => ∃ (us : List V) (ds : List PyData) (e' : Int), ds.length = i ∧ (∀ x ∈ ds, St n x) ∧ TrAll H' us ds ∧ H' D = some (.lst us) ∧ Drawn g H1 H' c e') ⟨[], [], e, rfl, (by simp), .nil, upd_same, (Drawn.of D1.bag).put D1.bag hD⟩ ?_ ?_
    · rintro i H' hi ⟨us, ds, e', hl, hs, tr, hd, Dw⟩
      refine ⟨rfl, _, rfl, _, rfl, _, _, rfl, rfl, g, n, c, e', rfl, hn, Dw.bag, fun v d H3 e3 hv tv D3 => ?_⟩
      have lu := tr.len
      refine ⟨us, D3.keep nD hd, Nat.lt_of_lt_of_le (show us.length < 100 by omega) (by decide), us ++ [v], ds ++ [d], e3, ?_, ?_, ?_, upd_same, (Dw.trans D3).put D1.bag hD⟩
      · rw [List.length_append, hl] <;> rfl
      · intro x hx
        rcases List.mem_append.mp hx with h | h
        · exact hs x h
        · rw [List.mem_singleton.mp h]
          exact hv
      · have tk : Tk H3 (upd H3 D (.lst (us ++ [v]))) := (Tk.refl H3).put fun xs z => by
          rw [D3.keep nD hd] at z
          cases z
        exact ((tr.keep D3.tk).app (.one tv)).keep tk
    · rintro H' ⟨us, ds, e', hl, hs, tr, hd, Dw⟩
      refine ⟨D, us, rfl, .inl ⟨SqL.of hd, fun q hq => ?_⟩⟩
      exact k _ ds _ e' (by omega) hs (.tup upd_same (tr.new hq)) ((D1.trans Dw).new hq)

/-- what stands behind else -/
inductive Oth (k : Nat) : PyData → Prop
  | no : Oth k .none
  | bl {cs : List PyData} : cs.length ≤ 3 → (∀ x ∈ cs, St k x) → Oth k (.tuple cs)
  | iff {e b o : PyData} : St k (.tuple [.str "if", e, b, o]) → Oth k (.tuple [.str "if", e, b, o])
theorem Oth.st {k : Nat} {d o : PyData} {bs : List PyData} (h : Oth k o) (hd : Ex 2 d) (hl : bs.length ≤ 3) (hs : ∀ x ∈ bs, St k x) : St (k + 1) (.tuple [.str "if", d, .tuple bs, o]) := by
  cases h with
  | no => exact .ifN hd hl hs
  | bl h1 h2 => exact .ifB hd hl hs h1 h2
  | iff h => exact .ifI hd hl hs h
theorem c_l_if (T : Txt K mg w) {m : Nat} (c_l_take : Cal P w K mg base 1 "_law_take" spTake []) (c_l_expression : Cal P w K mg base 9 "_law_expression" (spPart 4) []) (c_l_block : Cal P w K mg base (14 + 3 * m) "_law_block" (spBl (m + 1)) [])
    (c_l_if : Cal P w K mg base (12 + 3 * m) "_law_if" (spIf m) []) : Cal P w K mg base (15 + 3 * m) "_law_if" (spIf (m + 1)) [] := by
  rw [show 15 + 3 * m = (14 + 3 * m) + 1 by omega]
  refine calOf T.d_l_if sc_l_if (fun vs H Q E h => ?_) (fun f cdv A outer s H vs Q E hr h => ?_)
  · obtain ⟨g, k, c, e, rfl, _⟩ := h
    rfl
  · obtain ⟨g, n, c, e, rfl, hn, B, k⟩ := h
    refine ⟨_,
      (pss_cons (ps_par3 (i := 2) (j := 3) (l := 4) (by rfl) sc_l_if.nd rfl rfl rfl (by decide) (by decide) (by decide) rfl rfl rfl (pa_cons (pe_c c_l_block hr (by first | decide | omega) rfl (pa_cons (pv 0) (pa_cons (pv 1) pa_nil))) (pa_cons (pe_c c_l_take hr (by first | decide | omega) rfl (pa_cons (pv 0) (pa_cons pe_int pa_nil))) (pa_cons pe_non pa_nil))) (by rfl))
        (Evl.pss_cut (ps_if (pt_cmpR op_eq (pv 3) pe_int (nomark _))
        (pss_one (ps_set (i := 4) sc_l_if.nd rfl (Or.inl rfl) (pe_c c_l_block hr (by first | decide | omega) rfl (pa_cons (pv 0) (pa_cons (pv 1) pa_nil)))))
        pss_nil)
        (Evl.pss_cut (ps_if (PW.pt (pw_and (pt_cmpR op_eq (pv 3) pe_int (nomark _)) (pw_and1 (pt_cmpR op_gt (pv 1) pe_int (nomark _)))))
        (pss_one (ps_set (i := 4) sc_l_if.nd rfl (Or.inl rfl) (pe_c c_l_if hr (by first | decide | omega) rfl (pa_cons (pv 0) (pa_cons (pe_op op_sub (pv 1) pe_int) pa_nil)))))
        pss_nil)
        (pss_one (ps_ret (pe_tup (pa_cons pe_str (pa_cons (pe_c c_l_expression hr (by first | decide | omega) rfl (pa_cons (pv 0) (pa_cons pe_int pa_nil))) (pa_cons (pv 2) (pa_cons (pv 4) pa_nil))))))))))
      , ?_⟩
    refine ⟨_, rfl, _, rfl, g, n, c, e, rfl, by omega, B, fun vb bs H1 e1 lb sb tb D1 => ?_⟩
    refine ⟨_, rfl, g, 3, c, e1, rfl, D1.bag, by decide, by decide, fun r H2 r0 r1 D2 => ⟨_, _, _, rfl, ?_⟩⟩
    have tb2 := tb.keep D2.tk
    have D2 := D1.trans D2
    refine ⟨fun σ' H' => ∃ (v4 : V) (dO : PyData) (e' : Int), σ' = [some (.ref g.b), some (.int n), some vb, some (.int r), some v4] ∧ Tr H' vb (.tuple bs) ∧ Tr H' v4 dO ∧ Oth n dO ∧ Drawn g H H' c e', ?_, ?_⟩
    · refine ⟨_, rfl, rfl, _, rfl, ?_⟩
      refine ite2 (fun _ => ?_) (fun _ => ?_)
      · refine ⟨_, rfl, _, rfl, g, n, c, e1, rfl, by omega, D2.bag, fun v4 cs H3 e3 lc sc tc D3 => ?_⟩
        exact ⟨v4, _, e3, rfl, tb2.keep D3.tk, tc, .bl lc sc, D2.trans D3⟩
      · exact ⟨.non, .none, e1, rfl, tb2, .non, .no, D2⟩
    rintro σ' H3 ⟨v4, dO, e3, rfl, tb3, t4, oo, D3⟩
    refine ⟨fun σ' H' => ∃ (v4 : V) (dO : PyData) (e' : Int), σ' = [some (.ref g.b), some (.int n), some vb, some (.int r), some v4] ∧ Tr H' vb (.tuple bs) ∧ Tr H' v4 dO ∧ Oth n dO ∧ Drawn g H H' c e', ?_, ?_⟩
    · refine ⟨_, rfl, rfl, _, rfl, ?_⟩
      refine ite2 (fun _ => ?_) (fun _ => ?_)
      · refine ⟨_, rfl, _, _, rfl, rfl, _, rfl, ?_⟩
        refine ite2 (fun h1 => ?_) (fun _ => ?_)
        · have h1 : (0 : Int) < n := of_decide_eq_true h1
          obtain ⟨j, rfl⟩ : ∃ j, n = j + 1 := ⟨n - 1, by omega⟩
          refine ⟨_, rfl, _, rfl, _, _, rfl, rfl, g, j, c, e3, by show [V.ref g.b, V.int (((j + 1 : Nat) : Int) - 1)] = _; rw [show ((j + 1 : Nat) : Int) - 1 = (j : Int) by omega], by omega, D3.bag, fun v5 d b o H4 e4 st t5 D4 => ?_⟩
          exact ⟨v5, _, e4, rfl, tb3.keep D4.tk, t5, .iff st, D3.trans D4⟩
        · exact ⟨v4, dO, e3, rfl, tb3, t4, oo, D3⟩
      · exact ⟨v4, dO, e3, rfl, tb3, t4, oo, D3⟩
    rintro σ' H4 ⟨v4, dO, e4, rfl, tb4, t4, oo, D4⟩
    refine ⟨_, rfl, g, 2, c, e4, rfl, by decide, D4.bag, fun v6 d6 H5 e5 x6 t6 D5 => ?_⟩
    refine ⟨_, rfl, _, rfl, by show 4 ≤ sizeLine; decide, fun p hp => ?_⟩
    exact k _ d6 (.tuple bs) dO _ e5 (oo.st x6 lb sb) (tr4 (.str _) t6 (tb4.keep D5.tk) (t4.keep D5.tk) hp) ((D4.trans D5).new hp)

theorem st_none (T : Txt K mg w) : Cal P w K mg base 10 "_law_statement" (spSt 0) [] := by
  refine calOf T.d_l_statement sc_l_statement (fun vs H Q E h => ?_) (fun f cdv A outer s H vs Q E hr h => ?_)
  · obtain ⟨g, n, c, e, rfl, h, _⟩ := h
    exact absurd h (Nat.not_lt_zero _)
  · obtain ⟨g, n, c, e, rfl, h, _⟩ := h
    exact absurd h (Nat.not_lt_zero _)
theorem if_none (T : Txt K mg w) : Cal P w K mg base 12 "_law_if" (spIf 0) [] := by
  refine calOf T.d_l_if sc_l_if (fun vs H Q E h => ?_) (fun f cdv A outer s H vs Q E hr h => ?_)
  · obtain ⟨g, n, c, e, rfl, h, _⟩ := h
    exact absurd h (Nat.not_lt_zero _)
  · obtain ⟨g, n, c, e, rfl, h, _⟩ := h
    exact absurd h (Nat.not_lt_zero _)
theorem c_l_statement (T : Txt K mg w) {m : Nat} (c_l_take : Cal P w K mg base 1 "_law_take" spTake []) (c_l_one : Cal P w K mg base 2 "_law_one" (spOne K) []) (c_l_name : Cal P w K mg base 3 "_law_name" spName []) (c_l_names : Cal P w K mg base 4 "_law_names" spNames [])
    (c_l_expression : Cal P w K mg base 9 "_law_expression" (spPart 4) []) (c_l_block : Cal P w K mg base (11 + 3 * m) "_law_block" (spBl m) []) (c_l_if : Cal P w K mg base (12 + 3 * m) "_law_if" (spIf m) []) :
    Cal P w K mg base (13 + 3 * m) "_law_statement" (spSt (m + 1)) [] := by
  rw [show 13 + 3 * m = (12 + 3 * m) + 1 by omega]
  refine calOf T.d_l_statement sc_l_statement (fun vs H Q E h => ?_) (fun f cdv A outer s H vs Q E hr h => ?_)
  · obtain ⟨g, k, c, e, rfl, _⟩ := h
    rfl
  · obtain ⟨g, n, c, e, rfl, hn, B, k⟩ := h
    refine ⟨_,
      (Evl.pss_cut (ps_set (i := 2) sc_l_statement.nd rfl (Or.inl rfl) (pe_ifExp (pt_cmpR op_gt (pv 1) pe_int (nomark _)) (pe_c c_l_take hr (by first | decide | omega) rfl (pa_cons (pv 0) (pa_cons pe_int pa_nil))) (pe_c c_l_take hr (by first | decide | omega) rfl (pa_cons (pv 0) (pa_cons pe_int pa_nil)))))
        (pss_cons (ps_if (pt_cmpR op_lt (pv 2) pe_int (nomark _))
        (pss_one (ps_ret (pe_tup (pa_cons (pe_ifExp (pt_cmpR op_lt (pv 2) pe_int (nomark _)) pe_str pe_str) (pa_cons (pe_c c_l_name hr (by first | decide | omega) rfl (pa_cons (pv 0) pa_nil)) (pa_cons (pe_c c_l_expression hr (by first | decide | omega) rfl (pa_cons (pv 0) (pa_cons (pe_c c_l_one hr (by first | decide | omega) rfl (pa_cons (pv 0) (pa_cons (pe_lst (pa_cons pe_int (pa_cons pe_int (pa_cons pe_int pa_nil)))) pa_nil))) pa_nil))) pa_nil))))))
        pss_nil)
        (pss_cons (ps_if (pt_cmpR op_eq (pv 2) pe_int (nomark _))
        (pss_one (ps_ret (pe_tup (pa_cons pe_str (pa_cons (pe_ifExp (pt_cmpR op_gt (pe_c c_l_take hr (by first | decide | omega) rfl (pa_cons (pv 0) (pa_cons pe_int pa_nil))) pe_int (nomark _)) (pe_c c_l_expression hr (by first | decide | omega) rfl (pa_cons (pv 0) (pa_cons pe_int pa_nil))) pe_non) pa_nil)))))
        pss_nil)
        (pss_cons (ps_if (pt_cmpR op_lt (pv 2) pe_int (nomark _))
        (pss_one (ps_ret (pe_tup (pa_cons pe_str (pa_cons (pe_c c_l_expression hr (by first | decide | omega) rfl (pa_cons (pv 0) (pa_cons (pe_c c_l_one hr (by first | decide | omega) rfl (pa_cons (pv 0) (pa_cons (pe_lst (pa_cons pe_int (pa_cons pe_int (pa_cons pe_int pa_nil)))) pa_nil))) pa_nil))) pa_nil)))))
        pss_nil)
        (pss_cons (ps_if (pt_cmpR op_lt (pv 2) pe_int (nomark _))
        (pss_one (ps_ret (pe_c c_l_if hr (by first | decide | omega) rfl (pa_cons (pv 0) (pa_cons (pv 1) pa_nil)))))
        pss_nil)
        (pss_cons (ps_if (pt_cmpR op_eq (pv 2) pe_int (nomark _))
        (pss_one (ps_ret (pe_tup (pa_cons pe_str (pa_cons (pe_c c_l_expression hr (by first | decide | omega) rfl (pa_cons (pv 0) (pa_cons pe_int pa_nil))) (pa_cons (pe_c c_l_block hr (by first | decide | omega) rfl (pa_cons (pv 0) (pa_cons (pv 1) pa_nil))) pa_nil))))))
        pss_nil)
        (pss_cons (ps_if (pt_cmpR op_eq (pv 2) pe_int (nomark _))
        (pss_one (ps_ret (pe_tup (pa_cons pe_str (pa_cons (pe_c c_l_name hr (by first | decide | omega) rfl (pa_cons (pv 0) pa_nil)) (pa_cons (pe_c c_l_expression hr (by first | decide | omega) rfl (pa_cons (pv 0) (pa_cons pe_int pa_nil))) (pa_cons (pe_c c_l_block hr (by first | decide | omega) rfl (pa_cons (pv 0) (pa_cons (pv 1) pa_nil))) pa_nil)))))))
        pss_nil)
        (pss_one (ps_ret (pe_tup (pa_cons pe_str (pa_cons (pe_c c_l_name hr (by first | decide | omega) rfl (pa_cons (pv 0) pa_nil)) (pa_cons (pe_c c_l_names hr (by first | decide | omega) rfl (pa_cons (pv 0) pa_nil)) (pa_cons (pe_c c_l_block hr (by first | decide | omega) rfl (pa_cons (pv 0) (pa_cons (pv 1) pa_nil))) pa_nil))))))))))))))
      , ?_⟩
    refine ⟨fun σ' H' => ∃ r : Int, σ' = [some (.ref g.b), some (.int ((n : Int) - 1)), some (.int r)] ∧ 0 ≤ r ∧ r < 12 ∧ (7 ≤ r → 2 ≤ n) ∧ Drawn g H H' c e, ?_, ?_⟩
    · refine ⟨_, rfl, _, _, rfl, rfl, _, rfl, ?_⟩
      refine ite2 (fun h0 => ?_) (fun h0 => ?_)
      · have h0 : (0 : Int) < (n : Int) - 1 := of_decide_eq_true h0
        exact ⟨_, rfl, g, 12, c, e, rfl, B, by decide, by decide, fun r H1 r0 r1 D1 => ⟨r, rfl, r0, r1, fun _ => by omega, D1⟩⟩
      · exact ⟨_, rfl, g, 7, c, e, rfl, B, by decide, by decide, fun r H1 r0 r1 D1 => ⟨r, rfl, r0, by omega, fun _ => by omega, D1⟩⟩
    rintro σ' H1 ⟨r, rfl, r0, r1, rn, D1⟩
    -- one of three depths
    have deep : ∀ (Hx : Hp) (e' : Int) (Q' : VK), Drawn g H Hx c e' → (∀ (v : V) (d : PyData) (mm : Nat) (H' : Hp) (e2 : Int), mm ≤ 3 → Ex mm d → Tr H' v d → Drawn g Hx H' c e2 → Q' v H') →
        ∀ p, Hx p = none → spOne K [.ref g.b, .ref p] (upd Hx p (.lst [.int 2, .int 1, .int 3])) (fun v H2 => spPart 4 [.ref g.b, v] H2 Q' E0) E0 := fun Hx e' Q' Dx kx p hp =>
      pick_of Dx.bag hp (by decide) (by decide) fun v H2 hv D2 => by
        obtain ⟨mm, hm, rfl⟩ : ∃ mm : Nat, mm ≤ 3 ∧ v = .int mm := by
          simp only [List.mem_cons, List.not_mem_nil, or_false] at hv
          rcases hv with rfl | rfl | rfl
          · exact ⟨2, by decide, rfl⟩
          · exact ⟨1, by decide, rfl⟩
          · exact ⟨3, by decide, rfl⟩
        exact ⟨g, mm, c, e', rfl, by omega, D2.bag, fun v d H' e2 hx ht D3 => kx v d mm H' e2 hm hx ht (D2.trans D3)⟩
    refine ⟨_, rfl, _, _, rfl, rfl, _, rfl, ?_⟩
    refine ite2 (fun h1 => ?_) (fun h1 => ?_)
    · -- let, set
      obtain ⟨kw, hkw, hk⟩ : ∃ kw : Str, (kw = "let" ∨ kw = "set") ∧ ∀ (σ' : L2.St) (Hx : Hp) (Q' : VK), σ' = [some (.ref g.b), some (.int ((n : Int) - 1)), some (.int r)] → Q' (.str kw) Hx →
          tIf (tTest (tOp (rI0 fun i j => V.bl (decide (i < j))) (tVar 2) (tC (V.int 2)))) (tC (V.str "let")) (tC (V.str "set")) σ' Hx Q' := by
        by_cases q : r < 2
        · exact ⟨"let", .inl rfl, fun σ' Hx Q' e q' => by subst e; exact ⟨_, rfl, _, _, rfl, rfl, _, rfl, ite2 (fun _ => q') (fun z => absurd (decide_eq_true q) z)⟩⟩
        · exact ⟨"set", .inr rfl, fun σ' Hx Q' e q' => by subst e; exact ⟨_, rfl, _, _, rfl, rfl, _, rfl, ite2 (fun z => absurd (of_decide_eq_true z) q) (fun _ => q')⟩⟩
      refine hk _ _ _ rfl ?_
      refine ⟨_, rfl, g, c, e, rfl, D1.bag, fun z H2 hz D2 => ?_⟩
      have D2 := D1.trans D2
      refine ⟨_, rfl, _, rfl, by decide, fun p hp => deep H2 e _ D2 (fun v d mm H3 e3 hm hx ht D3 => ?_) p hp⟩
      exact ⟨by show 3 ≤ sizeLine; decide, fun q hq => k _ _ _ e3 (.nam hkw hz hm hx) (tr3 (.str _) (.str _) ht hq) ((D2.trans D3).new hq)⟩
    refine ⟨_, rfl, rfl, _, rfl, ?_⟩
    refine ite2 (fun h2 => ?_) (fun h2 => ?_)
    · -- give
      refine ⟨_, rfl, g, 3, c, e, rfl, D1.bag, by decide, by decide, fun r2 H2 _ _ D2 => ⟨_, _, rfl, rfl, _, rfl, ?_⟩⟩
      have D2 := D1.trans D2
      refine ite2 (fun _ => ?_) (fun _ => ?_)
      · refine ⟨_, rfl, g, 2, c, e, rfl, by decide, D2.bag, fun v d H3 e3 hx ht D3 => ⟨by show 2 ≤ sizeLine; decide, fun q hq => ?_⟩⟩
        exact k _ _ _ e3 (.give hx) (tr2 (.str _) ht hq) ((D2.trans D3).new hq)
      · exact ⟨by show 2 ≤ sizeLine; decide, fun q hq => k _ _ _ e .give0 (tr2 (.str _) .non hq) (D2.new hq)⟩
    refine ⟨_, rfl, _, _, rfl, rfl, _, rfl, ?_⟩
    refine ite2 (fun h3 => ?_) (fun h3 => ?_)
    · -- do
      refine ⟨_, rfl, _, rfl, by decide, fun p hp => deep H1 e _ D1 (fun v d mm H3 e3 hm hx ht D3 => ?_) p hp⟩
      exact ⟨by show 2 ≤ sizeLine; decide, fun q hq => k _ _ _ e3 (.do_ hm hx) (tr2 (.str _) ht hq) ((D1.trans D3).new hq)⟩
    have r7 : 7 ≤ r := by
      have : ¬ r < 7 := fun z => h3 (decide_eq_true z)
      omega
    obtain ⟨j, rfl⟩ : ∃ j, n = j + 1 := ⟨n - 1, by have := rn r7; omega⟩
    have hd : ((j + 1 : Nat) : Int) - 1 = (j : Int) := by omega
    rw [hd]
    refine ⟨_, rfl, _, _, rfl, rfl, _, rfl, ?_⟩
    refine ite2 (fun h4 => ?_) (fun h4 => ?_)
    · exact ⟨_, rfl, _, rfl, g, j, c, e, rfl, by omega, D1.bag, fun v d b o H2 e2 hs ht D2 => k _ _ _ e2 hs ht (D1.trans D2)⟩
    refine ⟨_, rfl, rfl, _, rfl, ?_⟩
    refine ite2 (fun h5 => ?_) (fun h5 => ?_)
    · refine ⟨_, rfl, g, 2, c, e, rfl, by decide, D1.bag, fun v d H2 e2 hx ht D2 => ?_⟩
      have D2 := D1.trans D2
      refine ⟨_, rfl, _, rfl, g, j, c, e2, rfl, by omega, D2.bag, fun v2 bs H3 e3 lb sb tb D3 => ⟨by show 3 ≤ sizeLine; decide, fun q hq => ?_⟩⟩
      exact k _ _ _ e3 (.whil hx lb sb) (tr3 (.str _) (ht.keep D3.tk) tb hq) ((D2.trans D3).new hq)
    refine ⟨_, rfl, rfl, _, rfl, ?_⟩
    refine ite2 (fun h6 => ?_) (fun h6 => ?_)
    · refine ⟨_, rfl, g, c, e, rfl, D1.bag, fun z H2 hz D2 => ?_⟩
      have D2 := D1.trans D2
      refine ⟨_, rfl, g, 2, c, e, rfl, by decide, D2.bag, fun v d H3 e3 hx ht D3 => ?_⟩
      have D3 := D2.trans D3
      refine ⟨_, rfl, _, rfl, g, j, c, e3, rfl, by omega, D3.bag, fun v2 bs H4 e4 lb sb tb D4 => ⟨by show 4 ≤ sizeLine; decide, fun q hq => ?_⟩⟩
      exact k _ _ _ e4 (.for_ hz hx lb sb) (tr4 (.str _) (.str _) (ht.keep D4.tk) tb hq) ((D3.trans D4).new hq)
    · refine ⟨_, rfl, g, c, e, rfl, D1.bag, fun z H2 hz D2 => ?_⟩
      have D2 := D1.trans D2
      refine ⟨_, rfl, g, c, e, rfl, D2.bag, fun v ns H3 hn3 ln tn D3 => ?_⟩
      have D3 := D2.trans D3
      refine ⟨_, rfl, _, rfl, g, j, c, e, rfl, by omega, D3.bag, fun v2 bs H4 e4 lb sb tb D4 => ⟨by show 4 ≤ sizeLine; decide, fun q hq => ?_⟩⟩
      exact k _ _ _ e4 (.def_ hz ln hn3 lb sb) (tr4 (.str _) (.str _) (tn.keep D4.tk) tb hq) ((D3.trans D4).new hq)

/-! ### what is drawn is data that may be compared and shown -/
theorem tameAll_of : ∀ {ds : List PyData}, (∀ d ∈ ds, tame d = true) → tameAll ds = true
  | [], _ => rfl
  | d :: r, h => by
    show (tame d && tameAll r) = true
    rw [h d (List.mem_cons_self ..), tameAll_of fun x hx => h x (List.mem_cons_of_mem _ hx)] <;> rfl
theorem depthAll_of {m : Nat} : ∀ {ds : List PyData}, (∀ d ∈ ds, d.depth ≤ m) → PyData.depthAll ds ≤ m
  | [], _ => Nat.zero_le _
  | d :: r, h => Nat.max_le.mpr ⟨h d (List.mem_cons_self ..), depthAll_of fun x hx => h x (List.mem_cons_of_mem _ hx)⟩
/-- tame, and so deep -/
def TD (m : Nat) (d : PyData) : Prop := tame d = true ∧ d.depth ≤ m
theorem TD.up {m k : Nat} {d : PyData} (h : TD m d) (l : m ≤ k) : TD k d := ⟨h.1, Nat.le_trans h.2 l⟩
theorem TD.tup {m : Nat} {ds : List PyData} (h : ∀ d ∈ ds, TD m d) : TD (m + 1) (.tuple ds) :=
  ⟨tameAll_of fun d hd => (h d hd).1, Nat.succ_le_succ (depthAll_of fun d hd => (h d hd).2)⟩
theorem TD.str {m : Nat} {z : Str} (h : Vf.Nice z) : TD m (.str z) := ⟨h.tame, Nat.zero_le _⟩
theorem TD.non {m : Nat} : TD m .none := ⟨rfl, Nat.zero_le _⟩
theorem NameOk.nice' {z : Str} (h : NameOk z) : Vf.Nice z := by
  intro c hc
  have hc : c ∈ z.cps.toList := hc
  have f := h.form
  have lt : ∀ c, isLetter c = true → c < 0x110000 := fun c h => by
    unfold isLetter at h
    simp only [Bool.or_eq_true, Bool.and_eq_true, decide_eq_true_eq] at h
    omega
  have dt : ∀ c, isDigit c = true → c < 0x110000 := fun c h => by
    unfold isDigit at h
    simp only [Bool.and_eq_true, decide_eq_true_eq] at h
    omega
  unfold nameL at f
  split at f
  · cases f
  · rename_i a r e
    rw [e] at hc
    rw [Bool.and_eq_true, List.all_eq_true] at f
    rcases List.mem_cons.mp hc with h | h
    · rw [h]
      exact lt _ f.1
    · have := f.2 c h
      rw [Bool.or_eq_true] at this
      exact this.elim (lt c) (dt c)
theorem kw_nice {z : Str} (h : (z.cps.toList.all (· < 0x110000)) = true) : Vf.Nice z := nice_of h
theorem all_nice {l : List Str} (h : (l.all fun z => z.cps.toList.all (· < 0x110000)) = true) {z : Str} (hz : z ∈ l) : Vf.Nice z := nice_of (List.all_eq_true.mp h z hz)
theorem leaf_td {m : Nat} {k z : Str} (h : Leaf k z) : TD m (.str k) ∧ TD m (.str z) := by
  cases h with
  | name h => exact ⟨.str (kw_nice (by decide +kernel)), .str h.nice'⟩
  | number h => exact ⟨.str (kw_nice (by decide +kernel)), .str (all_nice (by decide +kernel) h)⟩
  | quote h => exact ⟨.str (kw_nice (by decide +kernel)), .str (all_nice (by decide +kernel) h)⟩
  | word h => exact ⟨.str (kw_nice (by decide +kernel)), .str (all_nice (by decide +kernel) h)⟩
  | raw h => exact ⟨.str (kw_nice (by decide +kernel)), .str (all_nice (by decide +kernel) h)⟩
theorem all2 {p : PyData → Prop} {a b : PyData} (ha : p a) (hb : p b) : ∀ d ∈ [a, b], p d := fun d hd => by
  simp only [List.mem_cons, List.not_mem_nil, or_false] at hd
  rcases hd with rfl | rfl <;> assumption
theorem all3 {p : PyData → Prop} {a b c : PyData} (ha : p a) (hb : p b) (hc : p c) : ∀ d ∈ [a, b, c], p d := fun d hd => by
  simp only [List.mem_cons, List.not_mem_nil, or_false] at hd
  rcases hd with rfl | rfl | rfl <;> assumption
theorem all4 {p : PyData → Prop} {a b c e : PyData} (ha : p a) (hb : p b) (hc : p c) (he : p e) : ∀ d ∈ [a, b, c, e], p d := fun d hd => by
  simp only [List.mem_cons, List.not_mem_nil, or_false] at hd
  rcases hd with rfl | rfl | rfl | rfl <;> assumption
theorem names_td {m : Nat} {ns : List Str} (h : ∀ z ∈ ns, NameOk z) : TD (m + 1) (.tuple (ns.map .str)) := .tup fun d hd => by
  obtain ⟨z, hz, rfl⟩ := List.mem_map.mp hd
  exact .str (h z hz).nice'
theorem ex_td : ∀ {n : Nat} {d : PyData}, Ex n d → TD (3 * n + 1) d := by
  intro n
  induction n with
  | zero =>
    intro d hx
    cases hx with
    | leaf h => exact .tup (m := 0) (all2 (leaf_td h).1 (leaf_td h).2)
  | succ n ih =>
    intro d hx
    have ih : ∀ {d : PyData}, Ex n d → TD (3 * n + 1) d := ih
    have e : 3 * (n + 1) + 1 = (3 * n + 3) + 1 := by omega
    rw [e]
    have k : ∀ {z : Str}, (z.cps.toList.all (· < 0x110000)) = true → TD (3 * n + 3) (.str z) := fun h => .str (kw_nice h)
    cases hx with
    | leaf h => exact .tup (all2 (leaf_td h).1 (leaf_td h).2)
    | two ho hl hr => exact .tup (all4 (k (by decide +kernel)) (.str (all_nice (by decide +kernel) ho)) ((ih hl).up (by omega)) ((ih hr).up (by omega)))
    | not h => exact .tup (all2 (k (by decide +kernel)) ((ih h).up (by omega)))
    | minus h => exact .tup (all2 (k (by decide +kernel)) ((ih h).up (by omega)))
    | call h _ hs => exact .tup (all3 (k (by decide +kernel)) ((ih h).up (by omega)) ((TD.tup fun d hd => ih (hs d hd)).up (by omega)))
    | field h hz => exact .tup (all3 (k (by decide +kernel)) ((ih h).up (by omega)) (.str hz.nice'))
    | index h h2 => exact .tup (all3 (k (by decide +kernel)) ((ih h).up (by omega)) ((ih h2).up (by omega)))
    | list _ hs => exact .tup (all2 (k (by decide +kernel)) ((TD.tup fun d hd => ih (hs d hd)).up (by omega)))
    | map _ hk hv =>
      refine .tup (all2 (k (by decide +kernel)) ((TD.tup (m := 3 * n + 2) fun d hd => ?_).up (by omega)))
      obtain ⟨p, hp, rfl⟩ := List.mem_map.mp hd
      exact .tup (all2 (ih (hk p hp)) (ih (hv p hp)))
    | fn _ hn hb => exact .tup (all3 (k (by decide +kernel)) ((names_td (m := 0) hn).up (by omega)) ((ih hb).up (by omega)))
theorem st_td : ∀ {n : Nat} {d : PyData}, St n d → TD (2 * n + 11) d := by
  have kk : ∀ {z : Str} {m : Nat}, (z.cps.toList.all (· < 0x110000)) = true → TD m (.str z) := fun h => .str (kw_nice h)
  have ex2 : ∀ {d : PyData} {n : Nat}, Ex 2 d → TD (2 * n + 10) d := fun h => (ex_td h).up (by omega)
  have ex3 : ∀ {d : PyData} {n m : Nat}, m ≤ 3 → Ex m d → TD (2 * n + 10) d := fun l h => (ex_td h).up (by omega)
  have base : ∀ {n : Nat} {k z : Str} {d : PyData} {m : Nat}, (k = "let" ∨ k = "set") → NameOk z → m ≤ 3 → Ex m d → TD (2 * n + 11) (.tuple [.str k, .str z, d]) := fun hk hz hm hx =>
    .tup (all3 (by rcases hk with rfl | rfl <;> exact kk (by decide +kernel)) (.str hz.nice') (ex3 hm hx))
  intro n
  induction n with
  | zero =>
    intro d h
    cases h with
    | nam hk hz hm hx => exact base hk hz hm hx
    | give0 => exact .tup (all2 (kk (by decide +kernel)) .non)
    | give hx => exact .tup (all2 (kk (by decide +kernel)) ((ex_td hx).up (by omega)))
    | do_ hm hx => exact .tup (all2 (kk (by decide +kernel)) ((ex_td hx).up (by omega)))
  | succ n ih =>
    intro d h
    have ih : ∀ {d : PyData}, St n d → TD (2 * n + 11) d := ih
    have e : 2 * (n + 1) + 11 = (2 * n + 12) + 1 := by omega
    have blk : ∀ {bs : List PyData}, (∀ x ∈ bs, St n x) → TD (2 * n + 12) (.tuple bs) := fun h => .tup fun d hd => ih (h d hd)
    have ex2 : ∀ {d : PyData}, Ex 2 d → TD (2 * n + 12) d := fun h => (ex_td h).up (by omega)
    cases h with
    | nam hk hz hm hx => exact base hk hz hm hx
    | give0 => exact .tup (all2 (kk (by decide +kernel)) .non)
    | give hx => exact .tup (all2 (kk (by decide +kernel)) (ex2 hx))
    | do_ hm hx => exact .tup (all2 (kk (by decide +kernel)) (ex3 (n := n + 1) hm hx))
    | ifN hx _ hb => exact .tup (all4 (kk (by decide +kernel)) (ex2 hx) (blk hb) .non)
    | ifB hx _ hb _ hc => exact .tup (all4 (kk (by decide +kernel)) (ex2 hx) (blk hb) (blk hc))
    | ifI hx _ hb hi => exact .tup (all4 (kk (by decide +kernel)) (ex2 hx) (blk hb) ((ih hi).up (by omega)))
    | whil hx _ hb => exact .tup (all3 (kk (by decide +kernel)) (ex2 hx) (blk hb))
    | for_ hz hx _ hb => exact .tup (all4 (kk (by decide +kernel)) (.str hz.nice') (ex2 hx) (blk hb))
    | def_ hz _ hn _ hb => exact .tup (all4 (kk (by decide +kernel)) (.str hz.nice') ((names_td (m := 0) hn).up (by omega)) (blk hb))

/-- a word, and whether it is a row's -/
def wD (x : Str × Bool) : PyData := .tuple [.str x.1, .bool x.2]
/-- rows of words are kept by all that keeps tuples and lists -/
def spRow (K : PySem.W.Frag) : Sp := fun vs H Q _ => ∃ (p : Addr) (ws : List Str), vs = [.ref p] ∧ SqL K H p (ws.map V.str) ∧ ws.length ≤ 1000 ∧
  ∀ (q : Addr) (us : List V) (H' : Hp), Same H H' → H q = none → H' q = some (.lst us) → TrAll H' us (ws.map fun z => wD (z, true)) → Q (.ref q) H'
theorem c_l_row_words (T : Txt K mg w) : Cal P w K mg base 1 "_law_row_words" (spRow K) [] := by
  refine calOf T.d_l_row_words sc_l_row_words (fun vs H Q E h => ?_) (fun f cdv A outer s H vs Q E hr h => ?_)
  · obtain ⟨p, ws, rfl, _⟩ := h
    rfl
  · obtain ⟨p, ws, rfl, hq, hl, k⟩ := h
    refine ⟨_,
      (pss_one (ps_ret (pe_lc (own := [("_law_word", 1)]) (g := gName 1) (tt := tYes) rfl sc_l_row_words.nd (pi_list (pv 0)) (blkOk_by (N := ["_law_words_here", "_law_word"]) (sc := defScope s_l_row_words) (by decide +kernel)) (fun _ _ _ _ _ => pg_name (i := 1) sc_l_row_words.nd rfl (Or.inl rfl)) (fun _ _ _ _ _ => pts_nil) (fun _ _ _ _ _ => (pe_tup (pa_cons (pv 1) (pa_cons pe_bl pa_nil)))))))
      , ?_⟩
    refine ⟨_, rfl, p, rfl, ⟨_, hq⟩, fun D hD => ?_⟩
    refine lc_list (K := K) (a := p) (xs := ws.map V.str) (fun i H' => ∃ us : List V, us.length = i ∧ H' D = some (.lst us) ∧ TrAll H' us ((ws.take i).map fun z => wD (z, true)) ∧ Same H H') ⟨[], rfl, upd_same, .nil, same_put (Same.refl _) hD⟩ (fun i H' _ ⟨_, _, _, _, s2⟩ => s2.seq hq) ?_ ?_
    · rintro i v H' hi ⟨us, lu, hd, tr, s2⟩
      rw [List.getElem?_map] at hi
      obtain ⟨z, hz, rfl⟩ := Option.map_eq_some_iff.mp hi
      have li := (List.getElem?_eq_some_iff.mp hz).1
      refine ⟨rfl, _, rfl, by show 2 ≤ sizeLine; decide, fun q hq2 => ?_⟩
      have nD : q ≠ D := fun e => by
        rw [e, hd] at hq2
        cases hq2
      have tk : Tk H' (upd (upd H' q (.tup [.str z, .bl true])) D (.lst (us ++ [.ref q]))) := ((Tk.refl H').new hq2).put fun xs e => by
        rw [hd] at e
        cases e
      refine ⟨us, upd_some hd hq2, by rw [lu]; exact Nat.lt_of_lt_of_le (show i < 1000 by omega) (by decide), us ++ [.ref q], by rw [List.length_append, lu] <;> rfl, upd_same, ?_, same_put (s2.trans (same_new hq2)) hD⟩
      rw [List.take_add_one, hz, List.map_append]
      refine (tr.keep tk).app (.cons (.tup ?_ (.cons (.str z) (.cons (.bl true) .nil))) .nil)
      rw [upd_ne nD, upd_same]
    · rintro H' ⟨us, lu, hd, tr, s2⟩
      rw [List.length_map, List.take_length] at tr
      exact k D us H' s2 hD hd tr

-- imports: HandS.Walk
abbrev Wd := Str × Bool
/-- rows of words with a comma between them -/
def btw : Bool → List (List Wd) → List Wd
  | _, [] => []
  | b, w :: r => (if b then [] else [((",", true) : Wd)]) ++ w ++ btw false r
theorem btw_app : ∀ (b : Bool) (l m : List (List Wd)), btw b (l ++ m) = btw b l ++ btw (b && l.isEmpty) m
  | b, [], m => by
    show btw b m = [] ++ btw (b && true) m
    rw [Bool.and_true, List.nil_append]
  | b, w :: l, m => by
    show (if b then [] else [((",", true) : Wd)]) ++ w ++ btw false (l ++ m) = ((if b then [] else [((",", true) : Wd)]) ++ w ++ btw false l) ++ btw (b && false) m
    rw [btw_app false l m, Bool.and_false, Bool.false_and, List.append_assoc, List.append_assoc, List.append_assoc]
/-- words that stand in a list -/
def WdL (H : Hp) (v : V) (ws : List Wd) : Prop := ∃ (q : Addr) (us : List V), v = .ref q ∧ H q = some (.lst us) ∧ TrAll H us (ws.map wD)
theorem WdL.same {H H' : Hp} {v : V} {ws : List Wd} (h : WdL H v ws) (s : Same H H') : WdL H' v ws := by
  obtain ⟨q, us, e, hq, tr⟩ := h
  exact ⟨q, us, e, s _ _ hq, tr.keep (Tk.of s)⟩
def spBtw (K : PySem.W.Frag) : Sp := fun vs H Q _ => ∃ (p : Addr) (rs : List V) (wss : List (List Wd)), vs = [.ref p] ∧ SqL K H p rs ∧ rs.length = wss.length ∧ (∀ (i : Nat) (v : V) (ws : List Wd), rs[i]? = some v → wss[i]? = some ws → WdL H v ws) ∧ (btw true wss).length ≤ 1000000 ∧
  ∀ (v : V) (H' : Hp), Same H H' → WdL H' v (btw true wss) → Q v H'
theorem c_l_between (T : Txt K mg w) (c_l_row_words : Cal P w K mg base 1 "_law_row_words" (spRow K) []) : Cal P w K mg base 2 "_law_between" (spBtw K) [] := by
  refine calOf T.d_l_between sc_l_between (fun vs H Q E h => ?_) (fun f cdv A outer s H vs Q E hr h => ?_)
  · obtain ⟨p, rs, wss, rfl, _⟩ := h
    rfl
  · obtain ⟨p, rs, wss, rfl, hq, hl, hw, hb, k⟩ := h
    refine ⟨_,
      (pss_cons (ps_set (i := 1) sc_l_between.nd rfl (Or.inl rfl) (pe_lst pa_nil))
        (pss_cons (ps_for PassesOwn.never rfl (pi_enum (by rfl) T.n_enumerate (pa_cons (pv 0) pa_nil)) (pg_tup rfl (pgs_cons (pg_name (i := 2) sc_l_between.nd rfl (Or.inl rfl)) (pgs_cons (pg_name (i := 3) sc_l_between.nd rfl (Or.inl rfl)) pgs_nil)))
        (pss_one (ps_set (i := 1) sc_l_between.nd rfl (Or.inl rfl) (pe_op op_cat (pe_op op_cat (pv 1) (pe_c c_l_row_words hr (by first | decide | omega) rfl (pa_cons (pe_op op_rep (pe_lst (pa_cons pe_str pa_nil)) (pe_callTy call_int1 (by rfl) T.n_int (by decide +kernel) (pa_cons (pe_cmpR op_gt (pv 2) pe_int (nomark _)) pa_nil))) pa_nil))) (pv 3)))))
        (pss_one (ps_ret (pv 1)))))
      , ?_⟩
    refine ⟨by decide, fun F0 hF0 => ?_⟩
    have s0 : Same H (upd H F0 (.lst [])) := same_new hF0
    refine ⟨_, rfl, p, rs, rfl, s0.seq hq, for_it (walk_enum (K := K) (a := p) (xs := rs)) (fun i σ H' => ∃ (v1 : V) (v2 v3 : Option V), σ = [some (.ref p), some v1, v2, v3] ∧ Same H H' ∧ WdL H' v1 (btw true (wss.take i)))
      ⟨.ref F0, none, none, rfl, s0, F0, [], rfl, upd_same, .nil⟩ (fun i σ H' _ ⟨_, _, _, _, s1, _⟩ => s1.seq hq) ?_ ?_⟩
    · rintro i x σ H1 H2 hi ⟨v1, v2, v3, rfl, s1, q1, us1, rfl, hq1, tr1⟩ ⟨A, xx, yy, rfl, hA, rfl, ex, ey⟩
      have ex : V.int i = xx := Option.some.inj ex
      subst ex
      obtain ⟨ws, hws⟩ : ∃ ws, wss[i]? = some ws := ⟨_, List.getElem?_eq_getElem (by omega)⟩
      have sA := same_new (o := .tup [.int i, yy]) hA
      refine ⟨A, _, rfl, SqT.of upd_same, rfl, _, _, rfl, _, _, rfl, rfl, ?_⟩
      have w2 := (hw i yy ws ey hws).same (s1.trans sA)
      have hq2 := sA _ _ hq1
      have tr2 := tr1.keep (Tk.of sA)
      have s2 := s1.trans sA
      generalize upd H1 A (.tup [.int i, yy]) = H2 at w2 hq2 tr2 s2 ⊢
      -- the comma
      obtain ⟨z, cm, ez, hz, ec⟩ : ∃ (z : Int) (cm : List Str), (if decide ((0 : Int) < (i : Int)) = true then (1 : Int) else 0) = z ∧ (List.replicate z.toNat [V.str ","]).flatten = cm.map V.str ∧
          (cm.length ≤ 1 ∧ z.toNat ≤ 1 ∧ 0 ≤ z ∧ z < 2 ^ 63 ∧ btw true (wss.take (i + 1)) = btw true (wss.take i) ++ (cm.map fun z => ((z, true) : Wd)) ++ ws) := by
        have e1 : wss.take (i + 1) = wss.take i ++ [ws] := by rw [List.take_add_one, hws] <;> rfl
        by_cases q : i = 0
        · subst q
          exact ⟨0, [], rfl, rfl, by decide, by decide, by decide, by decide, by rw [e1, btw_app, List.take_zero]; show [] ++ (([] ++ ws) ++ []) = ([] ++ []) ++ ws; simp⟩
        · refine ⟨1, [","], by rw [if_pos (decide_eq_true (by omega))], rfl, by decide, by decide, by decide, by decide, ?_⟩
          rw [e1, btw_app]
          have : (wss.take i).isEmpty = false := by
            cases e : wss.take i with
            | nil =>
              have := congrArg List.length e
              rw [List.length_take, List.length_nil] at this
              omega
            | cons _ _ => rfl
          rw [this]
          show _ ++ (([((",", true) : Wd)] ++ ws) ++ []) = _
          rw [List.append_nil, List.append_assoc]
          rfl
      obtain ⟨c1, z1, z0, z2, eb⟩ := ec
      have lb : (btw true (wss.take (i + 1))).length ≤ 1000000 := by
        have e : wss = wss.take (i + 1) ++ wss.drop (i + 1) := (List.take_append_drop _ _).symm
        rw [e, btw_app, List.length_append] at hb
        omega
      have l1 := tr2.len
      obtain ⟨q3, us3, rfl, hq3, tr3⟩ := w2
      have l3 := tr3.len
      rw [List.length_map] at l1 l3
      rw [eb, List.length_append, List.length_append, List.length_map] at lb
      refine ⟨_, rfl, by decide, fun p1 hp1 => ⟨_, rfl, _, _, rfl, rfl, .inr ⟨_, rfl, p1, _, _, rfl, rfl, upd_same, ?_⟩⟩⟩
      rw [ez, hz]
      refine ⟨Int.le_trans (by decide) z0, z2, Nat.le_trans (show 1 * z.toNat ≤ 1 by omega) (by decide), fun p2 hp2 => ?_⟩
      refine ⟨p2, cm, rfl, SqL.of upd_same, by omega, fun p5 us5 H5 s5 n5 h5 tr5 => ?_⟩
      have s25 := ((same_new (o := .lst [.str ","]) hp1).trans (same_new (o := .lst (cm.map V.str)) hp2)).trans s5
      have l5 := tr5.len
      rw [List.length_map] at l5
      refine ⟨q1, p5, us1, us5, rfl, rfl, s25 _ _ hq2, h5, Nat.le_trans (show us1.length + us5.length ≤ 1000000 by omega) (by decide), fun p6 hp6 => ?_⟩
      have s6 := same_new (o := .lst (us1 ++ us5)) hp6
      refine ⟨_, rfl, p6, q3, _, us3, rfl, rfl, upd_same, s6 _ _ (s25 _ _ hq3), ?_, fun p7 hp7 => ?_⟩
      · rw [List.length_append]
        exact Nat.le_trans (show us1.length + us5.length + us3.length ≤ 1000001 by omega) (by decide)
      have s7 := same_new (o := .lst (us1 ++ us5 ++ us3)) hp7
      refine ⟨_, _, _, rfl, s2.trans ((s25.trans s6).trans s7), p7, _, rfl, upd_same, ?_⟩
      rw [eb, List.map_append, List.map_append, List.map_map]
      exact ((tr2.keep (Tk.of ((s25.trans s6).trans s7))).app (tr5.keep (Tk.of (s6.trans s7)))).app (tr3.keep (Tk.of ((s25.trans s6).trans s7)))
    · rintro σ H1 ⟨v1, v2, v3, rfl, s1, h1⟩
      rw [hl, List.take_length] at h1
      exact ⟨_, rfl, k v1 H1 s1 h1⟩

/-- lists of words, one behind the other -/
def spFlW (K : PySem.W.Frag) : Sp := fun vs H Q _ => ∃ (p : Addr) (rs : List V) (wss : List (List Wd)), vs = [.ref p] ∧ SqL K H p rs ∧ rs.length = wss.length ∧ (∀ (i : Nat) (v : V) (ws : List Wd), rs[i]? = some v → wss[i]? = some ws → WdL H v ws) ∧ wss.flatten.length ≤ 16000000 ∧
  ∀ (q : Addr) (us : List V) (H' : Hp), Same H H' → H q = none → H' q = some (.lst us) → TrAll H' us (wss.flatten.map wD) → Q (.ref q) H'
theorem c_l_flat (T : Txt K mg w) : Cal P w K mg base 1 "_law_flat" (spFlW K) [] := by
  refine calOf T.d_l_flat sc_l_flat (fun vs H Q E h => ?_) (fun f cdv A outer s H vs Q E hr h => ?_)
  · obtain ⟨p, rs, wss, rfl, _⟩ := h
    rfl
  · obtain ⟨p, rs, wss, rfl, hq, hl, hw, hb, k⟩ := h
    refine ⟨_,
      (pss_cons (ps_set (i := 1) sc_l_flat.nd rfl (Or.inl rfl) (pe_lst pa_nil))
        (pss_cons (ps_for PassesOwn.never rfl (pi_list (pv 0)) (pg_name (i := 2) sc_l_flat.nd rfl (Or.inl rfl))
        (pss_one (ps_expr (pe_bm PySem.F.plainAttrs_list PySem.F.slot_list_extend PySem.F.type_list_extend mt_extend (pv 1) (pa_cons (pv 2) pa_nil)))))
        (pss_one (ps_ret (pv 1)))))
      , ?_⟩
    refine ⟨by decide, fun F hF => ?_⟩
    have s0 : Same H (upd H F (.lst [])) := same_new hF
    refine ⟨_, rfl, p, rfl, ⟨rs, s0.seq hq⟩, for_list (K := K) (a := p) (xs := rs) (fun i σ H' => ∃ (us : List V) (v2 : Option V), σ = [some (.ref p), some (.ref F), v2] ∧ Same H H' ∧ H' F = some (.lst us) ∧ TrAll H' us ((wss.take i).flatten.map wD))
      ⟨[], none, rfl, s0, upd_same, .nil⟩ (fun i σ H' _ ⟨_, _, _, s1, _⟩ => s1.seq hq) ?_ ?_⟩
    · rintro i v σ H1 hi ⟨us, v2, rfl, s1, hf, tr⟩
      have li := (List.getElem?_eq_some_iff.mp hi).1
      obtain ⟨ws, hws⟩ : ∃ ws, wss[i]? = some ws := ⟨_, List.getElem?_eq_getElem (by omega)⟩
      obtain ⟨q1, us1, rfl, hq1, tr1⟩ := (hw i v ws hi hws).same s1
      have e1 : (wss.take (i + 1)).flatten = (wss.take i).flatten ++ ws := by
        rw [List.take_add_one, hws, List.flatten_append]
        show _ ++ ([ws] : List (List Wd)).flatten = _
        rw [List.flatten_singleton]
      have lb : (wss.take (i + 1)).flatten.length ≤ 16000000 := by
        have e : wss = wss.take (i + 1) ++ wss.drop (i + 1) := (List.take_append_drop _ _).symm
        rw [e, List.flatten_append, List.length_append] at hb
        omega
      rw [e1, List.length_append] at lb
      have l0 := tr.len
      have l1 := tr1.len
      rw [List.length_map] at l0 l1
      have tk : Tk H1 (upd H1 F (.lst (us ++ us1))) := (Tk.refl H1).put fun xs z => by
        rw [hf] at z
        cases z
      refine ⟨_, rfl, .inl ⟨rfl, _, SqL.of hf⟩, _, rfl, F, q1, us, us1, rfl, rfl, hf, hq1, ?_, ?_⟩
      · exact Nat.le_trans (show us.length + us1.length ≤ 16000000 by omega) (by decide)
      refine ⟨us ++ us1, _, rfl, same_put s1 hF, upd_same, ?_⟩
      rw [e1, List.map_append]
      exact (tr.keep tk).app (tr1.keep tk)
    · rintro σ H1 ⟨us, v2, rfl, s1, hf, tr⟩
      rw [hl, List.take_length] at tr
      exact ⟨_, rfl, k F us H1 s1 hF hf tr⟩

open LamX (CodeO TabS Tabs ExtN TabB)
theorem lt_one (a b : Nat) : decide (([a] : List Nat) < [b]) = decide (a < b) := by
  have h : (([a] : List Nat) < [b]) ↔ a < b := by
    constructor
    · intro q
      cases q with
      | rel h => exact h
      | cons h => cases h
    · exact fun q => .rel q
  exact decide_eq_decide.mpr h
theorem le_one (a c : Nat) : (!decide (([c] : List Nat) < [a])) = decide (a ≤ c) := by
  rw [lt_one]
  by_cases h : c < a
  · rw [decide_eq_true h, decide_eq_false (by omega)] <;> rfl
  · rw [decide_eq_false h, decide_eq_true (by omega)] <;> rfl
theorem eq_one (a c : Nat) : decide (V.str ⟨#[c]⟩ = V.str ⟨#[a]⟩) = decide (c = a) := by
  refine decide_eq_decide.mpr ⟨fun h => ?_, fun h => by rw [h]⟩
  cases h
  rfl
/-- of one sign, a truth of it -/
def spSg (g : Nat → Bool) : Sp := fun vs H Q _ => ∃ c : Nat, vs = [.str ⟨#[c]⟩] ∧ Q (.bl (g c)) H
abbrev rLeStr : R2 := fun x y H Q => ∃ i j, x = .str i ∧ y = .str j ∧ Q (.bl (!decide (j.cps.toList < i.cps.toList))) H
theorem chain_one {a b c : Nat} {σ : L2.St} {H : Hp} {Q : VK} (hs : σ[0]? = some (some (.str ⟨#[c]⟩))) (q : Q (.bl (decide (a ≤ c) && decide (c ≤ b))) H) :
    tChain rLeStr rLeStr (tC (.str ⟨#[a]⟩)) (tVar 0) (tC (.str ⟨#[b]⟩)) σ H Q := by
  refine ⟨_, hs, _, _, rfl, rfl, _, rfl, ?_⟩
  rw [show (!decide ((⟨#[c]⟩ : Str).cps.toList < (⟨#[a]⟩ : Str).cps.toList)) = decide (a ≤ c) from le_one a c]
  by_cases h : a ≤ c
  · rw [if_pos (decide_eq_true h)]
    refine ⟨_, _, rfl, rfl, ?_⟩
    rw [show (!decide ((⟨#[b]⟩ : Str).cps.toList < (⟨#[c]⟩ : Str).cps.toList)) = decide (c ≤ b) from le_one c b]
    rw [decide_eq_true h, Bool.true_and] at q
    exact q
  · rw [if_neg (by rw [decide_eq_false h]; decide)]
    rw [decide_eq_false h, Bool.false_and] at q
    exact q
theorem c_l_is_digit (T : Txt K mg w) : Cal P w K mg base 1 "_law_is_digit" (spSg digC) [] := by
  refine calOf T.d_l_is_digit sc_l_is_digit (fun vs H Q E h => ?_) (fun f cdv A outer s H vs Q E hr h => ?_)
  · obtain ⟨c, rfl, _⟩ := h
    rfl
  · obtain ⟨c, rfl, k⟩ := h
    refine ⟨_,
      (pss_one (ps_ret (pe_chain op_le_str op_le_str pe_str (pv 0) pe_str)))
      , ?_⟩
    exact chain_one (a := 48) (b := 57) rfl k
theorem c_l_is_letter (T : Txt K mg w) : Cal P w K mg base 1 "_law_is_letter" (spSg letC) [] := by
  refine calOf T.d_l_is_letter sc_l_is_letter (fun vs H Q E h => ?_) (fun f cdv A outer s H vs Q E hr h => ?_)
  · obtain ⟨c, rfl, _⟩ := h
    rfl
  · obtain ⟨c, rfl, k⟩ := h
    refine ⟨_,
      (pss_one (ps_ret (pe_or (pe_chain op_le_str op_le_str pe_str (pv 0) pe_str) (pe_or (pe_chain op_le_str op_le_str pe_str (pv 0) pe_str) (pe_one (pe_cmpR op_eq (pv 0) pe_str (nomark _)))))))
      , ?_⟩
    show tOrV (tChain _ _ (tC _) (tVar 0) (tC _)) (tOrV (tChain _ _ (tC _) (tVar 0) (tC _)) _) _ _ _
    unfold letC at k
    delta tOrV
    refine chain_one (a := 97) (b := 122) (c := c) rfl ⟨_, rfl, ?_⟩
    by_cases h1 : (decide (97 ≤ c) && decide (c ≤ 122)) = true
    · rw [if_pos h1]
      rw [h1, Bool.true_or] at k
      exact k
    · rw [if_neg h1]
      rw [Bool.eq_false_iff.mpr h1, Bool.false_or] at k
      refine chain_one (a := 65) (b := 90) (c := c) rfl ⟨_, rfl, ?_⟩
      by_cases h2 : (decide (65 ≤ c) && decide (c ≤ 90)) = true
      · rw [if_pos h2]
        rw [h2, Bool.true_or] at k
        exact k
      · rw [if_neg h2]
        rw [Bool.eq_false_iff.mpr h2, Bool.false_or] at k
        refine ⟨_, rfl, rfl, ?_⟩
        rw [show decide (V.str ⟨#[c]⟩ = V.str "_") = decide (c = 95) from eq_one 95 c]
        exact k
theorem at_lt {t : Str} {j : Nat} (h : j < t.length) : ∃ c, t.cps.toList[j]? = some c := by
  rw [str_len] at h
  exact ⟨_, List.getElem?_eq_getElem h⟩

theorem One.mono {j k : Nat} {f : Addr} {sp : Sp} (o : One P w K mg base j f sp) (h : j ≤ k) : One P w K mg base k f sp :=
  fun A out s H u v Q E hr e0 rv hs => o A out s H u v Q E (hr.mono h) e0 rv hs
def spRun (P : Program) (w : World) (K : PySem.W.Frag) (mg : Str → Option Value) (base : Heap) : Sp := fun vs H Q _ => ∃ (t : Str) (i : Nat) (f : Addr) (g : Nat → Bool) (sp : Sp), vs = [.str t, .int i, .ref f] ∧
  t.length ≤ sizeLine ∧ One P w K mg base 2 f sp ∧ Callee K H f ∧ (∀ (c : Nat) (Q' : VK) (E' : XK), Q' (.bl (g c)) H → sp [.str ⟨#[c]⟩] H Q' E') ∧ Q (.int (runE g t.cps.toList i)) H
theorem c_l_run (T : Txt K mg w) : Cal P w K mg base 3 "_law_run" (spRun P w K mg base) [] := by
  refine calOf T.d_l_run sc_l_run (fun vs H Q E h => ?_) (fun f cdv A outer s H vs Q E hr h => ?_)
  · obtain ⟨t, i, f, g, sp, rfl, _⟩ := h
    rfl
  · obtain ⟨t, i, f, g, sp, rfl, hz, O, cl, hg, k⟩ := h
    refine ⟨_,
      (pss_cons (ps_while PassesOwn.never (PW.pt (pw_and (pt_cmpR op_lt (pv 1) (pe_callB call_len (by rfl) T.n_len PySem.boot_len (pa_cons (pv 0) pa_nil)) (nomark _)) (pw_and1 (pt_val (pe_callV (k := 2) (i := 2) (hr.mono (by decide)) rfl (Or.inl rfl) (pa_cons (pe_ix ix_str (pv 0) (pv 1) (fun _ _ => rfl)) pa_nil))))))
        (pss_one (ps_aug (i := 1) sc_l_run.nd rfl (Or.inl rfl) pe_int ip_add)))
        (pss_one (ps_ret (pv 1))))
      , ?_⟩
    refine ⟨fun m σ' H' => ∃ j : Nat, σ' = [some (.str t), some (.int j), some (.ref f)] ∧ H' = H ∧ i ≤ j ∧ runE g t.cps.toList j = runE g t.cps.toList i ∧ m = t.length - j,
      ⟨_, i, rfl, rfl, Nat.le_refl _, rfl, rfl⟩, ?_⟩
    rintro m σ' H' ⟨j, rfl, rfl, hj, he, rfl⟩
    refine ⟨_, rfl, _, rfl, _, t.length, rfl, ⟨hz, rfl⟩, _, _, rfl, rfl, _, rfl, ?_⟩
    refine ite2 (fun h1 => ?_) (fun h1 => ?_)
    · have hlt : j < t.length := by
        have := of_decide_eq_true h1
        omega
      obtain ⟨c, hc⟩ := at_lt hlt
      refine ⟨f, sp, rfl, O, cl, _, rfl, _, rfl, _, _, c, rfl, rfl, hz, atI_nat hc, cl, ⟨_, rfl⟩, hg c _ _ ⟨_, rfl, ?_⟩⟩
      refine ite2 (fun h2 => ?_) (fun h2 => ?_)
      · refine ⟨fun σ' H2 => ∃ m', m' < t.length - j ∧ ∃ j : Nat, σ' = [some (.str t), some (.int j), some (.ref f)] ∧ H2 = H' ∧ i ≤ j ∧ runE g t.cps.toList j = runE g t.cps.toList i ∧ m' = t.length - j, fun _ _ h => h, ?_⟩
        refine ⟨_, rfl, _, _, rfl, rfl, ?_⟩
        exact ⟨_, (by omega : t.length - (j + 1) < t.length - j), j + 1, rfl, rfl, by omega, by rw [← he, run_step hc h2], rfl⟩
      · refine ⟨_, rfl, ?_⟩
        have e := run_stop hc (Bool.eq_false_iff.mpr h2)
        rw [← he, e] at k
        exact k
    · have hge : t.cps.toList.length ≤ j := by
        have : ¬ ((j : Int) < (t.length : Int)) := fun q => h1 (decide_eq_true q)
        rw [← str_len]
        omega
      refine iteF ?_
      refine ⟨_, rfl, ?_⟩
      have e := run_end (g := g) hge
      rw [← he, e] at k
      exact k

theorem ite_map {c A B A' B' : Prop} [Decidable c] (h : if c then A else B) (f : A → A') (g : B → B') : if c then A' else B' := by
  by_cases hc : c
  · rw [if_pos hc] at h ⊢
    exact f h
  · rw [if_neg hc] at h ⊢
    exact g h
theorem drop_take (L : List Nat) {i j : Nat} (h : i ≤ j) : (L.drop (min i L.length)).take (min j L.length - min i L.length) = (L.drop i).take (j - i) := by
  by_cases hi : i ≤ L.length
  · rw [Nat.min_eq_left hi]
    by_cases hj : j ≤ L.length
    · rw [Nat.min_eq_left hj]
    · rw [Nat.min_eq_right (by omega), List.take_of_length_le (by rw [List.length_drop]; omega), List.take_of_length_le (by rw [List.length_drop]; omega)]
  · have e1 : min i L.length = L.length := by omega
    rw [e1, List.drop_eq_nil_iff.mpr (by omega : L.length ≤ i), List.drop_length, List.take_nil, List.take_nil]
theorem cut2 (z : Str) {i j : Nat} (h : i ≤ j) : cutS z (some (i : Int)) (some (j : Int)) = ⟨((z.cps.toList.drop i).take (j - i)).toArray⟩ := by
  unfold cutS
  rw [HT.sIx_nat, HT.sIx_nat, str_len, drop_take _ h]
theorem take1 (L : List Nat) (i : Nat) : (L.drop i).take 1 = L[i]?.toList := by
  cases e : L[i]? with
  | some c =>
    rw [drop_at e]
    rfl
  | none =>
    rw [List.drop_eq_nil_iff.mpr (List.getElem?_eq_none_iff.mp e)]
    rfl
theorem ofL_iff {l : List Nat} {z : Str} : (⟨l.toArray⟩ : Str) = z ↔ l = z.cps.toList := by
  constructor
  · rintro rfl
    rfl
  · rintro rfl
    obtain ⟨a⟩ := z
    rfl
theorem str_ofL (l : List Nat) (z : Str) : decide (V.str ⟨l.toArray⟩ = V.str z) = decide (l = z.cps.toList) := by
  refine decide_eq_decide.mpr ⟨fun h => ?_, fun h => ?_⟩
  · injection h with h
    exact ofL_iff.mp h
  · rw [ofL_iff.mpr h]
def optV : Option Nat → V
  | some e => .int e
  | none => .non
theorem quo_34 (r : List Nat) (i : Nat) : quoE (34 :: r) i = some (i + 1) := by unfold quoE; rfl
theorem quo_10 (r : List Nat) (i : Nat) : quoE (10 :: r) i = none := by unfold quoE; rfl
theorem quo_esc (d : Nat) (r : List Nat) (i : Nat) : quoE (92 :: d :: r) i = if escC d then quoE r (i + 2) else none := by rw [quoE]; rfl
theorem quo_92 (i : Nat) : quoE [92] i = none := by unfold quoE; rfl
theorem quo_on {c : Nat} (r : List Nat) (i : Nat) (h1 : c ≠ 34) (h2 : c ≠ 10) (h3 : c ≠ 92) : quoE (c :: r) i = quoE r (i + 1) := by rw [quoE.eq_def (c :: r) i]; show (if c = 34 then _ else if c = 10 then _ else if c = 92 then _ else _) = _; rw [if_neg h1, if_neg h2, if_neg h3]
theorem esc_mem (c : Nat) : decide ((⟨#[c]⟩ : Str) ∈ (["\"", "\\", "n", "t"] : List Str)) = escC c := by
  unfold escC
  rw [← Bool.decide_or, ← Bool.decide_or, ← Bool.decide_or]
  refine decide_eq_decide.mpr ?_
  simp only [List.mem_cons, List.not_mem_nil, or_false]
  have e : ∀ (a : Nat), ((⟨#[c]⟩ : Str) = (⟨#[a]⟩ : Str)) ↔ c = a := fun a => ⟨fun h => by injection h with h; injection h with h; injection h, fun h => by rw [h]⟩
  exact or_congr (e 34) (or_congr (e 92) (or_congr (e 110) (e 116)))
/-- what the quote that opens at i tells -/
def spQuo : Sp := fun vs H Q _ => ∃ (t : Str) (i : Nat), vs = [.str t, .int i] ∧ t.length ≤ sizeLine ∧ i < t.length ∧ ∀ H', Same H H' → Q (optV (quoE (t.cps.toList.drop (i + 1)) (i + 1))) H'
theorem c_l_quote_end (T : Txt K mg w) : Cal P w K mg base 1 "_law_quote_end" spQuo [] := by
  refine calOf T.d_l_quote_end sc_l_quote_end (fun vs H Q E h => ?_) (fun f cdv A outer s H vs Q E hr h => ?_)
  · obtain ⟨t, i, rfl, _⟩ := h
    rfl
  · obtain ⟨t, i, rfl, hz, hi, k⟩ := h
    refine ⟨_,
      (pss_cons (ps_aug (i := 1) sc_l_quote_end.nd rfl (Or.inl rfl) pe_int ip_add)
        (pss_cons (ps_while PassesOwn.never (PW.pt (pw_and (pt_cmpR op_lt (pv 1) (pe_callB call_len (by rfl) T.n_len PySem.boot_len (pa_cons (pv 0) pa_nil)) (nomark _)) (pw_and1 (pt_cmpR op_notIn_sign (pe_ix ix_str (pv 0) (pv 1) (fun _ _ => rfl)) pe_str (by rfl)))))
        (pss_cons (ps_if (pt_cmpR op_eq (pe_ix ix_str (pv 0) (pv 1) (fun _ _ => rfl)) pe_str (nomark _))
        (pss_cons (ps_if (pt_cmpR op_notIn_seq (pe_slice sl_str (pv 0) (po_some (pe_op op_add (pv 1) pe_int)) (po_some (pe_op op_add (pv 1) pe_int))) (pe_tup (pa_cons pe_str (pa_cons pe_str (pa_cons pe_str (pa_cons pe_str pa_nil))))) (by rfl))
        (pss_one (ps_ret pe_non))
        pss_nil)
        (pss_one (ps_aug (i := 1) sc_l_quote_end.nd rfl (Or.inl rfl) pe_int ip_add)))
        pss_nil)
        (pss_one (ps_aug (i := 1) sc_l_quote_end.nd rfl (Or.inl rfl) pe_int ip_add))))
        (pss_one (ps_ret (pe_ifExp (pt_cmpR op_eq (pe_slice sl_str (pv 0) (po_some (pv 1)) (po_some (pe_op op_add (pv 1) pe_int))) pe_str (nomark _)) (pe_op op_add (pv 1) pe_int) pe_non)))))
      , ?_⟩
    refine ⟨_, rfl, _, _, rfl, rfl, ?_⟩
    generalize hq : quoE (t.cps.toList.drop (i + 1)) (i + 1) = want at k
    refine ⟨fun m σ' H' => ∃ j : Nat, σ' = [some (.str t), some (.int j)] ∧ Same H H' ∧ j ≤ t.length ∧ quoE (t.cps.toList.drop j) j = want ∧ m = t.length - j,
      ⟨_, i + 1, rfl, Same.refl _, hi, hq, rfl⟩, ?_⟩
    -- the row behind the loop
    have fin : ∀ (j : Nat) (H' : Hp), Same H H' → j ≤ t.length → quoE (t.cps.toList.drop j) j = want → (j < t.length → ∃ c, t.cps.toList[j]? = some c ∧ (c = 34 ∨ c = 10)) →
        (if decide (V.str (cutS t (some (j : Int)) (some ((j + 1 : Nat) : Int))) = V.str "\"") = true then Q (.int (j + 1 : Nat)) H' else Q .non H') := by
      intro j H' sm hj hw hc
      rw [cut2 t (Nat.le_add_right j 1), str_ofL, Nat.add_sub_cancel_left, take1]
      by_cases hl : j < t.length
      · obtain ⟨c, e, hc⟩ := hc hl
        rw [drop_at e] at hw
        rw [e]
        rcases hc with rfl | rfl
        · rw [quo_34] at hw
          subst hw
          rw [if_pos (by decide +kernel)]
          exact k _ sm
        · rw [quo_10] at hw
          subst hw
          rw [if_neg (by decide +kernel)]
          exact k _ sm
      · have hge : t.cps.toList.length ≤ j := by
          rw [← str_len]
          omega
        rw [List.drop_eq_nil_iff.mpr hge] at hw
        rw [List.getElem?_eq_none_iff.mpr hge, if_neg (by decide +kernel)]
        have hw : none = want := by rw [← hw]; unfold quoE; rfl
        subst hw
        exact k _ sm
    rintro m σ' H' ⟨j, rfl, sm, hj, hw, rfl⟩
    refine ⟨_, rfl, _, rfl, _, t.length, rfl, ⟨hz, rfl⟩, _, _, rfl, rfl, _, rfl, ?_⟩
    refine ite2 (fun h1 => ?_) (fun h1 => ?_)
    · have hlt : j < t.length := by
        have := of_decide_eq_true h1
        omega
      obtain ⟨c, hc⟩ := at_lt hlt
      refine ⟨_, rfl, _, rfl, _, _, c, rfl, rfl, hz, atI_nat hc, c, _, rfl, rfl, _, rfl, ?_⟩
      refine ite2 (fun h2 => ?_) (fun h2 => ?_)
      · have n34 : c ≠ 34 ∧ c ≠ 10 := by
          have h2' : (!decide (c ∈ [34, 10])) = true := h2
          refine ⟨?_, ?_⟩ <;> rintro rfl <;> exact absurd h2' (by decide)
        refine ⟨fun σ' H' => ∃ m', m' < t.length - j ∧ ∃ j : Nat, σ' = [some (.str t), some (.int j)] ∧ Same H H' ∧ j ≤ t.length ∧ quoE (t.cps.toList.drop j) j = want ∧ m' = t.length - j, fun _ _ h => h, ?_⟩
        refine ⟨_, rfl, _, rfl, _, _, c, rfl, rfl, hz, atI_nat hc, rfl, _, rfl, ?_⟩
        rw [show decide (V.str ⟨#[c]⟩ = V.str "\\") = decide (c = 92) from eq_one 92 c]
        rw [drop_at hc] at hw
        refine ite2 (fun h3 => ?_) (fun h3 => ?_)
        · have e92 := of_decide_eq_true h3
          subst e92
          refine ⟨_, rfl, _, rfl, _, _, rfl, rfl, _, rfl, _, rfl, _, _, rfl, rfl, _, rfl, _, rfl, hz, (by show 4 ≤ sizeLine; decide), fun p hp => ⟨_, _, rfl, .inr (SqT.of upd_same), rfl, rfl, _, rfl, ?_⟩⟩
          have sm2 := sm.trans (same_new (o := .tup [.str "\"", .str "\\", .str "n", .str "t"]) hp)
          have ei : inV (.str (cutS t (some ((j + 1 : Nat) : Int)) (some ((j + 2 : Nat) : Int)))) ((["\"", "\\", "n", "t"] : List Str).map V.str) = (t.cps.toList[j + 1]?.any escC) := by
            rw [inV_strs, cut2 t (by omega), show j + 2 - (j + 1) = 1 by omega, take1]
            cases e : t.cps.toList[j + 1]? with
            | none => decide +kernel
            | some d => exact esc_mem d
          refine ite2 (fun h4 => ?_) (fun h4 => ?_)
          · have h4' : (!inV (.str (cutS t (some ((j + 1 : Nat) : Int)) (some ((j + 2 : Nat) : Int)))) ((["\"", "\\", "n", "t"] : List Str).map V.str)) = true := h4
            rw [ei] at h4'
            have hw : none = want := by
              rw [← hw]
              cases e : t.cps.toList[j + 1]? with
              | none =>
                rw [List.drop_eq_nil_iff.mpr (List.getElem?_eq_none_iff.mp e), quo_92]
              | some d =>
                rw [e] at h4'
                have : escC d = false := by
                  cases q : escC d with
                  | false => rfl
                  | true =>
                    rw [show (some d : Option Nat).any escC = escC d from rfl, q] at h4'
                    cases h4'
                rw [drop_at e, quo_esc, this] <;> rfl
            subst hw
            exact k _ sm2
          · have h4' : ¬ (!inV (.str (cutS t (some ((j + 1 : Nat) : Int)) (some ((j + 2 : Nat) : Int)))) ((["\"", "\\", "n", "t"] : List Str).map V.str)) = true := h4
            rw [ei] at h4'
            cases e : t.cps.toList[j + 1]? with
            | none =>
              rw [e] at h4'
              exact absurd rfl h4'
            | some d =>
              rw [e] at h4'
              have hd : escC d = true := by
                cases q : escC d with
                | true => rfl
                | false =>
                  rw [show (some d : Option Nat).any escC = escC d from rfl, q] at h4'
                  exact absurd rfl h4'
              have l2 : j + 1 < t.length := by
                rw [str_len]
                exact len_at e
              rw [drop_at e, quo_esc, if_pos hd] at hw
              refine ⟨_, rfl, _, _, rfl, rfl, ?_⟩
              refine ⟨_, rfl, _, _, rfl, rfl, ?_⟩
              exact ⟨_, (by omega : t.length - (j + 2) < t.length - j), j + 2, rfl, sm2, by omega, hw, rfl⟩
        · have n92 : c ≠ 92 := fun q => h3 (decide_eq_true q)
          rw [quo_on _ _ n34.1 n34.2 n92] at hw
          refine ⟨_, rfl, _, _, rfl, rfl, ?_⟩
          exact ⟨_, (by omega : t.length - (j + 1) < t.length - j), j + 1, rfl, sm, by omega, hw, rfl⟩
      · have c2 : c = 34 ∨ c = 10 := by
          have h2' : ¬ (!decide (c ∈ [34, 10])) = true := h2
          by_cases q : c ∈ [34, 10]
          · simpa using q
          · exact absurd (by rw [decide_eq_false q]; rfl) h2'
        refine ⟨_, rfl, _, rfl, _, rfl, _, rfl, _, _, rfl, rfl, _, rfl, _, rfl, hz, rfl, _, rfl, ?_⟩
        exact ite_map (fin j H' sm hj hw fun _ => ⟨c, hc, c2⟩) (fun q => ⟨_, rfl, _, _, rfl, rfl, q⟩) id
    · have hge : ¬ j < t.length := fun q => h1 (decide_eq_true (by omega))
      refine iteF ?_
      refine ⟨_, rfl, _, rfl, _, rfl, _, rfl, _, _, rfl, rfl, _, rfl, _, rfl, hz, rfl, _, rfl, ?_⟩
      exact ite_map (fin j H' sm hj hw fun q => absurd q hge) (fun q => ⟨_, rfl, _, _, rfl, rfl, q⟩) id

open LamX (CodeO TabS Tabs ExtN TabB)
theorem one_lamO {k : Nat} {q p : Str} {ar : Arguments} {bd : Expr} {sc : Scope} {N : List Str} {sp : Sp} {f c : Addr} {H1 : Hp} (_ : H1 f = some (LamO f c q ar bd sc))
    (S : FnScope N [p] sc) (nc : ∀ y ∈ sc.names, y.2 ≠ .cell)
    (bind : ∀ (pm ct u : Value), bindArgs (PySem.W.kla_fn "<lambda>" q ar bd sc [] pm (.ref c) ct) ⟨[u], []⟩ = pure [(p, u)])
    (body : ∀ (A : Around) (outer : List Env) (s : Shared) (H : Hp) (v : V) (Q : VK) (E : XK),
      Room k (A.deeper (envOfC q sc s.heap.objs.size f (.ref c))) → sp [v] H Q E →
      ∃ te : TE, PE (cxOf CX0 P w K mg base N q sc f (.ref c) A outer s H E).nox bd te ∧ te (start N [v]) H Q) :
    One P w K mg base (k + 1) f fun vs H Q E => H f = some (LamO f c q ar bd sc) ∧ H c = some (CodeO c q) ∧ sp vs H Q E := one_lam f c S nc bind body
theorem callee_def {x : Str} {st : Stmt} {ps : List Str} {f : Addr} {H : Hp} (D : DefIn K mg x st ps) (hm : mg x = some (.ref f)) : Callee K H f := by
  obtain ⟨f', fd, F, hm', _⟩ := D.ex
  rw [hm] at hm'
  cases hm'
  obtain ⟨oc, od, kV, doc, pm, an, cdv, ct, osl, _, e, _⟩ := F.ex
  exact .inl ⟨_, _, _, _, e⟩
abbrev lamQ : Str := "_law_word_end" ++ ".<locals>." ++ "<lambda>"
theorem Same.ext {H H' : Hp} (s : Same H H') : ExtN H H' := ExtN.of s
theorem Tabs.same {L : List (Addr × Str)} {H H' : Hp} (t : Tabs L H) (s : Same H H') : Tabs L H' := t.ext s
theorem cut_n (t : Str) (i n : Nat) (z : Str) : decide (V.str (cutS t (some (i : Int)) (some ((i + n : Nat) : Int))) = V.str z) = decide ((t.cps.toList.drop i).take n = z.cps.toList) := by
  rw [cut2 t (Nat.le_add_right i n), str_ofL, Nat.add_sub_cancel_left]
theorem cut_one (t : Str) (i a : Nat) : decide (V.str (cutS t (some (i : Int)) (some ((i + 1 : Nat) : Int))) = V.str ⟨#[a]⟩) = decide (t.cps.toList[i]? = some a) := by
  rw [cut_n, take1]
  cases t.cps.toList[i]? with
  | none => exact (decide_eq_false (fun h => by have h : ([] : List Nat) = [a] := h; cases h)).trans (decide_eq_false (by simp)).symm
  | some c =>
    refine decide_eq_decide.mpr ⟨fun h => ?_, fun h => ?_⟩
    · have h : [c] = [a] := h
      cases h
      rfl
    · cases h
      rfl
theorem cut_l (t : Str) (i n : Nat) (l : List Nat) : decide (V.str (cutS t (some (i : Int)) (some ((i + n : Nat) : Int))) = V.str ⟨l.toArray⟩) = decide ((t.cps.toList.drop i).take n = l) := cut_n t i n ⟨l.toArray⟩
theorem cls_k {Q : VK} {H : Hp} {e : Int} {n : Nat} (k : Q (optV (if e < 0 then none else some (e.toNat + n))) H) :
    if decide ((0 : Int) ≤ e) = true then Q (.int (e + n)) H else Q .non H := by
  by_cases h : e < 0
  · rw [if_pos h] at k
    rw [if_neg (by rw [decide_eq_false (by omega)]; decide)]
    exact k
  · rw [if_neg h] at k
    rw [if_pos (decide_eq_true (by omega))]
    obtain ⟨m, rfl⟩ := Int.eq_ofNat_of_zero_le (Int.not_lt.mp h)
    exact k
theorem two_mem (l : List Nat) : decide ((⟨l.toArray⟩ : Str) ∈ (["==", "!=", "<=", ">=", "->"] : List Str)) = decide (l ∈ twoL) := by
  refine decide_eq_decide.mpr ?_
  unfold twoL
  simp only [List.mem_cons, List.not_mem_nil, or_false, ofL_iff]
  exact Iff.rfl
theorem wrd_at {t : Str} {i c : Nat} (hc : t.cps.toList[i]? = some c) : wrdE t i =
    if letC c then some (runE wrdC t.cps.toList i)
    else if digC c then some (numE t.cps.toList i)
    else if c = 34 then quoE (t.cps.toList.drop (i + 1)) (i + 1)
    else if c = 39 then (if (t.cps.toList.drop i).take 3 = [39, 39, 39] then clsE t "'''" (i + 3) else none)
    else if c = 35 then some (runE notNl t.cps.toList i)
    else if (t.cps.toList.drop i).take 2 = [60, 42] then clsE t "*>" (i + 2)
    else if (t.cps.toList.drop i).take 2 ∈ twoL then some (i + 2)
    else if c ∈ oneL then some (i + 1) else none := by
  unfold wrdE
  rw [hc]
/-- the end of the word at i -/
def spWE (Tl : List (Addr × Str)) : Sp := fun vs H Q _ => ∃ (t : Str) (i : Nat), vs = [.str t, .int i] ∧ t.length ≤ sizeLine ∧ i < t.length ∧ Tabs Tl H ∧
  ∀ H', ExtN H H' → Tabs Tl H' → Q (optV (wrdE t i)) H'
theorem c_l_word_end (T : Txt K mg w) {c tp : Addr} {Tl : List (Addr × Str)} (mT : (tp, lamQ) ∈ Tl) (uT : ∀ p ∈ Tl, p.1 = tp → p.2 = lamQ) (D : DefC K mg "_law_word_end" s_l_word_end ["_law_text", "_law_at"] (.ref c)) (TB : TabB base mg c tp)
    (c_l_is_letter : Cal P w K mg base 1 "_law_is_letter" (spSg letC) []) (c_l_is_digit : Cal P w K mg base 1 "_law_is_digit" (spSg digC) [])
    (c_l_run : Cal P w K mg base 3 "_law_run" (spRun P w K mg base) []) (c_l_quote_end : Cal P w K mg base 1 "_law_quote_end" spQuo []) :
    Cal P w K mg base 4 "_law_word_end" (spWE Tl) [] := by
  obtain ⟨f_l_is_digit, m_l_is_digit, _, O_dig⟩ := one_def c_l_is_digit
  refine calOfC D sc_l_word_end (fun vs H Q E h => ?_) (fun f A outer s H vs Q E hr h => ?_)
  · obtain ⟨t, i, rfl, _⟩ := h
    rfl
  · obtain ⟨t, i, rfl, hz, hi, tb, k⟩ := h
    refine ⟨_,
      (pss_cons (ps_set (i := 2) sc_l_word_end.nd rfl (Or.inl rfl) (pe_ix ix_str (pv 0) (pv 1) (fun _ _ => rfl)))
        (pss_cons (ps_if (pt_val (pe_c c_l_is_letter hr (by first | decide | omega) rfl (pa_cons (pv 2) pa_nil)))
        (pss_one (ps_ret (pe_c c_l_run hr (by first | decide | omega) rfl (pa_cons (pv 0) (pa_cons (pv 1) (pa_cons (pe_lam TB rfl mT uT rfl (by decide +kernel) rfl) pa_nil))))))
        pss_nil)
        (pss_cons (ps_if (pt_val (pe_c c_l_is_digit hr (by first | decide | omega) rfl (pa_cons (pv 2) pa_nil)))
        (pss_cons (ps_set (i := 3) sc_l_word_end.nd rfl (Or.inl rfl) (pe_c c_l_run hr (by first | decide | omega) rfl (pa_cons (pv 0) (pa_cons (pv 1) (pa_cons (pe_gc (v := V.ref f_l_is_digit) rfl ⟨_, m_l_is_digit, rfl⟩) pa_nil)))))
        (pss_cons (ps_set (i := 4) sc_l_word_end.nd rfl (Or.inl rfl) (pe_ifExp (pt_cmpR op_eq (pe_slice sl_str (pv 0) (po_some (pv 3)) (po_some (pe_op op_add (pv 3) pe_int))) pe_str (nomark _)) (pe_c c_l_run hr (by first | decide | omega) rfl (pa_cons (pv 0) (pa_cons (pe_op op_add (pv 3) pe_int) (pa_cons (pe_gc (v := V.ref f_l_is_digit) rfl ⟨_, m_l_is_digit, rfl⟩) pa_nil)))) (pv 3)))
        (pss_one (ps_ret (pe_ifExp (pt_cmpR op_gt (pv 4) (pe_op op_add (pv 3) pe_int) (nomark _)) (pv 4) (pv 3))))))
        pss_nil)
        (pss_cons (ps_if (pt_cmpR op_eq (pv 2) pe_str (nomark _))
        (pss_one (ps_ret (pe_c c_l_quote_end hr (by first | decide | omega) rfl (pa_cons (pv 0) (pa_cons (pv 1) pa_nil)))))
        pss_nil)
        (pss_cons (ps_if (pt_cmpR op_eq (pv 2) pe_str (nomark _))
        (pss_cons (ps_set (i := 3) sc_l_word_end.nd rfl (Or.inl rfl) (pe_ifExp (pt_cmpR op_eq (pe_slice sl_str (pv 0) (po_some (pv 1)) (po_some (pe_op op_add (pv 1) pe_int))) pe_str (nomark _)) (pe_bm PySem.F.plainAttrs_str PySem.F.slot_str_find PySem.F.type_str_find mt_find3 (pv 0) (pa_cons pe_str (pa_cons (pe_op op_add (pv 1) pe_int) pa_nil))) (pe_un un_neg pe_int)))
        (pss_one (ps_ret (pe_ifExp (pt_cmpR op_ge (pv 3) pe_int (nomark _)) (pe_op op_add (pv 3) pe_int) pe_non))))
        pss_nil)
        (pss_cons (ps_if (pt_cmpR op_eq (pv 2) pe_str (nomark _))
        (pss_one (ps_ret (pe_c c_l_run hr (by first | decide | omega) rfl (pa_cons (pv 0) (pa_cons (pv 1) (pa_cons (pe_lam TB rfl mT uT rfl (by decide +kernel) rfl) pa_nil))))))
        pss_nil)
        (pss_cons (ps_if (pt_cmpR op_eq (pe_slice sl_str (pv 0) (po_some (pv 1)) (po_some (pe_op op_add (pv 1) pe_int))) pe_str (nomark _))
        (pss_cons (ps_set (i := 3) sc_l_word_end.nd rfl (Or.inl rfl) (pe_bm PySem.F.plainAttrs_str PySem.F.slot_str_find PySem.F.type_str_find mt_find3 (pv 0) (pa_cons pe_str (pa_cons (pe_op op_add (pv 1) pe_int) pa_nil))))
        (pss_one (ps_ret (pe_ifExp (pt_cmpR op_ge (pv 3) pe_int (nomark _)) (pe_op op_add (pv 3) pe_int) pe_non))))
        pss_nil)
        (pss_cons (ps_if (pt_cmpR op_in_seq (pe_slice sl_str (pv 0) (po_some (pv 1)) (po_some (pe_op op_add (pv 1) pe_int))) (pe_tup (pa_cons pe_str (pa_cons pe_str (pa_cons pe_str (pa_cons pe_str (pa_cons pe_str pa_nil)))))) (by rfl))
        (pss_one (ps_ret (pe_op op_add (pv 1) pe_int)))
        pss_nil)
        (pss_one (ps_ret (pe_ifExp (pt_cmpR op_in_sign (pv 2) pe_str (by rfl)) (pe_op op_add (pv 1) pe_int) pe_non)))))))))))
      , ?_⟩
    obtain ⟨ch, hc⟩ := at_lt hi
    rw [wrd_at hc] at k
    refine ⟨_, rfl, _, rfl, _, _, ch, rfl, rfl, hz, atI_nat hc, ?_⟩
    refine ⟨_, rfl, ch, rfl, _, rfl, ?_⟩
    refine ite2 (fun h1 => ?_) (fun h1 => ?_)
    · rw [if_pos h1] at k
      refine ⟨_, rfl, _, rfl, tb, fun f1 c1 H1 ext tb1 hf hc1 hn hcn => ?_⟩
      refine ⟨t, i, f1, wrdC, _, rfl, hz, one_lamO (sp := spSg wrdC) (p := "_law_one_here") (N := ["_law_one_here"]) hf ⟨rfl, rfl, rfl, by decide +kernel, rfl, by decide +kernel, by decide +kernel⟩ (by decide +kernel) (fun _ _ _ => rfl) ?_, .inr ⟨c1, _, _, _, _, hf⟩, fun d Q' E' q => ⟨hf, hc1, d, rfl, q⟩, k _ ext tb1⟩
      rintro A outer s H v Q E hr ⟨d, e, q⟩
      cases e
      refine ⟨_, (pe_or (pe_c c_l_is_letter hr (by first | decide | omega) rfl (pa_cons (pv 0) pa_nil)) (pe_one (pe_c c_l_is_digit hr (by first | decide | omega) rfl (pa_cons (pv 0) pa_nil)))), ?_⟩
      refine ⟨_, rfl, d, rfl, _, rfl, ?_⟩
      unfold wrdC at q
      refine ite2 (fun h2 => ?_) (fun h2 => ?_)
      · rw [h2, Bool.true_or] at q
        exact q
      · rw [Bool.eq_false_iff.mpr h2, Bool.false_or] at q
        exact ⟨_, rfl, d, rfl, q⟩
    · rw [if_neg h1] at k
      refine ⟨_, rfl, ch, rfl, _, rfl, ?_⟩
      refine ite2 (fun h2 => ?_) (fun h2 => ?_)
      · rw [if_pos h2] at k
        refine ⟨_, rfl, _, rfl, t, i, f_l_is_digit, digC, _, rfl, hz, One.mono O_dig (by decide), callee_def T.d_l_is_digit m_l_is_digit, fun d Q' E' q => ⟨d, rfl, q⟩, ?_⟩
        have k := k _ (Same.ext (Same.refl _)) tb
        unfold numE at k
        generalize runE digC t.cps.toList i = e at k
        refine ⟨_, rfl, _, rfl, _, rfl, _, rfl, _, _, rfl, rfl, _, rfl, _, rfl, hz, rfl, _, rfl, ?_⟩
        refine ite2 (fun h3 => ?_) (fun h3 => ?_)
        · rw [if_pos (of_decide_eq_true ((cut_one t e 46).symm.trans h3))] at k
          refine ⟨_, rfl, _, rfl, _, _, rfl, rfl, t, e + 1, f_l_is_digit, digC, _, rfl, hz, One.mono O_dig (by decide), callee_def T.d_l_is_digit m_l_is_digit, fun d Q' E' q => ⟨d, rfl, q⟩, ?_⟩
          generalize runE digC t.cps.toList (e + 1) = e2 at k
          refine ⟨_, rfl, _, rfl, _, _, rfl, rfl, _, _, rfl, rfl, _, rfl, ?_⟩
          refine ite2 (fun h4 => ?_) (fun h4 => ?_)
          · rw [if_pos (by have := of_decide_eq_true h4; omega)] at k
            exact ⟨_, rfl, k⟩
          · rw [if_neg (fun z => h4 (decide_eq_true (by omega)))] at k
            exact ⟨_, rfl, k⟩
        · rw [if_neg (fun z => h3 ((cut_one t e 46).trans (decide_eq_true z)))] at k
          refine ⟨_, rfl, ?_⟩
          refine ⟨_, rfl, _, rfl, _, _, rfl, rfl, _, _, rfl, rfl, _, rfl, ?_⟩
          exact ite2 (fun _ => ⟨_, rfl, k⟩) (fun _ => ⟨_, rfl, k⟩)
      · rw [if_neg h2] at k
        refine ⟨_, rfl, rfl, _, rfl, ?_⟩
        rw [show decide (V.str ⟨#[ch]⟩ = V.str "\"") = decide (ch = 34) from eq_one 34 ch]
        refine ite2 (fun h3 => ?_) (fun h3 => ?_)
        · rw [if_pos (of_decide_eq_true h3)] at k
          exact ⟨_, rfl, _, rfl, t, i, rfl, hz, hi, fun H' sm => k _ (Same.ext sm) (Tabs.same tb sm)⟩
        · rw [if_neg (fun z => h3 (decide_eq_true z))] at k
          refine ⟨_, rfl, rfl, _, rfl, ?_⟩
          rw [show decide (V.str ⟨#[ch]⟩ = V.str "'") = decide (ch = 39) from eq_one 39 ch]
          refine ite2 (fun h4 => ?_) (fun h4 => ?_)
          · rw [if_pos (of_decide_eq_true h4)] at k
            have k := k _ (Same.ext (Same.refl _)) tb
            refine ⟨_, rfl, _, rfl, _, rfl, _, rfl, _, _, rfl, rfl, _, rfl, _, rfl, hz, rfl, _, rfl, ?_⟩
            refine ite2 (fun h5 => ?_) (fun h5 => ?_)
            · have q3 : (t.cps.toList.drop i).take 3 = [39, 39, 39] := of_decide_eq_true ((cut_l t i 3 [39, 39, 39]).symm.trans h5)
              rw [if_pos q3] at k
              refine ⟨_, rfl, rfl, _, rfl, _, _, rfl, rfl, ?_⟩
              refine ⟨_, _, _, rfl, rfl, ?_⟩
              refine ⟨_, rfl, _, _, rfl, rfl, _, rfl, ?_⟩
              exact ite_map (cls_k (n := 3) k) (fun q => ⟨_, rfl, _, _, rfl, rfl, q⟩) id
            · rw [if_neg (fun z => h5 ((cut_l t i 3 [39, 39, 39]).trans (decide_eq_true z)))] at k
              refine ⟨_, rfl, ?_⟩
              refine ⟨_, rfl, _, _, rfl, rfl, _, rfl, ?_⟩
              exact k
          · rw [if_neg (fun z => h4 (decide_eq_true z))] at k
            refine ⟨_, rfl, rfl, _, rfl, ?_⟩
            rw [show decide (V.str ⟨#[ch]⟩ = V.str "#") = decide (ch = 35) from eq_one 35 ch]
            refine ite2 (fun h5 => ?_) (fun h5 => ?_)
            · rw [if_pos (of_decide_eq_true h5)] at k
              refine ⟨_, rfl, _, rfl, tb, fun f1 c1 H1 ext tb1 hf hc1 hn hcn => ?_⟩
              refine ⟨t, i, f1, notNl, _, rfl, hz, one_lamO (k := 1) (sp := spSg notNl) (p := "_law_one_here") (N := ["_law_one_here"]) hf ⟨rfl, rfl, rfl, by decide +kernel, rfl, by decide +kernel, by decide +kernel⟩ (by decide +kernel) (fun _ _ _ => rfl) ?_, .inr ⟨c1, _, _, _, _, hf⟩, fun d Q' E' q => ⟨hf, hc1, d, rfl, q⟩, k _ ext tb1⟩
              rintro A outer s H v Q E hr ⟨d, e, q⟩
              cases e
              refine ⟨_, (pe_cmpR op_ne (pv 0) pe_str (nomark _)), ?_⟩
              refine ⟨_, rfl, ?_⟩
              unfold notNl at q
              rw [← eq_one 10 d] at q
              exact ⟨rfl, q⟩
            · rw [if_neg (fun z => h5 (decide_eq_true z))] at k
              refine ⟨_, rfl, _, rfl, _, rfl, _, rfl, _, _, rfl, rfl, _, rfl, _, rfl, hz, rfl, _, rfl, ?_⟩
              refine ite2 (fun h6 => ?_) (fun h6 => ?_)
              · have q3 : (t.cps.toList.drop i).take 2 = [60, 42] := of_decide_eq_true ((cut_l t i 2 [60, 42]).symm.trans h6)
                have k := k _ (Same.ext (Same.refl _)) tb
                rw [if_pos q3] at k
                refine ⟨_, rfl, rfl, _, rfl, _, _, rfl, rfl, ?_⟩
                refine ⟨_, _, _, rfl, rfl, ?_⟩
                refine ⟨_, rfl, _, _, rfl, rfl, _, rfl, ?_⟩
                exact ite_map (cls_k (n := 2) k) (fun q => ⟨_, rfl, _, _, rfl, rfl, q⟩) id
              · rw [if_neg (fun z => h6 ((cut_l t i 2 [60, 42]).trans (decide_eq_true z)))] at k
                refine ⟨_, rfl, _, rfl, _, rfl, _, rfl, _, _, rfl, rfl, _, rfl, _, rfl, hz, (by show 5 ≤ sizeLine; decide), fun p hp => ⟨_, _, rfl, .inr (SqT.of upd_same), rfl, rfl, _, rfl, ?_⟩⟩
                have sm2 := same_new (o := .tup [.str "==", .str "!=", .str "<=", .str ">=", .str "->"]) hp
                have ei : inV (.str (cutS t (some (i : Int)) (some ((i + 2 : Nat) : Int)))) ((["==", "!=", "<=", ">=", "->"] : List Str).map V.str) = decide ((t.cps.toList.drop i).take 2 ∈ twoL) := by
                  rw [inV_strs, cut2 t (by omega), Nat.add_sub_cancel_left]
                  exact two_mem _
                refine ite2 (fun h7 => ?_) (fun h7 => ?_)
                · rw [if_pos (of_decide_eq_true (ei.symm.trans h7))] at k
                  exact ⟨_, rfl, _, _, rfl, rfl, k _ (Same.ext sm2) (Tabs.same tb sm2)⟩
                · rw [if_neg (fun z => h7 (ei.trans (decide_eq_true z)))] at k
                  have k := k _ (Same.ext sm2) (Tabs.same tb sm2)
                  refine ⟨_, rfl, ch, _, rfl, rfl, _, rfl, ?_⟩
                  refine ite2 (fun h8 => ?_) (fun h8 => ?_)
                  · have q8 : ch ∈ oneL := of_decide_eq_true h8
                    rw [if_pos q8] at k
                    exact ⟨_, rfl, _, _, rfl, rfl, k⟩
                  · have q8 : ¬ ch ∈ oneL := fun z => h8 (decide_eq_true (p := ch ∈ oneL) z)
                    rw [if_neg q8] at k
                    exact k

/-- the words of a text from a place on, in pairs of begin and end; none where a fault stands -/
def cutF : Nat → Str → Nat → Option (List (Nat × Nat))
  | 0, _, _ => some []
  | n + 1, t, i =>
    match t.cps.toList[i]? with
    | none => some []
    | some c => if c = 32 ∨ c = 10 then cutF n t (i + 1) else
      match wrdE t i with
      | none => none
      | some e => (cutF n t e).map ((i, e) :: ·)
theorem cutF_fuel {t : Str} : ∀ (n m i : Nat), t.length ≤ i + n → t.length ≤ i + m → cutF n t i = cutF m t i
  | 0, 0, _, _, _ => rfl
  | 0, m + 1, i, h, _ => by
    have e : t.cps.toList[i]? = none := List.getElem?_eq_none_iff.mpr (by rw [← str_len]; omega)
    unfold cutF
    rw [e]
  | n + 1, 0, i, _, h => by
    have e : t.cps.toList[i]? = none := List.getElem?_eq_none_iff.mpr (by rw [← str_len]; omega)
    unfold cutF
    rw [e]
  | n + 1, m + 1, i, h1, h2 => by
    unfold cutF
    cases e : t.cps.toList[i]? with
    | none => rfl
    | some c =>
      show (if c = 32 ∨ c = 10 then cutF n t (i + 1) else _) = (if c = 32 ∨ c = 10 then cutF m t (i + 1) else _)
      rw [cutF_fuel n m (i + 1) (by omega) (by omega)]
      cases ew : wrdE t i with
      | none => rfl
      | some e2 =>
        have := (wrd_in ew).1
        show (if c = 32 ∨ c = 10 then _ else (cutF n t e2).map ((i, e2) :: ·)) = (if c = 32 ∨ c = 10 then _ else (cutF m t e2).map ((i, e2) :: ·))
        rw [cutF_fuel n m e2 (by omega) (by omega)]
def cutA (t : Str) (i : Nat) : Option (List (Nat × Nat)) := cutF t.length t i
theorem cutA_end {t : Str} {i : Nat} (h : t.length ≤ i) : cutA t i = some [] := (cutF_fuel t.length 0 i (by omega) (by omega)).trans rfl
theorem cutA_at {t : Str} {i c : Nat} (hc : t.cps.toList[i]? = some c) : cutA t i = if c = 32 ∨ c = 10 then cutA t (i + 1) else
    match wrdE t i with
    | none => none
    | some e => (cutA t e).map ((i, e) :: ·) := by
  have hl : i < t.length := by
    rw [str_len]
    exact len_at hc
  unfold cutA
  rw [cutF_fuel t.length (t.length + 1) i (by omega) (by omega)]
  show (match t.cps.toList[i]? with
    | none => some []
    | some c => if c = 32 ∨ c = 10 then cutF t.length t (i + 1) else
      match wrdE t i with
      | none => none
      | some e => (cutF t.length t e).map ((i, e) :: ·)) = _
  rw [hc]
theorem cutA_blank {t : Str} {i c : Nat} (hc : t.cps.toList[i]? = some c) (h : c = 32 ∨ c = 10) : cutA t i = cutA t (i + 1) := by
  rw [cutA_at hc, if_pos h]
theorem cutA_fault {t : Str} {i c : Nat} (hc : t.cps.toList[i]? = some c) (h : ¬ (c = 32 ∨ c = 10)) (hw : wrdE t i = none) : cutA t i = none := by
  rw [cutA_at hc, if_neg h, hw]
theorem cutA_word {t : Str} {i c e : Nat} (hc : t.cps.toList[i]? = some c) (h : ¬ (c = 32 ∨ c = 10)) (hw : wrdE t i = some e) : cutA t i = (cutA t e).map ((i, e) :: ·) := by
  rw [cutA_at hc, if_neg h, hw]
/-- words in their order -/
def Chn (n : Nat) : Nat → List (Nat × Nat) → Prop
  | _, [] => True
  | i, (b, e) :: r => i ≤ b ∧ b < e ∧ e ≤ n ∧ Chn n e r
theorem Chn.mono {n : Nat} : ∀ {l : List (Nat × Nat)} {i j : Nat}, Chn n j l → i ≤ j → Chn n i l
  | [], _, _, _, _ => trivial
  | (b, e) :: r, i, j, h, hij => ⟨Nat.le_trans hij h.1, h.2⟩
theorem cutF_chn {t : Str} : ∀ (n i : Nat) (l : List (Nat × Nat)), cutF n t i = some l → Chn t.length i l
  | 0, i, l, h => by
    cases h
    trivial
  | n + 1, i, l, h => by
    unfold cutF at h
    split at h
    · cases h
      trivial
    · split at h
      · exact (cutF_chn n (i + 1) l h).mono (by omega)
      · split at h
        · cases h
        · rename_i e he
          obtain ⟨r, hr, rfl⟩ := Option.map_eq_some_iff.mp h
          have := wrd_in he
          exact ⟨Nat.le_refl _, this.1, this.2, cutF_chn n e r hr⟩
/-- the text of a word -/
def sl (t : Str) (p : Nat × Nat) : Str := cutS t (some (p.1 : Int)) (some (p.2 : Int))
theorem sl_len {t : Str} {b e : Nat} (h : b ≤ e) (he : e ≤ t.length) : (sl t (b, e)).length = e - b := by
  unfold sl
  rw [cut2 t h, str_len]
  show ((t.cps.toList.drop b).take (e - b)).length = e - b
  rw [List.length_take, List.length_drop, ← str_len]
  omega
theorem two_words {t x y : Str} {l : List (Nat × Nat)} (ht : t.length = x.length + y.length) (h : cutA t 0 = some l) (hl : l.map (sl t) = [x, y]) : l.map (·.1) = [0, x.length] := by
  have c := cutF_chn _ _ _ h
  match l, hl, c with
  | [], hl, _ => cases hl
  | [p], hl, _ => simp at hl
  | [(b1, e1), (b2, e2)], hl, c =>
    obtain ⟨h1, h2, h3, h4, h5, h6, _⟩ := c
    rw [List.map_cons, List.map_cons, List.map_nil] at hl
    injection hl with q1 hl
    injection hl with q2 _
    have l1 := sl_len (t := t) (Nat.le_of_lt h2) h3
    have l2 := sl_len (t := t) (Nat.le_of_lt h5) h6
    rw [q1] at l1
    rw [q2] at l2
    show [b1, b2] = [0, x.length]
    have a : b1 = 0 := by omega
    have b : b2 = x.length := by omega
    rw [a, b]
  | _ :: _ :: _ :: _, hl, _ => simp at hl

open LamX (CodeO TabS Tabs ExtN TabB)
theorem Tabs.putL {T : List (Addr × Str)} {H : Hp} {p : Addr} {xs ys : List V} (t : Tabs T H) (h : H p = some (.lst xs)) : Tabs T (upd H p (.lst ys)) := fun q hq => by
  obtain ⟨ps, h1, tri, k⟩ := t q hq
  have keep : ∀ {a : Addr} {u : HO}, H a = some u → (∀ ys, u ≠ .lst ys) → upd H p (.lst ys) a = some u := fun {a u} ha n => by
    rw [upd_ne fun z => by
      rw [z, h] at ha
      exact n _ (Option.some.inj ha).symm]
    exact ha
  refine ⟨ps, keep h1 (fun ys z => by cases z), tri, fun pos cv hc => ?_⟩
  obtain ⟨c1, e1, e2⟩ := k pos cv hc
  exact ⟨c1, e1, keep e2 (fun ys z => by unfold CodeO at z; cases z)⟩
theorem ExtN.put {H H' : Hp} {p : Addr} {o : HO} (e : ExtN H H') (n : H p = none) : ExtN H (upd H' p o) := fun b u h q => by
  rw [upd_ne (ne_of_none h n)]
  exact e b u h q
def pD (t : Str) (p : Nat × Nat) : PyData := .tuple [.str (sl t p), .int p.1]
def cutD (t : Str) (l : List (Nat × Nat)) (f : PyData) : PyData := .tuple [.list (l.map (pD t)), f]
def spCutL (K : PySem.W.Frag) (Tl : List (Addr × Str)) : Sp := fun vs H Q _ => ∃ (t : Str), vs = [.str t] ∧ t.length ≤ 400 ∧ Tabs Tl H ∧
  ∀ (p : Addr) (l : List (Nat × Nat)) (f : PyData) (H' : Hp), ExtN H H' → Tabs Tl H' → (∀ H2, Same H' H2 → Dp K H2 (.ref p) (cutD t l f)) → (∀ x ∈ l, x.1 < t.length) →
    ((cutA t 0 = some l ∧ f = .none) ∨ (cutA t 0 = none ∧ ∃ i : Nat, i < t.length ∧ f = .int i)) → Q (.ref p) H'
theorem c_l_cut (T : Txt K mg w) {Tl : List (Addr × Str)} (c_l_word_end : Cal P w K mg base 4 "_law_word_end" (spWE Tl) []) : Cal P w K mg base 5 "_law_cut" (spCutL K Tl) [] := by
  refine calOf T.d_l_cut sc_l_cut (fun vs H Q E h => ?_) (fun f cdv A outer s H vs Q E hr h => ?_)
  · obtain ⟨t, rfl, _⟩ := h
    rfl
  · obtain ⟨t, rfl, hl, tb, k⟩ := h
    have hz : t.length ≤ sizeLine := Nat.le_trans hl (by decide)
    refine ⟨_,
      (pss_cons (ps_par (i := 1) (j := 2) (by rfl) sc_l_cut.nd rfl rfl (by decide) rfl rfl (pa_cons (pe_lst pa_nil) (pa_cons pe_int pa_nil)) (by rfl))
        (pss_cons (ps_while PassesOwn.never (pt_cmpR op_lt (pv 2) (pe_callB call_len (by rfl) T.n_len PySem.boot_len (pa_cons (pv 0) pa_nil)) (nomark _))
        (pss_one (ps_if (pt_cmpR op_in_sign (pe_ix ix_str (pv 0) (pv 2) (fun _ _ => rfl)) pe_str (by rfl))
        (pss_one (ps_aug (i := 2) sc_l_cut.nd rfl (Or.inl rfl) pe_int ip_add))
        (pss_cons (ps_set (i := 3) sc_l_cut.nd rfl (Or.inl rfl) (pe_c c_l_word_end hr (by first | decide | omega) rfl (pa_cons (pv 0) (pa_cons (pv 2) pa_nil))))
        (pss_cons (ps_if (pt_cmpR op_isN (pv 3) pe_non (nomark _))
        (pss_one (ps_ret (pe_tup (pa_cons (pv 1) (pa_cons (pv 2) pa_nil)))))
        pss_nil)
        (pss_cons (ps_expr (pe_bm PySem.F.plainAttrs_list PySem.F.slot_list_append PySem.F.type_list_append mt_append (pv 1) (pa_cons (pe_tup (pa_cons (pe_slice sl_str (pv 0) (po_some (pv 2)) (po_some (pv 3))) (pa_cons (pv 2) pa_nil))) pa_nil)))
        (pss_one (ps_set (i := 2) sc_l_cut.nd rfl (Or.inl rfl) (pv 3)))))))))
        (pss_one (ps_ret (pe_tup (pa_cons (pv 1) (pa_cons pe_non pa_nil)))))))
      , ?_⟩
    refine ⟨by decide, fun F hF => ⟨_, _, rfl, ?_⟩⟩
    refine ⟨fun m σ' H' => ∃ (l : List (Nat × Nat)) (vs : List V) (j : Nat) (v3 : Option V), σ' = [some (.str t), some (.ref F), some (.int j), v3] ∧ H' F = some (.lst vs) ∧ TrAll H' vs (l.map (pD t)) ∧ (∀ x ∈ l, x.1 < t.length) ∧
        (cutA t j).map (l ++ ·) = cutA t 0 ∧ l.length ≤ j ∧ j ≤ t.length ∧ ExtN H H' ∧ Tabs Tl H' ∧ m = t.length - j,
      ⟨_, [], [], 0, none, rfl, upd_same, .nil, (fun x hx => by cases hx), ?_, Nat.le_refl _, Nat.zero_le _, Same.ext (same_new hF), Tabs.same tb (same_new hF), rfl⟩, ?_⟩
    · show (cutA t 0).map (fun x => [] ++ x) = _
      cases cutA t 0 <;> rfl
    rintro m σ' H1 ⟨l, vs, j, v3, rfl, hf, tr, okl, hc0, lj, jt, ex, tb1, rfl⟩
    refine ⟨_, rfl, _, rfl, _, t.length, rfl, ⟨hz, rfl⟩, _, _, rfl, rfl, _, rfl, ?_⟩
    refine ite2 (fun h1 => ?_) (fun h1 => ?_)
    · have hlt : j < t.length := by
        have := of_decide_eq_true h1
        omega
      obtain ⟨c, hc⟩ := at_lt hlt
      refine ⟨fun σ' H2 => ∃ m', m' < t.length - j ∧ ∃ (l : List (Nat × Nat)) (vs : List V) (j : Nat) (v3 : Option V), σ' = [some (.str t), some (.ref F), some (.int j), v3] ∧ H2 F = some (.lst vs) ∧ TrAll H2 vs (l.map (pD t)) ∧ (∀ x ∈ l, x.1 < t.length) ∧
        (cutA t j).map (l ++ ·) = cutA t 0 ∧ l.length ≤ j ∧ j ≤ t.length ∧ ExtN H H2 ∧ Tabs Tl H2 ∧ m' = t.length - j, fun _ _ h => h, ?_⟩
      refine ⟨_, rfl, _, rfl, _, _, c, rfl, rfl, hz, atI_nat hc, c, _, rfl, rfl, _, rfl, ?_⟩
      refine ite2 (fun h2 => ?_) (fun h2 => ?_)
      · have bl : c = 32 ∨ c = 10 := by
          have : c ∈ [32, 10] := of_decide_eq_true h2
          simpa using this
        refine ⟨_, rfl, _, _, rfl, rfl, ?_⟩
        exact ⟨_, (by omega : t.length - (j + 1) < t.length - j), l, vs, j + 1, v3, rfl, hf, tr, okl, by rw [← hc0, cutA_blank hc bl], by omega, by omega, ex, tb1, rfl⟩
      · have bl : ¬ (c = 32 ∨ c = 10) := fun z => h2 (decide_eq_true (p := c ∈ [32, 10]) (by simpa using z))
        refine ⟨_, rfl, _, rfl, t, j, rfl, hz, hlt, tb1, fun H2 e2 tb2 => ?_⟩
        have hf2 := ExtN.lst e2 hf
        have tr2 := tr.keep (ExtN.tk' e2)
        have ex2 := ExtN.trans ex e2
        cases hw : wrdE t j with
        | none =>
          refine ⟨_, rfl, rfl, _, rfl, ?_⟩
          rw [decide_eq_true (show optV none = V.non from rfl)]
          refine iteT ?_
          refine ⟨_, rfl, _, rfl, by show 2 ≤ sizeLine; decide, fun p hp => ?_⟩
          have s3 := same_new (o := .tup [.ref F, .int j]) hp
          refine k p l (.int j) _ (ExtN.trans ex2 (Same.ext s3)) (Tabs.same tb2 s3) ?_ okl (.inr ⟨?_, j, hlt, rfl⟩)
          · exact fun H4 s4 => .tup (SqT.of (s4 _ _ upd_same)) (.cons (.lst (SqL.of (s4 _ _ (upd_some hf2 hp))) ((tr2.new hp).keep (Tk.of s4)).dp) (.cons (.int _) .nil))
          · rw [← hc0, cutA_fault hc bl hw]
            rfl
        | some e =>
          have wi := wrd_in hw
          refine ⟨_, rfl, rfl, _, rfl, ?_⟩
          refine ite2 (fun h3 => ?_) (fun h3 => ?_)
          · have := of_decide_eq_true h3
            cases this
          refine ⟨_, rfl, .inl ⟨rfl, _, SqL.of hf2⟩, _, rfl, _, rfl, _, rfl, _, rfl, _, rfl, _, rfl, hz, _, rfl, by show 2 ≤ sizeLine; decide, fun p hp => ⟨F, vs, .ref p, rfl, rfl, upd_some hf2 hp, ?_, ?_⟩⟩
          · have := tr2.len
            rw [List.length_map] at this
            rw [this]
            exact Nat.lt_of_lt_of_le (show l.length < 1000 by omega) (by decide)
          refine ⟨_, rfl, ?_⟩
          have np : p ≠ F := fun z => by
            rw [z, hf2] at hp
            cases hp
          have hp3 : upd (upd H2 p (.tup [.str (sl t (j, e)), .int j])) F (.lst (vs ++ [.ref p])) p = some (.tup [.str (sl t (j, e)), .int j]) := by
            rw [upd_ne np, upd_same]
          have tk3 : Tk H2 (upd (upd H2 p (.tup [.str (sl t (j, e)), .int j])) F (.lst (vs ++ [.ref p]))) := ((Tk.refl H2).new hp).put fun xs z => by
            rw [hf2] at z
            cases z
          have ex3 : ExtN H (upd (upd H2 p (.tup [.str (sl t (j, e)), .int j])) F (.lst (vs ++ [.ref p]))) := ExtN.put (ExtN.trans ex2 (Same.ext (same_new hp))) hF
          have tb3 : Tabs Tl (upd (upd H2 p (.tup [.str (sl t (j, e)), .int j])) F (.lst (vs ++ [.ref p]))) := Tabs.putL (Tabs.same tb2 (same_new hp)) (upd_some hf2 hp)
          refine ⟨_, (by omega : t.length - e < t.length - j), l ++ [(j, e)], vs ++ [.ref p], e, _, rfl, upd_same, ?_, ?_, ?_, ?_, wi.2, ex3, tb3, rfl⟩
          · rw [List.map_append]
            exact (tr2.keep tk3).app (.cons (.tup hp3 (.cons (.str _) (.cons (.int _) .nil))) .nil)
          · intro x hx
            rcases List.mem_append.mp hx with h | h
            · exact okl x h
            · rw [List.mem_singleton.mp h]
              exact hlt
          · rw [← hc0, cutA_word hc bl hw]
            cases cutA t e with
            | none => rfl
            | some r =>
              show some ((l ++ [(j, e)]) ++ r) = some (l ++ ((j, e) :: r))
              rw [List.append_assoc]
              rfl
          · rw [List.length_append]
            show l.length + 1 ≤ e
            omega
    · have hge : t.length ≤ j := by
        have : ¬ ((j : Int) < (t.length : Int)) := fun q => h1 (decide_eq_true q)
        omega
      refine ⟨_, rfl, by show 2 ≤ sizeLine; decide, fun p hp => ?_⟩
      have s3 := same_new (o := .tup [.ref F, .non]) hp
      refine k p l .none _ (ExtN.trans ex (Same.ext s3)) (Tabs.same tb1 s3) ?_ okl (.inl ⟨?_, rfl⟩)
      · exact fun H4 s4 => .tup (SqT.of (s4 _ _ upd_same)) (.cons (.lst (SqL.of (s4 _ _ (upd_some hf hp))) ((tr.new hp).keep (Tk.of s4)).dp) (.cons .non .nil))
      · rw [← hc0, cutA_end hge]
        show some (l ++ []) = _
        rw [List.append_nil]

open LamX (CodeO TabS Tabs ExtN TabB)
def prD (a : Str × Int) : PyData := .tuple [.str a.1, .int a.2]
theorem eqv_pr (a b : Str × Int) : PyData.eqv (prD a) (prD b) = decide (a = b) := by
  obtain ⟨x, i⟩ := a
  obtain ⟨y, j⟩ := b
  show ((x == y) && ((i == j) && true)) = _
  rw [Bool.and_true, Bool.eq_iff_iff, Bool.and_eq_true, beq_iff_eq, beq_iff_eq, decide_eq_true_iff, Prod.mk.injEq]
theorem eqv_prs : ∀ (l m : List (Str × Int)), PyData.eqvAll (l.map prD) (m.map prD) = decide (l = m)
  | [], [] => rfl
  | [], _ :: _ => rfl
  | _ :: _, [] => rfl
  | a :: l, b :: m => by
    show (PyData.eqv (prD a) (prD b) && PyData.eqvAll (l.map prD) (m.map prD)) = _
    rw [eqv_pr, eqv_prs l m, Bool.eq_iff_iff, Bool.and_eq_true, decide_eq_true_iff, decide_eq_true_iff, decide_eq_true_iff, List.cons.injEq]
def dueP (x y : Str) : PyData := .tuple [.list [.tuple [.str x, .int 0], .tuple [.str y, .int x.length]], .none]
theorem eqv_cut (t x y : Str) (l : List (Nat × Nat)) (f : PyData) : PyData.eqv (cutD t l f) (dueP x y) = (decide (l.map (fun p => (sl t p, (p.1 : Int))) = [(x, (0 : Int)), (y, (x.length : Int))]) && PyData.eqv f .none) := by
  show (PyData.eqvAll (l.map (pD t)) ([(x, (0 : Int)), (y, (x.length : Int))].map prD) && (PyData.eqv f .none && true)) = _
  have e : l.map (pD t) = (l.map (fun p => (sl t p, (p.1 : Int)))).map prD := by rw [List.map_map] <;> rfl
  rw [e, eqv_prs, Bool.and_true]
theorem pairs_iff {t x y : Str} {l : List (Nat × Nat)} (ht : t.length = x.length + y.length) (h : cutA t 0 = some l) :
    (l.map (fun p => (sl t p, (p.1 : Int))) = [(x, (0 : Int)), (y, (x.length : Int))]) ↔ l.map (sl t) = [x, y] := by
  constructor
  · intro q
    have := congrArg (List.map Prod.fst) q
    rw [List.map_map] at this
    exact this
  · intro q
    have w := two_words ht h q
    match l, q, w with
    | [p, r], q, w =>
      have q : [sl t p, sl t r] = [x, y] := q
      have w : [p.1, r.1] = [0, x.length] := w
      injection q with q1 q
      injection q with q2 _
      injection w with w1 w
      injection w with w2 _
      show [(sl t p, (p.1 : Int)), (sl t r, (r.1 : Int))] = _
      rw [q1, q2, w1, w2]
      rfl
def doE (x y : Str) : Bool :=
  match cutA (x ++ y) 0 with
  | some l => decide (l.map (sl (x ++ y)) = [x, y])
  | none => false
theorem pD_shaped {t x y : Str} {l : List (Nat × Nat)} {f : PyData} (nt : Nice t) (hl : ∀ p ∈ l, p.1 < 1000) (hf : f = .none ∨ ∃ i : Nat, i < 1000 ∧ f = .int i) : SeqAt.shaped (cutD t l f) = true := by
  have small : ∀ i : Nat, i < 1000 → tame (.int i) = true := fun i h => by
    show decide ((i : Int).natAbs < 10 ^ 30) = true
    refine decide_eq_true (Nat.lt_of_lt_of_le (m := 1000) ?_ (by decide))
    omega
  have a : ∀ l : List (Nat × Nat), (∀ p ∈ l, p.1 < 1000) → tameAll (l.map (pD t)) = true ∧ PyData.depthAll (l.map (pD t)) ≤ 1 := by
    intro l
    induction l with
    | nil => exact fun _ => ⟨rfl, Nat.zero_le _⟩
    | cons p r ih =>
      intro h
      obtain ⟨h1, h2⟩ := ih fun q hq => h q (List.mem_cons_of_mem _ hq)
      refine ⟨?_, Nat.max_le.mpr ⟨Nat.le_refl 1, h2⟩⟩
      show ((tame (.str (sl t p)) && (tame (.int p.1) && true)) && tameAll (r.map (pD t))) = true
      have e : tame (.str (sl t p)) = true := (nt.cut _ _ : Nice (sl t p)).tame
      rw [small _ (h p (List.mem_cons_self ..)), h1, e]
      rfl
  obtain ⟨h1, h2⟩ := a l hl
  have hf1 : tame f = true ∧ f.depth = 0 := by
    rcases hf with rfl | ⟨i, hi, rfl⟩
    · exact ⟨rfl, rfl⟩
    · exact ⟨small i hi, rfl⟩
  unfold SeqAt.shaped
  rw [Bool.and_eq_true]
  refine ⟨(tame_ok (cutD t l f) ?_).2.2, decide_eq_true ?_⟩
  · show (tameAll (l.map (pD t)) && (tame f && true)) = true
    rw [h1, hf1.1]
    rfl
  · show max (PyData.depthAll (l.map (pD t)) + 1) (max f.depth 0) + 1 ≤ 64
    rw [hf1.2]
    omega
def spDo (Tl : List (Addr × Str)) : Sp := fun vs H Q _ => ∃ (x y : Str), vs = [.str x, .str y] ∧ x.length ≤ 100 ∧ y.length ≤ 100 ∧ Nice x ∧ Nice y ∧ Tabs Tl H ∧ ∀ H', ExtN H H' → Tabs Tl H' → Q (.bl (doE x y)) H'
theorem c_l_do_part (T : Txt K mg w) {Tl : List (Addr × Str)} (c_l_cut : Cal P w K mg base 5 "_law_cut" (spCutL K Tl) []) : Cal P w K mg base 6 "_law_do_part" (spDo Tl) [] := by
  refine calOf T.d_l_do_part sc_l_do_part (fun vs H Q E h => ?_) (fun f cdv A outer s H vs Q E hr h => ?_)
  · obtain ⟨x, y, rfl, _⟩ := h
    rfl
  · obtain ⟨x, y, rfl, lx, ly, nx, ny, tb, k⟩ := h
    have ll : (x ++ y).length = x.length + y.length := Str.length_append _ _
    have nt := nx.cat ny
    refine ⟨_,
      (pss_one (ps_ret (pe_cmpR (op_eqD hr.units) (pe_c c_l_cut hr (by first | decide | omega) rfl (pa_cons (pe_op op_add_str (pv 0) (pv 1)) pa_nil)) (pe_tup (pa_cons (pe_lst (pa_cons (pe_tup (pa_cons (pv 0) (pa_cons pe_int pa_nil))) (pa_cons (pe_tup (pa_cons (pv 1) (pa_cons (pe_callB call_len (by rfl) T.n_len PySem.boot_len (pa_cons (pv 0) pa_nil)) pa_nil))) pa_nil))) (pa_cons pe_non pa_nil))) (nomark _))))
      , ?_⟩
    refine ⟨_, rfl, _, rfl, _, _, rfl, rfl, Nat.le_trans (show x.length + y.length ≤ 200 by omega) (by decide), x ++ y, rfl, by omega, tb, fun p l f H1 e1 tb1 dp okl hc => ?_⟩
    refine ⟨_, rfl, by show 2 ≤ sizeLine; decide, fun p1 hp1 => ?_⟩
    refine ⟨_, rfl, _, rfl, _, x.length, rfl, ⟨Nat.le_trans lx (by decide), rfl⟩, by show 2 ≤ sizeLine; decide, fun p2 hp2 => ?_⟩
    refine ⟨by show 2 ≤ sizeLine; decide, fun p3 hp3 => ⟨by show 2 ≤ sizeLine; decide, fun p4 hp4 => ?_⟩⟩
    have s4 := (((same_new (o := .tup [.str x, .int 0]) hp1).trans (same_new (o := .tup [.str y, .int x.length]) hp2)).trans (same_new (o := .lst [.ref p1, .ref p2]) hp3)).trans (same_new (o := .tup [.ref p3, .non]) hp4)
    have dd : Dp K (upd (upd (upd (upd H1 p1 (.tup [.str x, .int 0])) p2 (.tup [.str y, .int x.length])) p3 (.lst [.ref p1, .ref p2])) p4 (.tup [.ref p3, .non])) (.ref p4) (dueP x y) :=
      .tup (SqT.of upd_same) (.cons (.lst (SqL.of (upd_some upd_same hp4)) (.cons (.tup (SqT.of (upd_some (upd_some (upd_some upd_same hp2) hp3) hp4)) (.cons (.str x) (.cons (.int _) .nil))) (.cons (.tup (SqT.of (upd_some (upd_some upd_same hp3) hp4)) (.cons (.str y) (.cons (.int _) .nil))) .nil))) (.cons .non .nil))
    have sd : SeqAt.shaped (dueP x y) = true := by
      unfold SeqAt.shaped
      rw [Bool.and_eq_true]
      refine ⟨(tame_ok (dueP x y) ?_).2.2, decide_eq_true (by show max (max (max 0 (max 0 0) + 1) (max (max 0 (max 0 0) + 1) 0) + 1) (max 0 0) + 1 ≤ 64; decide)⟩
      have e : tame (.int x.length) = true := by
        show decide ((x.length : Int).natAbs < 10 ^ 30) = true
        refine decide_eq_true (Nat.lt_of_lt_of_le (m := 1000) ?_ (by decide))
        omega
      show (((tame (.str x) && (tame (.int 0) && true)) && ((tame (.str y) && (tame (.int x.length) && true)) && true)) && true) = true
      rw [nx.tame, ny.tame, e]
      decide
    refine ⟨_, _, dp _ s4, dd, ?_, sd, ?_⟩
    · refine pD_shaped (x := x) (y := y) nt (fun q hq => by have := okl q hq; omega) ?_
      rcases hc with ⟨_, h⟩ | ⟨_, i, hi, h⟩
      · exact .inl h
      · exact .inr ⟨i, by omega, h⟩
    · rw [eqv_cut]
      have k := k _ (ExtN.trans e1 (Same.ext s4)) (Tabs.same tb1 s4)
      unfold doE at k
      rcases hc with ⟨h, rfl⟩ | ⟨h, i, _, rfl⟩
      · rw [h] at k
        rw [decide_eq_decide.mpr (pairs_iff ll h)]
        show Q (V.bl (_ && true)) _
        rw [Bool.and_true]
        exact k
      · rw [h] at k
        show Q (V.bl (_ && false)) _
        rw [Bool.and_false]
        exact k

open LamX (CodeO TabS Tabs ExtN TabB)
/-- kept: all but the bag and the tables -/
structure Kp (T : List (Addr × Str)) (g : Bg) (c e : Int) (H H' : Hp) : Prop where
  bag : Bag H' g c e
  tb : Tabs T H'
  kp : ∀ a o, a ≠ g.b → (∀ ps, o ≠ .tbl ps) → H a = some o → H' a = some o
section
variable {T : List (Addr × Str)} {g : Bg} {H H1 H2 : Hp} {a p : Addr} {o : HO} {c e c' e' : Int}
theorem Tabs.drawn2 (t : Tabs T H) (B : Bag H g c e) (D : Drawn g H H1 c' e') : Tabs T H1 := fun q hq => by
  obtain ⟨ps, h, tri, k⟩ := t q hq
  obtain ⟨ob, hb⟩ := B.ob
  have keep : ∀ {a : Addr} {u : HO}, H a = some u → (∀ ys, u ≠ .lst ys) → H1 a = some u := fun {a u} ha n => D.fr a u (fun z => by
    rw [z, hb] at ha
    exact n _ (Option.some.inj ha).symm) ha
  refine ⟨ps, keep h (fun ys z => by cases z), tri, fun pos cv hc => ?_⟩
  obtain ⟨c1, e1, e2⟩ := k pos cv hc
  exact ⟨c1, e1, keep e2 (fun ys z => by unfold CodeO at z; cases z)⟩
theorem Kp.refl (B : Bag H g c e) (t : Tabs T H) : Kp T g c e H H := ⟨B, t, fun _ _ _ _ h => h⟩
theorem Kp.trans (x : Kp T g c e H H1) (y : Kp T g c' e' H1 H2) : Kp T g c' e' H H2 := ⟨y.bag, y.tb, fun a o n m h => y.kp a o n m (x.kp a o n m h)⟩
theorem Kp.drawn (x : Kp T g c e H H1) (D : Drawn g H1 H2 c' e') : Kp T g c' e' H H2 := ⟨D.bag, Tabs.drawn2 x.tb x.bag D, fun a o n m h => D.fr a o n (x.kp a o n m h)⟩
theorem Kp.same (x : Kp T g c e H H1) (s : Same H1 H2) : Kp T g c e H H2 := ⟨x.bag.same s, Tabs.same x.tb s, fun a o n m h => s a o (x.kp a o n m h)⟩
theorem Kp.new (x : Kp T g c e H H1) (n : H1 p = none) : Kp T g c e H (upd H1 p o) := x.same (same_new n)
theorem Kp.ext (x : Kp T g c e H H1) (y : ExtN H1 H2) (t : Tabs T H2) : Kp T g c e H H2 := ⟨Bag.ext x.bag y, t, fun a o n m h => y a o (x.kp a o n m h) m⟩
theorem Kp.lst {xs : List V} (x : Kp T g c e H H1) (n : a ≠ g.b) (h : H a = some (.lst xs)) : H1 a = some (.lst xs) := x.kp a _ n (fun ps z => by cases z) h
end
def gapA : List V := [.str "", .str " ", .str " ", .str "  "]
def gapB : List V := [.str "\n", .str "\n  ", .str " \n", .str "\n\n", .str "\n \n    "]
def blankV : V → Bool
  | .str z => decide (z.length ≤ 8) && z.cps.toList.all fun c => decide (c = 32 ∨ c = 10)
  | _ => false
/-- signs of a gap are blank -/
def Gap (z : Str) : Prop := z.length ≤ 8 ∧ ∀ c ∈ z.cps.toList, c = 32 ∨ c = 10
theorem gap_is {v : V} (h : blankV v = true) : ∃ z : Str, v = .str z ∧ Gap z := by
  cases v with
  | str z =>
    have h : (decide (z.length ≤ 8) && z.cps.toList.all fun c => decide (c = 32 ∨ c = 10)) = true := h
    rw [Bool.and_eq_true] at h
    exact ⟨z, rfl, of_decide_eq_true h.1, fun c hc => of_decide_eq_true (List.all_eq_true.mp h.2 c hc)⟩
  | _ => cases h
/-- between two words: a gap, that is not empty where they would be glued -/
def spGap (Tl : List (Addr × Str)) : Sp := fun vs H Q _ => ∃ (g : Bg) (x y : Str) (l c e : Int), vs = [.ref g.b, .str x, .str y, .int l] ∧ Bag H g c e ∧ Tabs Tl H ∧ x.length ≤ 100 ∧ y.length ≤ 100 ∧ Nice x ∧ Nice y ∧
  ∀ (z : Str) (H' : Hp), Gap z → (z ≠ "" ∨ doE x y = true) → Kp Tl g c e H H' → Q (.str z) H'

open LamX (CodeO TabS Tabs ExtN TabB)
theorem cut_sub {xs : List V} {lo hi : Option Int} {v : V} (h : v ∈ cutV xs lo hi) : v ∈ xs := by
  unfold cutV at h
  exact List.mem_of_mem_drop (List.mem_of_mem_take h)
theorem c_l_gap (T : Txt K mg w) {Tl : List (Addr × Str)} (c_l_one : Cal P w K mg base 2 "_law_one" (spOne K) []) (c_l_do_part : Cal P w K mg base 6 "_law_do_part" (spDo Tl) []) : Cal P w K mg base 7 "_law_gap" (spGap Tl) [] := by
  refine calOf T.d_l_gap sc_l_gap (fun vs H Q E h => ?_) (fun f cdv A outer s H vs Q E hr h => ?_)
  · obtain ⟨g, x, y, l, c, e, rfl, _⟩ := h
    rfl
  · obtain ⟨g, x, y, l, c, e, rfl, B, tb, lx, ly, nx, ny, k⟩ := h
    refine ⟨_,
      (pss_cons (ps_set (i := 4) sc_l_gap.nd rfl (Or.inl rfl) (pe_op op_cat (pe_lst (pa_cons pe_str (pa_cons pe_str (pa_cons pe_str (pa_cons pe_str pa_nil))))) (pe_ifExp (pt_cmpR op_gt (pv 3) pe_int (nomark _)) (pe_lst (pa_cons pe_str (pa_cons pe_str (pa_cons pe_str (pa_cons pe_str (pa_cons pe_str pa_nil)))))) (pe_lst pa_nil))))
        (pss_cons (ps_set (i := 5) sc_l_gap.nd rfl (Or.inl rfl) (pe_c c_l_one hr (by first | decide | omega) rfl (pa_cons (pv 0) (pa_cons (pe_slice sl_list (pv 4) po_none (po_some (pe_c c_l_one hr (by first | decide | omega) rfl (pa_cons (pv 0) (pa_cons (pe_lst (pa_cons pe_int (pa_cons pe_int (pa_cons (pe_callB call_len (by rfl) T.n_len PySem.boot_len (pa_cons (pv 4) pa_nil)) pa_nil)))) pa_nil))))) pa_nil))))
        (pss_one (ps_ret (pe_ifExp (PW.pt (pw_or (pt_cmpR op_ne (pv 5) pe_str (nomark _)) (pw_or1 (pt_val (pe_c c_l_do_part hr (by first | decide | omega) rfl (pa_cons (pv 1) (pa_cons (pv 2) pa_nil))))))) (pv 5) pe_str)))))
      , ?_⟩
    refine ⟨by decide, fun p1 hp1 => ?_⟩
    refine ⟨_, rfl, _, _, rfl, rfl, _, rfl, ?_⟩
    refine ite2 (fun _ => ?_) (fun _ => ?_)
    · refine ⟨by decide, fun p2 hp2 => ⟨_, _, gapA, gapB, rfl, rfl, upd_some upd_same hp2, upd_same, by decide, fun p3 hp3 => ?_⟩⟩
      have K3 := (((Kp.refl B tb).new (o := .lst gapA) hp1).new (o := .lst gapB) hp2).new (o := .lst (gapA ++ gapB)) hp3
      have n3 := ((B.new (o := .lst gapA) hp1).new (o := .lst gapB) hp2).ne_new hp3
      have ok : (gapA ++ gapB).all blankV = true := by decide +kernel
      refine ⟨_, rfl, _, rfl, _, rfl, _, rfl, _, 9, rfl, .inl ⟨_, SqL.of upd_same, rfl⟩, by decide, fun p5 hp5 => pick_of K3.bag hp5 (by decide) (by decide) fun v H5 hv D5 => ?_⟩
      have K5 := K3.drawn D5
      have h5 : H5 p3 = some (.lst (gapA ++ gapB)) := D5.keep n3 upd_same
      obtain ⟨m, rfl, m0⟩ : ∃ m : Nat, v = .int m ∧ 0 < (cutV (gapA ++ gapB) none (some (m : Int))).length ∧ (cutV (gapA ++ gapB) none (some (m : Int))).length < 1000 := by
        simp only [List.mem_cons, List.not_mem_nil, or_false] at hv
        rcases hv with rfl | rfl | rfl
        · exact ⟨2, rfl, by decide +kernel⟩
        · exact ⟨4, rfl, by decide +kernel⟩
        · exact ⟨9, rfl, by decide +kernel⟩
      refine ⟨_, rfl, p3, _, rfl, SqL.of h5, fun p6 hp6 => pick_of K5.bag hp6 m0.1 m0.2 fun v2 H7 hv2 D7 => ?_⟩
      have K7 := K5.drawn D7
      obtain ⟨z, rfl, gz⟩ := gap_is (List.all_eq_true.mp ok v2 (cut_sub hv2))
      refine ⟨_, rfl, rfl, _, rfl, ?_⟩
      refine ite2 (fun h1 => ?_) (fun h1 => ?_)
      · refine iteT ?_
        have nz : z ≠ "" := fun e => by
          rw [decide_eq_true (by rw [e])] at h1
          cases h1
        exact ⟨_, rfl, k z H7 gz (.inl nz) K7⟩
      · refine ⟨_, rfl, _, rfl, x, y, rfl, lx, ly, nx, ny, K7.tb, fun H8 e8 t8 => ⟨_, rfl, ?_⟩⟩
        have K8 := K7.ext e8 t8
        refine ite2 (fun h2 => ?_) (fun h2 => ?_)
        · exact ⟨_, rfl, k z H8 gz (.inr h2) K8⟩
        · exact k " " H8 ⟨by decide, by decide⟩ (.inl (by decide)) K8
    · refine ⟨by decide, fun p2 hp2 => ⟨_, _, gapA, ([] : List V), rfl, rfl, upd_some upd_same hp2, upd_same, by decide, fun p3 hp3 => ?_⟩⟩
      have K3 := (((Kp.refl B tb).new (o := .lst gapA) hp1).new (o := .lst ([] : List V)) hp2).new (o := .lst (gapA ++ ([] : List V))) hp3
      have n3 := ((B.new (o := .lst gapA) hp1).new (o := .lst ([] : List V)) hp2).ne_new hp3
      have ok : (gapA ++ ([] : List V)).all blankV = true := by decide +kernel
      refine ⟨_, rfl, _, rfl, _, rfl, _, rfl, _, 4, rfl, .inl ⟨_, SqL.of upd_same, rfl⟩, by decide, fun p5 hp5 => pick_of K3.bag hp5 (by decide) (by decide) fun v H5 hv D5 => ?_⟩
      have K5 := K3.drawn D5
      have h5 : H5 p3 = some (.lst (gapA ++ ([] : List V))) := D5.keep n3 upd_same
      obtain ⟨m, rfl, m0⟩ : ∃ m : Nat, v = .int m ∧ 0 < (cutV (gapA ++ ([] : List V)) none (some (m : Int))).length ∧ (cutV (gapA ++ ([] : List V)) none (some (m : Int))).length < 1000 := by
        simp only [List.mem_cons, List.not_mem_nil, or_false] at hv
        rcases hv with rfl | rfl | rfl
        · exact ⟨2, rfl, by decide +kernel⟩
        · exact ⟨4, rfl, by decide +kernel⟩
        · exact ⟨4, rfl, by decide +kernel⟩
      refine ⟨_, rfl, p3, _, rfl, SqL.of h5, fun p6 hp6 => pick_of K5.bag hp6 m0.1 m0.2 fun v2 H7 hv2 D7 => ?_⟩
      have K7 := K5.drawn D7
      obtain ⟨z, rfl, gz⟩ := gap_is (List.all_eq_true.mp ok v2 (cut_sub hv2))
      refine ⟨_, rfl, rfl, _, rfl, ?_⟩
      refine ite2 (fun h1 => ?_) (fun h1 => ?_)
      · refine iteT ?_
        have nz : z ≠ "" := fun e => by
          rw [decide_eq_true (by rw [e])] at h1
          cases h1
        exact ⟨_, rfl, k z H7 gz (.inl nz) K7⟩
      · refine ⟨_, rfl, _, rfl, x, y, rfl, lx, ly, nx, ny, K7.tb, fun H8 e8 t8 => ⟨_, rfl, ?_⟩⟩
        have K8 := K7.ext e8 t8
        refine ite2 (fun h2 => ?_) (fun h2 => ?_)
        · exact ⟨_, rfl, k z H8 gz (.inr h2) K8⟩
        · exact k " " H8 ⟨by decide, by decide⟩ (.inl (by decide)) K8

/-- a short text -/
def okS : V → Bool
  | .str z => decide (z.length ≤ 100) && z.cps.toList.all (· < 0x110000)
  | _ => false
theorem okS_is {v : V} (h : okS v = true) : ∃ z : Str, v = .str z ∧ z.length ≤ 100 ∧ Nice z := by
  cases v with
  | str z =>
    have h : (decide (z.length ≤ 100) && z.cps.toList.all (· < 0x110000)) = true := h
    rw [Bool.and_eq_true] at h
    exact ⟨z, rfl, of_decide_eq_true h.1, nice_of h.2⟩
  | _ => cases h
theorem okS_in {l : List V} {v : V} (h : l.all okS = true) (hv : v ∈ l) : ∃ z : Str, v = .str z ∧ z.length ≤ 100 ∧ Nice z := okS_is (List.all_eq_true.mp h v hv)
/-- a text is drawn -/
def spTx : Sp := fun vs H Q _ => ∃ (g : Bg) (c e : Int), vs = [.ref g.b] ∧ Bag H g c e ∧ ∀ (z : Str) (H' : Hp), z.length ≤ 4000 → Nice z → Drawn g H H' c e → Q (.str z) H'

open PySem.Builtin PySem.Builtin.Str PySem.StrLaws in
theorem sub_iff (t y : Str) (k : Nat) : subAt t y k = true ↔ (t.cps.toList.drop k).take y.length = y.cps.toList := by
  unfold subAt
  rw [beq_iff_eq]
  constructor
  · intro h
    have := congrArg Array.toList h
    rw [Array.toList_extract, List.extract_eq_take_drop, Nat.add_sub_cancel_left] at this
    exact this
  · intro h
    refine Array.toList_inj.mp ?_
    rw [Array.toList_extract, List.extract_eq_take_drop, Nat.add_sub_cancel_left]
    exact h
theorem hit_iff {t y : Str} {k : Nat} (hy : 0 < y.length) : HitAt t y t.length k ↔ (t.cps.toList.drop k).take y.length = y.cps.toList := by
  unfold HitAt
  rw [sub_iff]
  refine ⟨fun h => h.2, fun h => ⟨?_, h⟩⟩
  have := take_len h (str_len y).symm hy
  rw [str_len t]
  exact this
theorem hit_nl {t : Str} {k : Nat} : HitAt t "\n" t.length k ↔ t.cps.toList[k]? = some 10 := by
  rw [hit_iff (by decide)]
  show (t.cps.toList.drop k).take 1 = [10] ↔ _
  rw [take1]
  cases t.cps.toList[k]? with
  | none =>
    refine ⟨fun h => ?_, fun h => by cases h⟩
    have h : ([] : List Nat) = [10] := h
    cases h
  | some c =>
    constructor
    · intro h
      have h : [c] = [10] := h
      cases h
      rfl
    · intro h
      cases h
      rfl
theorem run_to {g : Nat → Bool} {L : List Nat} {k : Nat} (hk : k ≤ L.length) (hs : ∀ c, L[k]? = some c → g c = false) :
    ∀ (n i : Nat), n = k - i → i ≤ k → (∀ j c, i ≤ j → j < k → L[j]? = some c → g c = true) → runE g L i = k
  | 0, i, hn, hi, _ => by
    obtain rfl : i = k := by omega
    cases e : L[i]? with
    | none => exact run_end (List.getElem?_eq_none_iff.mp e)
    | some c => exact run_stop e (hs c e)
  | n + 1, i, hn, hi, h => by
    have hl : i < L.length := by omega
    have e : L[i]? = some L[i] := List.getElem?_eq_getElem hl
    rw [run_step e (h i _ (Nat.le_refl _) (by omega) e)]
    exact run_to hk hs n (i + 1) (by omega) (by omega) fun j c h1 h2 => h j c (by omega) h2
theorem nl_find (t : Str) {i : Nat} (hi : i ≤ t.length) : (Txt.find3 t "\n" (i : Int) < 0 → runE notNl t.cps.toList i = t.length) ∧
    (¬ Txt.find3 t "\n" (i : Int) < 0 → Txt.find3 t "\n" (i : Int) = ((runE notNl t.cps.toList i : Nat) : Int)) := by
  have ne : ∀ j c, ¬ HitAt t "\n" t.length j → t.cps.toList[j]? = some c → notNl c = true := fun j c h e => by
    unfold notNl
    by_cases q : c = 10
    · subst q
      exact absurd (hit_nl.mpr e) h
    · rw [decide_eq_false q]
      rfl
  rcases find3_spec t "\n" i with ⟨k, h1, h2, h3, h4⟩ | ⟨h1, h2⟩
  · rw [h1]
    refine ⟨fun z => by omega, fun _ => ?_⟩
    have e := hit_nl.mp h3
    rw [run_to (Nat.le_of_lt (len_at e)) (fun c ec => by rw [e] at ec; cases ec; rfl) (k - i) i rfl h2 fun j c a b => ne j c (h4 j a b)]
  · rw [h1]
    refine ⟨fun _ => ?_, fun z => absurd (by decide) z⟩
    rw [str_len] at hi ⊢
    exact run_to (Nat.le_refl _) (fun c ec => absurd (len_at ec) (Nat.lt_irrefl _)) (t.cps.toList.length - i) i rfl hi fun j c a b => ne j c (h2 j a)
/-- of a text and a place of it -/
def spAt (f : Str → Nat → V) : Sp := fun vs H Q _ => ∃ (t : Str) (i : Nat), vs = [.str t, .int i] ∧ t.length ≤ sizeLine ∧ i < t.length ∧ Q (f t i) H
theorem c_p_line_end (T : Txt K mg w) : Cal P w K mg base 1 "line_end" (spAt fun t i => .int (runE notNl t.cps.toList i)) [] := by
  refine calOf T.d_p_line_end sc_p_line_end (fun vs H Q E h => ?_) (fun f cdv A outer s H vs Q E hr h => ?_)
  · obtain ⟨t, i, rfl, _⟩ := h
    rfl
  · obtain ⟨t, i, rfl, hz, hi, k⟩ := h
    refine ⟨_,
      (pss_cons (ps_set (i := 2) sc_p_line_end.nd rfl (Or.inl rfl) (pe_bm PySem.F.plainAttrs_str PySem.F.slot_str_find PySem.F.type_str_find mt_find3 (pv 0) (pa_cons pe_str (pa_cons (pv 1) pa_nil))))
        (pss_one (ps_ret (pe_ifExp (pt_cmpR op_lt (pv 2) pe_int (nomark _)) (pe_callB call_len (by rfl) T.n_len PySem.boot_len (pa_cons (pv 0) pa_nil)) (pv 2)))))
      , ?_⟩
    refine ⟨_, rfl, rfl, _, rfl, _, _, _, rfl, rfl, ?_⟩
    refine ⟨_, rfl, _, _, rfl, rfl, _, rfl, ?_⟩
    have k : Q (.int (runE notNl t.cps.toList i)) H := k
    obtain ⟨n1, n2⟩ := nl_find t (Nat.le_of_lt hi)
    refine ite2 (fun h1 => ?_) (fun h1 => ?_)
    · have e := n1 (of_decide_eq_true h1)
      refine ⟨_, rfl, _, t.length, rfl, ⟨hz, rfl⟩, ?_⟩
      rw [e] at k
      exact k
    · have e := n2 (fun z => h1 (decide_eq_true z))
      refine ⟨_, rfl, ?_⟩
      rw [← e] at k
      exact k
def inC (z : Str) (c : Nat) : Bool := decide (c ∈ z.cps.toList)
def spRunS : Sp := fun vs H Q _ => ∃ (t : Str) (i : Nat) (z : Str), vs = [.str t, .int i, .str z] ∧ t.length ≤ sizeLine ∧ Q (.int (runE (inC z) t.cps.toList i)) H
theorem c_p_run_end (T : Txt K mg w) : Cal P w K mg base 1 "_run_end" spRunS [] := by
  refine calOf T.d_p_run_end sc_p_run_end (fun vs H Q E h => ?_) (fun f cdv A outer s H vs Q E hr h => ?_)
  · obtain ⟨t, i, z, rfl, _⟩ := h
    rfl
  · obtain ⟨t, i, z, rfl, hz, k⟩ := h
    refine ⟨_,
      (pss_cons (ps_set (i := 3) sc_p_run_end.nd rfl (Or.inl rfl) (pv 1))
        (pss_cons (ps_while PassesOwn.never (PW.pt (pw_and (pt_cmpR op_lt (pv 3) (pe_callB call_len (by rfl) T.n_len PySem.boot_len (pa_cons (pv 0) pa_nil)) (nomark _)) (pw_and1 (pt_cmpR op_in_sign (pe_ix ix_str (pv 0) (pv 3) (fun _ _ => rfl)) (pv 2) (by rfl)))))
        (pss_one (ps_aug (i := 3) sc_p_run_end.nd rfl (Or.inl rfl) pe_int ip_add)))
        (pss_one (ps_ret (pv 3)))))
      , ?_⟩
    generalize hg : inC z = g at k
    refine ⟨_, rfl, ?_⟩
    refine ⟨fun m σ' H' => ∃ j : Nat, σ' = [some (.str t), some (.int i), some (.str z), some (.int j)] ∧ H' = H ∧ i ≤ j ∧ runE g t.cps.toList j = runE g t.cps.toList i ∧ m = t.length - j,
      ⟨_, i, rfl, rfl, Nat.le_refl _, rfl, rfl⟩, ?_⟩
    rintro m σ' H' ⟨j, rfl, rfl, hj, he, rfl⟩
    refine ⟨_, rfl, _, rfl, _, t.length, rfl, ⟨hz, rfl⟩, _, _, rfl, rfl, _, rfl, ?_⟩
    refine ite2 (fun h1 => ?_) (fun h1 => ?_)
    · have hlt : j < t.length := by
        have := of_decide_eq_true h1
        omega
      obtain ⟨c, hc⟩ := at_lt hlt
      refine ⟨_, rfl, _, rfl, _, _, c, rfl, rfl, hz, atI_nat hc, _, rfl, c, _, rfl, rfl, _, rfl, ?_⟩
      refine ite2 (fun h2 => ?_) (fun h2 => ?_)
      · refine ⟨fun σ' H2 => ∃ m', m' < t.length - j ∧ ∃ j : Nat, σ' = [some (.str t), some (.int i), some (.str z), some (.int j)] ∧ H2 = H' ∧ i ≤ j ∧ runE g t.cps.toList j = runE g t.cps.toList i ∧ m' = t.length - j, fun _ _ h => h, ?_⟩
        refine ⟨_, rfl, _, _, rfl, rfl, ?_⟩
        refine ⟨_, (by omega : t.length - (j + 1) < t.length - j), j + 1, rfl, rfl, by omega, ?_, rfl⟩
        rw [← he, run_step hc (by rw [← hg]; exact h2)]
      · refine ⟨_, rfl, ?_⟩
        have e := run_stop (g := g) hc (by rw [← hg]; exact Bool.eq_false_iff.mpr h2)
        rw [← he, e] at k
        exact k
    · have hge : t.cps.toList.length ≤ j := by
        have : ¬ ((j : Int) < (t.length : Int)) := fun q => h1 (decide_eq_true q)
        rw [← str_len]
        omega
      refine iteF ?_
      refine ⟨_, rfl, ?_⟩
      have e := run_end (g := g) hge
      rw [← he, e] at k
      exact k
theorem dig_in : inC "0123456789" = digC := by
  funext c
  by_cases h : c < 128
  · have all : ∀ c, c < 128 → inC "0123456789" c = digC c := by decide +kernel
    exact all c h
  · have e : digC c = false := by
      unfold digC
      rw [decide_eq_false (by omega : ¬ c ≤ 57), Bool.and_false]
    rw [e]
    refine decide_eq_false fun hm => h ?_
    have all : ∀ x ∈ ("0123456789" : Str).cps.toList, x < 128 := by decide +kernel
    exact all c hm
theorem wrd_inC : inC ("ABCDEFGHIJKLMNOPQRSTUVWXYZ_abcdefghijklmnopqrstuvwxyz" ++ "0123456789" : Str) = wrdC := by
  funext c
  by_cases h : c < 128
  · have all : ∀ c, c < 128 → inC ("ABCDEFGHIJKLMNOPQRSTUVWXYZ_abcdefghijklmnopqrstuvwxyz" ++ "0123456789" : Str) c = wrdC c := by decide +kernel
    exact all c h
  · have e : wrdC c = false := by
      unfold wrdC letC digC
      rw [decide_eq_false (by omega : ¬ c ≤ 57), decide_eq_false (by omega : ¬ c ≤ 122), decide_eq_false (by omega : ¬ c ≤ 90), decide_eq_false (by omega : ¬ c = 95)]
      simp
    rw [e]
    refine decide_eq_false fun hm => h ?_
    have all : ∀ x ∈ ("ABCDEFGHIJKLMNOPQRSTUVWXYZ_abcdefghijklmnopqrstuvwxyz" ++ "0123456789" : Str).cps.toList, x < 128 := by decide +kernel
    exact all c hm
theorem let_in : inC "ABCDEFGHIJKLMNOPQRSTUVWXYZ_abcdefghijklmnopqrstuvwxyz" = letC := by
  funext c
  by_cases h : c < 128
  · have all : ∀ c, c < 128 → inC "ABCDEFGHIJKLMNOPQRSTUVWXYZ_abcdefghijklmnopqrstuvwxyz" c = letC c := by decide +kernel
    exact all c h
  · have e : letC c = false := by
      unfold letC
      rw [decide_eq_false (by omega : ¬ c ≤ 122), decide_eq_false (by omega : ¬ c ≤ 90), decide_eq_false (by omega : ¬ c = 95)]
      simp
    rw [e]
    refine decide_eq_false fun hm => h ?_
    have all : ∀ x ∈ ("ABCDEFGHIJKLMNOPQRSTUVWXYZ_abcdefghijklmnopqrstuvwxyz" : Str).cps.toList, x < 128 := by decide +kernel
    exact all c hm

/-! ### lines and columns of a text -/
/-- how many signs stand between the last line end and place i -/
def colN (L : List Nat) : Nat → Nat
  | 0 => 0
  | i + 1 => if L[i]? = some 10 then 0 else colN L i + 1
def lineN (L : List Nat) (i : Nat) : Nat := (L.take i).count 10
open PySem.Builtin PySem.Builtin.Str PySem.StrLaws in
theorem nl_at {t : Str} {k : Nat} : subAt t "\n" k = true ↔ t.cps.toList[k]? = some 10 := by
  rw [sub_iff]
  show (t.cps.toList.drop k).take 1 = [10] ↔ _
  rw [take1]
  cases t.cps.toList[k]? with
  | none =>
    refine ⟨fun h => ?_, fun h => by cases h⟩
    have h : ([] : List Nat) = [10] := h
    cases h
  | some c =>
    constructor
    · intro h
      have h : [c] = [10] := h
      cases h
      rfl
    · intro h
      cases h
      rfl
open PySem.Builtin PySem.Builtin.Str PySem.StrLaws in
theorem cnt_run (t : Str) (hi lim : Nat) : ∀ (n a : Nat) (fd : Array Nat) (fr : Nat), fr ≤ a → fd.size + n ≤ lim →
    ((forIn (List.range' a n) (fd, fr) (occBody t "\n" hi lim)).run.fst).size = fd.size + ((List.range' a n).filter fun k => decide (k + 1 ≤ hi) && decide (t.cps.toList[k]? = some 10)).length
  | 0, a, fd, fr, _, _ => rfl
  | n + 1, a, fd, fr, h1, h2 => by
    rw [List.range'_succ, List.forIn_cons, List.filter_cons]
    by_cases hc : a + 1 ≤ hi ∧ t.cps.toList[a]? = some 10
    · have hb : occBody t "\n" hi lim a (fd, fr) = pure (ForInStep.yield (fd.push a, a + 1)) := by
        unfold occBody
        rw [if_pos ⟨⟨⟨by show fd.size < lim; omega, h1⟩, hc.1⟩, nl_at.mpr hc.2⟩]
        rfl
      rw [hb]
      have ih := cnt_run t hi lim n (a + 1) (fd.push a) (a + 1) (Nat.le_refl _) (by rw [Array.size_push]; omega)
      rw [if_pos (by rw [decide_eq_true hc.1, decide_eq_true hc.2]; rfl), List.length_cons]
      refine ih.trans ?_
      rw [Array.size_push]
      omega
    · have hb : occBody t "\n" hi lim a (fd, fr) = pure (ForInStep.yield (fd, fr)) := by
        unfold occBody
        rw [if_neg (fun z => hc ⟨z.1.2, nl_at.mp z.2⟩)]
      rw [hb]
      have ih := cnt_run t hi lim n (a + 1) fd fr (by omega) (by omega)
      rw [if_neg (fun z => by
        rw [Bool.and_eq_true, decide_eq_true_eq, decide_eq_true_eq] at z
        exact hc z)]
      exact ih
theorem flt_count (L : List Nat) : ∀ i, i ≤ L.length → ((List.range' 0 i).filter fun k => decide (L[k]? = some 10)).length = lineN L i
  | 0, _ => rfl
  | i + 1, h => by
    have e : L[i]? = some L[i] := List.getElem?_eq_getElem (by omega)
    rw [List.range'_1_concat, List.filter_append, List.length_append, flt_count L i (by omega)]
    unfold lineN
    rw [List.take_add_one, List.count_append, e, Nat.zero_add, List.filter_cons, e]
    by_cases q : L[i] = 10
    · rw [q]
      rfl
    · have : ¬ (some L[i] = some 10) := fun z => q (by injection z)
      rw [decide_eq_false this]
      have c0 : List.count 10 (some L[i]).toList = 0 := by
        show List.count 10 [L[i]] = 0
        rw [List.count_cons]
        simp [q]
      rw [c0]
      rfl
open PySem.Builtin PySem.Builtin.Str PySem.StrLaws in
theorem toW_nat {n i : Nat} (h : i ≤ n) : PySem.toIndexW n (i : Int) = i := by
  unfold PySem.toIndexW
  rw [if_neg (by omega)]
  omega
open PySem.Builtin PySem.Builtin.Str PySem.StrLaws in
theorem count_nl {t : Str} {i : Nat} (h : i ≤ t.length) : Txt.countIn t "\n" 0 (i : Int) = (lineN t.cps.toList i : Nat) := by
  unfold Txt.countIn
  rw [show fromIndex t.length 0 = 0 from from_nat t.length 0, toW_nat h, occ_eq]
  have r := cnt_run t i (t.length + 1) (i + 1) 0 #[] 0 (Nat.le_refl _) (by show 0 + (i + 1) ≤ _; omega)
  have e : ((List.range' 0 (i + 1)).filter fun k => decide (k + 1 ≤ i) && decide (t.cps.toList[k]? = some 10)) = (List.range' 0 i).filter fun k => decide (t.cps.toList[k]? = some 10) := by
    rw [List.range'_1_concat, List.filter_append, Nat.zero_add, List.filter_cons, decide_eq_false (by omega : ¬ i + 1 ≤ i)]
    show _ ++ [] = _
    rw [List.append_nil]
    refine List.filter_congr fun k hk => ?_
    have := List.mem_range'_1.mp hk
    rw [decide_eq_true (by omega : k + 1 ≤ i), Bool.true_and]
  rw [e, flt_count _ i (by rw [← str_len]; exact h)] at r
  show (((forIn (List.range' 0 (i + 1 - 0)) (#[], 0) (occBody t "\n" i (t.length + 1))).run.fst.toList.length : Nat) : Int) = _
  rw [Array.length_toList]
  refine congrArg _ (r.trans ?_)
  show 0 + _ = _
  omega
theorem col_run (L : List Nat) (b : Nat) : ∀ d, (∀ k, b ≤ k → k < b + d → L[k]? ≠ some 10) → colN L (b + d) = colN L b + d
  | 0, _ => rfl
  | d + 1, h => by
    show (if L[b + d]? = some 10 then 0 else colN L (b + d) + 1) = _
    rw [if_neg (h (b + d) (by omega) (by omega)), col_run L b d fun k h1 h2 => h k h1 (by omega)]
    omega
open PySem.Builtin PySem.Builtin.Str PySem.StrLaws in
theorem rfind_nl {t : Str} {i : Nat} (h : i ≤ t.length) : (i : Int) - (Txt.rfindIn t "\n" 0 (i : Int) + 1) = (colN t.cps.toList i : Nat) := by
  unfold Txt.rfindIn
  rw [show fromIndex t.length 0 = 0 from from_nat t.length 0, toW_nat h, last_eq]
  have key := last_run t "\n" i (List.range' 0 (i + 1 - 0)) [] none (fun _ h => nomatch h) (fun _ h => nomatch h) (by simpa using List.pairwise_lt_range' (s := 0) (n := i + 1 - 0))
  have at_iff : ∀ k, At t "\n" i k ↔ k < i ∧ t.cps.toList[k]? = some 10 := fun k => by
    show (k + 1 ≤ i ∧ subAt t "\n" k = true) ↔ _
    rw [nl_at]
    exact Iff.rfl
  generalize (forIn (List.range' 0 (i + 1 - 0)) none (lastBody t "\n" i)).run = st at key
  cases st with
  | none =>
    have key : ∀ k ∈ [] ++ List.range' 0 (i + 1 - 0), ¬ At t "\n" i k := key
    have := col_run t.cps.toList 0 i fun k _ hk q => key k (by simp; omega) ((at_iff k).mpr ⟨by omega, q⟩)
    rw [Nat.zero_add] at this
    rw [this]
    show (i : Int) - (-1 + 1) = ((0 + i : Nat) : Int)
    omega
  | some a =>
    obtain ⟨h1, h2⟩ : At t "\n" i a ∧ ∀ k ∈ [] ++ List.range' 0 (i + 1 - 0), a < k → ¬ At t "\n" i k := key
    obtain ⟨a1, a2⟩ := (at_iff a).mp h1
    have e : i = (a + 1) + (i - (a + 1)) := by omega
    have := col_run t.cps.toList (a + 1) (i - (a + 1)) fun k hk1 hk2 q => h2 k (by simp; omega) (by omega) ((at_iff k).mpr ⟨by omega, q⟩)
    rw [← e] at this
    rw [this]
    show (i : Int) - ((a : Int) + 1) = (((if t.cps.toList[a]? = some 10 then 0 else colN t.cps.toList a + 1) + (i - (a + 1)) : Nat) : Int)
    rw [if_pos a2]
    omega

/-- line and column of a place -/
def spPlc : Sp := fun vs H Q _ => ∃ (t : Str) (i : Nat), vs = [.str t, .int i] ∧ i ≤ t.length ∧ ∀ p, H p = none → Q (.ref p) (upd H p (.tup [.int (lineN t.cps.toList i), .int (colN t.cps.toList i)]))
theorem c_p_place_of (T : Txt K mg w) : Cal P w K mg base 1 "place_of" spPlc [] := by
  refine calOf T.d_p_place_of sc_p_place_of (fun vs H Q E h => ?_) (fun f cdv A outer s H vs Q E hr h => ?_)
  · obtain ⟨t, i, rfl, _⟩ := h
    rfl
  · obtain ⟨t, i, rfl, hi, k⟩ := h
    refine ⟨_,
      (pss_cons (ps_set (i := 2) sc_p_place_of.nd rfl (Or.inl rfl) (pe_op op_add (pe_bm PySem.F.plainAttrs_str PySem.F.slot_str_rfind PySem.F.type_str_rfind mt_rfind4 (pv 0) (pa_cons pe_str (pa_cons pe_int (pa_cons (pv 1) pa_nil)))) pe_int))
        (pss_one (ps_ret (pe_tup (pa_cons (pe_bm PySem.F.plainAttrs_str PySem.F.slot_str_count PySem.F.type_str_count mt_count4 (pv 0) (pa_cons pe_str (pa_cons pe_int (pa_cons (pv 1) pa_nil)))) (pa_cons (pe_op op_sub (pv 1) (pv 2)) pa_nil))))))
      , ?_⟩
    refine ⟨_, rfl, rfl, _, rfl, _, _, _, _, rfl, rfl, _, _, rfl, rfl, ?_⟩
    refine ⟨_, rfl, rfl, _, rfl, _, _, _, _, rfl, rfl, ?_⟩
    refine ⟨_, rfl, _, rfl, _, _, rfl, rfl, by show 2 ≤ sizeLine; decide, fun p hp => ?_⟩
    show Q (.ref p) (upd H p (.tup [.int (Txt.countIn t "\n" 0 (i : Int)), .int ((i : Int) - (Txt.rfindIn t "\n" 0 (i : Int) + 1))]))
    rw [count_nl hi, rfind_nl hi]
    exact k p hp

/-- the level of an operator -/
def opLv (o : Str) : Int := if o = "or" then 1 else if o = "and" then 2 else if o ∈ (["==", "!=", "<", "<=", ">", ">="] : List Str) then 4 else if o = "+" ∨ o = "-" then 5 else if o = "*" ∨ o = "/" then 6 else 8
def ll (i : Int) : Int := if i = 4 then 5 else if i = 8 then 9 else i
def rr (i : Int) : Int := if i = 4 then 5 else if i = 8 then 7 else i + 1
def kindOf : PyData → Str
  | .tuple (.str k :: _) => k
  | _ => ""
def lvK (k : Str) : Int := if k = "not" then 3 else if k = "minus" then 7 else if k = "call" ∨ k = "index" ∨ k = "field" then 9 else 10
def opOf : List PyData → Int
  | .str o :: _ => opLv o
  | _ => 0
def lvl : PyData → Int
  | .tuple (.str k :: ds) => if k = "two" then opOf ds else lvK k
  | _ => 10
/-- the words with which expressions begin -/
theorem leaf_kind {k w : Str} (h : Leaf k w) : k ∈ (["name", "number", "quote", "word", "raw"] : List Str) := by
  cases h <;> decide +kernel
/-- what stands at an expression's place -/
theorem tr_tup {H : Hp} {v : V} {k : Str} {ds : List PyData} (t : Tr H v (.tuple (.str k :: ds))) : ∃ a ys, v = .ref a ∧ H a = some (.tup (.str k :: ys)) ∧ TrAll H ys ds := by
  cases t with
  | tup h r =>
    cases r with
    | cons h1 r1 =>
      cases h1
      exact ⟨_, _, rfl, h, r1⟩
/-- an expression, by its first word -/
structure Form (n : Nat) (d : PyData) (k : Str) (ds : List PyData) : Prop where
  eq : d = .tuple (.str k :: ds)
  two : k = "two" → ∃ m o l r, n = m + 1 ∧ o ∈ signsL ∧ ds = [.str o, l, r] ∧ Ex m l ∧ Ex m r
  one : k = "not" ∨ k = "minus" → ∃ m a, n = m + 1 ∧ ds = [a] ∧ Ex m a
  head : k = "call" ∨ k = "index" ∨ k = "field" → ∃ m h r, n = m + 1 ∧ ds = h :: r ∧ Ex m h
theorem form_of {n : Nat} {d : PyData} (x : Ex n d) : ∃ k ds, Form n d k ds := by
  cases x with
  | leaf h =>
    rename_i k w
    have hk := leaf_kind h
    refine ⟨k, _, rfl, fun e => ?_, fun e => ?_, fun e => ?_⟩
    · subst e
      exact absurd hk (by decide +kernel)
    · rcases e with rfl | rfl
      · exact absurd hk (by decide +kernel)
      · exact absurd hk (by decide +kernel)
    · rcases e with rfl | rfl | rfl
      · exact absurd hk (by decide +kernel)
      · exact absurd hk (by decide +kernel)
      · exact absurd hk (by decide +kernel)
  | two ho hl hr => exact ⟨_, _, rfl, fun _ => ⟨_, _, _, _, rfl, ho, rfl, hl, hr⟩, fun e => absurd e (by decide +kernel), fun e => absurd e (by decide +kernel)⟩
  | not h => exact ⟨_, _, rfl, fun e => absurd e (by decide +kernel), fun _ => ⟨_, _, rfl, rfl, h⟩, fun e => absurd e (by decide +kernel)⟩
  | minus h => exact ⟨_, _, rfl, fun e => absurd e (by decide +kernel), fun _ => ⟨_, _, rfl, rfl, h⟩, fun e => absurd e (by decide +kernel)⟩
  | call h _ _ => exact ⟨_, _, rfl, fun e => absurd e (by decide +kernel), fun e => absurd e (by decide +kernel), fun _ => ⟨_, _, _, rfl, rfl, h⟩⟩
  | field h _ => exact ⟨_, _, rfl, fun e => absurd e (by decide +kernel), fun e => absurd e (by decide +kernel), fun _ => ⟨_, _, _, rfl, rfl, h⟩⟩
  | index h _ => exact ⟨_, _, rfl, fun e => absurd e (by decide +kernel), fun e => absurd e (by decide +kernel), fun _ => ⟨_, _, _, rfl, rfl, h⟩⟩
  | list _ _ => exact ⟨_, _, rfl, fun e => absurd e (by decide +kernel), fun e => absurd e (by decide +kernel), fun e => absurd e (by decide +kernel)⟩
  | map _ _ _ => exact ⟨_, _, rfl, fun e => absurd e (by decide +kernel), fun e => absurd e (by decide +kernel), fun e => absurd e (by decide +kernel)⟩
  | fn _ _ _ => exact ⟨_, _, rfl, fun e => absurd e (by decide +kernel), fun e => absurd e (by decide +kernel), fun e => absurd e (by decide +kernel)⟩
/-- of an expression, a value, and nothing else -/
def spOf (f : PyData → V) : Sp := fun vs H Q _ => ∃ (v : V) (d : PyData) (n : Nat), vs = [v] ∧ Ex n d ∧ Tr H v d ∧ ∀ H', Same H H' → Q (f d) H'
theorem in_yes {k : Str} {l : List Str} (h : inV (.str k) (l.map V.str) = true) : k ∈ l := by
  rw [inV_strs] at h
  exact of_decide_eq_true h
theorem in_no {k : Str} {l : List Str} (h : ¬ inV (.str k) (l.map V.str) = true) : k ∉ l := by
  rw [inV_strs] at h
  exact fun q => h (decide_eq_true q)
theorem mem2 {k a b : Str} : k ∈ [a, b] ↔ k = a ∨ k = b := by simp
theorem mem3 {k a b c : Str} : k ∈ [a, b, c] ↔ k = a ∨ k = b ∨ k = c := by simp

def rowsL : List (List Str) := [["or"], ["and"], [], ["==", "!=", "<", "<=", ">", ">="], ["+", "-"], ["*", "/"], [], ["^"]]
def hitsL (o : Str) (i : Nat) : List Nat := (List.range i).filter fun j => decide (o ∈ rowsL.getD j [])
theorem hits_all : ∀ o ∈ signsL, (hitsL o 8).map (fun j : Nat => V.int (j : Int)) = [.int (opLv o - 1)] := by
  have h : signsL.all (fun o => decide ((hitsL o 8).map (fun j : Nat => V.int (j : Int)) = [.int (opLv o - 1)])) = true := by decide +kernel
  exact fun o ho => of_decide_eq_true (List.all_eq_true.mp h o ho)
theorem hits_succ (o : Str) (i : Nat) : hitsL o (i + 1) = hitsL o i ++ (if o ∈ rowsL.getD i [] then [i] else []) := by
  unfold hitsL
  rw [List.range_succ, List.filter_append, List.filter_cons, List.filter_nil]
  by_cases h : o ∈ rowsL.getD i []
  · rw [if_pos h, if_pos (decide_eq_true h)]
  · rw [if_neg h, if_neg (fun q => h (of_decide_eq_true q))]
theorem rows_step {H0 H : Hp} {ps : List Addr} {p : Addr} (l : List Str) (A : Same H0 H ∧ ∀ i r, ps[i]? = some r → H r = some (.lst ((rowsL.getD i []).map V.str))) (h : H p = none) (e : rowsL.getD ps.length [] = l) :
    Same H0 (upd H p (.lst (l.map V.str))) ∧ ∀ i r, (ps ++ [p])[i]? = some r → upd H p (.lst (l.map V.str)) r = some (.lst ((rowsL.getD i []).map V.str)) := by
  refine ⟨A.1.trans (same_new h), fun i r hi => ?_⟩
  by_cases q : i < ps.length
  · rw [List.getElem?_append_left q] at hi
    exact upd_some (A.2 i r hi) h
  · rw [List.getElem?_append_right (by omega)] at hi
    have q2 : i - ps.length = 0 := by
      cases e : i - ps.length with
      | zero => rfl
      | succ x =>
        rw [e] at hi
        simp at hi
    rw [q2] at hi
    cases hi
    have q3 : i = ps.length := by omega
    rw [q3, e]
    exact upd_same
def spSign : Sp := fun vs H Q _ => ∃ o : Str, vs = [.str o] ∧ o ∈ signsL ∧ ∀ H', Same H H' → Q (.int (opLv o)) H'
theorem c_l_sign_level (T : Txt K mg w) : Cal P w K mg base 1 "_law_sign_level" spSign [] := by
  refine calOf T.d_l_sign_level sc_l_sign_level (fun vs H Q E h => ?_) (fun f cdv A outer s H vs Q E hr h => ?_)
  · obtain ⟨o, rfl, _⟩ := h
    rfl
  · obtain ⟨o, rfl, ho, k⟩ := h
    refine ⟨_,
      (pss_cons (ps_set (i := 1) sc_l_sign_level.nd rfl (Or.inl rfl) (pe_lst (pa_cons (pe_lst (pa_cons pe_str pa_nil)) (pa_cons (pe_lst (pa_cons pe_str pa_nil)) (pa_cons (pe_lst pa_nil) (pa_cons (pe_lst (pa_cons pe_str (pa_cons pe_str (pa_cons pe_str (pa_cons pe_str (pa_cons pe_str (pa_cons pe_str pa_nil))))))) (pa_cons (pe_lst (pa_cons pe_str (pa_cons pe_str pa_nil))) (pa_cons (pe_lst (pa_cons pe_str (pa_cons pe_str pa_nil))) (pa_cons (pe_lst pa_nil) (pa_cons (pe_lst (pa_cons pe_str pa_nil)) pa_nil))))))))))
        (pss_one (ps_ret (pe_op op_add (pe_ix ix_list (pe_lc (own := [("_law_at", 2), ("_law_row", 3)]) (g := gTup K 2 (gCons (gName 2) (gCons (gName 3) gNil))) rfl sc_l_sign_level.nd (pi_enum (by rfl) T.n_enumerate (pa_cons (pv 1) pa_nil)) (blkOk_by (N := ["_law_sign", "_law_rows", "_law_at", "_law_row"]) (sc := defScope s_l_sign_level) (by decide +kernel)) (fun _ _ _ _ _ => (pg_tup rfl (pgs_cons (pg_name (i := 2) sc_l_sign_level.nd rfl (Or.inl rfl)) (pgs_cons (pg_name (i := 3) sc_l_sign_level.nd rfl (Or.inl rfl)) pgs_nil)))) (fun _ _ _ _ _ => (pts_one (pt_cmpR (show OpR _ (compareOp .In) (rIn K false) from op_in_seq) (pv 0) (pv 3) (by rfl)))) (fun _ _ _ _ _ => (pv 2))) pe_int (fun _ _ => rfl)) pe_int))))
      , ?_⟩
    have A : Same H H ∧ ∀ i r, ([] : List Addr)[i]? = some r → H r = some (.lst ((rowsL.getD i []).map V.str)) := ⟨Same.refl _, fun i r h => by simp at h⟩
    refine ⟨by decide, fun p0 h => ?_⟩
    have A := rows_step (["or"] : List Str) A h rfl
    simp only [List.map_cons, List.map_nil, List.nil_append, List.cons_append] at A
    generalize upd _ p0 (HO.lst [.str "or"]) = H1 at A ⊢
    clear h
    refine ⟨by decide, fun p1 h => ?_⟩
    have A := rows_step (["and"] : List Str) A h rfl
    simp only [List.map_cons, List.map_nil, List.nil_append, List.cons_append] at A
    generalize upd _ p1 (HO.lst [.str "and"]) = H2 at A ⊢
    clear h
    refine ⟨by decide, fun p2 h => ?_⟩
    have A := rows_step ([] : List Str) A h rfl
    simp only [List.map_cons, List.map_nil, List.nil_append, List.cons_append] at A
    generalize upd _ p2 (HO.lst []) = H3 at A ⊢
    clear h
    refine ⟨by decide, fun p3 h => ?_⟩
    have A := rows_step (["==", "!=", "<", "<=", ">", ">="] : List Str) A h rfl
    simp only [List.map_cons, List.map_nil, List.nil_append, List.cons_append] at A
    generalize upd _ p3 (HO.lst [.str "==", .str "!=", .str "<", .str "<=", .str ">", .str ">="]) = H4 at A ⊢
    clear h
    refine ⟨by decide, fun p4 h => ?_⟩
    have A := rows_step (["+", "-"] : List Str) A h rfl
    simp only [List.map_cons, List.map_nil, List.nil_append, List.cons_append] at A
    generalize upd _ p4 (HO.lst [.str "+", .str "-"]) = H5 at A ⊢
    clear h
    refine ⟨by decide, fun p5 h => ?_⟩
    have A := rows_step (["*", "/"] : List Str) A h rfl
    simp only [List.map_cons, List.map_nil, List.nil_append, List.cons_append] at A
    generalize upd _ p5 (HO.lst [.str "*", .str "/"]) = H6 at A ⊢
    clear h
    refine ⟨by decide, fun p6 h => ?_⟩
    have A := rows_step ([] : List Str) A h rfl
    simp only [List.map_cons, List.map_nil, List.nil_append, List.cons_append] at A
    generalize upd _ p6 (HO.lst []) = H7 at A ⊢
    clear h
    refine ⟨by decide, fun p7 h => ?_⟩
    have A := rows_step (["^"] : List Str) A h rfl
    simp only [List.map_cons, List.map_nil, List.nil_append, List.cons_append] at A
    generalize upd _ p7 (HO.lst [.str "^"]) = H8 at A ⊢
    clear h
    refine ⟨by show 8 ≤ sizeLine; decide, fun R hR => ?_⟩
    obtain ⟨s8, A⟩ := A
    have sR := s8.trans (same_new (o := .lst [.ref p0, .ref p1, .ref p2, .ref p3, .ref p4, .ref p5, .ref p6, .ref p7]) hR)
    have aR : upd H8 R (.lst [.ref p0, .ref p1, .ref p2, .ref p3, .ref p4, .ref p5, .ref p6, .ref p7]) R = some (.lst ([p0, p1, p2, p3, p4, p5, p6, p7].map V.ref)) := upd_same
    have A := fun i r h => upd_some (u := .lst [.ref p0, .ref p1, .ref p2, .ref p3, .ref p4, .ref p5, .ref p6, .ref p7]) (A i r h) hR
    generalize upd H8 R (HO.lst [.ref p0, .ref p1, .ref p2, .ref p3, .ref p4, .ref p5, .ref p6, .ref p7]) = HR at sR aR A ⊢
    generalize eps : [p0, p1, p2, p3, p4, p5, p6, p7] = ps at A aR
    have lps : ps.length = 8 := by rw [← eps]; rfl
    refine ⟨_, rfl, R, ps.map V.ref, rfl, SqL.of aR, fun D hD => ?_⟩
    refine lc_it (walk_enum (K := K) (a := R) (xs := ps.map V.ref)) (fun i H' => H' D = some (.lst ((hitsL o i).map fun j : Nat => V.int (j : Int))) ∧ Same HR H') ⟨upd_same, same_put (Same.refl _) hD⟩ ?_ ?_ ?_
    · rintro i H' _ ⟨_, s2⟩
      exact SqL.of (s2 _ _ aR)
    · rintro i x H2 H3 hi ⟨hd, s2⟩ ⟨T, y, z, rfl, hT, rfl, hy, hz⟩
      cases hy
      have hz : (ps.map V.ref)[i]? = some z := hz
      rw [List.getElem?_map] at hz
      obtain ⟨r, hr2, rfl⟩ := Option.map_eq_some_iff.mp hz
      have ar := upd_some (u := .tup [.int (i : Nat), .ref r]) (s2 _ _ (A i r hr2)) hT
      have hd3 := upd_some (u := .tup [.int (i : Nat), .ref r]) hd hT
      have s3 := s2.trans (same_new (o := .tup [.int (i : Nat), .ref r]) hT)
      have lh : (hitsL o i).length ≤ i := by
        have := List.length_filter_le (fun j => decide (o ∈ rowsL.getD j [])) (List.range i)
        rw [List.length_range] at this
        exact this
      rw [List.length_map, lps] at hi
      refine ⟨T, _, rfl, SqT.of upd_same, rfl, _, _, rfl, _, _, rfl, rfl, rfl, _, rfl, _, rfl, r, _, rfl, .inl (SqL.of ar), rfl, strs_flat _, _, rfl, ite2 (fun h => ?_) (fun h => ?_)⟩
      · have hm : o ∈ rowsL.getD i [] := in_yes h
        refine ⟨_, rfl, _, hd3, by rw [List.length_map]; exact Nat.lt_of_le_of_lt lh (Nat.lt_of_lt_of_le hi (by decide)), ?_, same_put s3 hD⟩
        rw [hits_succ, if_pos hm, List.map_append]
        exact upd_same
      · have hm : o ∉ rowsL.getD i [] := in_no h
        refine ⟨?_, s3⟩
        rw [hits_succ, if_neg hm, List.append_nil]
        exact hd3
    · rintro H2 ⟨hd, s2⟩
      rw [List.length_map, lps, hits_all o ho] at hd
      refine ⟨_, _, _, _, rfl, rfl, SqL.of hd, atI_nat (j := 0) rfl, _, _, rfl, rfl, ?_⟩
      have e : opLv o - 1 + 1 = opLv o := by omega
      show Q (.int (opLv o - 1 + 1)) H2
      rw [e]
      exact k H2 (sR.trans s2)

theorem lvK_dict {k : Str} (h : ¬ (k = "call" ∨ k = "index" ∨ k = "field")) : (valV (mergeK [] [((Sum.inr "not" : Key), V.int 3), (Sum.inr "minus", V.int 7)]) (Sum.inr k : Key)).getD (V.int 10) = .int (lvK k) := by
  have em : mergeK [] [((Sum.inr "not" : Key), V.int 3), (Sum.inr "minus", V.int 7)] = [((Sum.inr "not" : Key), V.int 3), (Sum.inr "minus", V.int 7)] := by decide +kernel
  rw [em]
  by_cases h1 : k = "not"
  · subst h1
    decide +kernel
  by_cases h2 : k = "minus"
  · subst h2
    decide +kernel
  have e : ∀ x : Str, ¬ k = x → decide ((Sum.inr x : Key) = Sum.inr k) = false := fun x h => decide_eq_false fun q => h (Sum.inr.inj q).symm
  unfold valV lvK
  rw [if_neg h1, if_neg h2, if_neg h]
  simp only [List.find?_cons, e _ h1, e _ h2, List.find?_nil]
  rfl
theorem c_l_level (T : Txt K mg w) (c_l_sign_level : Cal P w K mg base 1 "_law_sign_level" spSign []) : Cal P w K mg base 2 "_law_level" (spOf fun d => .int (lvl d)) [] := by
  refine calOf T.d_l_level sc_l_level (fun vs H Q E h => ?_) (fun f cdv A outer s H vs Q E hr h => ?_)
  · obtain ⟨v, d, n, rfl, _⟩ := h
    rfl
  · obtain ⟨v, d, n, rfl, hx, ht, k⟩ := h
    have hu := hu_of hr
    obtain ⟨kd, ds, F⟩ := form_of hx
    have ed := F.eq
    subst ed
    obtain ⟨a, ys, rfl, ha, hy⟩ := tr_tup ht
    have k : ∀ H', Same H H' → Q (.int (if kd = "two" then opOf ds else lvK kd)) H' := k
    refine ⟨_,
      (pss_cons (ps_if (pt_cmpR op_eq (pe_ix ix_tup (pv 0) pe_int (fun _ _ => rfl)) pe_str (nomark _))
        (pss_one (ps_ret (pe_c c_l_sign_level hr (by first | decide | omega) rfl (pa_cons (pe_ix ix_tup (pv 0) pe_int (fun _ _ => rfl)) pa_nil))))
        pss_nil)
        (pss_cons (ps_if (pt_cmpR op_in_seq (pe_ix ix_tup (pv 0) pe_int (fun _ _ => rfl)) (pe_tup (pa_cons pe_str (pa_cons pe_str (pa_cons pe_str pa_nil)))) (by rfl))
        (pss_one (ps_ret pe_int))
        pss_nil)
        (pss_one (ps_ret (pe_dget2 hu (pe_disp (pps_cons pe_str pe_int (pps_cons pe_str pe_int pps_nil)) (by rfl) (by rfl) (fun z => by cases z) (by decide)) (pe_ix ix_tup (pv 0) pe_int (fun _ _ => rfl)) pe_int ⟨rfl, rfl, rfl, rfl⟩)))))
      , ?_⟩
    refine ⟨_, rfl, _, _, _, _, rfl, rfl, SqT.of ha, atI_nat (j := 0) rfl, rfl, _, rfl, ite2 (fun h => ?_) (fun h => ?_)⟩
    · have e : kd = "two" := V.str.inj (of_decide_eq_true h)
      obtain ⟨m, o, l, r, _, ho, rfl, _, _⟩ := F.two e
      cases hy with
      | cons h1 _ =>
        cases h1
        rw [if_pos e] at k
        exact ⟨_, rfl, _, _, _, _, rfl, rfl, SqT.of ha, atI_nat (j := 1) rfl, o, rfl, ho, fun H1 s1 => k H1 s1⟩
    · have e : ¬ kd = "two" := fun e => h (decide_eq_true (congrArg V.str e))
      rw [if_neg e] at k
      refine ⟨_, rfl, _, _, _, _, rfl, rfl, SqT.of ha, atI_nat (j := 0) rfl, by decide, fun p hp => ⟨p, _, rfl, .inr (SqT.of upd_same), rfl, strs_flat ["call", "index", "field"], _, rfl, ite2 (fun h => ?_) (fun h => ?_)⟩⟩
      · have e2 := mem3.mp (in_yes (l := ["call", "index", "field"]) h)
        have el : lvK kd = 9 := by
          rcases e2 with rfl | rfl | rfl <;> decide +kernel
        rw [el] at k
        exact k _ (same_new hp)
      · have e2 : ¬ (kd = "call" ∨ kd = "index" ∨ kd = "field") := fun q => in_no (l := ["call", "index", "field"]) h (mem3.mpr q)
        rw [← lvK_dict e2] at k
        intro d hd
        refine ⟨upd_same, [((Sum.inr "not" : Key), V.int 3), (Sum.inr "minus", V.int 7)], rfl, by decide, d, rfl, .inl ⟨_, .inl upd_same⟩, _, rfl, a, V.str kd :: ys, 0, V.str kd, rfl, rfl, SqT.of ?_, atI_nat (j := 0) rfl, _, DGet.k (k := Sum.inr kd) upd_same, ?_⟩
        · rw [upd_ne (ne_of_none (upd_some ha hp) hd)]
          exact upd_some (upd_some ha hp) hd
        · refine k _ (same_put ((same_new hp).trans (same_new hd)) (Same.free (same_new hp) hd))

theorem sides4 : ∀ o ∈ signsL, (opLv o = 4 → ll (opLv o) = 5 ∧ rr (opLv o) = 5) ∧ (¬ opLv o = 4 → (opLv o = 8 → ll (opLv o) = 9 ∧ rr (opLv o) = 7) ∧ (¬ opLv o = 8 → ll (opLv o) = opLv o ∧ rr (opLv o) = opLv o + 1)) := by
  have h : signsL.all (fun o => decide ((opLv o = 4 → ll (opLv o) = 5 ∧ rr (opLv o) = 5) ∧ (¬ opLv o = 4 → (opLv o = 8 → ll (opLv o) = 9 ∧ rr (opLv o) = 7) ∧ (¬ opLv o = 8 → ll (opLv o) = opLv o ∧ rr (opLv o) = opLv o + 1)))) = true := by decide +kernel
  exact fun o ho => of_decide_eq_true (List.all_eq_true.mp h o ho)
def spSides : Sp := fun vs H Q _ => ∃ o : Str, vs = [.str o] ∧ o ∈ signsL ∧ ∀ p H', Same H H' → H' p = some (.tup [.int (ll (opLv o)), .int (rr (opLv o))]) → Q (.ref p) H'
theorem c_l_sides (T : Txt K mg w) (c_l_sign_level : Cal P w K mg base 1 "_law_sign_level" spSign []) : Cal P w K mg base 2 "_law_sides" spSides [] := by
  refine calOf T.d_l_sides sc_l_sides (fun vs H Q E h => ?_) (fun f cdv A outer s H vs Q E hr h => ?_)
  · obtain ⟨o, rfl, _⟩ := h
    rfl
  · obtain ⟨o, rfl, ho, k⟩ := h
    refine ⟨_,
      (pss_cons (ps_set (i := 1) sc_l_sides.nd rfl (Or.inl rfl) (pe_c c_l_sign_level hr (by first | decide | omega) rfl (pa_cons (pv 0) pa_nil)))
        (pss_cons (ps_if (pt_cmpR op_eq (pv 1) pe_int (nomark _))
        (pss_one (ps_ret (pe_tup (pa_cons pe_int (pa_cons pe_int pa_nil)))))
        pss_nil)
        (pss_one (ps_ret (pe_ifExp (pt_cmpR op_eq (pv 1) pe_int (nomark _)) (pe_tup (pa_cons pe_int (pa_cons pe_int pa_nil))) (pe_tup (pa_cons (pv 1) (pa_cons (pe_op op_add (pv 1) pe_int) pa_nil))))))))
      , ?_⟩
    obtain ⟨q1, q2⟩ := sides4 o ho
    refine ⟨_, rfl, o, rfl, ho, fun H1 s1 => ?_⟩
    walk_at "rd"
    refine ite2 (fun h => ?_) (fun h => ?_)
    · have e : opLv o = 4 := V.int.inj (of_decide_eq_true h)
      rw [(q1 e).1, (q1 e).2] at k
      exact ⟨by decide, fun p hp => k p _ (s1.trans (same_new hp)) upd_same⟩
    · have e : ¬ opLv o = 4 := fun e => h (decide_eq_true (congrArg V.int e))
      obtain ⟨q3, q4⟩ := q2 e
      walk_at "rd"
      refine ite2 (fun h => ?_) (fun h => ?_)
      · have e : opLv o = 8 := V.int.inj (of_decide_eq_true h)
        rw [(q3 e).1, (q3 e).2] at k
        exact ⟨by decide, fun p hp => k p _ (s1.trans (same_new hp)) upd_same⟩
      · have e : ¬ opLv o = 8 := fun e => h (decide_eq_true (congrArg V.int e))
        rw [(q4 e).1, (q4 e).2] at k
        walk_at "rd"
        exact ⟨by show 2 ≤ sizeLine; decide, fun p hp => k p _ (s1.trans (same_new hp)) upd_same⟩

/-! ### rows of words: their shape, and how many they are -/
def fixedL : List Str := numbersL ++ quotesL ++ constsL ++ rawsL ++ signsL ++ (["not", ":", ",", "fn", "->", ";", "=", "let", "set", "give", "if", "else", "while", "for", "in", "def"] : List Str)
inductive OkW : Str → Prop
  | name {z : Str} : NameOk z → OkW z
  | fix {z : Str} : z ∈ fixedL → OkW z
def pairsL : List (Str × Str) := [("(", ")"), ("[", "]"), ("{", "}")]
/-- words whose brackets are in pairs -/
inductive WL : List Wd → Prop
  | nil : WL []
  | one {z : Str} {b : Bool} : OkW z → WL [(z, b)]
  | dot {z : Str} {b d : Bool} : NameOk z → WL [(".", b), (z, d)]
  | app {x y : List Wd} : WL x → WL y → WL (x ++ y)
  | br {o c : Str} {b : Bool} {x : List Wd} : (o, c) ∈ pairsL → WL x → WL ([(o, b)] ++ x ++ [(c, b)])
theorem WL.of {x y : List Wd} (h : WL x) (e : y = x) : WL y := by
  rw [e]
  exact h
theorem WL.rows : ∀ {ws : List Str}, (∀ z ∈ ws, OkW z) → WL (ws.map fun z => ((z, true) : Wd))
  | [], _ => .nil
  | z :: r, h => .of (.app (.one (h z (List.mem_cons_self ..))) (WL.rows fun y hy => h y (List.mem_cons_of_mem _ hy))) rfl
theorem WL.flat : ∀ {l : List (List Wd)}, (∀ x ∈ l, WL x) → WL l.flatten
  | [], _ => .nil
  | x :: r, h => .app (h x (List.mem_cons_self ..)) (WL.flat fun y hy => h y (List.mem_cons_of_mem _ hy))
theorem fix_ok {z : Str} (h : fixedL.contains z = true) : OkW z := .fix (List.contains_iff_mem.mp h)
theorem WL.btw : ∀ {b : Bool} {l : List (List Wd)}, (∀ x ∈ l, WL x) → WL (btw b l)
  | _, [], _ => .nil
  | b, x :: r, h => by
    have h1 : WL (if b then [] else [((",", true) : Wd)]) := by
      cases b
      · exact .one (fix_ok (by decide +kernel))
      · exact .nil
    exact .app (.app h1 (h x (List.mem_cons_self ..))) (WL.btw fun y hy => h y (List.mem_cons_of_mem _ hy))
theorem leaf_ok {k z : Str} (h : Leaf k z) : OkW z := by
  cases h with
  | name h => exact .name h
  | number h => exact .fix (by simp only [fixedL, List.mem_append]; exact .inl (.inl (.inl (.inl (.inl h)))))
  | quote h => exact .fix (by simp only [fixedL, List.mem_append]; exact .inl (.inl (.inl (.inl (.inr h)))))
  | word h => exact .fix (by simp only [fixedL, List.mem_append]; exact .inl (.inl (.inl (.inr h))))
  | raw h => exact .fix (by simp only [fixedL, List.mem_append]; exact .inl (.inl (.inr h)))
theorem sign_ok {z : Str} (h : z ∈ signsL) : OkW z := .fix (by simp only [fixedL, List.mem_append]; exact .inl (.inr h))
/-! ### how many -/
def nIn (f : PyData → Bool → Nat) (d : PyData) (l : Int) (a : Bool) : Nat := if lvl d < l then f d false + 2 else f d a
def btwN (l : List Nat) : Nat := l.sum + (l.length - 1)
def el (ds : List PyData) (i : Nat) : PyData := ds.getD i .none
def sgn : PyData → Str
  | .str o => o
  | _ => ""
def itm : PyData → List PyData
  | .tuple xs => xs
  | _ => []
def nWk (f : PyData → Bool → Nat) (k : Str) (ds : List PyData) (a : Bool) : Nat :=
  if k = "two" then nIn f (el ds 1) (ll (opLv (sgn (el ds 0)))) true + 1 + nIn f (el ds 2) (rr (opLv (sgn (el ds 0)))) a
  else if k = "not" ∨ k = "minus" then 1 + nIn f (el ds 0) (lvK k) a
  else if k = "call" then nIn f (el ds 0) 9 true + 1 + btwN ((itm (el ds 1)).map fun d => nIn f d 1 false) + 1
  else if k = "index" then nIn f (el ds 0) 9 true + (1 + nIn f (el ds 1) 1 false + 1)
  else if k = "field" then nIn f (el ds 0) 9 true + 2
  else if k = "list" then 1 + btwN ((itm (el ds 0)).map fun d => nIn f d 1 false) + 1
  else if k = "map" then 1 + btwN ((itm (el ds 0)).map fun p => nIn f (el (itm p) 0) 1 false + 1 + nIn f (el (itm p) 1) 1 false) + 1
  else if k = "fn" then (if a then 1 else 0) + (2 + btwN ((itm (el ds 0)).map fun _ => 1) + 2 + nIn f (el ds 1) 1 false) + (if a then 1 else 0)
  else 1
def nWd : Nat → PyData → Bool → Nat
  | 0, _, _ => 1
  | n + 1, .tuple (.str k :: ds), a => nWk (nWd n) k ds a
  | _ + 1, _, _ => 1
theorem nIn_mono {f : PyData → Bool → Nat} (hf : ∀ d, f d false ≤ f d true) (d : PyData) (l : Int) : nIn f d l false ≤ nIn f d l true := by
  unfold nIn
  split
  · exact Nat.le_refl _
  · exact hf d
theorem nWk_mono {f : PyData → Bool → Nat} (hf : ∀ d, f d false ≤ f d true) (k : Str) (ds : List PyData) : nWk f k ds false ≤ nWk f k ds true := by
  unfold nWk
  have a1 := nIn_mono hf (el ds 2) (rr (opLv (sgn (el ds 0))))
  have a2 := nIn_mono hf (el ds 0) (lvK k)
  split
  · omega
  split
  · omega
  split
  · exact Nat.le_refl _
  split
  · exact Nat.le_refl _
  split
  · exact Nat.le_refl _
  split
  · exact Nat.le_refl _
  split
  · exact Nat.le_refl _
  split
  · rw [if_neg (by decide), if_pos rfl]
    omega
  · exact Nat.le_refl _
theorem nWd_mono : ∀ (n : Nat) (d : PyData), nWd n d false ≤ nWd n d true
  | 0, _ => Nat.le_refl _
  | n + 1, d => by
    cases d with
    | tuple l =>
      cases l with
      | nil => exact Nat.le_refl _
      | cons x r =>
        cases x with
        | str k => exact nWk_mono (nWd_mono n) k r
        | _ => exact Nat.le_refl _
    | _ => exact Nat.le_refl _

/-! ### a bag, or none -/
def BgO (H : Hp) (v : V) : Option Bg → Int → Prop
  | none, c => v = .non ∧ c = 0
  | some g, c => v = .ref g.b ∧ 0 ≤ c ∧ c ≤ 12 ∧ ∃ e, Bag H g c e
def DrO (H H' : Hp) : Option Bg → Int → Prop
  | none, c => c = 0 ∧ Same H H'
  | some g, c => 0 ≤ c ∧ c ≤ 12 ∧ ∃ e, Drawn g H H' c e
/-- as many as N, and two for each bracket that was drawn -/
def Cnt (o : Option Bg) (N n : Nat) (c c' : Int) : Prop := c ≤ c' ∧ (n : Int) ≤ N + 2 * (c' - c) ∧ (o = none → N ≤ n)
section
variable {H H1 H2 : Hp} {v u : V} {o : Option Bg} {c c1 c2 : Int} {N M n m : Nat} {p : Addr} {ws : List Wd} {x : HO}
theorem BgO.rng (B : BgO H v o c) : 0 ≤ c ∧ c ≤ 12 := by
  cases o with
  | none => obtain ⟨_, rfl⟩ := B; decide
  | some g => exact ⟨B.2.1, B.2.2.1⟩
theorem DrO.rng (B : DrO H H1 o c) : 0 ≤ c ∧ c ≤ 12 := by
  cases o with
  | none => obtain ⟨rfl, _⟩ := B; decide
  | some g => exact ⟨B.1, B.2.1⟩
theorem DrO.refl (B : BgO H v o c) : DrO H H o c := by
  cases o with
  | none => exact ⟨B.2, Same.refl _⟩
  | some g =>
    obtain ⟨_, h1, h2, e, b⟩ := B
    exact ⟨h1, h2, e, .of b⟩
theorem DrO.trans (x : DrO H H1 o c1) (y : DrO H1 H2 o c2) : DrO H H2 o c2 := by
  cases o with
  | none => exact ⟨y.1, x.2.trans y.2⟩
  | some g =>
    obtain ⟨_, _, _, D⟩ := x
    obtain ⟨h1, h2, e, E⟩ := y
    exact ⟨h1, h2, e, D.trans E⟩
theorem DrO.same (x : DrO H H1 o c1) (s : Same H1 H2) : DrO H H2 o c1 := by
  cases o with
  | none => exact ⟨x.1, x.2.trans s⟩
  | some g =>
    obtain ⟨h1, h2, e, D⟩ := x
    exact ⟨h1, h2, e, D.trans (.same D.bag s)⟩
theorem DrO.new (x : DrO H H1 o c1) {y : HO} (h : H1 p = none) : DrO H (upd H1 p y) o c1 := x.same (same_new h)
theorem DrO.bgo (B : BgO H v o c) (x : DrO H H1 o c1) : BgO H1 v o c1 := by
  cases o with
  | none => exact ⟨B.1, x.1⟩
  | some g =>
    obtain ⟨h1, h2, e, D⟩ := x
    exact ⟨B.1, h1, h2, e, D.bag⟩
theorem BgO.same (B : BgO H v o c) (s : Same H H1) : BgO H1 v o c := DrO.bgo B ((DrO.refl B).same s)
theorem DrO.tk (x : DrO H H1 o c1) : Tk H H1 := by
  cases o with
  | none => exact .of x.2
  | some g =>
    obtain ⟨h1, h2, e, D⟩ := x
    exact D.tk
theorem BgO.ne_new (B : BgO H v o c) (h : H p = none) : ∀ g, o = some g → p ≠ g.b := by
  rintro g rfl
  obtain ⟨_, _, _, e, b⟩ := B
  exact b.ne_new h
theorem DrO.keep (x : DrO H H1 o c1) {y : HO} (n : ∀ g, o = some g → p ≠ g.b) (h : H p = some y) : H1 p = some y := by
  cases o with
  | none => exact x.2 _ _ h
  | some g =>
    obtain ⟨h1, h2, e, D⟩ := x
    exact D.keep (n g rfl) h
theorem DrO.put (B : BgO H v o c) (x : DrO H H1 o c1) {y : HO} (h : H p = none) : DrO H (upd H1 p y) o c1 := by
  cases o with
  | none => exact ⟨x.1, same_put x.2 h⟩
  | some g =>
    obtain ⟨_, _, _, e0, b⟩ := B
    obtain ⟨h1, h2, e, D⟩ := x
    exact ⟨h1, h2, e, D.put b h⟩
theorem WdL.ne {g : Bg} {e : Int} (h : WdL H u ws) (B : Bag H g c e) : ∀ q, u = .ref q → q ≠ g.b := by
  rintro q rfl rfl
  obtain ⟨_, us, eq, hq, tr⟩ := h
  cases eq
  obtain ⟨z, mm, i, ns, hb, _⟩ := B.ex
  rw [hb] at hq
  cases hq
  cases ws with
  | nil => cases tr
  | cons w r =>
    cases tr with
    | cons h1 _ => cases h1
theorem DrO.wdl (B : BgO H v o c) (x : DrO H H1 o c1) (h : WdL H u ws) : WdL H1 u ws := by
  cases o with
  | none => exact h.same x.2
  | some g =>
    obtain ⟨_, _, _, e0, b⟩ := B
    obtain ⟨_, _, e, D⟩ := x
    have n := h.ne b
    obtain ⟨q, us, rfl, hq, tr⟩ := h
    exact ⟨q, us, rfl, D.keep (n q rfl) hq, tr.keep D.tk⟩
theorem DrO.free (B : BgO H v o c) (x : DrO H H1 o c1) (h : H1 p = none) : H p = none := by
  cases q : H p with
  | none => rfl
  | some u =>
    cases o with
    | none =>
      rw [x.2 _ _ q] at h
      cases h
    | some g =>
      obtain ⟨_, _, e, D⟩ := x
      by_cases z : p = g.b
      · obtain ⟨ob, hb⟩ := D.bag.ob
        rw [z, hb] at h
        cases h
      · rw [D.keep z q] at h
        cases h
theorem Cnt.refl (h : n = N) : Cnt o N n c c := ⟨Int.le_refl _, by omega, fun _ => by omega⟩
theorem Cnt.add (x : Cnt o N n c c1) (y : Cnt o M m c1 c2) : Cnt o (N + M) (n + m) c c2 := by
  obtain ⟨a1, a2, a3⟩ := x
  obtain ⟨b1, b2, b3⟩ := y
  exact ⟨by omega, by omega, fun h => by have := a3 h; have := b3 h; omega⟩
theorem Cnt.const (x : Cnt o N n c c1) (k : Nat) : Cnt o (N + k) (n + k) c c1 := x.add (.refl rfl)
theorem Cnt.const' (x : Cnt o N n c c1) (k : Nat) : Cnt o (k + N) (k + n) c c1 := (Cnt.refl rfl).add x
theorem Cnt.of (x : Cnt o N n c c1) (h1 : m = n) (h2 : M = N) : Cnt o M m c c1 := by
  subst h1 h2
  exact x
theorem Cnt.le (x : Cnt o N n c c1) (h0 : 0 ≤ c) (h1 : c1 ≤ 12) : n ≤ N + 24 := by
  obtain ⟨a1, a2, a3⟩ := x
  omega
end
/-- words come, as many as N and a few more -/
def Wds (Q : VK) (H : Hp) (o : Option Bg) (c : Int) (N : Nat) : Prop := ∀ (q : Addr) (ws : List Wd) (H' : Hp) (c' : Int), H q = none → WdL H' (.ref q) ws → WL ws → Cnt o N ws.length c c' → DrO H H' o c' → Q (.ref q) H'
def spIn (m : Nat) : Sp := fun vs H Q _ => ∃ (o : Option Bg) (n : Nat) (bv v : V) (d : PyData) (l c : Int) (a : Bool), vs = [bv, v, .int l, .bl a] ∧ n < m ∧ n ≤ 3 ∧ Ex n d ∧ Tr H v d ∧ BgO H bv o c ∧ Wds Q H o c (nIn (nWd n) d l a)
def spWs (m : Nat) : Sp := fun vs H Q _ => ∃ (o : Option Bg) (n : Nat) (bv v : V) (d : PyData) (c : Int) (a : Bool), vs = [bv, v, .bl a] ∧ n < m ∧ n ≤ 3 ∧ Ex n d ∧ Tr H v d ∧ BgO H bv o c ∧ Wds Q H o c (nWd n d a)
/-- two lists of words, put together -/
theorem cat_wd {H : Hp} {v1 v2 : V} {w1 w2 : List Wd} {Q : VK} (h1 : WdL H v1 w1) (h2 : WdL H v2 w2) (l : w1.length + w2.length ≤ sizeLine)
    (k : ∀ q H', H q = none → Same H H' → WdL H' (.ref q) (w1 ++ w2) → Q (.ref q) H') : rCat v1 v2 H Q := by
  obtain ⟨q1, us1, rfl, e1, t1⟩ := h1
  obtain ⟨q2, us2, rfl, e2, t2⟩ := h2
  have l1 := t1.len
  have l2 := t2.len
  rw [List.length_map] at l1 l2
  refine ⟨q1, q2, us1, us2, rfl, rfl, e1, e2, by omega, fun p hp => k _ _ hp (same_new hp) ⟨p, us1 ++ us2, rfl, upd_same, ?_⟩⟩
  rw [List.map_append]
  exact (t1.new hp).app (t2.new hp)
/-- words of the row -/
def rowW (ws : List Str) : List Wd := ws.map fun z => (z, true)
theorem row_at {K : PySem.W.Frag} {H : Hp} {p : Addr} {xs : List V} {ws : List Str} {Q : VK} (hp : H p = none) (e : xs = ws.map V.str) (hl : ws.length ≤ 1000)
    (k : ∀ q H', H q = none → Same H H' → WdL H' (.ref q) (rowW ws) → Q (.ref q) H') : spRow K [.ref p] (upd H p (.lst xs)) Q E0 := by
  subst e
  refine ⟨p, ws, rfl, SqL.of upd_same, hl, fun q us H' s n h tr => k q _ (Same.free (same_new hp) n) ((same_new hp).trans s) ⟨q, us, rfl, h, ?_⟩⟩
  unfold rowW
  rw [List.map_map]
  exact tr

section
variable {f : PyData → Bool → Nat} {k : Str} {ds : List PyData} {a : Bool}
theorem nw_two : nWk f "two" ds a = nIn f (el ds 1) (ll (opLv (sgn (el ds 0)))) true + 1 + nIn f (el ds 2) (rr (opLv (sgn (el ds 0)))) a := if_pos rfl
theorem nw_one (h : k = "not" ∨ k = "minus") : nWk f k ds a = 1 + nIn f (el ds 0) (lvK k) a := by
  have h1 : ¬ k = "two" := by rcases h with rfl | rfl <;> decide +kernel
  unfold nWk
  rw [if_neg h1, if_pos h]
theorem nw_call : nWk f "call" ds a = nIn f (el ds 0) 9 true + 1 + btwN ((itm (el ds 1)).map fun d => nIn f d 1 false) + 1 := by
  unfold nWk
  rw [if_neg (by decide +kernel), if_neg (by decide +kernel), if_pos rfl]
theorem nw_index : nWk f "index" ds a = nIn f (el ds 0) 9 true + (1 + nIn f (el ds 1) 1 false + 1) := by
  unfold nWk
  rw [if_neg (by decide +kernel), if_neg (by decide +kernel), if_neg (by decide +kernel), if_pos rfl]
theorem nw_field : nWk f "field" ds a = nIn f (el ds 0) 9 true + 2 := by
  unfold nWk
  rw [if_neg (by decide +kernel), if_neg (by decide +kernel), if_neg (by decide +kernel), if_neg (by decide +kernel), if_pos rfl]
theorem nw_list : nWk f "list" ds a = 1 + btwN ((itm (el ds 0)).map fun d => nIn f d 1 false) + 1 := by
  unfold nWk
  rw [if_neg (by decide +kernel), if_neg (by decide +kernel), if_neg (by decide +kernel), if_neg (by decide +kernel), if_neg (by decide +kernel), if_pos rfl]
theorem nw_map : nWk f "map" ds a = 1 + btwN ((itm (el ds 0)).map fun p => nIn f (el (itm p) 0) 1 false + 1 + nIn f (el (itm p) 1) 1 false) + 1 := by
  unfold nWk
  rw [if_neg (by decide +kernel), if_neg (by decide +kernel), if_neg (by decide +kernel), if_neg (by decide +kernel), if_neg (by decide +kernel), if_neg (by decide +kernel), if_pos rfl]
theorem nw_fn : nWk f "fn" ds a = (if a then 1 else 0) + (2 + btwN ((itm (el ds 0)).map fun _ => 1) + 2 + nIn f (el ds 1) 1 false) + (if a then 1 else 0) := by
  unfold nWk
  rw [if_neg (by decide +kernel), if_neg (by decide +kernel), if_neg (by decide +kernel), if_neg (by decide +kernel), if_neg (by decide +kernel), if_neg (by decide +kernel), if_neg (by decide +kernel), if_pos rfl]
theorem nw_leaf {z : Str} (h : Leaf k z) : nWk f k ds a = 1 := by
  have hk := leaf_kind h
  have ne : ∀ x : Str, x ∉ (["name", "number", "quote", "word", "raw"] : List Str) → ¬ k = x := fun x hx e => hx (e ▸ hk)
  unfold nWk
  rw [if_neg (ne _ (by decide +kernel)), if_neg (fun q => q.elim (ne _ (by decide +kernel)) (ne _ (by decide +kernel))), if_neg (ne _ (by decide +kernel)), if_neg (ne _ (by decide +kernel)), if_neg (ne _ (by decide +kernel)), if_neg (ne _ (by decide +kernel)), if_neg (ne _ (by decide +kernel)), if_neg (ne _ (by decide +kernel))]
end
theorem nWd_leaf {k z : Str} (h : Leaf k z) (n : Nat) (a : Bool) : nWd n (.tuple [.str k, .str z]) a = 1 := by
  cases n with
  | zero => rfl
  | succ n => exact nw_leaf h
def cB : Nat → Nat
  | 0 => 1
  | n + 1 => 6 * cB n + 40
theorem btwN_le {M : Nat} : ∀ {l : List Nat}, (∀ x ∈ l, x ≤ M) → l.length ≤ 3 → btwN l ≤ 3 * M + 2
  | [], _, _ => Nat.zero_le _
  | [a], h, _ => by
    have := h a (by simp)
    show a + 0 + (1 - 1) ≤ _
    omega
  | [a, b], h, _ => by
    have := h a (by simp)
    have := h b (by simp)
    show a + (b + 0) + (2 - 1) ≤ _
    omega
  | [a, b, c], h, _ => by
    have := h a (by simp)
    have := h b (by simp)
    have := h c (by simp)
    show a + (b + (c + 0)) + (3 - 1) ≤ _
    omega
  | _ :: _ :: _ :: _ :: _, _, h => absurd h (by simp)
theorem btwN_map {α : Type} {g : α → Nat} {M : Nat} {l : List α} (h : ∀ x ∈ l, g x ≤ M) (h3 : l.length ≤ 3) : btwN (l.map g) ≤ 3 * M + 2 :=
  btwN_le (fun x hx => by
    obtain ⟨y, hy, rfl⟩ := List.mem_map.mp hx
    exact h y hy) (by rw [List.length_map]; exact h3)
theorem nWd_le : ∀ {n : Nat} {d : PyData} (a : Bool), Ex n d → nWd n d a ≤ cB n
  | 0, _, _, _ => Nat.le_refl _
  | n + 1, d, a, hx => by
    have iw : ∀ (x : PyData) (l : Int) (b : Bool), Ex n x → nIn (nWd n) x l b ≤ cB n + 2 := fun x l b h => by
      have h1 := nWd_le b h
      have h2 := nWd_le false h
      unfold nIn
      split <;> omega
    show _ ≤ 6 * cB n + 40
    cases hx with
    | leaf h => rw [nWd_leaf h]; omega
    | two ho hl hr =>
      show nWk (nWd n) "two" _ a ≤ _
      rw [nw_two]
      exact Nat.le_trans (Nat.add_le_add (Nat.add_le_add_right (iw _ _ true hl) 1) (iw _ _ a hr)) (by omega)
    | not h =>
      show nWk (nWd n) "not" _ a ≤ _
      rw [nw_one (.inl rfl)]
      have h1 := iw _ (lvK "not") a h
      exact Nat.le_trans (Nat.add_le_add_left h1 1) (by omega)
    | minus h =>
      show nWk (nWd n) "minus" _ a ≤ _
      rw [nw_one (.inr rfl)]
      have h1 := iw _ (lvK "minus") a h
      exact Nat.le_trans (Nat.add_le_add_left h1 1) (by omega)
    | call h h3 hs =>
      show nWk (nWd n) "call" _ a ≤ _
      rw [nw_call]
      have h1 := iw _ 9 true h
      have h2 := btwN_map (g := fun d => nIn (nWd n) d 1 false) (fun x hx => iw x 1 false (hs x hx)) h3
      exact Nat.le_trans (Nat.add_le_add_right (Nat.add_le_add (Nat.add_le_add_right h1 1) h2) 1) (by omega)
    | field h _ =>
      show nWk (nWd n) "field" _ a ≤ _
      rw [nw_field]
      have h1 := iw _ 9 true h
      exact Nat.le_trans (Nat.add_le_add_right h1 2) (by omega)
    | index h h' =>
      show nWk (nWd n) "index" _ a ≤ _
      rw [nw_index]
      have h1 := iw _ 9 true h
      have h2 := iw _ 1 false h'
      exact Nat.le_trans (Nat.add_le_add h1 (Nat.add_le_add_right (Nat.add_le_add_left h2 1) 1)) (by omega)
    | list h3 hs =>
      show nWk (nWd n) "list" _ a ≤ _
      rw [nw_list]
      have h2 := btwN_map (g := fun d => nIn (nWd n) d 1 false) (fun x hx => iw x 1 false (hs x hx)) h3
      exact Nat.le_trans (Nat.add_le_add_right (Nat.add_le_add_left h2 1) 1) (by omega)
    | map h3 hk hv =>
      show nWk (nWd n) "map" _ a ≤ _
      rw [nw_map]
      rename_i ps
      have h2 := btwN_map (g := fun p => nIn (nWd n) (el (itm p) 0) 1 false + 1 + nIn (nWd n) (el (itm p) 1) 1 false) (l := ps.map fun p => PyData.tuple [p.1, p.2]) (M := 2 * cB n + 5) (fun x hx => by
        obtain ⟨p, hp, rfl⟩ := List.mem_map.mp hx
        have h1 := iw _ 1 false (hk p hp)
        have h2 := iw _ 1 false (hv p hp)
        exact Nat.le_trans (Nat.add_le_add (Nat.add_le_add_right h1 1) h2) (by omega)) (by rw [List.length_map]; exact h3)
      exact Nat.le_trans (Nat.add_le_add_right (Nat.add_le_add_left h2 1) 1) (by omega)
    | fn h2 _ hb =>
      show nWk (nWd n) "fn" _ a ≤ _
      rw [nw_fn]
      have h1 := iw _ 1 false hb
      have h3 := btwN_map (g := fun _ => 1) (l := List.map PyData.str _) (M := 1) (fun x hx => Nat.le_refl _) (by rw [List.length_map]; exact Nat.le_succ_of_le h2)
      have e : ∀ q : Bool, (if q = true then 1 else 0 : Nat) ≤ 1 := fun q => by cases q <;> decide
      exact Nat.le_trans (Nat.add_le_add (Nat.add_le_add (e a) (Nat.add_le_add (Nat.add_le_add_right (Nat.add_le_add_left h3 2) 2) h1)) (e a)) (by omega)
theorem nWd_2k {n : Nat} {d : PyData} {a : Bool} (h : Ex n d) (h3 : n ≤ 3) : nWd n d a ≤ 2000 := by
  refine Nat.le_trans (nWd_le a h) ?_
  have : n = 0 ∨ n = 1 ∨ n = 2 ∨ n = 3 := by omega
  rcases this with rfl | rfl | rfl | rfl <;> decide
theorem nIn_2k {n : Nat} {d : PyData} {a : Bool} {l : Int} (h : Ex n d) (h3 : n ≤ 3) : nIn (nWd n) d l a ≤ 2002 := by
  unfold nIn
  have := nWd_2k (a := a) h h3
  have := nWd_2k (a := false) h h3
  split <;> omega

theorem WL.wrap {ws : List Wd} (h : WL ws) : ∀ j : Nat, WL (List.replicate j (("(", false) : Wd) ++ ws ++ List.replicate j ((")", false) : Wd))
  | 0 => .of h (by simp)
  | j + 1 => .of (.br (o := "(") (c := ")") (b := false) (by decide +kernel) (WL.wrap h j)) (by
    rw [List.replicate_succ, List.replicate_succ' (a := ((")", false) : Wd))]
    simp [List.append_assoc])
theorem wd_rep {H : Hp} {l : Addr} {x : V} {wd : Wd} {j : Nat} {Q : VK} (h : H l = some (.lst [x])) (t : Tr H x (wD wd)) (hj : j ≤ 100)
    (k : ∀ q H', Same H H' → WdL H' (.ref q) (List.replicate j wd) → Q (.ref q) H') : rRep (.ref l) (.int j) H Q := by
  refine ⟨l, j, [x], rfl, rfl, h, by omega, by omega, ?_, fun p hp => k _ _ (same_new hp) ⟨p, _, rfl, upd_same, ?_⟩⟩
  · show 1 * ((j : Int)).toNat ≤ sizeLine
    exact Nat.le_trans (show 1 * ((j : Int)).toNat ≤ 100 by omega) (by decide)
  · rw [show ((j : Int)).toNat = j by omega, List.flatten_replicate_singleton, List.map_replicate]
    have t2 : Tr (upd H p (.lst (List.replicate j x))) x (wD wd) := t.new hp
    clear k
    induction j with
    | zero => exact .nil
    | succ j ih =>
      have := TrAll.nil (H := upd H p (.lst (List.replicate (j + 1) x)))
      generalize upd H p (.lst (List.replicate (j + 1) x)) = G at t2 ⊢
      clear ih this
      revert t2
      intro t2
      have go : ∀ i : Nat, TrAll G (List.replicate i x) (List.replicate i (wD wd)) := fun i => by
        induction i with
        | zero => exact .nil
        | succ i ih => exact .cons t2 ih
      exact go (j + 1)
theorem tAnd_bl {te : TE} {σ : L2.St} {H : Hp} {Q : VK} {i : Nat} {a b : Bool} (h : σ[i]? = some (some (.bl a))) (hb : ∀ R : VK, R (.bl b) H → te σ H R) (q : Q (.bl (a && b)) H) : tAndV (tVar i) te σ H Q := by
  refine ⟨_, h, a, rfl, ?_⟩
  cases a
  · exact q
  · exact hb _ q
theorem c_l_inner (T : Txt K mg w) {m : Nat} (c_l_take : Cal P w K mg base 1 "_law_take" spTake []) (c_l_level : Cal P w K mg base 2 "_law_level" (spOf fun d => .int (lvl d)) [])
    (c_l_words : Cal P w K mg base (3 + 2 * m) "_law_words" (spWs m) []) : Cal P w K mg base (3 + 2 * m + 1) "_law_inner" (spIn m) [] := by
  refine calOf T.d_l_inner sc_l_inner (fun vs H Q E h => ?_) (fun f cdv A outer s H vs Q E hr h => ?_)
  · obtain ⟨o, n, bv, v, d, l, c, a, rfl, _⟩ := h
    rfl
  · obtain ⟨o, n, bv, v, d, l, c, a, rfl, hn, hn3, hx, ht, B, k⟩ := h
    refine ⟨_,
      (Evl.pss_cut (ps_set (i := 4) sc_l_inner.nd rfl (Or.inl rfl) (pe_callTy call_int1 (by rfl) T.n_int (by decide +kernel) (pa_cons (pe_and (pe_cmpR op_notN (pv 0) pe_non (nomark _)) (pe_and (pe_cmpR op_lt (pe_ix ix_list (pv 0) pe_int (fun _ _ => rfl)) pe_int (nomark _)) (pe_one (pe_cmpR op_eq (pe_c c_l_take hr (by first | decide | omega) rfl (pa_cons (pv 0) (pa_cons pe_int pa_nil))) pe_int (nomark _))))) pa_nil)))
        (Evl.pss_cut (ps_if (pt_cmpR op_gt (pv 4) pe_int (nomark _))
        (pss_one (ps_augS (pv 0) pe_int get_list pe_int ip_add set_list))
        pss_nil)
        (Evl.pss_cut (ps_aug (i := 4) sc_l_inner.nd rfl (Or.inl rfl) (pe_callTy call_int1 (by rfl) T.n_int (by decide +kernel) (pa_cons (pe_cmpR op_lt (pe_c c_l_level hr (by first | decide | omega) rfl (pa_cons (pv 1) pa_nil)) (pv 2) (nomark _)) pa_nil)) ip_add)
        (pss_cons (ps_set (i := 5) sc_l_inner.nd rfl (Or.inl rfl) (pe_c c_l_words hr (by first | decide | omega) rfl (pa_cons (pv 0) (pa_cons (pv 1) (pa_cons (pe_and (pv 3) (pe_one (pe_cmpR op_eq (pv 4) pe_int (nomark _)))) pa_nil)))))
        (pss_one (ps_ret (pe_op op_cat (pe_op op_cat (pe_op op_rep (pe_lst (pa_cons (pe_tup (pa_cons pe_str (pa_cons pe_bl pa_nil))) pa_nil)) (pv 4)) (pv 5)) (pe_op op_rep (pe_lst (pa_cons (pe_tup (pa_cons pe_str (pa_cons pe_bl pa_nil))) pa_nil)) (pv 4)))))))))
      , ?_⟩
    refine ⟨fun σ' H' => ∃ j : Nat, σ' = [some bv, some v, some (.int l), some (.bl a), some (.int j), none] ∧ j ≤ 1 ∧ (o = none → j = 0) ∧ (j = 1 → c < 12) ∧ DrO H H' o c, ?_, ?_⟩
    · refine ⟨_, rfl, rfl, _, rfl, ?_⟩
      cases o with
      | none =>
        obtain ⟨rfl, rfl⟩ := B
        exact .inr ⟨_, rfl, 0, rfl, by decide, fun _ => rfl, fun z => absurd z (by decide), rfl, Same.refl _⟩
      | some g =>
        obtain ⟨rfl, c0, c12, e, b⟩ := B
        obtain ⟨z, mm, i, ns, hb, hL, rest⟩ := b.ex
        refine ⟨_, rfl, _, _, _, _, rfl, rfl, SqL.of hb, atI_nat (j := 4) rfl, _, _, rfl, rfl, _, rfl, ?_⟩
        refine ite2 (fun h0 => ?_) (fun h0 => ?_)
        · have h0 : c < 12 := of_decide_eq_true h0
          refine ⟨_, rfl, g, 9, c, e, rfl, b, by decide, by decide, fun r H1 r0 r1 D1 => ⟨rfl, .inr ⟨_, rfl, ?_⟩⟩⟩
          by_cases q : r = 8
          · subst q
            exact ⟨1, rfl, Nat.le_refl _, fun z => by (cases z), fun _ => h0, c0, c12, e, D1⟩
          · refine ⟨0, ?_, by decide, fun z => rfl, fun z => absurd z (by decide), c0, c12, e, D1⟩
            rw [decide_eq_false (fun e => q (V.int.inj e))]
            rfl
        · exact .inr ⟨_, rfl, 0, rfl, by decide, fun _ => rfl, fun z => absurd z (by decide), c0, c12, e, .of b⟩
    rintro σ' H1 ⟨j, rfl, j1, jo, jc, D1⟩
    have k0 := B.rng
    refine ⟨fun σ' H' => σ' = [some bv, some v, some (.int l), some (.bl a), some (.int j), none] ∧ DrO H H' o (c + j), ?_, ?_⟩
    · refine ⟨_, rfl, _, _, rfl, rfl, _, rfl, ?_⟩
      refine ite2 (fun h0 => ?_) (fun h0 => ?_)
      · have h0 : (0 : Int) < j := of_decide_eq_true h0
        obtain rfl : j = 1 := by omega
        cases o with
        | none => exact absurd (jo rfl) (by decide)
        | some g =>
          have c12 := jc rfl
          obtain ⟨rfl, _⟩ := B
          obtain ⟨_, _, e, D⟩ := D1
          obtain ⟨z, mm, i, ns, hb, hL, rest⟩ := D.bag.ex
          walk_at "rd"
          refine ⟨by omega, by omega, e, D.trans (.mk' D.bag ⟨⟨z, mm, i, ns, upd_same, by rw [upd_ne D.bag.ne]; exact hL, rest⟩, D.bag.ne⟩ (Fr.refl _ _).at)⟩
      · have h0 : ¬ (0 : Int) < j := fun z => h0 (decide_eq_true z)
        obtain rfl : j = 0 := by omega
        rw [show c + ((0 : Nat) : Int) = c by omega]
        exact ⟨rfl, D1⟩
    rintro σ' H2 ⟨rfl, D2⟩
    have t2 := ht.keep D2.tk
    have B2 := DrO.bgo B D2
    refine ⟨fun σ' H' => ∃ i : Nat, σ' = [some bv, some v, some (.int l), some (.bl a), some (.int (j + i : Nat)), none] ∧ ((lvl d < l ∧ i = 1) ∨ (¬ lvl d < l ∧ i = 0)) ∧ Same H2 H', ?_, ?_⟩
    · refine ⟨_, rfl, _, rfl, v, d, n, rfl, hx, t2, fun H3 s3 => ⟨_, rfl, _, _, rfl, rfl, .inr ⟨_, rfl, _, _, rfl, rfl, ?_⟩⟩⟩
      by_cases q : lvl d < l
      · exact ⟨1, by rw [decide_eq_true q]; rfl, .inl ⟨q, rfl⟩, s3⟩
      · exact ⟨0, by rw [decide_eq_false q]; rfl, .inr ⟨q, rfl⟩, s3⟩
    rintro σ' H3 ⟨i, rfl, hi, s3⟩
    have t3 := t2.keep (.of s3)
    have B3 := BgO.same B2 s3
    refine ⟨_, rfl, _, rfl, tAnd_bl rfl (b := decide ((j + i : Nat) = 0)) (fun R q => ⟨_, rfl, rfl, ?_⟩) ?_⟩
    · rw [show decide (V.int ((j + i : Nat) : Int) = V.int 0) = decide ((j + i : Nat) = 0) from decide_eq_decide.mpr ⟨fun z => by have := V.int.inj z; omega, fun z => by rw [z]; rfl⟩]
      exact q
    refine ⟨o, n, bv, v, d, c + j, _, rfl, hn, hn3, hx, t3, B3, fun u ws H4 c4 _ w4 wl ct D4 => ?_⟩
    have sz := ct.le B3.rng.1 D4.rng.2
    have sz2 := nWd_2k (a := a && decide ((j + i : Nat) = 0)) hx hn3
    -- the brackets ahead
    refine ⟨by show 2 ≤ sizeLine; decide, fun p1 h1 => ⟨by show 1 ≤ sizeLine; decide, fun p2 h2 => ⟨_, rfl, ?_⟩⟩⟩
    have w5 := (w4.same (same_new (o := .tup [.str "(", .bl false]) h1)).same (same_new (o := .lst [.ref p1]) h2)
    have s5 := (same_new (o := .tup [.str "(", .bl false]) h1).trans (same_new (o := .lst [.ref p1]) h2)
    have e5 : (upd (upd H4 p1 (.tup [.str "(", .bl false])) p2 (.lst [.ref p1])) p2 = some (.lst [.ref p1]) := upd_same
    have t5 : Tr (upd (upd H4 p1 (.tup [.str "(", .bl false])) p2 (.lst [.ref p1])) (.ref p1) (wD ("(", false)) := (Tr.tup upd_same (.cons (.str _) (.cons (.bl _) .nil))).new h2
    generalize upd (upd H4 p1 _) p2 _ = H5 at w5 s5 e5 t5 ⊢
    clear h1 h2
    refine wd_rep e5 t5 (by omega) fun v6 H6 s6 w6 => ⟨_, rfl, cat_wd w6 (w5.same s6) ?_ fun v7 H7 _ s7 w7 => ?_⟩
    · rw [List.length_replicate]
      exact Nat.le_trans (show j + i + ws.length ≤ 3000 by omega) (by decide)
    refine ⟨by show 2 ≤ sizeLine; decide, fun p1 h1 => ⟨by show 1 ≤ sizeLine; decide, fun p2 h2 => ⟨_, rfl, ?_⟩⟩⟩
    have w8 := (w7.same (same_new (o := .tup [.str ")", .bl false]) h1)).same (same_new (o := .lst [.ref p1]) h2)
    have s8 := (same_new (o := .tup [.str ")", .bl false]) h1).trans (same_new (o := .lst [.ref p1]) h2)
    have e8 : (upd (upd H7 p1 (.tup [.str ")", .bl false])) p2 (.lst [.ref p1])) p2 = some (.lst [.ref p1]) := upd_same
    have t8 : Tr (upd (upd H7 p1 (.tup [.str ")", .bl false])) p2 (.lst [.ref p1])) (.ref p1) (wD (")", false)) := (Tr.tup upd_same (.cons (.str _) (.cons (.bl _) .nil))).new h2
    generalize upd (upd H7 p1 _) p2 _ = H8 at w8 s8 e8 t8 ⊢
    clear h1 h2
    refine wd_rep e8 t8 (by omega) fun v9 H9 s9 w9 => cat_wd (w8.same s9) w9 ?_ fun v10 H10 n10 s10 w10 => ?_
    · rw [List.length_append, List.length_replicate, List.length_replicate]
      exact Nat.le_trans (show j + i + ws.length + (j + i) ≤ 3000 by omega) (by decide)
    have D9 := ((((((D2.same s3).trans D4).same s5).same s6).same s7).same s8).same s9
    refine k _ _ _ c4 (DrO.free B D9 n10) w10 (wl.wrap (j + i)) ?_ (D9.same s10)
    obtain ⟨a1, a2, a3⟩ := ct
    have mono := nWd_mono n d
    have le : nWd n d false ≤ nWd n d a := by
      cases a
      · exact Nat.le_refl _
      · exact mono
    simp only [List.length_append, List.length_replicate]
    unfold Cnt nIn
    rcases hi with ⟨q, rfl⟩ | ⟨q, rfl⟩
    · rw [if_pos q]
      rw [show decide (j + 1 = 0) = false from decide_eq_false (by omega), Bool.and_false] at a2 a3
      exact ⟨by omega, by omega, fun z => by have := a3 z; have := jo z; omega⟩
    · rw [if_neg q]
      by_cases z : j = 0
      · subst z
        rw [show decide (0 + 0 = 0) = true from rfl, Bool.and_true] at a2 a3
        exact ⟨by omega, by omega, fun z => by have := a3 z; omega⟩
      · rw [show decide (j + 0 = 0) = false from decide_eq_false (by omega), Bool.and_false] at a2 a3
        exact ⟨by omega, by omega, fun y => absurd (jo y) z⟩
theorem inner_none (T : Txt K mg w) : Cal P w K mg base 3 "_law_words" (spWs 0) [] := by
  refine calOf T.d_l_words sc_l_words (fun vs H Q E h => ?_) (fun f cdv A outer s H vs Q E hr h => ?_)
  · obtain ⟨o, n, bv, v, d, c, a, rfl, h, _⟩ := h
    exact absurd h (Nat.not_lt_zero _)
  · obtain ⟨o, n, bv, v, d, c, a, rfl, h, _⟩ := h
    exact absurd h (Nat.not_lt_zero _)


theorem btw_len : ∀ (l : List (List Wd)), (btw true l).length = btwN (l.map List.length)
  | [] => rfl
  | w :: r => by
    have h : ∀ r : List (List Wd), (btw false r).length = (r.map List.length).sum + r.length := fun r => by
      induction r with
      | nil => rfl
      | cons x r ih =>
        show (([((",", true) : Wd)] ++ x) ++ btw false r).length = (x.length + (r.map List.length).sum) + (r.length + 1)
        rw [List.length_append, List.length_append, ih]
        show 1 + x.length + _ = _
        omega
    show (([] ++ w) ++ btw false r).length = w.length + (r.map List.length).sum + ((r.map List.length).length + 1 - 1)
    rw [List.length_append, List.nil_append, h]
    rw [show (r.map List.length).length = r.length from List.length_map _] <;> omega
/-- a list of rows of words, drawn one by one -/
structure Lst (o : Option Bg) (D : Addr) (H0 H : Hp) (c c' : Int) (Ns : List Nat) (us : List V) (wss : List (List Wd)) : Prop where
  at_ : H D = some (.lst us)
  len : us.length = wss.length
  nl : Ns.length = wss.length
  nd : ∀ v ∈ us, v ≠ .ref D
  wd : ∀ (i : Nat) (v : V) (ws : List Wd), us[i]? = some v → wss[i]? = some ws → WdL H v ws
  wl : ∀ ws ∈ wss, WL ws
  ct : Cnt o Ns.sum (wss.map List.length).sum c c'
  dr : DrO H0 H o c'
theorem WdL.upd {H : Hp} {v : V} {D : Addr} {xs : List V} {y : HO} {ws : List Wd} (h : WdL H v ws) (n : v ≠ .ref D) (hd : H D = some (.lst xs)) : WdL (upd H D y) v ws := by
  obtain ⟨q, us, rfl, hq, tr⟩ := h
  refine ⟨q, us, rfl, ?_, tr.keep (tk_lst hd)⟩
  rw [upd_ne (fun z => n (by rw [z]))]
  exact hq
section
variable {o : Option Bg} {D : Addr} {H0 H H2 : Hp} {c c' c2 : Int} {Ns : List Nat} {us : List V} {wss : List (List Wd)} {bv : V}
theorem Lst.nil (B : BgO H0 bv o c) (h : H0 D = none) : Lst o D H0 (upd H0 D (.lst [])) c c [] [] [] :=
  ⟨upd_same, rfl, rfl, fun v hv => absurd hv (by simp), fun i v ws h => absurd h (by simp), fun ws hw => absurd hw (by simp), .refl rfl, .put B (.refl B) h⟩
/-- one more, new behind what there was, stored at the end of the list -/
theorem Lst.add (L : Lst o D H0 H c c' Ns us wss) (B : BgO H0 bv o c) (hD : H0 D = none) {q : Addr} {ws : List Wd} {N : Nat} (nq : H q = none) (w : WdL H2 (.ref q) ws) (l : WL ws) (ct : Cnt o N ws.length c' c2) (dr : DrO H H2 o c2) :
    H2 D = some (.lst us) ∧ Lst o D H0 (upd H2 D (.lst (us ++ [.ref q]))) c c2 (Ns ++ [N]) (us ++ [.ref q]) (wss ++ [ws]) := by
  have B1 := DrO.bgo B L.dr
  have hd := dr.keep (BgO.ne_new B hD) L.at_
  have nq2 : V.ref q ≠ .ref D := fun z => by
    cases z
    rw [L.at_] at nq
    cases nq
  refine ⟨hd, upd_same, ?_, ?_, ?_, ?_, ?_, ?_, ?_⟩
  · rw [List.length_append, List.length_append, L.len] <;> rfl
  · rw [List.length_append, List.length_append, L.nl] <;> rfl
  · intro v hv
    rcases List.mem_append.mp hv with h | h
    · exact L.nd v h
    · rw [List.mem_singleton.mp h]
      exact nq2
  · intro i v x hi hx
    by_cases hl : i < us.length
    · rw [List.getElem?_append_left hl] at hi
      rw [List.getElem?_append_left (by rw [← L.len]; exact hl)] at hx
      exact (DrO.wdl B1 dr (L.wd i v x hi hx)).upd (L.nd v (List.mem_of_getElem? hi)) hd
    · rw [List.getElem?_append_right (by omega)] at hi
      rw [List.getElem?_append_right (by rw [← L.len]; omega), ← L.len] at hx
      cases e : i - us.length with
      | zero =>
        rw [e] at hi hx
        cases hi
        cases hx
        exact w.upd nq2 hd
      | succ j =>
        rw [e] at hi
        simp at hi
  · intro x hx
    rcases List.mem_append.mp hx with h | h
    · exact L.wl x h
    · rw [List.mem_singleton.mp h]
      exact l
  · rw [List.sum_append, List.map_append, List.sum_append]
    exact (L.ct.add ct).of (by simp) (by simp)
  · exact (L.dr.trans dr).put B hD
theorem Lst.btw (L : Lst o D H0 H c c' Ns us wss) : Cnt o (btwN Ns) (Lw.btw true wss).length c c' := by
  rw [btw_len]
  unfold btwN
  rw [L.nl, List.length_map]
  exact L.ct.const _
theorem Lst.flat (L : Lst o D H0 H c c' Ns us wss) : Cnt o Ns.sum wss.flatten.length c c' := by
  rw [List.length_flatten]
  exact L.ct
end
/-- an expression, by its first word -/
structure FormW (n : Nat) (d : PyData) (k : Str) (ds : List PyData) : Prop where
  eq : d = .tuple (.str k :: ds)
  leaf : k ∈ (["number", "quote", "raw", "name", "word"] : List Str) → ∃ z, ds = [.str z] ∧ Leaf k z
  two : k = "two" → ∃ m o l r, n = m + 1 ∧ o ∈ signsL ∧ ds = [.str o, l, r] ∧ Ex m l ∧ Ex m r
  one : k ∈ (["not", "minus"] : List Str) → ∃ m a, n = m + 1 ∧ ds = [a] ∧ Ex m a
  call : k = "call" → ∃ m h xs, n = m + 1 ∧ ds = [h, .tuple xs] ∧ Ex m h ∧ xs.length ≤ 3 ∧ ∀ x ∈ xs, Ex m x
  index : k = "index" → ∃ m a b, n = m + 1 ∧ ds = [a, b] ∧ Ex m a ∧ Ex m b
  field : k = "field" → ∃ m h z, n = m + 1 ∧ ds = [h, .str z] ∧ Ex m h ∧ NameOk z
  list : k = "list" → ∃ m xs, n = m + 1 ∧ ds = [.tuple xs] ∧ xs.length ≤ 3 ∧ ∀ x ∈ xs, Ex m x
  map : k = "map" → ∃ m, ∃ ps : List (PyData × PyData), n = m + 1 ∧ ds = [.tuple (ps.map fun p => .tuple [p.1, p.2])] ∧ ps.length ≤ 3 ∧ (∀ p ∈ ps, Ex m p.1) ∧ (∀ p ∈ ps, Ex m p.2)
  fn : k ∉ (["number", "quote", "raw", "name", "word"] : List Str) → k ≠ "two" → k ∉ (["not", "minus"] : List Str) → k ≠ "call" → k ≠ "index" → k ≠ "field" → k ≠ "list" → k ≠ "map" →
    k = "fn" ∧ ∃ m, ∃ ns : List Str, ∃ b, n = m + 1 ∧ ds = [.tuple (ns.map .str), b] ∧ ns.length ≤ 2 ∧ (∀ z ∈ ns, NameOk z) ∧ Ex m b
theorem formW {n : Nat} {d : PyData} (x : Ex n d) : ∃ k ds, FormW n d k ds := by
  cases x with
  | leaf h =>
    rename_i k z
    have hk := leaf_kind h
    have ne : ∀ x : Str, x ∉ (["name", "number", "quote", "word", "raw"] : List Str) → ¬ k = x := fun x hx e => hx (e ▸ hk)
    have hk2 : k ∈ (["number", "quote", "raw", "name", "word"] : List Str) := by
      simp only [List.mem_cons, List.not_mem_nil, or_false] at hk ⊢
      rcases hk with q | q | q | q | q <;> simp [q]
    refine ⟨k, _, rfl, fun _ => ⟨_, rfl, h⟩, fun e => absurd e (ne _ (by decide +kernel)), fun e => ?_, fun e => absurd e (ne _ (by decide +kernel)), fun e => absurd e (ne _ (by decide +kernel)), fun e => absurd e (ne _ (by decide +kernel)), fun e => absurd e (ne _ (by decide +kernel)), fun e => absurd e (ne _ (by decide +kernel)), fun e => absurd hk2 e⟩
    rcases mem2.mp e with q | q
    · exact absurd q (ne _ (by decide +kernel))
    · exact absurd q (ne _ (by decide +kernel))
  | two ho hl hr => exact ⟨_, _, rfl, fun e => absurd e (by decide +kernel), fun _ => ⟨_, _, _, _, rfl, ho, rfl, hl, hr⟩, fun e => absurd e (by decide +kernel), fun e => absurd e (by decide +kernel), fun e => absurd e (by decide +kernel), fun e => absurd e (by decide +kernel), fun e => absurd e (by decide +kernel), fun e => absurd e (by decide +kernel), fun h0_ h1_ h2_ h3_ h4_ h5_ h6_ h7_ => absurd rfl h1_⟩
  | not h => exact ⟨_, _, rfl, fun e => absurd e (by decide +kernel), fun e => absurd e (by decide +kernel), fun _ => ⟨_, _, rfl, rfl, h⟩, fun e => absurd e (by decide +kernel), fun e => absurd e (by decide +kernel), fun e => absurd e (by decide +kernel), fun e => absurd e (by decide +kernel), fun e => absurd e (by decide +kernel), fun h0_ h1_ h2_ h3_ h4_ h5_ h6_ h7_ => absurd (by decide +kernel) h2_⟩
  | minus h => exact ⟨_, _, rfl, fun e => absurd e (by decide +kernel), fun e => absurd e (by decide +kernel), fun _ => ⟨_, _, rfl, rfl, h⟩, fun e => absurd e (by decide +kernel), fun e => absurd e (by decide +kernel), fun e => absurd e (by decide +kernel), fun e => absurd e (by decide +kernel), fun e => absurd e (by decide +kernel), fun h0_ h1_ h2_ h3_ h4_ h5_ h6_ h7_ => absurd (by decide +kernel) h2_⟩
  | call h h3 hs => exact ⟨_, _, rfl, fun e => absurd e (by decide +kernel), fun e => absurd e (by decide +kernel), fun e => absurd e (by decide +kernel), fun _ => ⟨_, _, _, rfl, rfl, h, h3, hs⟩, fun e => absurd e (by decide +kernel), fun e => absurd e (by decide +kernel), fun e => absurd e (by decide +kernel), fun e => absurd e (by decide +kernel), fun h0_ h1_ h2_ h3_ h4_ h5_ h6_ h7_ => absurd rfl h3_⟩
  | field h hz => exact ⟨_, _, rfl, fun e => absurd e (by decide +kernel), fun e => absurd e (by decide +kernel), fun e => absurd e (by decide +kernel), fun e => absurd e (by decide +kernel), fun e => absurd e (by decide +kernel), fun _ => ⟨_, _, _, rfl, rfl, h, hz⟩, fun e => absurd e (by decide +kernel), fun e => absurd e (by decide +kernel), fun h0_ h1_ h2_ h3_ h4_ h5_ h6_ h7_ => absurd rfl h5_⟩
  | index h h2 => exact ⟨_, _, rfl, fun e => absurd e (by decide +kernel), fun e => absurd e (by decide +kernel), fun e => absurd e (by decide +kernel), fun e => absurd e (by decide +kernel), fun _ => ⟨_, _, _, rfl, rfl, h, h2⟩, fun e => absurd e (by decide +kernel), fun e => absurd e (by decide +kernel), fun e => absurd e (by decide +kernel), fun h0_ h1_ h2_ h3_ h4_ h5_ h6_ h7_ => absurd rfl h4_⟩
  | list h3 hs => exact ⟨_, _, rfl, fun e => absurd e (by decide +kernel), fun e => absurd e (by decide +kernel), fun e => absurd e (by decide +kernel), fun e => absurd e (by decide +kernel), fun e => absurd e (by decide +kernel), fun e => absurd e (by decide +kernel), fun _ => ⟨_, _, rfl, rfl, h3, hs⟩, fun e => absurd e (by decide +kernel), fun h0_ h1_ h2_ h3_ h4_ h5_ h6_ h7_ => absurd rfl h6_⟩
  | map h3 hk hv => exact ⟨_, _, rfl, fun e => absurd e (by decide +kernel), fun e => absurd e (by decide +kernel), fun e => absurd e (by decide +kernel), fun e => absurd e (by decide +kernel), fun e => absurd e (by decide +kernel), fun e => absurd e (by decide +kernel), fun e => absurd e (by decide +kernel), fun _ => ⟨_, _, rfl, rfl, h3, hk, hv⟩, fun h0_ h1_ h2_ h3_ h4_ h5_ h6_ h7_ => absurd rfl h7_⟩
  | fn h2 hn hb => exact ⟨_, _, rfl, fun e => absurd e (by decide +kernel), fun e => absurd e (by decide +kernel), fun e => absurd e (by decide +kernel), fun e => absurd e (by decide +kernel), fun e => absurd e (by decide +kernel), fun e => absurd e (by decide +kernel), fun e => absurd e (by decide +kernel), fun e => absurd e (by decide +kernel), fun _ _ _ _ _ _ _ _ => ⟨rfl, _, _, _, rfl, rfl, h2, hn, hb⟩⟩

theorem in_l {k : Str} {l : List Str} (h : inV (.str k) (l.map V.str) = true) : k ∈ l := in_yes h
theorem out_l {k : Str} {l : List Str} (h : ¬ inV (.str k) (l.map V.str) = true) : k ∉ l := in_no h
theorem sz_of {n : Nat} (h : n ≤ 100000) : n ≤ sizeLine := Nat.le_trans h (by decide)
theorem ta1 {H : Hp} {ys : List V} {a : PyData} (h : TrAll H ys [a]) : ∃ x, ys = [x] ∧ Tr H x a := by
  cases h with
  | cons h1 h => cases h; exact ⟨_, rfl, h1⟩
theorem ta2 {H : Hp} {ys : List V} {a b : PyData} (h : TrAll H ys [a, b]) : ∃ x y, ys = [x, y] ∧ Tr H x a ∧ Tr H y b := by
  cases h with
  | cons h1 h =>
    obtain ⟨y, rfl, h2⟩ := ta1 h
    exact ⟨_, _, rfl, h1, h2⟩
theorem ta3 {H : Hp} {ys : List V} {a b c : PyData} (h : TrAll H ys [a, b, c]) : ∃ x y z, ys = [x, y, z] ∧ Tr H x a ∧ Tr H y b ∧ Tr H z c := by
  cases h with
  | cons h1 h =>
    obtain ⟨y, z, rfl, h2, h3⟩ := ta2 h
    exact ⟨_, _, _, rfl, h1, h2, h3⟩
theorem t_str {H : Hp} {x : V} {z : Str} (h : Tr H x (.str z)) : x = .str z := by
  cases h
  rfl
theorem t_tup {H : Hp} {x : V} {l : List PyData} (h : Tr H x (.tuple l)) : ∃ q xs, x = .ref q ∧ H q = some (.tup xs) ∧ TrAll H xs l := by
  cases h with
  | tup h r => exact ⟨_, _, rfl, h, r⟩
theorem row_len (ws : List Str) : (rowW ws).length = ws.length := List.length_map _
theorem WL.row {ws : List Str} (h : ∀ z ∈ ws, OkW z) : WL (rowW ws) := WL.rows h
theorem row_e {H H' : Hp} {p q : Addr} {ws : List Str} {us : List V} {y : HO} (hp : H p = none) (s : Same (upd H p y) H') (n : upd H p y q = none) (h : H' q = some (.lst us)) (tr : TrAll H' us (ws.map fun z => wD (z, true))) :
    H q = none ∧ Same H H' ∧ WdL H' (.ref q) (rowW ws) := by
  refine ⟨Same.free (same_new hp) n, (same_new hp).trans s, q, us, rfl, h, ?_⟩
  unfold rowW
  rw [List.map_map]
  exact tr
theorem wd_repI {H : Hp} {l : Addr} {x : V} {wd : Wd} {j : Nat} {i : Int} {Q : VK} (h : H l = some (.lst [x])) (t : Tr H x (wD wd)) (e : i = (j : Int)) (hj : j ≤ 100)
    (k : ∀ q H', Same H H' → WdL H' (.ref q) (List.replicate j wd) → Q (.ref q) H') : rRep (.ref l) (.int i) H Q := by
  subst e
  exact wd_rep h t hj k
theorem ta_strs {H : Hp} : ∀ {us : List V} {ns : List Str}, TrAll H us (ns.map .str) → us = ns.map V.str
  | _, [], h => by
    cases h
    rfl
  | _, z :: r, h => by
    cases h with
    | cons h1 h2 =>
      rw [t_str h1, ta_strs h2]
      rfl
theorem take_map {α β : Type} {g : α → β} {l : List α} {i : Nat} {x : α} (h : l[i]? = some x) : (l.take (i + 1)).map g = (l.take i).map g ++ [g x] := by
  rw [List.take_add_one, h, List.map_append]
  rfl
theorem Lst.size {o : Option Bg} {D : Addr} {H0 H : Hp} {c c' : Int} {Ns : List Nat} {us : List V} {wss : List (List Wd)} (L : Lst o D H0 H c c' Ns us wss) (h : Ns.length ≤ 100000) : us.length < sizeLine := by
  have := L.len
  have := L.nl
  exact Nat.lt_of_le_of_lt (show us.length ≤ 100000 by omega) (by decide)

theorem c_l_words (T : Txt K mg w) {m : Nat} (c_l_row_words : Cal P w K mg base 1 "_law_row_words" (spRow K) []) (c_l_between : Cal P w K mg base 2 "_law_between" (spBtw K) [])
    (c_l_level : Cal P w K mg base 2 "_law_level" (spOf fun d => .int (lvl d)) []) (c_l_sides : Cal P w K mg base 2 "_law_sides" spSides [])
    (c_l_inner : Cal P w K mg base (3 + 2 * m + 1) "_law_inner" (spIn m) []) : Cal P w K mg base (3 + 2 * (m + 1)) "_law_words" (spWs (m + 1)) [] := by
  rw [show 3 + 2 * (m + 1) = (3 + 2 * m + 1) + 1 by omega]
  refine calOf T.d_l_words sc_l_words (fun vs H Q E h => ?_) (fun f cdv A outer s H vs Q E hr h => ?_)
  · obtain ⟨o, n, bv, v, d, c, a, rfl, _⟩ := h
    rfl
  · obtain ⟨o, n, bv, v, d, c, a, rfl, hn, hn3, hx, ht, B, k⟩ := h
    have cr := B.rng
    obtain ⟨kd, ds, F⟩ := formW hx
    have ed := F.eq
    subst ed
    obtain ⟨p, ys, rfl, ha, hy⟩ := tr_tup ht
    refine ⟨_,
      (pss_cons (ps_set (i := 3) sc_l_words.nd rfl (Or.inl rfl) (pe_ix ix_tup (pv 1) pe_int (fun _ _ => rfl)))
        (pss_cons (ps_if (pt_cmpR op_in_seq (pv 3) (pe_tup (pa_cons pe_str (pa_cons pe_str (pa_cons pe_str (pa_cons pe_str (pa_cons pe_str pa_nil)))))) (by rfl))
        (pss_one (ps_ret (pe_c c_l_row_words hr (by first | decide | omega) rfl (pa_cons (pe_lst (pa_cons (pe_ix ix_tup (pv 1) pe_int (fun _ _ => rfl)) pa_nil)) pa_nil))))
        pss_nil)
        (pss_cons (ps_if (pt_cmpR op_eq (pv 3) pe_str (nomark _))
        (pss_cons (ps_asg (pe_c c_l_sides hr (by first | decide | omega) rfl (pa_cons (pe_ix ix_tup (pv 1) pe_int (fun _ _ => rfl)) pa_nil)) (pg_tup rfl (pgs_cons (pg_name (i := 4) sc_l_words.nd rfl (Or.inl rfl)) (pgs_cons (pg_name (i := 5) sc_l_words.nd rfl (Or.inl rfl)) pgs_nil))))
        (pss_cons (ps_set (i := 6) sc_l_words.nd rfl (Or.inl rfl) (pe_op op_cat (pe_c c_l_inner hr (by first | decide | omega) rfl (pa_cons (pv 0) (pa_cons (pe_ix ix_tup (pv 1) pe_int (fun _ _ => rfl)) (pa_cons (pv 4) (pa_cons pe_bl pa_nil))))) (pe_c c_l_row_words hr (by first | decide | omega) rfl (pa_cons (pe_lst (pa_cons (pe_ix ix_tup (pv 1) pe_int (fun _ _ => rfl)) pa_nil)) pa_nil))))
        (pss_one (ps_ret (pe_op op_cat (pv 6) (pe_c c_l_inner hr (by first | decide | omega) rfl (pa_cons (pv 0) (pa_cons (pe_ix ix_tup (pv 1) pe_int (fun _ _ => rfl)) (pa_cons (pv 5) (pa_cons (pv 2) pa_nil))))))))))
        pss_nil)
        (pss_cons (ps_if (pt_cmpR op_in_seq (pv 3) (pe_tup (pa_cons pe_str (pa_cons pe_str pa_nil))) (by rfl))
        (pss_cons (ps_set (i := 6) sc_l_words.nd rfl (Or.inl rfl) (pe_c c_l_row_words hr (by first | decide | omega) rfl (pa_cons (pe_lst (pa_cons (pe_ifExp (pt_cmpR op_eq (pv 3) pe_str (nomark _)) pe_str pe_str) pa_nil)) pa_nil)))
        (pss_one (ps_ret (pe_op op_cat (pv 6) (pe_c c_l_inner hr (by first | decide | omega) rfl (pa_cons (pv 0) (pa_cons (pe_ix ix_tup (pv 1) pe_int (fun _ _ => rfl)) (pa_cons (pe_c c_l_level hr (by first | decide | omega) rfl (pa_cons (pv 1) pa_nil)) (pa_cons (pv 2) pa_nil)))))))))
        pss_nil)
        (pss_cons (ps_if (pt_cmpR op_eq (pv 3) pe_str (nomark _))
        (pss_cons (ps_set (i := 7) sc_l_words.nd rfl (Or.inl rfl) (pe_c c_l_between hr (by first | decide | omega) rfl (pa_cons (pe_lc (own := [("_law_one_here", 14)]) (g := gName 14) (tt := tYes) rfl sc_l_words.nd (pi_tup (pe_ix ix_tup (pv 1) pe_int (fun _ _ => rfl))) (blkOk_by (N := ["_law_bag_here", "_law_tree", "_law_is_ahead", "_law_word", "_law_left", "_law_right", "_law_found", "_law_some", "_law_inside", "_law_pairs", "_law_key", "_law_value", "_law_names_here", "_law_name_here", "_law_one_here"]) (sc := defScope s_l_words) (by decide +kernel)) (fun _ _ _ _ _ => pg_name (i := 14) sc_l_words.nd rfl (Or.inl rfl)) (fun _ _ _ _ _ => pts_nil) (fun _ _ _ _ _ => (pe_c c_l_inner hr (by first | decide | omega) rfl (pa_cons (pv 0) (pa_cons (pv 14) (pa_cons pe_int (pa_cons pe_bl pa_nil))))))) pa_nil)))
        (pss_one (ps_ret (pe_op op_cat (pe_op op_cat (pe_op op_cat (pe_c c_l_inner hr (by first | decide | omega) rfl (pa_cons (pv 0) (pa_cons (pe_ix ix_tup (pv 1) pe_int (fun _ _ => rfl)) (pa_cons pe_int (pa_cons pe_bl pa_nil))))) (pe_c c_l_row_words hr (by first | decide | omega) rfl (pa_cons (pe_lst (pa_cons pe_str pa_nil)) pa_nil))) (pv 7)) (pe_c c_l_row_words hr (by first | decide | omega) rfl (pa_cons (pe_lst (pa_cons pe_str pa_nil)) pa_nil))))))
        pss_nil)
        (pss_cons (ps_if (pt_cmpR op_eq (pv 3) pe_str (nomark _))
        (pss_cons (ps_set (i := 8) sc_l_words.nd rfl (Or.inl rfl) (pe_op op_cat (pe_op op_cat (pe_c c_l_row_words hr (by first | decide | omega) rfl (pa_cons (pe_lst (pa_cons pe_str pa_nil)) pa_nil)) (pe_c c_l_inner hr (by first | decide | omega) rfl (pa_cons (pv 0) (pa_cons (pe_ix ix_tup (pv 1) pe_int (fun _ _ => rfl)) (pa_cons pe_int (pa_cons pe_bl pa_nil)))))) (pe_c c_l_row_words hr (by first | decide | omega) rfl (pa_cons (pe_lst (pa_cons pe_str pa_nil)) pa_nil))))
        (pss_one (ps_ret (pe_op op_cat (pe_c c_l_inner hr (by first | decide | omega) rfl (pa_cons (pv 0) (pa_cons (pe_ix ix_tup (pv 1) pe_int (fun _ _ => rfl)) (pa_cons pe_int (pa_cons pe_bl pa_nil))))) (pv 8)))))
        pss_nil)
        (pss_cons (ps_if (pt_cmpR op_eq (pv 3) pe_str (nomark _))
        (pss_one (ps_ret (pe_op op_cat (pe_c c_l_inner hr (by first | decide | omega) rfl (pa_cons (pv 0) (pa_cons (pe_ix ix_tup (pv 1) pe_int (fun _ _ => rfl)) (pa_cons pe_int (pa_cons pe_bl pa_nil))))) (pe_c c_l_row_words hr (by first | decide | omega) rfl (pa_cons (pe_lst (pa_cons pe_str (pa_cons (pe_ix ix_tup (pv 1) pe_int (fun _ _ => rfl)) pa_nil))) pa_nil)))))
        pss_nil)
        (pss_cons (ps_if (pt_cmpR op_eq (pv 3) pe_str (nomark _))
        (pss_cons (ps_set (i := 7) sc_l_words.nd rfl (Or.inl rfl) (pe_c c_l_between hr (by first | decide | omega) rfl (pa_cons (pe_lc (own := [("_law_one_here", 14)]) (g := gName 14) (tt := tYes) rfl sc_l_words.nd (pi_tup (pe_ix ix_tup (pv 1) pe_int (fun _ _ => rfl))) (blkOk_by (N := ["_law_bag_here", "_law_tree", "_law_is_ahead", "_law_word", "_law_left", "_law_right", "_law_found", "_law_some", "_law_inside", "_law_pairs", "_law_key", "_law_value", "_law_names_here", "_law_name_here", "_law_one_here"]) (sc := defScope s_l_words) (by decide +kernel)) (fun _ _ _ _ _ => pg_name (i := 14) sc_l_words.nd rfl (Or.inl rfl)) (fun _ _ _ _ _ => pts_nil) (fun _ _ _ _ _ => (pe_c c_l_inner hr (by first | decide | omega) rfl (pa_cons (pv 0) (pa_cons (pv 14) (pa_cons pe_int (pa_cons pe_bl pa_nil))))))) pa_nil)))
        (pss_one (ps_ret (pe_op op_cat (pe_op op_cat (pe_c c_l_row_words hr (by first | decide | omega) rfl (pa_cons (pe_lst (pa_cons pe_str pa_nil)) pa_nil)) (pv 7)) (pe_c c_l_row_words hr (by first | decide | omega) rfl (pa_cons (pe_lst (pa_cons pe_str pa_nil)) pa_nil))))))
        pss_nil)
        (pss_cons (ps_if (pt_cmpR op_eq (pv 3) pe_str (nomark _))
        (pss_cons (ps_set (i := 9) sc_l_words.nd rfl (Or.inl rfl) (pe_lst pa_nil))
        (pss_cons (ps_for PassesOwn.never rfl (pi_tup (pe_ix ix_tup (pv 1) pe_int (fun _ _ => rfl))) (pg_tup rfl (pgs_cons (pg_name (i := 10) sc_l_words.nd rfl (Or.inl rfl)) (pgs_cons (pg_name (i := 11) sc_l_words.nd rfl (Or.inl rfl)) pgs_nil)))
        (pss_one (ps_expr (pe_bm PySem.F.plainAttrs_list PySem.F.slot_list_append PySem.F.type_list_append mt_append (pv 9) (pa_cons (pe_op op_cat (pe_op op_cat (pe_c c_l_inner hr (by first | decide | omega) rfl (pa_cons (pv 0) (pa_cons (pv 10) (pa_cons pe_int (pa_cons pe_bl pa_nil))))) (pe_c c_l_row_words hr (by first | decide | omega) rfl (pa_cons (pe_lst (pa_cons pe_str pa_nil)) pa_nil))) (pe_c c_l_inner hr (by first | decide | omega) rfl (pa_cons (pv 0) (pa_cons (pv 11) (pa_cons pe_int (pa_cons pe_bl pa_nil)))))) pa_nil)))))
        (pss_one (ps_ret (pe_op op_cat (pe_op op_cat (pe_c c_l_row_words hr (by first | decide | omega) rfl (pa_cons (pe_lst (pa_cons pe_str pa_nil)) pa_nil)) (pe_c c_l_between hr (by first | decide | omega) rfl (pa_cons (pv 9) pa_nil))) (pe_c c_l_row_words hr (by first | decide | omega) rfl (pa_cons (pe_lst (pa_cons pe_str pa_nil)) pa_nil)))))))
        pss_nil)
        (pss_cons (ps_set (i := 12) sc_l_words.nd rfl (Or.inl rfl) (pe_c c_l_between hr (by first | decide | omega) rfl (pa_cons (pe_lc (own := [("_law_name_here", 13)]) (g := gName 13) (tt := tYes) rfl sc_l_words.nd (pi_tup (pe_ix ix_tup (pv 1) pe_int (fun _ _ => rfl))) (blkOk_by (N := ["_law_bag_here", "_law_tree", "_law_is_ahead", "_law_word", "_law_left", "_law_right", "_law_found", "_law_some", "_law_inside", "_law_pairs", "_law_key", "_law_value", "_law_names_here", "_law_name_here", "_law_one_here"]) (sc := defScope s_l_words) (by decide +kernel)) (fun _ _ _ _ _ => pg_name (i := 13) sc_l_words.nd rfl (Or.inl rfl)) (fun _ _ _ _ _ => pts_nil) (fun _ _ _ _ _ => (pe_c c_l_row_words hr (by first | decide | omega) rfl (pa_cons (pe_lst (pa_cons (pv 13) pa_nil)) pa_nil)))) pa_nil)))
        (pss_cons (ps_set (i := 6) sc_l_words.nd rfl (Or.inl rfl) (pe_op op_cat (pe_op op_cat (pe_op op_cat (pe_c c_l_row_words hr (by first | decide | omega) rfl (pa_cons (pe_lst (pa_cons pe_str (pa_cons pe_str pa_nil))) pa_nil)) (pv 12)) (pe_c c_l_row_words hr (by first | decide | omega) rfl (pa_cons (pe_lst (pa_cons pe_str (pa_cons pe_str pa_nil))) pa_nil))) (pe_c c_l_inner hr (by first | decide | omega) rfl (pa_cons (pv 0) (pa_cons (pe_ix ix_tup (pv 1) pe_int (fun _ _ => rfl)) (pa_cons pe_int (pa_cons pe_bl pa_nil)))))))
        (pss_one (ps_ret (pe_op op_cat (pe_op op_cat (pe_op op_rep (pe_lst (pa_cons (pe_tup (pa_cons pe_str (pa_cons pe_bl pa_nil))) pa_nil)) (pe_callTy call_int1 (by rfl) T.n_int (by decide +kernel) (pa_cons (pv 2) pa_nil))) (pv 6)) (pe_op op_rep (pe_lst (pa_cons (pe_tup (pa_cons pe_str (pa_cons pe_bl pa_nil))) pa_nil)) (pe_callTy call_int1 (by rfl) T.n_int (by decide +kernel) (pa_cons (pv 2) pa_nil)))))))))))))))))
      , ?_⟩
    have D0 := DrO.refl B
    refine ⟨_, rfl, _, _, _, _, rfl, rfl, SqT.of ha, atI_nat (j := 0) rfl, ?_⟩
    -- a leaf
    refine ⟨_, rfl, by decide, fun p1 hp1 => ⟨p1, _, rfl, .inr (SqT.of upd_same), rfl, strs_flat ["number", "quote", "raw", "name", "word"], _, rfl, ite2 (fun h => ?_) (fun h1 => ?_)⟩⟩
    · obtain ⟨z, rfl, hz⟩ := F.leaf (in_l h)
      obtain ⟨x, rfl, t1⟩ := ta1 hy
      obtain rfl := t_str t1
      refine ⟨_, rfl, _, _, _, _, rfl, rfl, SqT.of (upd_some ha hp1), atI_nat (j := 1) rfl, by show 1 ≤ sizeLine; decide, fun p2 hp2 => ⟨p2, [z], rfl, SqL.of upd_same, by show 1 ≤ 1000; decide, fun q us_ H' s_ n_ h_ t_ => ?_⟩⟩
      obtain ⟨nq, s', w'⟩ := row_e hp2 s_ n_ h_ t_
      exact k q _ H' c (Same.free (same_new hp1) nq) w' (.one (leaf_ok hz)) (.refl (nWd_leaf hz n a).symm) ((D0.new hp1).same s')
    have h1 := out_l (l := ["number", "quote", "raw", "name", "word"]) h1
    have D1 : DrO H (upd H p1 (.tup [.str "number", .str "quote", .str "raw", .str "name", .str "word"])) o c := D0.new hp1
    generalize upd H p1 (HO.tup _) = H1 at D1 ⊢
    clear hp1 D0
    refine ⟨_, rfl, rfl, _, rfl, ite2 (fun h => ?_) (fun h2 => ?_)⟩
    · -- two
      have e : kd = "two" := V.str.inj (of_decide_eq_true h)
      subst e
      obtain ⟨mm, ox, dl, dr, rfl, ho, rfl, xl, xr⟩ := F.two rfl
      obtain ⟨x1, v2, v3, rfl, t1, t2, t3⟩ := ta3 hy
      obtain rfl := t_str t1
      refine ⟨_, rfl, _, _, _, _, rfl, rfl, SqT.of (D1.tk _ _ ha), atI_nat (j := 1) rfl, ox, rfl, ho, fun pp H2 s2 hpp => ?_⟩
      have D2 := D1.same s2
      clear D1 s2
      refine ⟨pp, _, rfl, SqT.of hpp, rfl, _, _, rfl, _, _, rfl, rfl, ?_⟩
      refine ⟨_, rfl, _, rfl, _, _, _, _, rfl, rfl, SqT.of (D2.tk _ _ ha), atI_nat (j := 2) rfl, _, rfl, o, mm, bv, v2, dl, _, c, true, rfl, by omega, by omega, xl, t2.keep D2.tk, DrO.bgo B D2, fun q3 w3 H3 c3 _ e3 l3 ct3 D3 => ?_⟩
      have D3 := D2.trans D3
      clear D2
      have z3 := ct3.le cr.1 D3.rng.2
      have y3 := nIn_2k (a := true) (l := ll (opLv ox)) xl (by omega : mm ≤ 3)
      refine ⟨_, rfl, _, _, _, _, rfl, rfl, SqT.of (D3.tk _ _ ha), atI_nat (j := 1) rfl, by show 1 ≤ sizeLine; decide, fun p4 hp4 => ⟨p4, [ox], rfl, SqL.of upd_same, by show 1 ≤ 1000; decide, fun q4 us_ H4 s_ n_ h_ t_ => ?_⟩⟩
      obtain ⟨_, s4, e4⟩ := row_e hp4 s_ n_ h_ t_
      refine cat_wd (e3.same s4) e4 (sz_of (by rw [row_len]; show _ + 1 ≤ _; omega)) fun q5 H5 _ s5 e5 => ?_
      have D5 := (D3.same s4).same s5
      clear D3 s4 s5
      refine ⟨_, rfl, _, rfl, _, rfl, _, _, _, _, rfl, rfl, SqT.of (D5.tk _ _ ha), atI_nat (j := 3) rfl, _, rfl, _, rfl, o, mm, bv, v3, dr, _, c3, a, rfl, by omega, by omega, xr, t3.keep D5.tk, DrO.bgo B D5, fun q6 w6 H6 c6 _ e6 l6 ct6 D6 => ?_⟩
      have z6 := ct6.le D5.rng.1 D6.rng.2
      have y6 := nIn_2k (a := a) (l := rr (opLv ox)) xr (by omega : mm ≤ 3)
      refine cat_wd (DrO.wdl (DrO.bgo B D5) D6 e5) e6 (sz_of (by rw [List.length_append, row_len]; show _ + 1 + _ ≤ _; omega)) fun q7 H7 n7 s7 e7 => ?_
      have D6 := D5.trans D6
      refine k q7 _ H7 c6 (DrO.free B D6 n7) e7 (.app (.app l3 (.one (sign_ok ho))) l6) ?_ (D6.same s7)
      refine ((ct3.const 1).add ct6).of ?_ ?_
      · rw [List.length_append, List.length_append, row_len]
        rfl
      · show nWk (nWd mm) "two" _ a = _
        rw [nw_two]
        rfl
    have h2 : kd ≠ "two" := fun e => h2 (decide_eq_true (congrArg V.str e))
    refine ⟨_, rfl, by decide, fun p1 hp1 => ⟨p1, _, rfl, .inr (SqT.of upd_same), rfl, strs_flat ["not", "minus"], _, rfl, ite2 (fun h => ?_) (fun h3 => ?_)⟩⟩
    · -- not, minus
      have e := in_l (l := ["not", "minus"]) h
      obtain ⟨mm, d1, rfl, rfl, x1⟩ := F.one e
      have e2 := mem2.mp e
      obtain ⟨v1, rfl, t1⟩ := ta1 hy
      have D2 : DrO H (upd H1 p1 (.tup [.str "not", .str "minus"])) o c := D1.new hp1
      generalize upd H1 p1 (HO.tup _) = H2 at D2 ⊢
      clear hp1 D1
      obtain ⟨sg, hsg, hk⟩ : ∃ sg : Str, OkW sg ∧ ∀ (σ' : L2.St) (Hx : Hp) (Q' : VK), σ'[3]? = some (some (.str kd)) → Q' (.str sg) Hx → tIf (tTest (tOp rEq (tVar 3) (tC (V.str "not")))) (tC (V.str "not")) (tC (V.str "-")) σ' Hx Q' := by
        rcases e2 with rfl | rfl
        · exact ⟨"not", fix_ok (by decide +kernel), fun σ' Hx Q' e q' => ⟨_, e, rfl, _, rfl, ite2 (fun _ => q') (fun z => absurd (decide_eq_true rfl) z)⟩⟩
        · exact ⟨"-", fix_ok (by decide +kernel), fun σ' Hx Q' e q' => ⟨_, e, rfl, _, rfl, ite2 (fun z => absurd (V.str.inj (of_decide_eq_true z)) (by decide +kernel)) (fun _ => q')⟩⟩
      refine hk _ _ _ rfl ⟨by show 1 ≤ sizeLine; decide, fun p4 hp4 => ⟨p4, [sg], rfl, SqL.of upd_same, by show 1 ≤ 1000; decide, fun q4 us_ H4 s_ n_ h_ t_ => ?_⟩⟩
      obtain ⟨_, s4, e4⟩ := row_e hp4 s_ n_ h_ t_
      have D4 := D2.same s4
      clear D2 s4
      refine ⟨_, rfl, _, rfl, _, rfl, _, _, _, _, rfl, rfl, SqT.of (D4.tk _ _ ha), atI_nat (j := 1) rfl, _, rfl, _, _, _, rfl, hx, ht.keep D4.tk, fun H5 s5 => ?_⟩
      have D5 := D4.same s5
      refine ⟨_, rfl, o, mm, bv, v1, d1, _, c, a, rfl, by omega, by omega, x1, t1.keep D5.tk, DrO.bgo B D5, fun q6 w6 H6 c6 _ e6 l6 ct6 D6 => ?_⟩
      have z6 := ct6.le D5.rng.1 D6.rng.2
      have y6 := nIn_2k (a := a) (l := lvl (.tuple [.str kd, d1])) x1 (by omega : mm ≤ 3)
      refine cat_wd (DrO.wdl (DrO.bgo B D5) D6 (e4.same s5)) e6 (sz_of (by rw [row_len]; show 1 + _ ≤ _; omega)) fun q7 H7 n7 s7 e7 => ?_
      have D6 := D5.trans D6
      refine k q7 _ H7 c6 (DrO.free B D6 n7) e7 (.app (.one hsg) l6) ?_ (D6.same s7)
      refine (ct6.const' 1).of ?_ ?_
      · rw [List.length_append, row_len]
        rfl
      · show nWk (nWd mm) kd _ a = _
        rw [nw_one e2]
        show _ = 1 + nIn (nWd mm) d1 (if kd = "two" then _ else lvK kd) a
        rw [if_neg h2]
        rfl
    have h3 := out_l (l := ["not", "minus"]) h3
    have D2 : DrO H (upd H1 p1 (.tup [.str "not", .str "minus"])) o c := D1.new hp1
    generalize upd H1 p1 (HO.tup _) = H2 at D2 ⊢
    clear hp1 D1
    refine ⟨_, rfl, rfl, _, rfl, ite2 (fun h => ?_) (fun h4 => ?_)⟩
    · -- call
      have e : kd = "call" := V.str.inj (of_decide_eq_true h)
      subst e
      obtain ⟨mm, dh, xs, rfl, rfl, xh, l3, xx⟩ := F.call rfl
      obtain ⟨vh, vx, rfl, t1, t2⟩ := ta2 hy
      obtain ⟨qx, us0, rfl, hqx, tx⟩ := t_tup t2
      refine ⟨_, rfl, _, _, _, _, rfl, rfl, SqT.of (D2.tk _ _ ha), atI_nat (j := 2) rfl, _, rfl, ⟨_, SqT.of (D2.tk _ _ hqx)⟩, fun D hD => ?_⟩
      refine lc_tup (K := K) (a := qx) (xs := us0) (fun i H' => ∃ us wss c', Lst o D H2 H' c c' ((xs.take i).map fun d => nIn (nWd mm) d 1 false) us wss)
        ⟨[], [], c, Lst.nil (DrO.bgo B D2) hD⟩ (fun i H' _ ⟨_, _, _, L⟩ => SqT.of (L.dr.tk _ _ (D2.tk _ _ hqx))) ?_ ?_
      · rintro i x H' hi ⟨us, wss, c', L⟩
        obtain ⟨d, hd, td⟩ := tx.get hi
        have li := (List.getElem?_eq_some_iff.mp hd).1
        have D' := D2.trans L.dr
        refine ⟨rfl, _, rfl, _, rfl, o, mm, bv, x, d, 1, c', false, rfl, by omega, by omega, xx d (List.mem_of_getElem? hd), td.keep D'.tk, DrO.bgo B D', fun q3 w3 H3 c3 n3 e3 l3 ct3 D3 => ?_⟩
        obtain ⟨hD3, L3⟩ := L.add (DrO.bgo B D2) hD n3 e3 l3 ct3 D3
        refine ⟨us, hD3, L.size (by rw [List.length_map, List.length_take]; omega), us ++ [.ref q3], wss ++ [w3], c3, ?_⟩
        rw [take_map hd]
        exact L3
      rintro H3 ⟨us, wss, c3, L⟩
      rw [tx.len, List.take_length] at L
      have D3 := D2.trans L.dr
      have ctB := L.btw
      have zB := ctB.le cr.1 D3.rng.2
      have yB := btwN_map (g := fun d => nIn (nWd mm) d 1 false) (fun x hx => nIn_2k (a := false) (l := 1) (xx x hx) (by omega : mm ≤ 3)) l3
      refine ⟨D, us, wss, rfl, SqL.of L.at_, L.len, L.wd, by omega, fun vB H4 s4 eB => ?_⟩
      have wlB : WL (btw true wss) := WL.btw L.wl
      have D4 := D3.same s4
      clear D2 D3 s4
      refine ⟨_, rfl, _, rfl, _, _, _, _, rfl, rfl, SqT.of (D4.tk _ _ ha), atI_nat (j := 1) rfl, o, mm, bv, vh, dh, 9, c3, true, rfl, by omega, by omega, xh, t1.keep D4.tk, DrO.bgo B D4, fun q5 w5 H5 c5 _ e5 l5 ct5 D5 => ?_⟩
      have z5 := ct5.le D4.rng.1 D5.rng.2
      have y5 := nIn_2k (a := true) (l := 9) xh (by omega : mm ≤ 3)
      have eB := DrO.wdl (DrO.bgo B D4) D5 eB
      have D5 := D4.trans D5
      refine ⟨by show 1 ≤ sizeLine; decide, fun p6 hp6 => ⟨p6, ["("], rfl, SqL.of upd_same, by show 1 ≤ 1000; decide, fun q6 us_ H6 s_ n_ h_ t_ => ?_⟩⟩
      obtain ⟨_, s6, e6⟩ := row_e hp6 s_ n_ h_ t_
      refine cat_wd (e5.same s6) e6 (sz_of (by rw [row_len]; show _ + 1 ≤ _; omega)) fun q7 H7 _ s7 e7 => ⟨_, rfl, cat_wd e7 ((eB.same s6).same s7) (sz_of (by rw [List.length_append, row_len]; show _ + 1 + _ ≤ _; omega)) fun q8 H8 _ s8 e8 => ?_⟩
      refine ⟨by show 1 ≤ sizeLine; decide, fun p6 hp6 => ⟨p6, [")"], rfl, SqL.of upd_same, by show 1 ≤ 1000; decide, fun q6 us_ H9 s_ n_ h_ t_ => ?_⟩⟩
      obtain ⟨_, s9, e9⟩ := row_e hp6 s_ n_ h_ t_
      refine cat_wd (e8.same s9) e9 (sz_of (by rw [List.length_append, List.length_append, row_len, row_len]; show _ + 1 + _ + 1 ≤ _; omega)) fun qA HA nA sA eA => ?_
      have D9 := (((D5.same s6).same s7).same s8).same s9
      refine k qA _ HA c5 (DrO.free B D9 nA) eA (.of (.app l5 (.br (o := "(") (c := ")") (b := true) (by decide +kernel) wlB)) (by simp [rowW])) ?_ (D9.same sA)
      refine ((ctB.add ct5).const 2).of ?_ ?_
      · rw [List.length_append, List.length_append, List.length_append, row_len, row_len]
        show _ + 1 + _ + 1 = _
        omega
      · show nWk (nWd mm) "call" _ a = _
        rw [nw_call]
        show nIn (nWd mm) dh 9 true + 1 + btwN (xs.map _) + 1 = _
        omega
    have h4 : kd ≠ "call" := fun e => h4 (decide_eq_true (congrArg V.str e))
    refine ⟨_, rfl, rfl, _, rfl, ite2 (fun h => ?_) (fun h5 => ?_)⟩
    · -- index
      have e : kd = "index" := V.str.inj (of_decide_eq_true h)
      subst e
      obtain ⟨mm, d1, d2, rfl, rfl, x1, x2⟩ := F.index rfl
      obtain ⟨v1, v2, rfl, t1, t2⟩ := ta2 hy
      refine ⟨by show 1 ≤ sizeLine; decide, fun p3 hp3 => ⟨p3, ["["], rfl, SqL.of upd_same, by show 1 ≤ 1000; decide, fun q3 us_ H3 s_ n_ h_ t_ => ?_⟩⟩
      obtain ⟨_, s3, e3⟩ := row_e hp3 s_ n_ h_ t_
      have D3 := D2.same s3
      refine ⟨_, rfl, _, rfl, _, _, _, _, rfl, rfl, SqT.of (D3.tk _ _ ha), atI_nat (j := 2) rfl, o, mm, bv, v2, d2, 1, c, false, rfl, by omega, by omega, x2, t2.keep D3.tk, DrO.bgo B D3, fun q4 w4 H4 c4 _ e4 l4 ct4 D4 => ?_⟩
      have z4 := ct4.le D3.rng.1 D4.rng.2
      have y4 := nIn_2k (a := false) (l := 1) x2 (by omega : mm ≤ 3)
      have e3 := DrO.wdl (DrO.bgo B D3) D4 e3
      have D4 := D3.trans D4
      refine cat_wd e3 e4 (sz_of (by rw [row_len]; show 1 + _ ≤ _; omega)) fun q5 H5 _ s5 e5 => ?_
      refine ⟨by show 1 ≤ sizeLine; decide, fun p6 hp6 => ⟨p6, ["]"], rfl, SqL.of upd_same, by show 1 ≤ 1000; decide, fun q6 us_ H6 s_ n_ h_ t_ => ?_⟩⟩
      obtain ⟨_, s6, e6⟩ := row_e hp6 s_ n_ h_ t_
      refine cat_wd (e5.same s6) e6 (sz_of (by rw [List.length_append, row_len, row_len]; show 1 + _ + 1 ≤ _; omega)) fun q7 H7 _ s7 e7 => ?_
      have D7 := ((D4.same s5).same s6).same s7
      refine ⟨_, rfl, _, rfl, _, _, _, _, rfl, rfl, SqT.of (D7.tk _ _ ha), atI_nat (j := 1) rfl, o, mm, bv, v1, d1, 9, c4, true, rfl, by omega, by omega, x1, t1.keep D7.tk, DrO.bgo B D7, fun q8 w8 H8 c8 _ e8 l8 ct8 D8 => ⟨_, rfl, ?_⟩⟩
      have z8 := ct8.le D7.rng.1 D8.rng.2
      have y8 := nIn_2k (a := true) (l := 9) x1 (by omega : mm ≤ 3)
      have e7 := DrO.wdl (DrO.bgo B D7) D8 e7
      have D8 := D7.trans D8
      refine cat_wd e8 e7 (sz_of (by rw [List.length_append, List.length_append, row_len, row_len]; show _ + (1 + _ + 1) ≤ _; omega)) fun qA HA nA sA eA => ?_
      refine k qA _ HA c8 (DrO.free B D8 nA) eA (.app l8 (.br (o := "[") (c := "]") (b := true) (by decide +kernel) l4)) ?_ (D8.same sA)
      refine ((ct4.add ct8).const 2).of ?_ ?_
      · rw [List.length_append, List.length_append, List.length_append, row_len, row_len]
        show _ + (1 + _ + 1) = _
        omega
      · show nWk (nWd mm) "index" _ a = _
        rw [nw_index]
        show nIn (nWd mm) d1 9 true + (1 + nIn (nWd mm) d2 1 false + 1) = _
        omega
    have h5 : kd ≠ "index" := fun e => h5 (decide_eq_true (congrArg V.str e))
    refine ⟨_, rfl, rfl, _, rfl, ite2 (fun h => ?_) (fun h6 => ?_)⟩
    · -- field
      have e : kd = "field" := V.str.inj (of_decide_eq_true h)
      subst e
      obtain ⟨mm, d1, z, rfl, rfl, x1, hz⟩ := F.field rfl
      obtain ⟨v1, v2, rfl, t1, t2⟩ := ta2 hy
      obtain rfl := t_str t2
      refine ⟨_, rfl, _, rfl, _, _, _, _, rfl, rfl, SqT.of (D2.tk _ _ ha), atI_nat (j := 1) rfl, o, mm, bv, v1, d1, 9, c, true, rfl, by omega, by omega, x1, t1.keep D2.tk, DrO.bgo B D2, fun q8 w8 H8 c8 _ e8 l8 ct8 D8 => ?_⟩
      have z8 := ct8.le D2.rng.1 D8.rng.2
      have y8 := nIn_2k (a := true) (l := 9) x1 (by omega : mm ≤ 3)
      have D8 := D2.trans D8
      refine ⟨_, rfl, _, _, _, _, rfl, rfl, SqT.of (D8.tk _ _ ha), atI_nat (j := 2) rfl, by show 2 ≤ sizeLine; decide, fun p6 hp6 => ⟨p6, [".", z], rfl, SqL.of upd_same, by show 2 ≤ 1000; decide, fun q6 us_ H6 s_ n_ h_ t_ => ?_⟩⟩
      obtain ⟨_, s6, e6⟩ := row_e hp6 s_ n_ h_ t_
      have D6 := D8.same s6
      refine cat_wd (e8.same s6) e6 (sz_of (by rw [row_len]; show _ + 2 ≤ _; omega)) fun qA HA nA sA eA => ?_
      refine k qA _ HA c8 (DrO.free B D6 nA) eA (.app l8 (.dot (b := true) (d := true) hz)) ?_ (D6.same sA)
      · refine (ct8.const 2).of ?_ ?_
        · rw [List.length_append, row_len]
          rfl
        · show nWk (nWd mm) "field" _ a = _
          rw [nw_field]
          rfl
    have h6 : kd ≠ "field" := fun e => h6 (decide_eq_true (congrArg V.str e))
    refine ⟨_, rfl, rfl, _, rfl, ite2 (fun h => ?_) (fun h7 => ?_)⟩
    · -- list
      have e : kd = "list" := V.str.inj (of_decide_eq_true h)
      subst e
      obtain ⟨mm, xs, rfl, rfl, l3, xx⟩ := F.list rfl
      obtain ⟨vx, rfl, t2⟩ := ta1 hy
      obtain ⟨qx, us0, rfl, hqx, tx⟩ := t_tup t2
      refine ⟨_, rfl, _, _, _, _, rfl, rfl, SqT.of (D2.tk _ _ ha), atI_nat (j := 1) rfl, _, rfl, ⟨_, SqT.of (D2.tk _ _ hqx)⟩, fun D hD => ?_⟩
      refine lc_tup (K := K) (a := qx) (xs := us0) (fun i H' => ∃ us wss c', Lst o D H2 H' c c' ((xs.take i).map fun d => nIn (nWd mm) d 1 false) us wss)
        ⟨[], [], c, Lst.nil (DrO.bgo B D2) hD⟩ (fun i H' _ ⟨_, _, _, L⟩ => SqT.of (L.dr.tk _ _ (D2.tk _ _ hqx))) ?_ ?_
      · rintro i x H' hi ⟨us, wss, c', L⟩
        obtain ⟨d, hd, td⟩ := tx.get hi
        have li := (List.getElem?_eq_some_iff.mp hd).1
        have D' := D2.trans L.dr
        refine ⟨rfl, _, rfl, _, rfl, o, mm, bv, x, d, 1, c', false, rfl, by omega, by omega, xx d (List.mem_of_getElem? hd), td.keep D'.tk, DrO.bgo B D', fun q3 w3 H3 c3 n3 e3 l3 ct3 D3 => ?_⟩
        obtain ⟨hD3, L3⟩ := L.add (DrO.bgo B D2) hD n3 e3 l3 ct3 D3
        refine ⟨us, hD3, L.size (by rw [List.length_map, List.length_take]; omega), us ++ [.ref q3], wss ++ [w3], c3, ?_⟩
        rw [take_map hd]
        exact L3
      rintro H3 ⟨us, wss, c3, L⟩
      rw [tx.len, List.take_length] at L
      have D3 := D2.trans L.dr
      have ctB := L.btw
      have zB := ctB.le cr.1 D3.rng.2
      have yB := btwN_map (g := fun d => nIn (nWd mm) d 1 false) (fun x hx => nIn_2k (a := false) (l := 1) (xx x hx) (by omega : mm ≤ 3)) l3
      refine ⟨D, us, wss, rfl, SqL.of L.at_, L.len, L.wd, by omega, fun vB H4 s4 eB => ?_⟩
      have wlB : WL (btw true wss) := WL.btw L.wl
      have D4 := D3.same s4
      clear D2 D3 s4
      refine ⟨by show 1 ≤ sizeLine; decide, fun p6 hp6 => ⟨p6, ["["], rfl, SqL.of upd_same, by show 1 ≤ 1000; decide, fun q6 us_ H6 s_ n_ h_ t_ => ?_⟩⟩
      obtain ⟨_, s6, e6⟩ := row_e hp6 s_ n_ h_ t_
      refine ⟨_, rfl, cat_wd e6 (eB.same s6) (sz_of (by rw [row_len]; show 1 + _ ≤ _; omega)) fun q8 H8 _ s8 e8 => ?_⟩
      refine ⟨by show 1 ≤ sizeLine; decide, fun p6 hp6 => ⟨p6, ["]"], rfl, SqL.of upd_same, by show 1 ≤ 1000; decide, fun q6 us_ H9 s_ n_ h_ t_ => ?_⟩⟩
      obtain ⟨_, s9, e9⟩ := row_e hp6 s_ n_ h_ t_
      refine cat_wd (e8.same s9) e9 (sz_of (by rw [List.length_append, row_len, row_len]; show 1 + _ + 1 ≤ _; omega)) fun qA HA nA sA eA => ?_
      have D9 := ((D4.same s6).same s8).same s9
      refine k qA _ HA c3 (DrO.free B D9 nA) eA (.br (o := "[") (c := "]") (b := true) (by decide +kernel) wlB) ?_ (D9.same sA)
      refine (ctB.const 2).of ?_ ?_
      · rw [List.length_append, List.length_append, row_len, row_len]
        show 1 + _ + 1 = _
        omega
      · show nWk (nWd mm) "list" _ a = _
        rw [nw_list]
        show 1 + btwN (xs.map _) + 1 = _
        omega
    have h7 : kd ≠ "list" := fun e => h7 (decide_eq_true (congrArg V.str e))
    refine ⟨_, rfl, rfl, _, rfl, ite2 (fun h => ?_) (fun h8 => ?_)⟩
    · -- map
      have e : kd = "map" := V.str.inj (of_decide_eq_true h)
      subst e
      obtain ⟨mm, ps, rfl, rfl, l3, xk, xv⟩ := F.map rfl
      obtain ⟨vx, rfl, t2⟩ := ta1 hy
      obtain ⟨qx, us0, rfl, hqx, tx⟩ := t_tup t2
      refine ⟨by decide, fun D hD => ?_⟩
      have em : ∀ {i : Nat} {d : PyData}, (ps.map fun p => PyData.tuple [p.1, p.2])[i]? = some d → ∃ x ∈ ps, d = .tuple [x.1, x.2] := fun hi => by
        rw [List.getElem?_map] at hi
        obtain ⟨x, hx, rfl⟩ := Option.map_eq_some_iff.mp hi
        exact ⟨x, List.mem_of_getElem? hx, rfl⟩
      refine ⟨_, rfl, _, _, _, _, rfl, rfl, SqT.of (upd_some (D2.tk _ _ ha) hD), atI_nat (j := 1) rfl, qx, rfl, ⟨us0, SqT.of (upd_some (D2.tk _ _ hqx) hD)⟩,
        for_tup (K := K) (a := qx) (xs := us0) (fun i σ H' => ∃ us wss c' v10 v11, σ = [some bv, some (.ref p), some (.bl a), some (.str "map"), none, none, none, none, none, some (.ref D), v10, v11, none, none, none] ∧ Lst o D H2 H' c c' (((ps.map fun p => PyData.tuple [p.1, p.2]).take i).map fun d => nIn (nWd mm) (el (itm d) 0) 1 false + 1 + nIn (nWd mm) (el (itm d) 1) 1 false) us wss)
        ⟨[], [], c, none, none, rfl, Lst.nil (DrO.bgo B D2) hD⟩ (fun i σ' H' _ ⟨_, _, _, _, _, _, L⟩ => SqT.of (L.dr.tk _ _ (D2.tk _ _ hqx))) ?_ ?_⟩
      · rintro i x σ' H' hi ⟨us, wss, c', v10, v11, rfl, L⟩
        obtain ⟨d, hd, td⟩ := tx.get hi
        obtain ⟨pr, hpr, rfl⟩ := em hd
        obtain ⟨qp, xs2, rfl, hqp, t3⟩ := t_tup td
        obtain ⟨xk1, xv1, rfl, t4, t5⟩ := ta2 t3
        have li := (List.getElem?_eq_some_iff.mp hd).1
        rw [List.length_map] at li
        have D' := D2.trans L.dr
        refine ⟨qp, _, rfl, SqT.of (D'.tk _ _ hqp), rfl, _, _, rfl, _, _, rfl, rfl, ?_⟩
        refine ⟨_, rfl, .inl ⟨rfl, _, SqL.of L.at_⟩, ?_⟩
        refine ⟨_, rfl, _, rfl, o, mm, bv, xk1, _, 1, c', false, rfl, by omega, by omega, xk pr hpr, t4.keep D'.tk, DrO.bgo B D', fun q3 w3 H3 c3 _ e3 l3' ct3 D3 => ?_⟩
        have z3 := ct3.le D'.rng.1 D3.rng.2
        have y3 := nIn_2k (a := false) (l := 1) (xk pr hpr) (by omega : mm ≤ 3)
        have D3' := D'.trans D3
        refine ⟨by show 1 ≤ sizeLine; decide, fun p6 hp6 => ⟨p6, [":"], rfl, SqL.of upd_same, by show 1 ≤ 1000; decide, fun q6 us_ H6 s_ n_ h_ t_ => ?_⟩⟩
        obtain ⟨_, s6, e6⟩ := row_e hp6 s_ n_ h_ t_
        refine cat_wd (e3.same s6) e6 (sz_of (by rw [row_len]; show _ + 1 ≤ _; omega)) fun q7 H7 _ s7 e7 => ?_
        have D7 := (D3.same s6).same s7
        have D7' := D'.trans D7
        refine ⟨_, rfl, _, rfl, o, mm, bv, xv1, _, 1, c3, false, rfl, by omega, by omega, xv pr hpr, t5.keep D7'.tk, DrO.bgo B D7', fun q8 w8 H8 c8 _ e8 l8 ct8 D8 => ?_⟩
        have z8 := ct8.le D7.rng.1 D8.rng.2
        have y8 := nIn_2k (a := false) (l := 1) (xv pr hpr) (by omega : mm ≤ 3)
        refine cat_wd (DrO.wdl (DrO.bgo B D7') D8 e7) e8 (sz_of (by rw [List.length_append, row_len]; show _ + 1 + _ ≤ _; omega)) fun q9 H9 n9 s9 e9 => ?_
        have D9 := D7.trans D8
        have ct9 : Cnt o (nIn (nWd mm) (el (itm (.tuple [pr.1, pr.2])) 0) 1 false + 1 + nIn (nWd mm) (el (itm (.tuple [pr.1, pr.2])) 1) 1 false) (w3 ++ rowW [":"] ++ w8).length c' c8 := ((ct3.const 1).add ct8).of (by rw [List.length_append, List.length_append, row_len]; rfl) rfl
        obtain ⟨hD3, L3⟩ := L.add (DrO.bgo B D2) hD (DrO.free (DrO.bgo B D') D9 n9) e9 (.app (.app l3' (.one (fix_ok (by decide +kernel)))) l8) ct9 (D9.same s9)
        refine ⟨D, us, _, rfl, rfl, hD3, L.size (by rw [List.length_map, List.length_take]; omega), ?_⟩
        refine ⟨us ++ [.ref q9], wss ++ [w3 ++ rowW [":"] ++ w8], c8, _, _, rfl, ?_⟩
        rw [take_map hd]
        exact L3
      rintro σ' H3 ⟨us, wss, c3, v10, v11, rfl, L⟩
      rw [tx.len, List.take_length] at L
      have D3 := D2.trans L.dr
      have ctB := L.btw
      have zB := ctB.le cr.1 D3.rng.2
      have yB := btwN_map (g := fun d => nIn (nWd mm) (el (itm d) 0) 1 false + 1 + nIn (nWd mm) (el (itm d) 1) 1 false) (l := ps.map fun p => PyData.tuple [p.1, p.2]) (M := 4005) (fun x hx => by
        obtain ⟨p, hp, rfl⟩ := List.mem_map.mp hx
        have h1 := nIn_2k (a := false) (l := 1) (xk p hp) (by omega : mm ≤ 3)
        have h2 := nIn_2k (a := false) (l := 1) (xv p hp) (by omega : mm ≤ 3)
        exact Nat.le_trans (Nat.add_le_add (Nat.add_le_add_right h1 1) h2) (by omega)) (by rw [List.length_map]; exact l3)
      have wlB : WL (btw true wss) := WL.btw L.wl
      refine ⟨by show 1 ≤ sizeLine; decide, fun p6 hp6 => ⟨p6, ["{"], rfl, SqL.of upd_same, by show 1 ≤ 1000; decide, fun q6 us_ H6 s_ n_ h_ t_ => ?_⟩⟩
      obtain ⟨_, s6, e6⟩ := row_e hp6 s_ n_ h_ t_
      refine ⟨_, rfl, D, us, wss, rfl, SqL.of (s6 _ _ L.at_), L.len, fun i v ws h1 h2 => (L.wd i v ws h1 h2).same s6, by omega, fun vB H7 s7 eB => ?_⟩
      refine cat_wd (e6.same s7) eB (sz_of (by rw [row_len]; show 1 + _ ≤ _; omega)) fun q8 H8 _ s8 e8 => ?_
      refine ⟨by show 1 ≤ sizeLine; decide, fun p6 hp6 => ⟨p6, ["}"], rfl, SqL.of upd_same, by show 1 ≤ 1000; decide, fun q6 us_ H9 s_ n_ h_ t_ => ?_⟩⟩
      obtain ⟨_, s9, e9⟩ := row_e hp6 s_ n_ h_ t_
      refine cat_wd (e8.same s9) e9 (sz_of (by rw [List.length_append, row_len, row_len]; show 1 + _ + 1 ≤ _; omega)) fun qA HA nA sA eA => ?_
      have D9 := (((D3.same s6).same s7).same s8).same s9
      refine k qA _ HA c3 (DrO.free B D9 nA) eA (.br (o := "{") (c := "}") (b := true) (by decide +kernel) wlB) ?_ (D9.same sA)
      refine (ctB.const 2).of ?_ ?_
      · rw [List.length_append, List.length_append, row_len, row_len]
        show 1 + _ + 1 = _
        omega
      · show nWk (nWd mm) "map" _ a = _
        rw [nw_map]
        show 1 + btwN ((ps.map fun p => PyData.tuple [p.1, p.2]).map _) + 1 = _
        omega
    have h8 : kd ≠ "map" := fun e => h8 (decide_eq_true (congrArg V.str e))
    -- fn
    obtain ⟨rfl, mm, ns, b, rfl, rfl, l2, hns, xb⟩ := F.fn h1 h2 h3 h4 h5 h6 h7 h8
    obtain ⟨vn, vb, rfl, tn, tb⟩ := ta2 hy
    obtain ⟨qx, us0, rfl, hqx, tx⟩ := t_tup tn
    have e0 := ta_strs tx
    subst e0
    refine ⟨_, rfl, _, _, _, _, rfl, rfl, SqT.of (D2.tk _ _ ha), atI_nat (j := 1) rfl, _, rfl, ⟨_, SqT.of (D2.tk _ _ hqx)⟩, fun D hD => ?_⟩
    refine lc_tup (K := K) (a := qx) (xs := ns.map V.str) (fun i H' => ∃ us wss, Lst o D H2 H' c c ((ns.take i).map fun _ => 1) us wss)
      ⟨[], [], Lst.nil (DrO.bgo B D2) hD⟩ (fun i H' _ ⟨_, _, L⟩ => SqT.of (L.dr.tk _ _ (D2.tk _ _ hqx))) ?_ ?_
    · rintro i x H' hi ⟨us, wss, L⟩
      rw [List.getElem?_map] at hi
      obtain ⟨z, hz, rfl⟩ := Option.map_eq_some_iff.mp hi
      have li := (List.getElem?_eq_some_iff.mp hz).1
      refine ⟨rfl, _, rfl, by show 1 ≤ sizeLine; decide, fun p6 hp6 => ⟨p6, [z], rfl, SqL.of upd_same, by show 1 ≤ 1000; decide, fun q6 us_ H6 s_ n_ h_ t_ => ?_⟩⟩
      obtain ⟨n6, s6, e6⟩ := row_e hp6 s_ n_ h_ t_
      have B' := DrO.bgo B (D2.trans L.dr)
      obtain ⟨hD3, L3⟩ := L.add (DrO.bgo B D2) hD n6 e6 (.one (.name (hns z (List.mem_of_getElem? hz)))) (.refl rfl) ((DrO.refl B').same s6)
      refine ⟨us, hD3, L.size (by rw [List.length_map, List.length_take]; omega), us ++ [.ref q6], wss ++ [rowW [z]], ?_⟩
      rw [take_map hz]
      exact L3
    rintro H3 ⟨us, wss, L⟩
    rw [List.length_map, List.take_length] at L
    have D3 := D2.trans L.dr
    have ctB := L.btw
    have zB := ctB.le cr.1 D3.rng.2
    have yB := btwN_map (g := fun _ : Str => 1) (l := ns) (M := 1) (fun _ _ => Nat.le_refl _) (Nat.le_succ_of_le l2)
    have wlB : WL (btw true wss) := WL.btw L.wl
    refine ⟨D, us, wss, rfl, SqL.of L.at_, L.len, L.wd, by omega, fun vB H4 s4 eB => ?_⟩
    have D4 := D3.same s4
    clear D3 s4
    refine ⟨by show 2 ≤ sizeLine; decide, fun p6 hp6 => ⟨p6, ["fn", "("], rfl, SqL.of upd_same, by show 2 ≤ 1000; decide, fun q6 us_ H6 s_ n_ h_ t_ => ?_⟩⟩
    obtain ⟨_, s6, e6⟩ := row_e hp6 s_ n_ h_ t_
    refine ⟨_, rfl, cat_wd e6 (eB.same s6) (sz_of (by rw [row_len]; show 2 + _ ≤ _; omega)) fun q7 H7 _ s7 e7 => ?_⟩
    refine ⟨by show 2 ≤ sizeLine; decide, fun p8 hp8 => ⟨p8, [")", "->"], rfl, SqL.of upd_same, by show 2 ≤ 1000; decide, fun q8 us_ H8 s_ n_ h_ t_ => ?_⟩⟩
    obtain ⟨_, s8, e8⟩ := row_e hp8 s_ n_ h_ t_
    refine cat_wd (e7.same s8) e8 (sz_of (by rw [List.length_append, row_len, row_len]; show 2 + _ + 2 ≤ _; omega)) fun q9 H9 _ s9 e9 => ?_
    have D9 := ((D4.same s6).same s7).same (s8.trans s9)
    refine ⟨_, rfl, _, rfl, _, _, _, _, rfl, rfl, SqT.of (D9.tk _ _ ha), atI_nat (j := 2) rfl, o, mm, bv, vb, b, 1, c, false, rfl, by omega, by omega, xb, tb.keep D9.tk, DrO.bgo B D9, fun qA wA HA cA _ eA lA ctA DA => ?_⟩
    have zA := ctA.le D9.rng.1 DA.rng.2
    have yA := nIn_2k (a := false) (l := 1) xb (by omega : mm ≤ 3)
    have e9 := DrO.wdl (DrO.bgo B D9) DA e9
    have DA := D9.trans DA
    refine cat_wd e9 eA (sz_of (by rw [List.length_append, List.length_append, row_len, row_len]; show 2 + _ + 2 + _ ≤ _; omega)) fun qB HB _ sB eB2 => ?_
    have DB := DA.same sB
    have ej : ∀ q : Bool, (if q = true then (1 : Int) else 0) = ((if q = true then 1 else 0 : Nat) : Int) := fun q => by cases q <;> rfl
    have jj : (if a = true then 1 else 0 : Nat) ≤ 1 := by split <;> omega
    refine ⟨by show 2 ≤ sizeLine; decide, fun p1 h1 => ⟨by show 1 ≤ sizeLine; decide, fun p2 h2 => ⟨_, rfl, .inr ⟨a, rfl, ?_⟩⟩⟩⟩
    have s5 := (same_new (o := .tup [.str "(", .bl false]) h1).trans (same_new (o := .lst [.ref p1]) h2)
    have e5 : (upd (upd HB p1 (.tup [.str "(", .bl false])) p2 (.lst [.ref p1])) p2 = some (.lst [.ref p1]) := upd_same
    have t5 : Tr (upd (upd HB p1 (.tup [.str "(", .bl false])) p2 (.lst [.ref p1])) (.ref p1) (wD ("(", false)) := (Tr.tup upd_same (.cons (.str _) (.cons (.bl _) .nil))).new h2
    generalize upd (upd HB p1 _) p2 _ = HC at s5 e5 t5 ⊢
    refine wd_repI e5 t5 (ej a) (by omega) fun vD HD sD wD1 => ⟨_, rfl, cat_wd wD1 ((eB2.same s5).same sD) (sz_of ?_) fun vE HE nE sE wE => ?_⟩
    · simp only [List.length_append, List.length_replicate, row_len]
      show _ + (2 + _ + 2 + _) ≤ _
      omega
    refine ⟨by show 2 ≤ sizeLine; decide, fun p1 h1 => ⟨by show 1 ≤ sizeLine; decide, fun p2 h2 => ⟨_, rfl, .inr ⟨a, rfl, ?_⟩⟩⟩⟩
    have s6' := (same_new (o := .tup [.str ")", .bl false]) h1).trans (same_new (o := .lst [.ref p1]) h2)
    have e6' : (upd (upd HE p1 (.tup [.str ")", .bl false])) p2 (.lst [.ref p1])) p2 = some (.lst [.ref p1]) := upd_same
    have t6' : Tr (upd (upd HE p1 (.tup [.str ")", .bl false])) p2 (.lst [.ref p1])) (.ref p1) (wD (")", false)) := (Tr.tup upd_same (.cons (.str _) (.cons (.bl _) .nil))).new h2
    generalize upd (upd HE p1 _) p2 _ = HF at s6' e6' t6' ⊢
    refine wd_repI e6' t6' (ej a) (by omega) fun vG HG sG wG => cat_wd ((wE.same s6').same sG) wG (sz_of ?_) fun vI HI nI sI wI => ?_
    · simp only [List.length_append, List.length_replicate, row_len]
      show _ + (2 + _ + 2 + _) + _ ≤ _
      omega
    have DG := ((((DB.same s5).same sD).same sE).same s6').same sG
    refine k vI _ HI cA (DrO.free B DG nI) wI (WL.wrap (.of (.app (.app (.one (z := "fn") (b := true) (fix_ok (by decide +kernel))) (.br (o := "(") (c := ")") (b := true) (by decide +kernel) wlB)) (.app (.one (z := "->") (b := true) (fix_ok (by decide +kernel))) lA)) ?_) _) ?_ (DG.same sI)
    · simp [rowW]
    · refine ((ctB.const (4 + (if a = true then 1 else 0) + (if a = true then 1 else 0))).add ctA).of ?_ ?_
      · simp only [List.length_append, List.length_replicate, row_len]
        show _ + (2 + _ + 2 + _) + _ = _
        omega
      · show nWk (nWd mm) "fn" _ a = _
        rw [nw_fn]
        show (if a then 1 else 0) + (2 + btwN ((ns.map PyData.str).map fun _ => 1) + 2 + nIn (nWd mm) b 1 false) + (if a then 1 else 0) = _
        rw [List.map_map]
        show (if a then 1 else 0) + (2 + btwN (ns.map fun _ => 1) + 2 + nIn (nWd mm) b 1 false) + (if a then 1 else 0) = _
        omega

open PySem.Builtin PySem.Builtin.Str PySem.StrLaws in
theorem sw_at {t y : Str} {k : Nat} (hy : 0 < y.length) : Txt.startswith3 t y (k : Int) = decide ((t.cps.toList.drop k).take y.length = y.cps.toList) := by
  unfold Txt.startswith3
  rw [from_nat]
  by_cases h : (t.cps.toList.drop k).take y.length = y.cps.toList
  · rw [decide_eq_true h, (sub_iff t y k).mpr h, Bool.and_true]
    refine decide_eq_true ?_
    have := take_len h (str_len y).symm hy
    rw [str_len t]
    exact this
  · rw [decide_eq_false h, Bool.eq_false_iff.mpr (fun z => h ((sub_iff t y k).mp z)), Bool.and_false]
theorem c_p_number_end (T : Txt K mg w) (c_p_run_end : Cal P w K mg base 1 "_run_end" spRunS []) : Cal P w K mg base 2 "_number_end" (spAt fun t i => .int (numE t.cps.toList i)) [] := by
  refine calOf T.d_p_number_end sc_p_number_end (fun vs H Q E h => ?_) (fun f cdv A outer s H vs Q E hr h => ?_)
  · obtain ⟨t, i, rfl, _⟩ := h
    rfl
  · obtain ⟨t, i, rfl, hz, hi, k⟩ := h
    refine ⟨_,
      (pss_cons (ps_set (i := 2) sc_p_number_end.nd rfl (Or.inl rfl) (pe_c c_p_run_end hr (by first | decide | omega) rfl (pa_cons (pv 0) (pa_cons (pv 1) (pa_cons (pe_gc rfl T.g_DIGITS) pa_nil)))))
        (pss_cons (ps_if (pt_not (pt_val (pe_bm PySem.F.plainAttrs_str PySem.F.slot_str_startswith PySem.F.type_str_startswith mt_startswith3 (pv 0) (pa_cons pe_str (pa_cons (pv 2) pa_nil)))))
        (pss_one (ps_ret (pv 2)))
        pss_nil)
        (pss_cons (ps_set (i := 3) sc_p_number_end.nd rfl (Or.inl rfl) (pe_c c_p_run_end hr (by first | decide | omega) rfl (pa_cons (pv 0) (pa_cons (pe_op op_add (pv 2) pe_int) (pa_cons (pe_gc rfl T.g_DIGITS) pa_nil)))))
        (pss_one (ps_ret (pe_ifExp (pt_cmpR op_gt (pv 3) (pe_op op_add (pv 2) pe_int) (nomark _)) (pv 3) (pv 2)))))))
      , ?_⟩
    have k : Q (.int (numE t.cps.toList i)) H := k
    unfold numE at k
    refine ⟨_, rfl, _, rfl, t, i, _, rfl, hz, ?_⟩
    rw [dig_in]
    generalize runE digC t.cps.toList i = e at k
    have w1 : Txt.startswith3 t "." (e : Int) = decide (t.cps.toList[e]? = some 46) := by
      rw [sw_at (by decide)]
      exact (cut_l t e 1 [46]).symm.trans (cut_one t e 46)
    refine ⟨_, rfl, rfl, _, rfl, _, _, _, rfl, rfl, _, rfl, ?_⟩
    rw [w1]
    refine ite2 (fun h3 => ?_) (fun h3 => ?_)
    · rw [if_neg (fun z => by rw [decide_eq_true z] at h3; cases h3)] at k
      exact ⟨_, rfl, k⟩
    · have q : t.cps.toList[e]? = some 46 := by
        by_cases z : t.cps.toList[e]? = some 46
        · exact z
        · exact absurd (by rw [decide_eq_false z]; rfl) h3
      rw [if_pos q] at k
      refine ⟨_, rfl, _, rfl, _, _, rfl, rfl, t, e + 1, _, rfl, hz, ?_⟩
      rw [dig_in]
      generalize runE digC t.cps.toList (e + 1) = e2 at k
      refine ⟨_, rfl, _, rfl, _, _, rfl, rfl, _, _, rfl, rfl, _, rfl, ?_⟩
      refine ite2 (fun h4 => ?_) (fun h4 => ?_)
      · rw [if_pos (by have := of_decide_eq_true h4; omega)] at k
        exact ⟨_, rfl, k⟩
      · rw [if_neg (fun z => h4 (decide_eq_true (by omega)))] at k
        exact ⟨_, rfl, k⟩
def spCls : Sp := fun vs H Q _ => ∃ (t : Str) (i : Nat) (a b : Str), vs = [.str t, .int i, .str a, .str b] ∧ a.length ≤ sizeLine ∧ b.length ≤ sizeLine ∧ Q (optV (clsE t b (i + a.length))) H
theorem cls_k2 {Q : VK} {H : Hp} {e : Int} {n : Nat} (k : Q (optV (if e < 0 then none else some (e.toNat + n))) H) :
    if decide (e < (0 : Int)) = true then Q .non H else Q (.int (e + n)) H := by
  by_cases h : e < 0
  · rw [if_pos h] at k
    rw [if_pos (decide_eq_true h)]
    exact k
  · rw [if_neg h] at k
    rw [if_neg (by rw [decide_eq_false h]; decide)]
    obtain ⟨m, rfl⟩ := Int.eq_ofNat_of_zero_le (Int.not_lt.mp h)
    exact k
theorem c_p_closed_end (T : Txt K mg w) : Cal P w K mg base 1 "_closed_end" spCls [] := by
  refine calOf T.d_p_closed_end sc_p_closed_end (fun vs H Q E h => ?_) (fun f cdv A outer s H vs Q E hr h => ?_)
  · obtain ⟨t, i, a, b, rfl, _⟩ := h
    rfl
  · obtain ⟨t, i, a, b, rfl, ha, hb, k⟩ := h
    refine ⟨_,
      (pss_cons (ps_set (i := 4) sc_p_closed_end.nd rfl (Or.inl rfl) (pe_bm PySem.F.plainAttrs_str PySem.F.slot_str_find PySem.F.type_str_find mt_find3 (pv 0) (pa_cons (pv 3) (pa_cons (pe_op op_add (pv 1) (pe_callB call_len (by rfl) T.n_len PySem.boot_len (pa_cons (pv 2) pa_nil))) pa_nil))))
        (pss_one (ps_ret (pe_ifExp (pt_cmpR op_lt (pv 4) pe_int (nomark _)) pe_non (pe_op op_add (pv 4) (pe_callB call_len (by rfl) T.n_len PySem.boot_len (pa_cons (pv 3) pa_nil)))))))
      , ?_⟩
    refine ⟨_, rfl, rfl, _, rfl, _, rfl, _, rfl, _, a.length, rfl, ⟨ha, rfl⟩, _, _, rfl, rfl, ?_⟩
    refine ⟨_, _, _, rfl, rfl, ?_⟩
    refine ⟨_, rfl, _, _, rfl, rfl, _, rfl, ?_⟩
    have k : Q (optV (if Txt.find3 t b ((i + a.length : Nat) : Int) < 0 then none else some ((Txt.find3 t b ((i + a.length : Nat) : Int)).toNat + b.length))) H := k
    exact ite_map (cls_k2 k) id (fun q => ⟨_, rfl, _, rfl, _, b.length, rfl, ⟨hb, rfl⟩, _, _, rfl, rfl, q⟩)
def sgnE : List Str → List Nat → Nat → Option Nat
  | [], _, _ => none
  | z :: r, D, i => if D.take z.length = z.cps.toList then some (i + z.length) else sgnE r D i
theorem sgn_app {B : List Str} {D : List Nat} {i n : Nat} : ∀ (A : List Str), (∀ z ∈ A, z.length = n) →
    sgnE (A ++ B) D i = if D.take n ∈ A.map (·.cps.toList) then some (i + n) else sgnE B D i
  | [], _ => by
    rw [if_neg (by simp)]
    rfl
  | z :: A, h => by
    have hz : z.length = n := h z (List.mem_cons_self ..)
    show (if D.take z.length = z.cps.toList then some (i + z.length) else sgnE (A ++ B) D i) = _
    rw [hz, List.map_cons]
    by_cases q : D.take n = z.cps.toList
    · rw [if_pos q, if_pos (by rw [q]; exact List.mem_cons_self ..)]
    · rw [if_neg q, sgn_app A fun y hy => h y (List.mem_cons_of_mem _ hy)]
      by_cases q2 : D.take n ∈ A.map (·.cps.toList)
      · rw [if_pos q2, if_pos (List.mem_cons_of_mem _ q2)]
      · rw [if_neg q2, if_neg (fun z => (List.mem_cons.mp z).elim q q2)]
theorem sgn_all {L : List Nat} {i c : Nat} (hc : L[i]? = some c) : sgnE tp_SIGNS (L.drop i) i = if (L.drop i).take 2 ∈ twoL then some (i + 2) else if c ∈ oneL then some (i + 1) else none := by
  have e : tp_SIGNS = tp_SIGNS.take 5 ++ (tp_SIGNS.drop 5 ++ []) := by rw [List.append_nil, List.take_append_drop]
  rw [e, sgn_app (n := 2) _ (by decide +kernel), sgn_app (n := 1) _ (by decide +kernel)]
  have e2 : (tp_SIGNS.take 5).map (·.cps.toList) = twoL := by decide +kernel
  have e1 : (tp_SIGNS.drop 5).map (·.cps.toList) = oneL.map fun c => [c] := by decide +kernel
  rw [e2, e1, drop_at hc]
  have m : (c :: L.drop (i + 1)).take 1 ∈ oneL.map (fun c => [c]) ↔ c ∈ oneL := by
    rw [List.mem_map]
    constructor
    · rintro ⟨a, h, e⟩
      have e : [a] = [c] := e
      cases e
      exact h
    · exact fun h => ⟨c, h, rfl⟩
  by_cases q : c ∈ oneL
  · rw [if_pos (m.mpr q), if_pos q]
  · rw [if_neg (fun z => q (m.mp z)), if_neg q]
    rfl
theorem sgn_step {l : List Str} {j : Nat} {z : Str} (h : l[j]? = some z) (D : List Nat) (i : Nat) :
    sgnE (l.drop j) D i = if D.take z.length = z.cps.toList then some (i + z.length) else sgnE (l.drop (j + 1)) D i := by
  obtain ⟨hl, rfl⟩ := List.getElem?_eq_some_iff.mp h
  rw [List.drop_eq_getElem_cons hl]
  rfl
theorem c_p_sign_end (T : Txt K mg w) : Cal P w K mg base 1 "_sign_end" (spAt fun t i => optV (sgnE tp_SIGNS (t.cps.toList.drop i) i)) [] := by
  obtain ⟨a_SIGNS, m_SIGNS, s_SIGNS⟩ := T.t_SIGNS
  refine calOf T.d_p_sign_end sc_p_sign_end (fun vs H Q E h => ?_) (fun f cdv A outer s H vs Q E hr h => ?_)
  · obtain ⟨t, i, rfl, _⟩ := h
    rfl
  · obtain ⟨t, i, rfl, hz, hi, k⟩ := h
    refine ⟨_,
      (pss_cons (ps_for PassesOwn.never rfl (pi_tup (pe_gc (v := V.ref a_SIGNS) rfl ⟨_, m_SIGNS, rfl⟩)) (pg_name (i := 2) sc_p_sign_end.nd rfl (Or.inl rfl))
        (pss_one (ps_if (pt_val (pe_bm PySem.F.plainAttrs_str PySem.F.slot_str_startswith PySem.F.type_str_startswith mt_startswith3 (pv 0) (pa_cons (pv 2) (pa_cons (pv 1) pa_nil))))
        (pss_one (ps_ret (pe_op op_add (pv 1) (pe_callB call_len (by rfl) T.n_len PySem.boot_len (pa_cons (pv 2) pa_nil)))))
        pss_nil)))
        (pss_one (ps_ret pe_non)))
      , ?_⟩
    have k : Q (optV (sgnE tp_SIGNS (t.cps.toList.drop i) i)) H := k
    generalize hw : sgnE tp_SIGNS (t.cps.toList.drop i) i = want at k
    refine ⟨a_SIGNS, rfl, ⟨_, s_SIGNS H⟩, for_tup (fun j σ' H' => ∃ v, σ' = [some (.str t), some (.int i), v] ∧ H' = H ∧ sgnE (tp_SIGNS.drop j) (t.cps.toList.drop i) i = want) ⟨none, rfl, rfl, hw⟩ (fun j σ' H' _ ⟨_, _, e, _⟩ => by rw [e]; exact s_SIGNS H) ?_ ?_⟩
    · rintro j y σ' H' hj ⟨v, rfl, rfl, hw⟩
      obtain ⟨z, hzj, rfl⟩ : ∃ z, tp_SIGNS[j]? = some z ∧ y = V.str z := by
        rw [List.getElem?_map] at hj
        cases e : tp_SIGNS[j]? with
        | none =>
          rw [e] at hj
          cases hj
        | some z =>
          rw [e] at hj
          cases hj
          exact ⟨z, rfl, rfl⟩
      have zl : 0 < z.length ∧ z.length ≤ 2 := by
        have all : ∀ z ∈ tp_SIGNS, 0 < z.length ∧ z.length ≤ 2 := by decide +kernel
        exact all z (List.mem_of_getElem? hzj)
      rw [sgn_step hzj] at hw
      refine ⟨_, rfl, rfl, _, rfl, _, rfl, _, _, _, rfl, rfl, _, rfl, ?_⟩
      rw [sw_at zl.1]
      refine ite2 (fun h1 => ?_) (fun h1 => ?_)
      · rw [if_pos (of_decide_eq_true h1)] at hw
        subst hw
        exact ⟨_, rfl, _, rfl, _, z.length, rfl, ⟨Nat.le_trans zl.2 (by decide), rfl⟩, _, _, rfl, rfl, k⟩
      · rw [if_neg (fun z => h1 (decide_eq_true z))] at hw
        exact ⟨_, rfl, rfl, hw⟩
    · rintro σ' H' ⟨v, rfl, rfl, hw⟩
      have hw : none = want := hw
      subst hw
      exact k

theorem esc2_mem {c : Nat} (e : c = 92) (r : List Nat) : decide ((⟨((c :: r).take 2).toArray⟩ : Str) ∈ tp_ESCAPES) = r.head?.any escC := by
  subst e
  cases r with
  | nil => decide +kernel
  | cons d q =>
    show decide ((⟨[92, d].toArray⟩ : Str) ∈ tp_ESCAPES) = escC d
    rw [← esc_mem d]
    refine decide_eq_decide.mpr ?_
    unfold tp_ESCAPES
    simp only [List.mem_cons, List.not_mem_nil, or_false]
    have e1 : ∀ (a : Nat), ((⟨#[d]⟩ : Str) = (⟨#[a]⟩ : Str)) ↔ d = a := fun a => ⟨fun h => by injection h with h; injection h with h; injection h, fun h => by rw [h]⟩
    have e2 : ∀ (a : Nat), ((⟨[92, d].toArray⟩ : Str) = (⟨#[92, a]⟩ : Str)) ↔ d = a := fun a => ⟨fun h => by injection h with h; injection h with h; injection h with _ h; injection h, fun h => by rw [h]⟩
    exact or_congr ((e2 34).trans (e1 34).symm) (or_congr ((e2 92).trans (e1 92).symm) (or_congr ((e2 110).trans (e1 110).symm) ((e2 116).trans (e1 116).symm)))
theorem c_p_quote_end (T : Txt K mg w) : Cal P w K mg base 1 "_quote_end" (spAt fun t i => optV (quoE (t.cps.toList.drop (i + 1)) (i + 1))) [] := by
  obtain ⟨a_ESCAPES, m_ESCAPES, s_ESCAPES⟩ := T.t_ESCAPES
  refine calOf T.d_p_quote_end sc_p_quote_end (fun vs H Q E h => ?_) (fun f cdv A outer s H vs Q E hr h => ?_)
  · obtain ⟨t, i, rfl, _⟩ := h
    rfl
  · obtain ⟨t, i, rfl, hz, hi, k⟩ := h
    refine ⟨_,
      (pss_cons (ps_set (i := 2) sc_p_quote_end.nd rfl (Or.inl rfl) (pe_op op_add (pv 1) pe_int))
        (pss_cons (ps_while PassesOwn.never (PW.pt (pw_and (pt_cmpR op_lt (pv 2) (pe_callB call_len (by rfl) T.n_len PySem.boot_len (pa_cons (pv 0) pa_nil)) (nomark _)) (pw_and1 (pt_cmpR op_ne (pe_ix ix_str (pv 0) (pv 2) (fun _ _ => rfl)) pe_str (nomark _)))))
        (pss_cons (ps_if (pt_cmpR op_eq (pe_ix ix_str (pv 0) (pv 2) (fun _ _ => rfl)) pe_str (nomark _))
        (pss_one (ps_ret (pe_op op_add (pv 2) pe_int)))
        pss_nil)
        (pss_cons (ps_if (pt_cmpR op_eq (pe_ix ix_str (pv 0) (pv 2) (fun _ _ => rfl)) pe_str (nomark _))
        (pss_cons (ps_if (pt_cmpR op_notIn_seq (pe_slice sl_str (pv 0) (po_some (pv 2)) (po_some (pe_op op_add (pv 2) pe_int))) (pe_gc (v := V.ref a_ESCAPES) rfl ⟨_, m_ESCAPES, rfl⟩) (by rfl))
        (pss_one (ps_ret pe_non))
        pss_nil)
        (pss_one (ps_aug (i := 2) sc_p_quote_end.nd rfl (Or.inl rfl) pe_int ip_add)))
        pss_nil)
        (pss_one (ps_aug (i := 2) sc_p_quote_end.nd rfl (Or.inl rfl) pe_int ip_add)))))
        (pss_one (ps_ret pe_non))))
      , ?_⟩
    have k : Q (optV (quoE (t.cps.toList.drop (i + 1)) (i + 1))) H := k
    refine ⟨_, rfl, _, _, rfl, rfl, ?_⟩
    generalize hq : quoE (t.cps.toList.drop (i + 1)) (i + 1) = want at k
    refine ⟨fun m σ' H' => ∃ j : Nat, σ' = [some (.str t), some (.int i), some (.int j)] ∧ H' = H ∧ quoE (t.cps.toList.drop j) j = want ∧ m = t.length - j,
      ⟨_, i + 1, rfl, rfl, hq, rfl⟩, ?_⟩
    rintro m σ' H' ⟨j, rfl, rfl, hw, rfl⟩
    refine ⟨_, rfl, _, rfl, _, t.length, rfl, ⟨hz, rfl⟩, _, _, rfl, rfl, _, rfl, ?_⟩
    refine ite2 (fun h1 => ?_) (fun h1 => ?_)
    · have hlt : j < t.length := by
        have := of_decide_eq_true h1
        omega
      obtain ⟨c, hc⟩ := at_lt hlt
      rw [drop_at hc] at hw
      refine ⟨_, rfl, _, rfl, _, _, c, rfl, rfl, hz, atI_nat hc, rfl, _, rfl, ?_⟩
      refine ite2 (fun h2 => ?_) (fun h2 => ?_)
      · have h2' : (!decide (V.str ⟨#[c]⟩ = V.str "\n")) = true := h2
        rw [show decide (V.str ⟨#[c]⟩ = V.str "\n") = decide (c = 10) from eq_one 10 c] at h2'
        have n10 : c ≠ 10 := fun z => by rw [decide_eq_true z] at h2'; cases h2'
        refine ⟨fun σ' H2 => ∃ m', m' < t.length - j ∧ ∃ j : Nat, σ' = [some (.str t), some (.int i), some (.int j)] ∧ H2 = H' ∧ quoE (t.cps.toList.drop j) j = want ∧ m' = t.length - j, fun _ _ h => h, ?_⟩
        refine ⟨_, rfl, _, rfl, _, _, c, rfl, rfl, hz, atI_nat hc, rfl, _, rfl, ?_⟩
        rw [show decide (V.str ⟨#[c]⟩ = V.str "\"") = decide (c = 34) from eq_one 34 c]
        refine ite2 (fun h3 => ?_) (fun h3 => ?_)
        · have e34 := of_decide_eq_true h3
          subst e34
          rw [quo_34] at hw
          subst hw
          exact ⟨_, rfl, _, _, rfl, rfl, k⟩
        · have n34 : c ≠ 34 := fun z => h3 (decide_eq_true z)
          refine ⟨_, rfl, _, rfl, _, _, c, rfl, rfl, hz, atI_nat hc, rfl, _, rfl, ?_⟩
          rw [show decide (V.str ⟨#[c]⟩ = V.str "\\") = decide (c = 92) from eq_one 92 c]
          refine ite2 (fun h4 => ?_) (fun h4 => ?_)
          · have e92 := of_decide_eq_true h4
            subst e92
            refine ⟨_, rfl, _, rfl, _, rfl, _, rfl, _, _, rfl, rfl, _, rfl, _, rfl, hz, a_ESCAPES, _, rfl, .inr (s_ESCAPES _), rfl, rfl, _, rfl, ?_⟩
            have ei : inV (.str (cutS t (some (j : Int)) (some ((j + 2 : Nat) : Int)))) (tp_ESCAPES.map V.str) = (t.cps.toList[j + 1]?.any escC) := by
              rw [inV_strs, cut2 t (by omega), Nat.add_sub_cancel_left, drop_at hc, esc2_mem rfl, List.head?_drop]
            refine ite2 (fun h5 => ?_) (fun h5 => ?_)
            · have h5' : (!inV (.str (cutS t (some (j : Int)) (some ((j + 2 : Nat) : Int)))) (tp_ESCAPES.map V.str)) = true := h5
              rw [ei] at h5'
              have hw : none = want := by
                rw [← hw]
                cases e : t.cps.toList[j + 1]? with
                | none => rw [List.drop_eq_nil_iff.mpr (List.getElem?_eq_none_iff.mp e), quo_92]
                | some d =>
                  rw [e] at h5'
                  have : escC d = false := by
                    cases q : escC d with
                    | false => rfl
                    | true =>
                      rw [show (some d : Option Nat).any escC = escC d from rfl, q] at h5'
                      cases h5'
                  rw [drop_at e, quo_esc, this] <;> rfl
              subst hw
              exact k
            · have h5' : ¬ (!inV (.str (cutS t (some (j : Int)) (some ((j + 2 : Nat) : Int)))) (tp_ESCAPES.map V.str)) = true := h5
              rw [ei] at h5'
              cases e : t.cps.toList[j + 1]? with
              | none =>
                rw [e] at h5'
                exact absurd rfl h5'
              | some d =>
                rw [e] at h5'
                have hd : escC d = true := by
                  cases q : escC d with
                  | true => rfl
                  | false =>
                    rw [show (some d : Option Nat).any escC = escC d from rfl, q] at h5'
                    exact absurd rfl h5'
                have l2 : j + 1 < t.length := by
                  rw [str_len]
                  exact len_at e
                rw [drop_at e, quo_esc, if_pos hd] at hw
                refine ⟨_, rfl, _, _, rfl, rfl, ?_⟩
                refine ⟨_, rfl, _, _, rfl, rfl, ?_⟩
                exact ⟨_, (by omega : t.length - (j + 2) < t.length - j), j + 2, rfl, rfl, hw, rfl⟩
          · have n92 : c ≠ 92 := fun q => h4 (decide_eq_true q)
            rw [quo_on _ _ n34 n10 n92] at hw
            refine ⟨_, rfl, _, _, rfl, rfl, ?_⟩
            exact ⟨_, (by omega : t.length - (j + 1) < t.length - j), j + 1, rfl, rfl, hw, rfl⟩
      · have h2' : ¬ (!decide (V.str ⟨#[c]⟩ = V.str "\n")) = true := h2
        rw [show decide (V.str ⟨#[c]⟩ = V.str "\n") = decide (c = 10) from eq_one 10 c] at h2'
        have e10 : c = 10 := by
          by_cases q : c = 10
          · exact q
          · exact absurd (by rw [decide_eq_false q]; rfl) h2'
        subst e10
        rw [quo_10] at hw
        subst hw
        exact k
    · have hge : t.cps.toList.length ≤ j := by
        have : ¬ ((j : Int) < (t.length : Int)) := fun q => h1 (decide_eq_true q)
        rw [← str_len]
        omega
      refine iteF ?_
      rw [List.drop_eq_nil_iff.mpr hge] at hw
      have hw : none = want := by rw [← hw]; unfold quoE; rfl
      subst hw
      exact k

def kdA (t : Str) (i c : Nat) : Str :=
  if (t.cps.toList.drop i).take 2 = [60, 42] then "block" else if (t.cps.toList.drop i).take 3 = [39, 39, 39] then "raw" else if c = 34 then "quote" else if c = 35 then "line"
  else if digC c then "number" else if letC c then (if (⟨((t.cps.toList.drop i).take (runE wrdC t.cps.toList i - i)).toArray⟩ : Str) ∈ tp_KEYWORDS then "keyword" else "name") else "sign"
theorem dig_not_let {c : Nat} (h : digC c = true) : letC c = false := by
  unfold digC at h
  rw [Bool.and_eq_true, decide_eq_true_eq, decide_eq_true_eq] at h
  unfold letC
  rw [decide_eq_false (by omega : ¬ 97 ≤ c), decide_eq_false (by omega : ¬ 65 ≤ c), decide_eq_false (by omega : ¬ c = 95)]
  rfl
theorem wrd_sgn {t : Str} {i c : Nat} (hc : t.cps.toList[i]? = some c) (h1 : ¬ (t.cps.toList.drop i).take 2 = [60, 42]) (h2 : ¬ (t.cps.toList.drop i).take 3 = [39, 39, 39]) (h3 : ¬ c = 34) (h4 : ¬ c = 35)
    (h5 : ¬ digC c = true) (h6 : ¬ letC c = true) : wrdE t i = sgnE tp_SIGNS (t.cps.toList.drop i) i := by
  rw [wrd_at hc, sgn_all hc, if_neg h6, if_neg h5, if_neg h3]
  by_cases q : c = 39
  · subst q
    rw [if_pos rfl, if_neg h2, if_neg, if_neg (by decide)]
    rw [drop_at hc]
    intro hm
    have all : ∀ l ∈ twoL, l.head? ≠ some 39 := by decide
    exact all _ hm rfl
  · rw [if_neg q, if_neg h4, if_neg h1]
theorem take_hd {L : List Nat} {i c a n : Nat} {l : List Nat} (hc : L[i]? = some c) (h : (L.drop i).take (n + 1) = a :: l) : c = a := by
  rw [drop_at hc, List.take_succ_cons] at h
  injection h
def spWA : Sp := fun vs H Q _ => ∃ (t : Str) (i : Nat), vs = [.str t, .int i] ∧ t.length ≤ sizeLine ∧ i < t.length ∧
  ∀ c p, t.cps.toList[i]? = some c → H p = none → Q (.ref p) (upd H p (.tup [.str (kdA t i c), optV (wrdE t i)]))
theorem c_p_word_at (T : Txt K mg w) (c_p_line_end : Cal P w K mg base 1 "line_end" (spAt fun t i => .int (runE notNl t.cps.toList i)) []) (c_p_run_end : Cal P w K mg base 1 "_run_end" spRunS [])
    (c_p_number_end : Cal P w K mg base 2 "_number_end" (spAt fun t i => .int (numE t.cps.toList i)) []) (c_p_quote_end : Cal P w K mg base 1 "_quote_end" (spAt fun t i => optV (quoE (t.cps.toList.drop (i + 1)) (i + 1))) [])
    (c_p_closed_end : Cal P w K mg base 1 "_closed_end" spCls []) (c_p_sign_end : Cal P w K mg base 1 "_sign_end" (spAt fun t i => optV (sgnE tp_SIGNS (t.cps.toList.drop i) i)) []) :
    Cal P w K mg base 3 "word_at" spWA [] := by
  obtain ⟨a_KEYWORDS, m_KEYWORDS, s_KEYWORDS⟩ := T.t_KEYWORDS
  refine calOf T.d_p_word_at sc_p_word_at (fun vs H Q E h => ?_) (fun f cdv A outer s H vs Q E hr h => ?_)
  · obtain ⟨t, i, rfl, _⟩ := h
    rfl
  · obtain ⟨t, i, rfl, hz, hi, k⟩ := h
    refine ⟨_,
      (pss_cons (ps_if (pt_val (pe_bm PySem.F.plainAttrs_str PySem.F.slot_str_startswith PySem.F.type_str_startswith mt_startswith3 (pv 0) (pa_cons pe_str (pa_cons (pv 1) pa_nil))))
        (pss_one (ps_ret (pe_tup (pa_cons pe_str (pa_cons (pe_c c_p_closed_end hr (by first | decide | omega) rfl (pa_cons (pv 0) (pa_cons (pv 1) (pa_cons pe_str (pa_cons pe_str pa_nil))))) pa_nil)))))
        pss_nil)
        (pss_cons (ps_if (pt_val (pe_bm PySem.F.plainAttrs_str PySem.F.slot_str_startswith PySem.F.type_str_startswith mt_startswith3 (pv 0) (pa_cons pe_str (pa_cons (pv 1) pa_nil))))
        (pss_one (ps_ret (pe_tup (pa_cons pe_str (pa_cons (pe_c c_p_closed_end hr (by first | decide | omega) rfl (pa_cons (pv 0) (pa_cons (pv 1) (pa_cons pe_str (pa_cons pe_str pa_nil))))) pa_nil)))))
        pss_nil)
        (pss_cons (ps_if (pt_cmpR op_eq (pe_ix ix_str (pv 0) (pv 1) (fun _ _ => rfl)) pe_str (nomark _))
        (pss_one (ps_ret (pe_tup (pa_cons pe_str (pa_cons (pe_c c_p_quote_end hr (by first | decide | omega) rfl (pa_cons (pv 0) (pa_cons (pv 1) pa_nil))) pa_nil)))))
        pss_nil)
        (pss_cons (ps_if (pt_cmpR op_eq (pe_ix ix_str (pv 0) (pv 1) (fun _ _ => rfl)) pe_str (nomark _))
        (pss_one (ps_ret (pe_tup (pa_cons pe_str (pa_cons (pe_c c_p_line_end hr (by first | decide | omega) rfl (pa_cons (pv 0) (pa_cons (pv 1) pa_nil))) pa_nil)))))
        pss_nil)
        (pss_cons (ps_if (pt_cmpR op_in_sign (pe_ix ix_str (pv 0) (pv 1) (fun _ _ => rfl)) (pe_gc rfl T.g_DIGITS) (by rfl))
        (pss_one (ps_ret (pe_tup (pa_cons pe_str (pa_cons (pe_c c_p_number_end hr (by first | decide | omega) rfl (pa_cons (pv 0) (pa_cons (pv 1) pa_nil))) pa_nil)))))
        pss_nil)
        (pss_cons (ps_if (pt_cmpR op_in_sign (pe_ix ix_str (pv 0) (pv 1) (fun _ _ => rfl)) (pe_gc rfl T.g_LETTERS) (by rfl))
        (pss_cons (ps_set (i := 2) sc_p_word_at.nd rfl (Or.inl rfl) (pe_c c_p_run_end hr (by first | decide | omega) rfl (pa_cons (pv 0) (pa_cons (pv 1) (pa_cons (pe_op op_add_str (pe_gc rfl T.g_LETTERS) (pe_gc rfl T.g_DIGITS)) pa_nil)))))
        (pss_one (ps_ret (pe_tup (pa_cons (pe_ifExp (pt_cmpR op_in_seq (pe_slice sl_str (pv 0) (po_some (pv 1)) (po_some (pv 2))) (pe_gc (v := V.ref a_KEYWORDS) rfl ⟨_, m_KEYWORDS, rfl⟩) (by rfl)) pe_str pe_str) (pa_cons (pv 2) pa_nil))))))
        pss_nil)
        (pss_one (ps_ret (pe_tup (pa_cons pe_str (pa_cons (pe_c c_p_sign_end hr (by first | decide | omega) rfl (pa_cons (pv 0) (pa_cons (pv 1) pa_nil))) pa_nil)))))))))))
      , ?_⟩
    obtain ⟨c, hc⟩ := at_lt hi
    have k : ∀ p, H p = none → Q (.ref p) (upd H p (.tup [.str (kdA t i c), optV (wrdE t i)])) := fun p => k c p hc
    unfold kdA at k
    have wa := wrd_at hc
    refine ⟨_, rfl, rfl, _, rfl, _, _, _, rfl, rfl, _, rfl, ?_⟩
    rw [sw_at (by decide)]
    refine ite2 (fun h1 => ?_) (fun h1 => ?_)
    · have q1 : (t.cps.toList.drop i).take 2 = [60, 42] := of_decide_eq_true h1
      have e := take_hd hc q1
      subst e
      rw [if_neg (by decide), if_neg (by decide), if_neg (by decide), if_neg (by decide), if_neg (by decide), if_pos q1] at wa
      rw [wa, if_pos q1] at k
      exact ⟨_, rfl, _, rfl, t, i, _, _, rfl, (by decide), (by decide), (by show 2 ≤ sizeLine; decide), fun p hp => k p hp⟩
    · have q1 : ¬ (t.cps.toList.drop i).take 2 = [60, 42] := fun z => h1 (decide_eq_true z)
      rw [if_neg q1] at k
      refine ⟨_, rfl, rfl, _, rfl, _, _, _, rfl, rfl, _, rfl, ?_⟩
      rw [sw_at (by decide)]
      refine ite2 (fun h2 => ?_) (fun h2 => ?_)
      · have q2 : (t.cps.toList.drop i).take 3 = [39, 39, 39] := of_decide_eq_true h2
        have e := take_hd hc q2
        subst e
        rw [if_neg (by decide), if_neg (by decide), if_neg (by decide), if_pos rfl, if_pos q2] at wa
        rw [wa, if_pos q2] at k
        exact ⟨_, rfl, _, rfl, t, i, _, _, rfl, (by decide), (by decide), (by show 2 ≤ sizeLine; decide), fun p hp => k p hp⟩
      · have q2 : ¬ (t.cps.toList.drop i).take 3 = [39, 39, 39] := fun z => h2 (decide_eq_true z)
        rw [if_neg q2] at k
        refine ⟨_, rfl, _, rfl, _, _, c, rfl, rfl, hz, atI_nat hc, rfl, _, rfl, ?_⟩
        rw [show decide (V.str ⟨#[c]⟩ = V.str "\"") = decide (c = 34) from eq_one 34 c]
        refine ite2 (fun h3 => ?_) (fun h3 => ?_)
        · have e := of_decide_eq_true h3
          subst e
          rw [if_neg (by decide), if_neg (by decide), if_pos rfl] at wa
          rw [wa, if_pos rfl] at k
          exact ⟨_, rfl, _, rfl, t, i, rfl, hz, hi, (by show 2 ≤ sizeLine; decide), fun p hp => k p hp⟩
        · have q3 : ¬ c = 34 := fun z => h3 (decide_eq_true z)
          rw [if_neg q3] at k
          refine ⟨_, rfl, _, rfl, _, _, c, rfl, rfl, hz, atI_nat hc, rfl, _, rfl, ?_⟩
          rw [show decide (V.str ⟨#[c]⟩ = V.str "#") = decide (c = 35) from eq_one 35 c]
          refine ite2 (fun h4 => ?_) (fun h4 => ?_)
          · have e := of_decide_eq_true h4
            subst e
            rw [if_neg (by decide), if_neg (by decide), if_neg (by decide), if_neg (by decide), if_pos rfl] at wa
            rw [wa, if_pos rfl] at k
            exact ⟨_, rfl, _, rfl, t, i, rfl, hz, hi, (by show 2 ≤ sizeLine; decide), fun p hp => k p hp⟩
          · have q4 : ¬ c = 35 := fun z => h4 (decide_eq_true z)
            rw [if_neg q4] at k
            refine ⟨_, rfl, _, rfl, _, _, c, rfl, rfl, hz, atI_nat hc, c, _, rfl, rfl, _, rfl, ?_⟩
            rw [show decide (c ∈ ("0123456789" : Str).cps.toList) = digC c from congrFun dig_in c]
            refine ite2 (fun h5 => ?_) (fun h5 => ?_)
            · rw [dig_not_let h5, if_neg (by decide), if_pos h5] at wa
              rw [wa, if_pos h5] at k
              exact ⟨_, rfl, _, rfl, t, i, rfl, hz, hi, (by show 2 ≤ sizeLine; decide), fun p hp => k p hp⟩
            · rw [if_neg h5] at k
              refine ⟨_, rfl, _, rfl, _, _, c, rfl, rfl, hz, atI_nat hc, c, _, rfl, rfl, _, rfl, ?_⟩
              rw [show decide (c ∈ ("ABCDEFGHIJKLMNOPQRSTUVWXYZ_abcdefghijklmnopqrstuvwxyz" : Str).cps.toList) = letC c from congrFun let_in c]
              refine ite2 (fun h6 => ?_) (fun h6 => ?_)
              · rw [if_pos h6] at wa
                rw [wa, if_pos h6] at k
                refine ⟨_, rfl, _, rfl, _, _, rfl, rfl, (by decide), t, i, _, rfl, hz, ?_⟩
                rw [wrd_inC]
                have rg := run_ge wrdC t.cps.toList i
                have rl : runE wrdC t.cps.toList i ≤ t.length := by
                  rw [str_len]
                  exact run_le (Nat.le_of_lt (len_at hc))
                generalize runE wrdC t.cps.toList i = e at k rg rl
                refine ⟨_, rfl, _, rfl, _, rfl, _, rfl, _, rfl, _, rfl, hz, a_KEYWORDS, _, rfl, .inr (s_KEYWORDS _), rfl, rfl, _, rfl, ?_⟩
                have ei : inV (.str (cutS t (some (i : Int)) (some (e : Int)))) (tp_KEYWORDS.map V.str) = decide ((⟨((t.cps.toList.drop i).take (e - i)).toArray⟩ : Str) ∈ tp_KEYWORDS) := by
                  rw [inV_strs, cut2 t rg]
                refine ite2 (fun h7 => ?_) (fun h7 => ?_)
                · rw [if_pos (of_decide_eq_true (ei.symm.trans h7))] at k
                  exact ⟨_, rfl, (by show 2 ≤ sizeLine; decide), fun p hp => k p hp⟩
                · rw [if_neg (fun z => h7 (ei.trans (decide_eq_true z)))] at k
                  exact ⟨_, rfl, (by show 2 ≤ sizeLine; decide), fun p hp => k p hp⟩
              · rw [wrd_sgn hc q1 q2 q3 q4 h5 h6, if_neg h6] at k
                exact ⟨_, rfl, _, rfl, t, i, rfl, hz, hi, (by show 2 ≤ sizeLine; decide), fun p hp => k p hp⟩


theorem ex_up : ∀ {n : Nat} {d : PyData}, Ex n d → Ex (n + 1) d := by
  intro n
  induction n with
  | zero =>
    intro d hx
    cases hx with
    | leaf h => exact .leaf h
  | succ n ih =>
    intro d hx
    have ih : ∀ {d : PyData}, Ex n d → Ex (n + 1) d := ih
    cases hx with
    | leaf h => exact .leaf h
    | two ho hl hr => exact .two ho (ih hl) (ih hr)
    | not h => exact .not (ih h)
    | minus h => exact .minus (ih h)
    | call h l hs => exact .call (ih h) l fun d hd => ih (hs d hd)
    | field h hz => exact .field (ih h) hz
    | index h h2 => exact .index (ih h) (ih h2)
    | list l hs => exact .list l fun d hd => ih (hs d hd)
    | map l hk hv => exact .map l (fun p hp => ih (hk p hp)) fun p hp => ih (hv p hp)
    | fn l hn hb => exact .fn l hn (ih hb)
theorem ex3 {m : Nat} {d : PyData} (h : Ex m d) (l : m ≤ 3) : Ex 3 d := by
  have : m = 0 ∨ m = 1 ∨ m = 2 ∨ m = 3 := by omega
  rcases this with rfl | rfl | rfl | rfl
  · exact ex_up (ex_up (ex_up h))
  · exact ex_up (ex_up h)
  · exact ex_up h
  · exact h
/-- words of a whole expression -/
def nE (d : PyData) : Nat := nIn (nWd 3) d 1 false
theorem nE_le {d : PyData} (h : Ex 3 d) : nE d ≤ 2002 := nIn_2k h (Nat.le_refl _)
def nBk (g : PyData → Nat) (b : PyData) : Nat := 1 + ((itm b).map g).sum + 1
def isIf : PyData → Bool
  | .tuple (.str k :: _) => decide (k = "if")
  | _ => false
def nElse (g : PyData → Nat) : PyData → Nat
  | .none => 0
  | d => 1 + (if isIf d = true then g d else nBk g d)
theorem isIf_if {ds : List PyData} : isIf (.tuple (.str "if" :: ds)) = true := by
  show decide (("if" : Str) = "if") = true
  exact decide_eq_true rfl
theorem nElse_if {g : PyData → Nat} {ds : List PyData} : nElse g (.tuple (.str "if" :: ds)) = 1 + g (.tuple (.str "if" :: ds)) := by
  show 1 + (if isIf (.tuple (.str "if" :: ds)) = true then _ else _) = _
  rw [if_pos isIf_if]
theorem nElse_bl {g : PyData → Nat} {cs : List PyData} (h : isIf (.tuple cs) = false) : nElse g (.tuple cs) = 1 + nBk g (.tuple cs) := by
  show 1 + (if isIf (.tuple cs) = true then _ else _) = _
  rw [h]
  rfl
def nGive : PyData → Nat
  | .none => 0
  | d => nE d
def nSk (g : PyData → Nat) (k : Str) (ds : List PyData) : Nat :=
  if k ∈ (["let", "set"] : List Str) then 3 + nE (el ds 1) + 1
  else if k = "give" then 1 + nGive (el ds 0) + 1
  else if k = "do" then nE (el ds 0) + 1
  else if k = "if" then 1 + nE (el ds 0) + nBk g (el ds 1) + nElse g (el ds 2)
  else if k = "while" then 1 + nE (el ds 0) + nBk g (el ds 1)
  else if k = "for" then 3 + nE (el ds 1) + nBk g (el ds 2)
  else 3 + btwN ((itm (el ds 1)).map fun _ => 1) + 1 + nBk g (el ds 2)
def nSt : Nat → PyData → Nat
  | 0, .tuple (.str k :: ds) => nSk (fun _ => 0) k ds
  | n + 1, .tuple (.str k :: ds) => nSk (nSt n) k ds
  | _, _ => 0
/-- one that takes no other -/
def gOf : Nat → PyData → Nat
  | 0 => fun _ => 0
  | n + 1 => nSt n
theorem nSt_eq (n : Nat) (k : Str) (ds : List PyData) : nSt n (.tuple (.str k :: ds)) = nSk (gOf n) k ds := by
  cases n <;> rfl
section
variable {g : PyData → Nat} {k : Str} {ds : List PyData}
theorem ns_let (h : k ∈ (["let", "set"] : List Str)) : nSk g k ds = 3 + nE (el ds 1) + 1 := if_pos h
theorem ns_give : nSk g "give" ds = 1 + nGive (el ds 0) + 1 := by
  unfold nSk
  rw [if_neg (by decide +kernel), if_pos rfl]
theorem ns_do : nSk g "do" ds = nE (el ds 0) + 1 := by
  unfold nSk
  rw [if_neg (by decide +kernel), if_neg (by decide +kernel), if_pos rfl]
theorem ns_if : nSk g "if" ds = 1 + nE (el ds 0) + nBk g (el ds 1) + nElse g (el ds 2) := by
  unfold nSk
  rw [if_neg (by decide +kernel), if_neg (by decide +kernel), if_neg (by decide +kernel), if_pos rfl]
theorem ns_while : nSk g "while" ds = 1 + nE (el ds 0) + nBk g (el ds 1) := by
  unfold nSk
  rw [if_neg (by decide +kernel), if_neg (by decide +kernel), if_neg (by decide +kernel), if_neg (by decide +kernel), if_pos rfl]
theorem ns_for : nSk g "for" ds = 3 + nE (el ds 1) + nBk g (el ds 2) := by
  unfold nSk
  rw [if_neg (by decide +kernel), if_neg (by decide +kernel), if_neg (by decide +kernel), if_neg (by decide +kernel), if_neg (by decide +kernel), if_pos rfl]
theorem ns_def : nSk g "def" ds = 3 + btwN ((itm (el ds 1)).map fun _ => 1) + 1 + nBk g (el ds 2) := by
  unfold nSk
  rw [if_neg (by decide +kernel), if_neg (by decide +kernel), if_neg (by decide +kernel), if_neg (by decide +kernel), if_neg (by decide +kernel), if_neg (by decide +kernel)]
end
/-- a statement, by its first word -/
structure FormS (n : Nat) (d : PyData) (k : Str) (ds : List PyData) : Prop where
  eq : d = .tuple (.str k :: ds)
  nam : k ∈ (["let", "set"] : List Str) → ∃ z x, ds = [.str z, x] ∧ NameOk z ∧ Ex 3 x
  give : k = "give" → ds = [.none] ∨ ∃ x, ds = [x] ∧ Ex 3 x
  do_ : k = "do" → ∃ x, ds = [x] ∧ Ex 3 x
  iff : k = "if" → ∃ m x bs e, n = m + 1 ∧ ds = [x, .tuple bs, e] ∧ Ex 3 x ∧ bs.length ≤ 3 ∧ (∀ y ∈ bs, St m y) ∧ Oth m e
  whil : k = "while" → ∃ m x bs, n = m + 1 ∧ ds = [x, .tuple bs] ∧ Ex 3 x ∧ bs.length ≤ 3 ∧ (∀ y ∈ bs, St m y)
  for_ : k = "for" → ∃ m z x bs, n = m + 1 ∧ ds = [.str z, x, .tuple bs] ∧ NameOk z ∧ Ex 3 x ∧ bs.length ≤ 3 ∧ (∀ y ∈ bs, St m y)
  def_ : k ∉ (["let", "set"] : List Str) → k ≠ "give" → k ≠ "do" → k ≠ "if" → k ≠ "while" → k ≠ "for" →
    k = "def" ∧ ∃ m z, ∃ ns : List Str, ∃ bs, n = m + 1 ∧ ds = [.str z, .tuple (ns.map .str), .tuple bs] ∧ NameOk z ∧ ns.length ≤ 2 ∧ (∀ y ∈ ns, NameOk y) ∧ bs.length ≤ 3 ∧ (∀ y ∈ bs, St m y)
theorem formS {n : Nat} {d : PyData} (x : St n d) : ∃ k ds, FormS n d k ds := by
  cases x with
  | nam hk hz hm hx =>
    have hk2 := mem2.mpr hk
    rcases hk with rfl | rfl
    · exact ⟨_, _, rfl, fun _ => ⟨_, _, rfl, hz, ex3 hx hm⟩, fun e => absurd e (by decide +kernel), fun e => absurd e (by decide +kernel), fun e => absurd e (by decide +kernel), fun e => absurd e (by decide +kernel), fun e => absurd e (by decide +kernel), fun e => absurd hk2 e⟩
    · exact ⟨_, _, rfl, fun _ => ⟨_, _, rfl, hz, ex3 hx hm⟩, fun e => absurd e (by decide +kernel), fun e => absurd e (by decide +kernel), fun e => absurd e (by decide +kernel), fun e => absurd e (by decide +kernel), fun e => absurd e (by decide +kernel), fun e => absurd hk2 e⟩
  | give0 => exact ⟨_, _, rfl, fun e => absurd e (by decide +kernel), fun _ => .inl rfl, fun e => absurd e (by decide +kernel), fun e => absurd e (by decide +kernel), fun e => absurd e (by decide +kernel), fun e => absurd e (by decide +kernel), fun h0_ h1_ h2_ h3_ h4_ h5_ => absurd rfl h1_⟩
  | give hx => exact ⟨_, _, rfl, fun e => absurd e (by decide +kernel), fun _ => .inr ⟨_, rfl, ex3 hx (by decide)⟩, fun e => absurd e (by decide +kernel), fun e => absurd e (by decide +kernel), fun e => absurd e (by decide +kernel), fun e => absurd e (by decide +kernel), fun h0_ h1_ h2_ h3_ h4_ h5_ => absurd rfl h1_⟩
  | do_ hm hx => exact ⟨_, _, rfl, fun e => absurd e (by decide +kernel), fun e => absurd e (by decide +kernel), fun _ => ⟨_, rfl, ex3 hx hm⟩, fun e => absurd e (by decide +kernel), fun e => absurd e (by decide +kernel), fun e => absurd e (by decide +kernel), fun h0_ h1_ h2_ h3_ h4_ h5_ => absurd rfl h2_⟩
  | ifN hx hl hb => exact ⟨_, _, rfl, fun e => absurd e (by decide +kernel), fun e => absurd e (by decide +kernel), fun e => absurd e (by decide +kernel), fun _ => ⟨_, _, _, _, rfl, rfl, ex3 hx (by decide), hl, hb, .no⟩, fun e => absurd e (by decide +kernel), fun e => absurd e (by decide +kernel), fun h0_ h1_ h2_ h3_ h4_ h5_ => absurd rfl h3_⟩
  | ifB hx hl hb hl2 hc => exact ⟨_, _, rfl, fun e => absurd e (by decide +kernel), fun e => absurd e (by decide +kernel), fun e => absurd e (by decide +kernel), fun _ => ⟨_, _, _, _, rfl, rfl, ex3 hx (by decide), hl, hb, .bl hl2 hc⟩, fun e => absurd e (by decide +kernel), fun e => absurd e (by decide +kernel), fun h0_ h1_ h2_ h3_ h4_ h5_ => absurd rfl h3_⟩
  | ifI hx hl hb hi => exact ⟨_, _, rfl, fun e => absurd e (by decide +kernel), fun e => absurd e (by decide +kernel), fun e => absurd e (by decide +kernel), fun _ => ⟨_, _, _, _, rfl, rfl, ex3 hx (by decide), hl, hb, .iff hi⟩, fun e => absurd e (by decide +kernel), fun e => absurd e (by decide +kernel), fun h0_ h1_ h2_ h3_ h4_ h5_ => absurd rfl h3_⟩
  | whil hx hl hb => exact ⟨_, _, rfl, fun e => absurd e (by decide +kernel), fun e => absurd e (by decide +kernel), fun e => absurd e (by decide +kernel), fun e => absurd e (by decide +kernel), fun _ => ⟨_, _, _, rfl, rfl, ex3 hx (by decide), hl, hb⟩, fun e => absurd e (by decide +kernel), fun h0_ h1_ h2_ h3_ h4_ h5_ => absurd rfl h4_⟩
  | for_ hz hx hl hb => exact ⟨_, _, rfl, fun e => absurd e (by decide +kernel), fun e => absurd e (by decide +kernel), fun e => absurd e (by decide +kernel), fun e => absurd e (by decide +kernel), fun e => absurd e (by decide +kernel), fun _ => ⟨_, _, _, _, rfl, rfl, hz, ex3 hx (by decide), hl, hb⟩, fun h0_ h1_ h2_ h3_ h4_ h5_ => absurd rfl h5_⟩
  | def_ hz ln hn hl hb => exact ⟨_, _, rfl, fun e => absurd e (by decide +kernel), fun e => absurd e (by decide +kernel), fun e => absurd e (by decide +kernel), fun e => absurd e (by decide +kernel), fun e => absurd e (by decide +kernel), fun e => absurd e (by decide +kernel), fun _ _ _ _ _ _ => ⟨rfl, _, _, _, _, rfl, rfl, hz, ln, hn, hl, hb⟩⟩
theorem noIf {k : Nat} {cs : List PyData} (h : ∀ x ∈ cs, St k x) : isIf (.tuple cs) = false := by
  cases cs with
  | nil => rfl
  | cons c r =>
    obtain ⟨k', ds', F'⟩ := formS (h c (List.mem_cons_self ..))
    rw [F'.eq]
    rfl
def sB : Nat → Nat
  | 0 => 2010
  | n + 1 => 6 * sB n + 2100
theorem sum3 {α : Type} {f : α → Nat} {M : Nat} {l : List α} (h : ∀ x ∈ l, f x ≤ M) (h3 : l.length ≤ 3) : (l.map f).sum ≤ 3 * M := by
  have := btwN_map h h3
  have e : btwN (l.map f) = (l.map f).sum + ((l.map f).length - 1) := rfl
  have hl : (l.map f).length = l.length := List.length_map _
  match l, h3, h with
  | [], _, _ => exact Nat.zero_le _
  | [a], _, h =>
    have := h a (by simp)
    show f a + 0 ≤ _
    omega
  | [a, b], _, h =>
    have := h a (by simp)
    have := h b (by simp)
    show f a + (f b + 0) ≤ _
    omega
  | [a, b, c], _, h =>
    have := h a (by simp)
    have := h b (by simp)
    have := h c (by simp)
    show f a + (f b + (f c + 0)) ≤ _
    omega
theorem nGive_le {x : PyData} (h : Ex 3 x) : nGive x ≤ 2002 := by
  have := nE_le h
  cases x with
  | none => exact Nat.zero_le _
  | _ => exact this
theorem nSt_le : ∀ {n : Nat} {d : PyData}, St n d → nSt n d ≤ sB n := by
  intro n
  induction n with
  | zero =>
    intro d h
    obtain ⟨k, ds, F⟩ := formS h
    have e := F.eq
    subst e
    rw [nSt_eq]
    show _ ≤ 2010
    by_cases h1 : k ∈ (["let", "set"] : List Str)
    · obtain ⟨z, x, rfl, _, hx⟩ := F.nam h1
      rw [ns_let h1]
      have := nE_le hx
      show 3 + nE x + 1 ≤ _
      omega
    by_cases h2 : k = "give"
    · subst h2
      rw [ns_give]
      rcases F.give rfl with rfl | ⟨x, rfl, hx⟩
      · exact (by decide : 1 + 0 + 1 ≤ 2010)
      · have := nGive_le hx
        show 1 + nGive x + 1 ≤ _
        omega
    by_cases h3 : k = "do"
    · subst h3
      rw [ns_do]
      obtain ⟨x, rfl, hx⟩ := F.do_ rfl
      have := nE_le hx
      show nE x + 1 ≤ _
      omega
    by_cases h4 : k = "if"
    · obtain ⟨m, _, _, _, e, _⟩ := F.iff h4
      cases e
    by_cases h5 : k = "while"
    · obtain ⟨m, _, _, e, _⟩ := F.whil h5
      cases e
    by_cases h6 : k = "for"
    · obtain ⟨m, _, _, _, e, _⟩ := F.for_ h6
      cases e
    obtain ⟨_, m, _, _, _, e, _⟩ := F.def_ h1 h2 h3 h4 h5 h6
    cases e
  | succ n ih =>
    intro d h
    have ih : ∀ {d : PyData}, St n d → nSt n d ≤ sB n := ih
    obtain ⟨k, ds, F⟩ := formS h
    have e := F.eq
    subst e
    rw [nSt_eq]
    show _ ≤ 6 * sB n + 2100
    have bk : ∀ {bs : List PyData}, bs.length ≤ 3 → (∀ y ∈ bs, St n y) → nBk (gOf (n + 1)) (.tuple bs) ≤ 3 * sB n + 2 := by
      intro bs hl hb
      have := sum3 (f := nSt n) (fun y hy => ih (hb y hy)) hl
      show 1 + (List.map (nSt n) bs).sum + 1 ≤ _
      omega
    by_cases h1 : k ∈ (["let", "set"] : List Str)
    · obtain ⟨z, x, rfl, _, hx⟩ := F.nam h1
      rw [ns_let h1]
      have := nE_le hx
      show 3 + nE x + 1 ≤ _
      omega
    by_cases h2 : k = "give"
    · subst h2
      rw [ns_give]
      rcases F.give rfl with rfl | ⟨x, rfl, hx⟩
      · show 1 + 0 + 1 ≤ _
        omega
      · have := nGive_le hx
        show 1 + nGive x + 1 ≤ _
        omega
    by_cases h3 : k = "do"
    · subst h3
      rw [ns_do]
      obtain ⟨x, rfl, hx⟩ := F.do_ rfl
      have := nE_le hx
      show nE x + 1 ≤ _
      omega
    by_cases h4 : k = "if"
    · subst h4
      rw [ns_if]
      obtain ⟨m, x, bs, e, em, rfl, hx, hl, hb, ho⟩ := F.iff rfl
      obtain rfl : n = m := Nat.succ.inj em
      have := nE_le hx
      have := bk hl hb
      have : nElse (gOf (n + 1)) e ≤ 3 * sB n + 3 := by
        cases ho with
        | no => exact Nat.zero_le _
        | bl h1 h2 =>
          have a1 := bk h1 h2
          rw [nElse_bl (noIf h2)]
          omega
        | iff hi =>
          have a1 := ih hi
          rw [nElse_if]
          show 1 + nSt n _ ≤ _
          omega
      show 1 + nE x + nBk _ (.tuple bs) + nElse _ e ≤ _
      omega
    by_cases h5 : k = "while"
    · subst h5
      rw [ns_while]
      obtain ⟨m, x, bs, em, rfl, hx, hl, hb⟩ := F.whil rfl
      obtain rfl : n = m := Nat.succ.inj em
      have := nE_le hx
      have := bk hl hb
      show 1 + nE x + nBk _ (.tuple bs) ≤ _
      omega
    by_cases h6 : k = "for"
    · subst h6
      rw [ns_for]
      obtain ⟨m, z, x, bs, em, rfl, _, hx, hl, hb⟩ := F.for_ rfl
      obtain rfl : n = m := Nat.succ.inj em
      have := nE_le hx
      have := bk hl hb
      show 3 + nE x + nBk _ (.tuple bs) ≤ _
      omega
    obtain ⟨rfl, m, z, ns, bs, em, rfl, _, ln, _, hl, hb⟩ := F.def_ h1 h2 h3 h4 h5 h6
    obtain rfl : n = m := Nat.succ.inj em
    rw [ns_def]
    have := bk hl hb
    have := btwN_map (g := fun _ => 1) (l := ns.map PyData.str) (M := 1) (fun _ _ => Nat.le_refl _) (by rw [List.length_map]; omega)
    show 3 + btwN ((ns.map PyData.str).map fun _ => 1) + 1 + nBk _ (.tuple bs) ≤ _
    omega
theorem nSt_4 {n : Nat} {d : PyData} (h : St n d) (h4 : n ≤ 4) : nSt n d ≤ 3200000 := by
  refine Nat.le_trans (nSt_le h) ?_
  have : n = 0 ∨ n = 1 ∨ n = 2 ∨ n = 3 ∨ n = 4 := by omega
  rcases this with rfl | rfl | rfl | rfl | rfl <;> decide

def spBk (m : Nat) : Sp := fun vs H Q _ => ∃ (o : Option Bg) (n : Nat) (bv v : V) (bs : List PyData) (c : Int), vs = [bv, v] ∧ n < m ∧ n ≤ 4 ∧ bs.length ≤ 3 ∧ (∀ x ∈ bs, St n x) ∧ Tr H v (.tuple bs) ∧ BgO H bv o c ∧ Wds Q H o c (nBk (nSt n) (.tuple bs))
def spSw (m : Nat) : Sp := fun vs H Q _ => ∃ (o : Option Bg) (n : Nat) (bv v : V) (d : PyData) (c : Int), vs = [bv, v] ∧ n < m ∧ n ≤ 4 ∧ St n d ∧ Tr H v d ∧ BgO H bv o c ∧ Wds Q H o c (nSt n d)
theorem sz_m {n : Nat} (h : n ≤ 16000000) : n ≤ sizeLine := Nat.le_trans h (by decide)
theorem c_l_block_words (T : Txt K mg w) {m : Nat} (c_l_row_words : Cal P w K mg base 1 "_law_row_words" (spRow K) [])
    (c_l_statement_words : Cal P w K mg base (13 + 2 * m) "_law_statement_words" (spSw m) []) : Cal P w K mg base (13 + 2 * m + 1) "_law_block_words" (spBk m) [] := by
  refine calOf T.d_l_block_words sc_l_block_words (fun vs H Q E h => ?_) (fun f cdv A outer s H vs Q E hr h => ?_)
  · obtain ⟨o, n, bv, v, d, c, rfl, _⟩ := h
    rfl
  · obtain ⟨o, n, bv, v, bs, c, rfl, hn, hn4, hl, hb, ht, B, k⟩ := h
    have cr := B.rng
    obtain ⟨qx, us0, rfl, hqx, tx⟩ := t_tup ht
    have Sm : ∀ i, ((bs.take i).map (nSt n)).sum ≤ 3 * 3200000 := fun i => sum3 (fun x hx => nSt_4 (hb x (List.mem_of_mem_take hx)) hn4) (by rw [List.length_take]; omega)
    refine ⟨_,
      (pss_cons (ps_set (i := 2) sc_l_block_words.nd rfl (Or.inl rfl) (pe_c c_l_row_words hr (by first | decide | omega) rfl (pa_cons (pe_lst (pa_cons pe_str pa_nil)) pa_nil)))
        (pss_cons (ps_for PassesOwn.never rfl (pi_tup (pv 1)) (pg_name (i := 3) sc_l_block_words.nd rfl (Or.inl rfl))
        (pss_one (ps_set (i := 2) sc_l_block_words.nd rfl (Or.inl rfl) (pe_op op_cat (pv 2) (pe_c c_l_statement_words hr (by first | decide | omega) rfl (pa_cons (pv 0) (pa_cons (pv 3) pa_nil)))))))
        (pss_one (ps_ret (pe_op op_cat (pv 2) (pe_c c_l_row_words hr (by first | decide | omega) rfl (pa_cons (pe_lst (pa_cons pe_str pa_nil)) pa_nil)))))))
      , ?_⟩
    refine ⟨by show 1 ≤ sizeLine; decide, fun p3 hp3 => ⟨p3, ["{"], rfl, SqL.of upd_same, by show 1 ≤ 1000; decide, fun q3 us_ H3 s_ n_ h_ t_ => ?_⟩⟩
    obtain ⟨_, s3, e3⟩ := row_e hp3 s_ n_ h_ t_
    have D3 := (DrO.refl B).same s3
    refine ⟨_, rfl, qx, rfl, ⟨us0, SqT.of (D3.tk _ _ hqx)⟩,
      for_tup (K := K) (a := qx) (xs := us0) (fun i σ H' => ∃ (q2 : Addr) (ws : List Wd) (c' : Int) (v3 : Option V), σ = [some bv, some (.ref qx), some (.ref q2), v3] ∧ WdL H' (.ref q2) (rowW ["{"] ++ ws) ∧ WL ws ∧ Cnt o ((bs.take i).map (nSt n)).sum ws.length c c' ∧ DrO H H' o c')
      ⟨q3, [], c, none, rfl, by rw [List.append_nil]; exact e3, .nil, .refl rfl, D3⟩ (fun i σ' H' _ ⟨_, _, _, _, _, _, _, _, D⟩ => SqT.of (D.tk _ _ hqx)) ?_ ?_⟩
    · rintro i x σ' H' hi ⟨q2, ws, c', v3, rfl, e2, wl, ct, D⟩
      obtain ⟨d, hd, td⟩ := tx.get hi
      have hs := hb d (List.mem_of_getElem? hd)
      refine ⟨_, rfl, _, rfl, _, rfl, o, n, bv, x, d, c', rfl, hn, hn4, hs, td.keep D.tk, DrO.bgo B D, fun q4 w4 H4 c4 _ e4 l4 ct4 D4 => ?_⟩
      have z := (ct.add ct4).le cr.1 D4.rng.2
      have y := Sm i
      have y2 := nSt_4 hs hn4
      have D4' := D.trans D4
      refine cat_wd (DrO.wdl (DrO.bgo B D) D4 e2) e4 (sz_m (by rw [List.length_append, row_len]; show 1 + _ + _ ≤ _; omega)) fun q5 H5 _ s5 e5 => ?_
      refine ⟨q5, ws ++ w4, c4, _, rfl, by rw [← List.append_assoc]; exact e5, .app wl l4, ?_, D4'.same s5⟩
      rw [take_map hd, List.sum_append, List.length_append]
      exact (ct.add ct4).of rfl (by simp)
    · rintro σ' H4 ⟨q2, ws, c', v3, rfl, e2, wl, ct, D⟩
      rw [tx.len, List.take_length] at ct
      have z := ct.le cr.1 D.rng.2
      have y := Sm bs.length
      rw [List.take_length] at y
      refine ⟨_, rfl, by show 1 ≤ sizeLine; decide, fun p3 hp3 => ⟨p3, ["}"], rfl, SqL.of upd_same, by show 1 ≤ 1000; decide, fun q5 us_ H5 s_ n_ h_ t_ => ?_⟩⟩
      obtain ⟨_, s5, e5⟩ := row_e hp3 s_ n_ h_ t_
      refine cat_wd (e2.same s5) e5 (sz_m (by rw [List.length_append, row_len, row_len]; show 1 + _ + 1 ≤ _; omega)) fun q6 H6 n6 s6 e6 => ?_
      have D5 := D.same s5
      refine k q6 _ H6 c' (DrO.free B D5 n6) e6 (.br (o := "{") (c := "}") (b := true) (by decide +kernel) wl) ?_ (D5.same s6)
      refine (ct.const 2).of ?_ ?_
      · rw [List.length_append, List.length_append, row_len, row_len]
        show 1 + _ + 1 = _
        omega
      · show 1 + (bs.map (nSt n)).sum + 1 = _
        omega
theorem sw_none (T : Txt K mg w) : Cal P w K mg base 13 "_law_statement_words" (spSw 0) [] := by
  refine calOf T.d_l_statement_words sc_l_statement_words (fun vs H Q E h => ?_) (fun f cdv A outer s H vs Q E hr h => ?_)
  · obtain ⟨o, n, bv, v, d, c, rfl, h, _⟩ := h
    exact absurd h (Nat.not_lt_zero _)
  · obtain ⟨o, n, bv, v, d, c, rfl, h, _⟩ := h
    exact absurd h (Nat.not_lt_zero _)
theorem TrAll.take {H : Hp} : ∀ {us : List V} {ds : List PyData} (i : Nat), TrAll H us ds → TrAll H (us.take i) (ds.take i)
  | _, _, 0, _ => by
    rw [List.take_zero, List.take_zero]
    exact .nil
  | _, _, i + 1, .nil => .nil
  | _, _, i + 1, .cons h r => .cons h (TrAll.take i r)
/-- the first of a tuple -/
theorem slA_at {K : PySem.W.Frag} {H : Hp} {q : Addr} {us : List V} {ds : List PyData} {Q : VK} (hq : H q = some (.tup us)) (t : TrAll H us ds) (k : ∀ r H', Same H H' → Tr H' (.ref r) (.tuple (ds.take 1)) → Q (.ref r) H') :
    rSlA K (.ref q) none (some 1) H Q := by
  have e1 : HT.sIx us.length us.length (some 1) = min 1 us.length := sIx_nat us.length us.length (i := 1)
  have e0 : HT.sIx us.length 0 none = 0 := rfl
  refine ⟨q, us, rfl, SqT.of hq, fun hw => ?_, fun hw p hp => ?_⟩
  · rw [e1] at hw
    have l := t.len
    have : ds.take 1 = ds := List.take_of_length_le (by omega)
    refine k q H (Same.refl _) ?_
    rw [this]
    exact .tup hq t
  · refine k p _ (same_new hp) (.tup upd_same ?_)
    have : cutV us none (some 1) = us.take 1 := by
      unfold cutV
      rw [e0, e1, List.drop_zero, Nat.sub_zero]
      by_cases h : 1 ≤ us.length
      · rw [Nat.min_eq_left h]
      · have : us = [] := List.length_eq_zero_iff.mp (by omega)
        subst this
        rfl
    rw [this]
    exact (TrAll.take 1 t).new hp
theorem td_shaped {m : Nat} {d : PyData} (h : TD m d) (l : m ≤ 64) : SeqAt.shaped d = true := by
  unfold SeqAt.shaped
  rw [Bool.and_eq_true]
  exact ⟨(tame_ok d h.1).2.2, decide_eq_true (Nat.le_trans h.2 l)⟩
theorem eqv_if {k : Nat} {cs : List PyData} (h : ∀ x ∈ cs, St k x) : PyData.eqv (.tuple (cs.take 1)) (.tuple [.str "if"]) = false := by
  cases cs with
  | nil => rfl
  | cons c r =>
    obtain ⟨k', ds', F'⟩ := formS (h c (List.mem_cons_self ..))
    rw [F'.eq]
    rfl
theorem eqv_iff {ds : List PyData} : PyData.eqv (.tuple ((PyData.str "if" :: ds).take 1)) (.tuple [.str "if"]) = true := by
  show PyData.eqv (.tuple [.str "if"]) (.tuple [.str "if"]) = true
  decide +kernel

theorem c_l_statement_words (T : Txt K mg w) {m : Nat} (c_l_row_words : Cal P w K mg base 1 "_law_row_words" (spRow K) []) (c_l_between : Cal P w K mg base 2 "_law_between" (spBtw K) [])
    (c_l_inner : Cal P w K mg base 12 "_law_inner" (spIn 4) []) (c_l_block_words : Cal P w K mg base (13 + 2 * m + 1) "_law_block_words" (spBk m) [])
    (c_l_statement_words : Cal P w K mg base (13 + 2 * m) "_law_statement_words" (spSw m) []) : Cal P w K mg base (13 + 2 * (m + 1)) "_law_statement_words" (spSw (m + 1)) [] := by
  rw [show 13 + 2 * (m + 1) = (13 + 2 * m + 1) + 1 by omega]
  refine calOf T.d_l_statement_words sc_l_statement_words (fun vs H Q E h => ?_) (fun f cdv A outer s H vs Q E hr h => ?_)
  · obtain ⟨o, n, bv, v, d, c, rfl, _⟩ := h
    rfl
  · obtain ⟨o, n, bv, v, d, c, rfl, hn, hn4, hs, ht, B, k⟩ := h
    have cr := B.rng
    have sz := nSt_4 hs hn4
    obtain ⟨kd, ds, F⟩ := formS hs
    have ed := F.eq
    subst ed
    rw [nSt_eq] at k sz
    obtain ⟨p, ys, rfl, ha, hy⟩ := tr_tup ht
    refine ⟨_,
      (pss_cons (ps_set (i := 2) sc_l_statement_words.nd rfl (Or.inl rfl) (pe_ix ix_tup (pv 1) pe_int (fun _ _ => rfl)))
        (pss_cons (ps_if (pt_cmpR op_in_seq (pv 2) (pe_tup (pa_cons pe_str (pa_cons pe_str pa_nil))) (by rfl))
        (pss_cons (ps_set (i := 3) sc_l_statement_words.nd rfl (Or.inl rfl) (pe_op op_cat (pe_c c_l_row_words hr (by first | decide | omega) rfl (pa_cons (pe_lst (pa_cons (pv 2) (pa_cons (pe_ix ix_tup (pv 1) pe_int (fun _ _ => rfl)) (pa_cons pe_str pa_nil)))) pa_nil)) (pe_c c_l_inner hr (by first | decide | omega) rfl (pa_cons (pv 0) (pa_cons (pe_ix ix_tup (pv 1) pe_int (fun _ _ => rfl)) (pa_cons pe_int (pa_cons pe_bl pa_nil)))))))
        (pss_one (ps_ret (pe_op op_cat (pv 3) (pe_c c_l_row_words hr (by first | decide | omega) rfl (pa_cons (pe_lst (pa_cons pe_str pa_nil)) pa_nil))))))
        pss_nil)
        (pss_cons (ps_if (pt_cmpR op_eq (pv 2) pe_str (nomark _))
        (pss_cons (ps_set (i := 4) sc_l_statement_words.nd rfl (Or.inl rfl) (pe_ifExp (pt_cmpR op_isN (pe_ix ix_tup (pv 1) pe_int (fun _ _ => rfl)) pe_non (nomark _)) (pe_lst pa_nil) (pe_c c_l_inner hr (by first | decide | omega) rfl (pa_cons (pv 0) (pa_cons (pe_ix ix_tup (pv 1) pe_int (fun _ _ => rfl)) (pa_cons pe_int (pa_cons pe_bl pa_nil)))))))
        (pss_one (ps_ret (pe_op op_cat (pe_op op_cat (pe_c c_l_row_words hr (by first | decide | omega) rfl (pa_cons (pe_lst (pa_cons pe_str pa_nil)) pa_nil)) (pv 4)) (pe_c c_l_row_words hr (by first | decide | omega) rfl (pa_cons (pe_lst (pa_cons pe_str pa_nil)) pa_nil))))))
        pss_nil)
        (pss_cons (ps_if (pt_cmpR op_eq (pv 2) pe_str (nomark _))
        (pss_one (ps_ret (pe_op op_cat (pe_c c_l_inner hr (by first | decide | omega) rfl (pa_cons (pv 0) (pa_cons (pe_ix ix_tup (pv 1) pe_int (fun _ _ => rfl)) (pa_cons pe_int (pa_cons pe_bl pa_nil))))) (pe_c c_l_row_words hr (by first | decide | omega) rfl (pa_cons (pe_lst (pa_cons pe_str pa_nil)) pa_nil)))))
        pss_nil)
        (pss_cons (ps_if (pt_cmpR op_eq (pv 2) pe_str (nomark _))
        (pss_cons (ps_set (i := 3) sc_l_statement_words.nd rfl (Or.inl rfl) (pe_op op_cat (pe_op op_cat (pe_c c_l_row_words hr (by first | decide | omega) rfl (pa_cons (pe_lst (pa_cons pe_str pa_nil)) pa_nil)) (pe_c c_l_inner hr (by first | decide | omega) rfl (pa_cons (pv 0) (pa_cons (pe_ix ix_tup (pv 1) pe_int (fun _ _ => rfl)) (pa_cons pe_int (pa_cons pe_bl pa_nil)))))) (pe_c c_l_block_words hr (by first | decide | omega) rfl (pa_cons (pv 0) (pa_cons (pe_ix ix_tup (pv 1) pe_int (fun _ _ => rfl)) pa_nil)))))
        (pss_cons (ps_if (pt_cmpR op_isN (pe_ix ix_tup (pv 1) pe_int (fun _ _ => rfl)) pe_non (nomark _))
        (pss_one (ps_ret (pv 3)))
        pss_nil)
        (pss_cons (ps_set (i := 5) sc_l_statement_words.nd rfl (Or.inl rfl) (pe_cmpR (op_eqD hr.units) (pe_slice sl_tupA (pe_ix ix_tup (pv 1) pe_int (fun _ _ => rfl)) po_none (po_some pe_int)) (pe_tup (pa_cons pe_str pa_nil)) (nomark _)))
        (pss_cons (ps_set (i := 6) sc_l_statement_words.nd rfl (Or.inl rfl) (pe_ifExp (pt_truth (pv 5) (by intro _; rfl)) (pe_c c_l_statement_words hr (by first | decide | omega) rfl (pa_cons (pv 0) (pa_cons (pe_ix ix_tup (pv 1) pe_int (fun _ _ => rfl)) pa_nil))) (pe_c c_l_block_words hr (by first | decide | omega) rfl (pa_cons (pv 0) (pa_cons (pe_ix ix_tup (pv 1) pe_int (fun _ _ => rfl)) pa_nil)))))
        (pss_one (ps_ret (pe_op op_cat (pe_op op_cat (pv 3) (pe_c c_l_row_words hr (by first | decide | omega) rfl (pa_cons (pe_lst (pa_cons pe_str pa_nil)) pa_nil))) (pv 6))))))))
        pss_nil)
        (pss_cons (ps_if (pt_cmpR op_eq (pv 2) pe_str (nomark _))
        (pss_one (ps_ret (pe_op op_cat (pe_op op_cat (pe_c c_l_row_words hr (by first | decide | omega) rfl (pa_cons (pe_lst (pa_cons (pv 2) pa_nil)) pa_nil)) (pe_c c_l_inner hr (by first | decide | omega) rfl (pa_cons (pv 0) (pa_cons (pe_ix ix_tup (pv 1) pe_int (fun _ _ => rfl)) (pa_cons pe_int (pa_cons pe_bl pa_nil)))))) (pe_c c_l_block_words hr (by first | decide | omega) rfl (pa_cons (pv 0) (pa_cons (pe_ix ix_tup (pv 1) pe_int (fun _ _ => rfl)) pa_nil))))))
        pss_nil)
        (pss_cons (ps_if (pt_cmpR op_eq (pv 2) pe_str (nomark _))
        (pss_cons (ps_set (i := 3) sc_l_statement_words.nd rfl (Or.inl rfl) (pe_op op_cat (pe_c c_l_row_words hr (by first | decide | omega) rfl (pa_cons (pe_lst (pa_cons (pv 2) (pa_cons (pe_ix ix_tup (pv 1) pe_int (fun _ _ => rfl)) (pa_cons pe_str pa_nil)))) pa_nil)) (pe_c c_l_inner hr (by first | decide | omega) rfl (pa_cons (pv 0) (pa_cons (pe_ix ix_tup (pv 1) pe_int (fun _ _ => rfl)) (pa_cons pe_int (pa_cons pe_bl pa_nil)))))))
        (pss_one (ps_ret (pe_op op_cat (pv 3) (pe_c c_l_block_words hr (by first | decide | omega) rfl (pa_cons (pv 0) (pa_cons (pe_ix ix_tup (pv 1) pe_int (fun _ _ => rfl)) pa_nil)))))))
        pss_nil)
        (pss_cons (ps_set (i := 7) sc_l_statement_words.nd rfl (Or.inl rfl) (pe_c c_l_between hr (by first | decide | omega) rfl (pa_cons (pe_lc (own := [("_law_name_here", 8)]) (g := gName 8) (tt := tYes) rfl sc_l_statement_words.nd (pi_tup (pe_ix ix_tup (pv 1) pe_int (fun _ _ => rfl))) (blkOk_by (N := ["_law_bag_here", "_law_statement_here", "_law_word", "_law_found", "_law_some", "_law_is_if", "_law_other", "_law_names_here", "_law_name_here"]) (sc := defScope s_l_statement_words) (by decide +kernel)) (fun _ _ _ _ _ => pg_name (i := 8) sc_l_statement_words.nd rfl (Or.inl rfl)) (fun _ _ _ _ _ => pts_nil) (fun _ _ _ _ _ => (pe_c c_l_row_words hr (by first | decide | omega) rfl (pa_cons (pe_lst (pa_cons (pv 8) pa_nil)) pa_nil)))) pa_nil)))
        (pss_cons (ps_set (i := 3) sc_l_statement_words.nd rfl (Or.inl rfl) (pe_op op_cat (pe_op op_cat (pe_c c_l_row_words hr (by first | decide | omega) rfl (pa_cons (pe_lst (pa_cons (pv 2) (pa_cons (pe_ix ix_tup (pv 1) pe_int (fun _ _ => rfl)) (pa_cons pe_str pa_nil)))) pa_nil)) (pv 7)) (pe_c c_l_row_words hr (by first | decide | omega) rfl (pa_cons (pe_lst (pa_cons pe_str pa_nil)) pa_nil))))
        (pss_one (ps_ret (pe_op op_cat (pv 3) (pe_c c_l_block_words hr (by first | decide | omega) rfl (pa_cons (pv 0) (pa_cons (pe_ix ix_tup (pv 1) pe_int (fun _ _ => rfl)) pa_nil)))))))))))))))
      , ?_⟩
    have D0 := DrO.refl B
    -- an expression of it
    have inn : ∀ {Hx : Hp} {cx : Int} {v : V} {x : PyData} {Q' : VK}, DrO H Hx o cx → Ex 3 x → Tr H v x → (∀ (q : Addr) (ws : List Wd) (H' : Hp) (c' : Int), Hx q = none → WdL H' (.ref q) ws → WL ws → Cnt o (nE x) ws.length cx c' → ws.length ≤ 2026 → DrO H H' o c' → (∀ {u us}, WdL Hx u us → WdL H' u us) → Q' (.ref q) H') →
        spIn 4 [bv, v, .int 1, .bl false] Hx Q' E0 := fun {Hx cx v x Q'} D hx tx go =>
      ⟨o, 3, bv, v, x, 1, cx, false, rfl, by decide, by decide, hx, tx.keep D.tk, DrO.bgo B D, fun q ws H' c' n e l ct D' => go q ws H' c' n e l ct (by have := ct.le D.rng.1 D'.rng.2; have := nE_le hx; unfold nE at this; omega) (D.trans D') (fun h => DrO.wdl (DrO.bgo B D) D' h)⟩
    refine ⟨_, rfl, _, _, _, _, rfl, rfl, SqT.of ha, atI_nat (j := 0) rfl, ?_⟩
    refine ⟨_, rfl, by decide, fun p1 hp1 => ⟨p1, _, rfl, .inr (SqT.of upd_same), rfl, strs_flat ["let", "set"], _, rfl, ite2 (fun h => ?_) (fun h1 => ?_)⟩⟩
    · -- let, set
      have e := in_l (l := ["let", "set"]) h
      obtain ⟨z, x, rfl, hz, hx⟩ := F.nam e
      obtain ⟨v1, v2, rfl, t1, t2⟩ := ta2 hy
      obtain rfl := t_str t1
      have D2 : DrO H (upd H p1 (.tup [.str "let", .str "set"])) o c := D0.new hp1
      generalize upd H p1 (HO.tup _) = H2 at D2 ⊢
      refine ⟨_, rfl, _, rfl, _, _, _, _, rfl, rfl, SqT.of (D2.tk _ _ ha), atI_nat (j := 1) rfl, by show 3 ≤ sizeLine; decide, fun p3 hp3 => ⟨p3, [kd, z, "="], rfl, SqL.of upd_same, by show 3 ≤ 1000; decide, fun q3 us_ H3 s_ n_ h_ t_ => ?_⟩⟩
      obtain ⟨_, s3, e3⟩ := row_e hp3 s_ n_ h_ t_
      have D3 := D2.same s3
      refine ⟨_, rfl, _, rfl, _, _, _, _, rfl, rfl, SqT.of (D3.tk _ _ ha), atI_nat (j := 2) rfl, inn D3 hx t2 fun q4 w4 H4 c4 _ e4 l4 ct4 z4 D4 kp4 => ?_⟩
      refine cat_wd (kp4 e3) e4 (sz_m (by rw [row_len]; show 3 + _ ≤ _; omega)) fun q5 H5 _ s5 e5 => ?_
      refine ⟨_, rfl, by show 1 ≤ sizeLine; decide, fun p6 hp6 => ⟨p6, [";"], rfl, SqL.of upd_same, by show 1 ≤ 1000; decide, fun q6 us_ H6 s_ n_ h_ t_ => ?_⟩⟩
      obtain ⟨_, s6, e6⟩ := row_e hp6 s_ n_ h_ t_
      refine cat_wd (e5.same s6) e6 (sz_m (by rw [List.length_append, row_len, row_len]; show 3 + _ + 1 ≤ _; omega)) fun q7 H7 n7 s7 e7 => ?_
      have D6 := (D4.same s5).same s6
      refine k q7 _ H7 c4 (DrO.free B D6 n7) e7 (.app (.app (WL.row (ws := [kd, z, "="]) fun y hy => ?_) l4) (.one (fix_ok (by decide +kernel)))) ?_ (D6.same s7)
      · rcases mem3.mp hy with rfl | rfl | rfl
        · rcases mem2.mp e with rfl | rfl <;> exact fix_ok (by decide +kernel)
        · exact .name hz
        · exact fix_ok (by decide +kernel)
      · refine (ct4.const 4).of ?_ ?_
        · rw [List.length_append, List.length_append, row_len, row_len]
          show 3 + _ + 1 = _
          omega
        · rw [ns_let e]
          show 3 + nE x + 1 = _
          omega
    have h1 := out_l (l := ["let", "set"]) h1
    have D1 : DrO H (upd H p1 (.tup [.str "let", .str "set"])) o c := D0.new hp1
    generalize upd H p1 (HO.tup _) = H1 at D1 ⊢
    clear hp1 D0
    refine ⟨_, rfl, rfl, _, rfl, ite2 (fun h => ?_) (fun h2 => ?_)⟩
    · -- give
      have e : kd = "give" := V.str.inj (of_decide_eq_true h)
      subst e
      -- behind the words of what is given
      have fin : ∀ {H4 : Hp} {q4 : Addr} {w4 : List Wd} {c4 : Int} {N : Nat}, WdL H4 (.ref q4) w4 → WL w4 → Cnt o N w4.length c c4 → w4.length ≤ 2026 → DrO H H4 o c4 → 1 + N + 1 = nSk (gOf n) "give" ds →
          tOp rCat (tOp rCat (tCall (spRow K) [] C8.E0 (tCons (tLst (tCons (tC (V.str "give")) tNil)) tNil)) (tVar 4)) (tCall (spRow K) [] C8.E0 (tCons (tLst (tCons (tC (V.str ";")) tNil)) tNil)) [some bv, some (.ref p), some (.str "give"), none, some (.ref q4), none, none, none, none] H4 Q := by
        intro H4 q4 w4 c4 N e4 l4 ct4 z4 D4 eN
        refine ⟨by show 1 ≤ sizeLine; decide, fun p6 hp6 => ⟨p6, ["give"], rfl, SqL.of upd_same, by show 1 ≤ 1000; decide, fun q6 us_ H6 s_ n_ h_ t_ => ?_⟩⟩
        obtain ⟨_, s6, e6⟩ := row_e hp6 s_ n_ h_ t_
        refine ⟨_, rfl, cat_wd e6 (e4.same s6) (sz_m (by rw [row_len]; show 1 + _ ≤ _; omega)) fun q7 H7 n7 s7 e7 => ?_⟩
        refine ⟨by show 1 ≤ sizeLine; decide, fun p6 hp6 => ⟨p6, [";"], rfl, SqL.of upd_same, by show 1 ≤ 1000; decide, fun q8 us_ H8 s_ n_ h_ t_ => ?_⟩⟩
        obtain ⟨_, s8, e8⟩ := row_e hp6 s_ n_ h_ t_
        refine cat_wd (e7.same s8) e8 (sz_m (by rw [List.length_append, row_len, row_len]; show 1 + _ + 1 ≤ _; omega)) fun q9 H9 n9 s9 e9 => ?_
        have D8 := ((D4.same s6).same s7).same s8
        refine k q9 _ H9 c4 (DrO.free B D8 n9) e9 (.app (.app (.one (fix_ok (by decide +kernel))) l4) (.one (fix_ok (by decide +kernel)))) ?_ (D8.same s9)
        refine (ct4.const 2).of ?_ ?_
        · rw [List.length_append, List.length_append, row_len, row_len]
          show 1 + _ + 1 = _
          omega
        · omega
      rcases F.give rfl with rfl | ⟨x, rfl, hx⟩
      · obtain ⟨v1, rfl, t1⟩ := ta1 hy
        cases t1
        refine ⟨_, rfl, _, _, _, _, rfl, rfl, SqT.of (D1.tk _ _ ha), atI_nat (j := 1) rfl, rfl, _, rfl, ite2 (fun _ => ?_) (fun z => absurd (decide_eq_true rfl) z)⟩
        refine ⟨by decide, fun p4 hp4 => ?_⟩
        refine fin ⟨p4, [], rfl, upd_same, .nil⟩ .nil (.refl rfl) (by decide) (D1.new hp4) ?_
        rw [ns_give]
        rfl
      · obtain ⟨v1, rfl, t1⟩ := ta1 hy
        obtain ⟨k', ds', F'⟩ := formW hx
        have e' := F'.eq
        subst e'
        obtain ⟨a1, xs1, rfl, _, _⟩ := t_tup t1
        refine ⟨_, rfl, _, _, _, _, rfl, rfl, SqT.of (D1.tk _ _ ha), atI_nat (j := 1) rfl, rfl, _, rfl, ite2 (fun z => absurd (of_decide_eq_true z) (fun e => by cases e)) (fun _ => ?_)⟩
        refine ⟨_, rfl, _, rfl, _, _, _, _, rfl, rfl, SqT.of (D1.tk _ _ ha), atI_nat (j := 1) rfl, inn D1 hx t1 fun q4 w4 H4 c4 _ e4 l4 ct4 z4 D4 kp4 => ?_⟩
        refine fin e4 l4 ct4 z4 D4 ?_
        rw [ns_give]
        rfl
    have h2 : kd ≠ "give" := fun e => h2 (decide_eq_true (congrArg V.str e))
    refine ⟨_, rfl, rfl, _, rfl, ite2 (fun h => ?_) (fun h3 => ?_)⟩
    · -- do
      have e : kd = "do" := V.str.inj (of_decide_eq_true h)
      subst e
      obtain ⟨x, rfl, hx⟩ := F.do_ rfl
      obtain ⟨v1, rfl, t1⟩ := ta1 hy
      refine ⟨_, rfl, _, rfl, _, _, _, _, rfl, rfl, SqT.of (D1.tk _ _ ha), atI_nat (j := 1) rfl, inn D1 hx t1 fun q4 w4 H4 c4 _ e4 l4 ct4 z4 D4 kp4 => ?_⟩
      refine ⟨by show 1 ≤ sizeLine; decide, fun p6 hp6 => ⟨p6, [";"], rfl, SqL.of upd_same, by show 1 ≤ 1000; decide, fun q6 us_ H6 s_ n_ h_ t_ => ?_⟩⟩
      obtain ⟨_, s6, e6⟩ := row_e hp6 s_ n_ h_ t_
      refine cat_wd (e4.same s6) e6 (sz_m (by rw [row_len]; show _ + 1 ≤ _; omega)) fun q7 H7 n7 s7 e7 => ?_
      have D6 := D4.same s6
      refine k q7 _ H7 c4 (DrO.free B D6 n7) e7 (.app l4 (.one (fix_ok (by decide +kernel)))) ?_ (D6.same s7)
      refine (ct4.const 1).of ?_ ?_
      · rw [List.length_append, row_len]
        rfl
      · rw [ns_do]
        rfl
    have h3 : kd ≠ "do" := fun e => h3 (decide_eq_true (congrArg V.str e))
    -- a block of it
    have blk : ∀ {Hx : Hp} {cx : Int} {mm : Nat} {v : V} {bs : List PyData} {Q' : VK}, DrO H Hx o cx → n = mm + 1 → bs.length ≤ 3 → (∀ y ∈ bs, St mm y) → Tr H v (.tuple bs) → (∀ (q : Addr) (ws : List Wd) (H' : Hp) (c' : Int), Hx q = none → WdL H' (.ref q) ws → WL ws → Cnt o (nBk (gOf n) (.tuple bs)) ws.length cx c' → ws.length ≤ nBk (gOf n) (.tuple bs) + 24 → DrO H H' o c' → (∀ {u us}, WdL Hx u us → WdL H' u us) → Q' (.ref q) H') →
        spBk m [bv, v] Hx Q' E0 := by
      intro Hx cx mm v bs Q' D en hl hb tb go
      subst en
      refine ⟨o, mm, bv, v, bs, cx, rfl, by omega, by omega, hl, hb, tb.keep D.tk, DrO.bgo B D, fun q ws H' c' n e l ct D' => go q ws H' c' n e l ct ?_ (D.trans D') (fun h => DrO.wdl (DrO.bgo B D) D' h)⟩
      exact ct.le D.rng.1 D'.rng.2
    refine ⟨_, rfl, rfl, _, rfl, ite2 (fun h => ?_) (fun h4 => ?_)⟩
    · -- if
      have e : kd = "if" := V.str.inj (of_decide_eq_true h)
      subst e
      obtain ⟨mm, x, bs, e, rfl, rfl, hx, hl, hb, ho⟩ := F.iff rfl
      obtain ⟨v1, v2, v3, rfl, t1, t2, t3⟩ := ta3 hy
      have ns := ns_if (g := gOf (mm + 1)) (ds := [x, .tuple bs, e])
      have ns : nSk (gOf (mm + 1)) "if" [x, .tuple bs, e] = 1 + nE x + nBk (gOf (mm + 1)) (.tuple bs) + nElse (gOf (mm + 1)) e := ns
      refine ⟨by show 1 ≤ sizeLine; decide, fun p3 hp3 => ⟨p3, ["if"], rfl, SqL.of upd_same, by show 1 ≤ 1000; decide, fun q3 us_ H3 s_ n_ h_ t_ => ?_⟩⟩
      obtain ⟨_, s3, e3⟩ := row_e hp3 s_ n_ h_ t_
      have D3 := D1.same s3
      refine ⟨_, rfl, _, rfl, _, _, _, _, rfl, rfl, SqT.of (D3.tk _ _ ha), atI_nat (j := 1) rfl, inn D3 hx t1 fun q4 w4 H4 c4 _ e4 l4 ct4 z4 D4 kp4 => ?_⟩
      refine cat_wd (kp4 e3) e4 (sz_m (by rw [row_len]; show 1 + _ ≤ _; omega)) fun q5 H5 n5 s5 e5 => ?_
      have D5 := D4.same s5
      refine ⟨_, rfl, _, rfl, _, _, _, _, rfl, rfl, SqT.of (D5.tk _ _ ha), atI_nat (j := 2) rfl, blk D5 rfl hl hb t2 fun q6 w6 H6 c6 n6 e6 l6 ct6 z6 D6 kp6 => ?_⟩
      refine cat_wd (kp6 e5) e6 (sz_m (by rw [List.length_append, row_len]; show 1 + _ + _ ≤ _; omega)) fun q7 H7 n7 s7 e7 => ?_
      have D7 := D6.same s7
      have ctA := (ct4.const' 1).add ct6
      have lA : ((rowW ["if"] ++ w4) ++ w6).length = 1 + w4.length + w6.length := by
        rw [List.length_append, List.length_append, row_len]
        rfl
      have wlA : WL ((rowW ["if"] ++ w4) ++ w6) := .app (.app (.one (fix_ok (by decide +kernel))) l4) l6
      generalize eA : (rowW ["if"] ++ w4) ++ w6 = wA at e7 lA wlA
      have n7 := DrO.free B D6 n7
      clear e3 e4 e5 e6 kp4 kp6 D3 D4 D5 D6 s7 n6 n5
      -- what comes behind else
      have fin : ∀ {H8 : Hp} {q8 : Addr} {w8 : List Wd} {c8 : Int} {N : Nat} {v5 v6 v7 : Option V}, WdL H8 (.ref q7) wA → WdL H8 (.ref q8) w8 → WL w8 → Cnt o N w8.length c6 c8 → w8.length ≤ N + 24 → DrO H H8 o c8 → nElse (gOf (mm + 1)) e = 1 + N →
          tOp rCat (tOp rCat (tVar 3) (tCall (spRow K) [] C8.E0 (tCons (tLst (tCons (tC (V.str "else")) tNil)) tNil))) (tVar 6) [some bv, some (.ref p), some (.str "if"), some (.ref q7), none, v5, some (.ref q8), v6, v7] H8 Q := by
        intro H8 q8 w8 c8 N v5 v6 v7 e7 e8 l8 ct8 z8 D8 eN
        refine ⟨_, rfl, by show 1 ≤ sizeLine; decide, fun p9 hp9 => ⟨p9, ["else"], rfl, SqL.of upd_same, by show 1 ≤ 1000; decide, fun q9 us_ H9 s_ n_ h_ t_ => ?_⟩⟩
        obtain ⟨_, s9, e9⟩ := row_e hp9 s_ n_ h_ t_
        refine cat_wd (e7.same s9) e9 (sz_m (by rw [row_len]; show _ + 1 ≤ _; omega)) fun qa Ha na sa ea => ⟨_, rfl, ?_⟩
        refine cat_wd ea ((e8.same s9).same sa) (sz_m (by rw [List.length_append, row_len]; show _ + 1 + _ ≤ _; omega)) fun qb Hb nb sb eb => ?_
        have Da := (D8.same s9).same sa
        refine k qb _ Hb c8 (DrO.free B Da nb) eb (.app (.app wlA (.one (fix_ok (by decide +kernel)))) l8) ?_ (Da.same sb)
        refine ((ctA.const 1).add ct8).of ?_ ?_
        · rw [List.length_append, List.length_append, row_len, lA]
          rfl
        · rw [ns, eN]
          omega
      cases ho with
      | no =>
        cases t3
        refine ⟨_, rfl, _, _, _, _, rfl, rfl, SqT.of (D7.tk _ _ ha), atI_nat (j := 3) rfl, rfl, _, rfl, ite2 (fun _ => ?_) (fun z => absurd (decide_eq_true rfl) z)⟩
        refine ⟨_, rfl, k q7 _ H7 c6 n7 e7 wlA (ctA.of lA ?_) D7⟩
        rw [ns]
        rfl
      | @bl cs hl2 hb2 =>
        obtain ⟨q3, us3, rfl, hq3, tq3⟩ := t_tup t3
        refine ⟨_, rfl, _, _, _, _, rfl, rfl, SqT.of (D7.tk _ _ ha), atI_nat (j := 3) rfl, rfl, _, rfl, ite2 (fun z => absurd (of_decide_eq_true z) (fun e => by cases e)) (fun _ => ?_)⟩
        refine ⟨_, rfl, _, _, _, _, rfl, rfl, SqT.of (D7.tk _ _ ha), atI_nat (j := 3) rfl, _, rfl, slA_at (D7.tk _ _ hq3) (tq3.keep D7.tk) fun r H8 s8 t8 => ?_⟩
        refine ⟨by show 1 ≤ sizeLine; decide, fun p9 hp9 => ⟨_, _, (t8.new hp9).dp, (Tr.tup upd_same (.cons (.str _) .nil) : Tr _ (.ref p9) (.tuple [.str "if"])).dp, td_shaped (m := 20) (TD.tup (m := 19) fun y hy => (st_td (hb2 y (List.mem_of_mem_take hy))).up (by omega)) (by decide), td_shaped (m := 20) (TD.tup (m := 19) (fun y hy => by rw [List.mem_singleton.mp hy]; exact .str (kw_nice (by decide +kernel)))) (by decide), ?_⟩⟩
        rw [eqv_if hb2]
        have D9 := (D7.same s8).same (same_new (o := .tup [.str "if"]) hp9)
        have e9 := (e7.same s8).same (same_new (o := .tup [.str "if"]) hp9)
        generalize upd H8 p9 (HO.tup [.str "if"]) = H9 at D9 e9 ⊢
        refine ⟨_, rfl, false, rfl, ite2 (fun z => absurd z Bool.false_ne_true) (fun _ => ?_)⟩
        refine ⟨_, rfl, _, rfl, _, _, _, _, rfl, rfl, SqT.of (D9.tk _ _ ha), atI_nat (j := 3) rfl, blk D9 rfl hl2 hb2 t3 fun qa wa Ha ca na ea la cta za Da kpa => ?_⟩
        exact fin (kpa e9) ea la cta za Da (nElse_bl (noIf hb2))
      | iff hi =>
        obtain ⟨q3, us3, rfl, hq3, tq3⟩ := t_tup t3
        refine ⟨_, rfl, _, _, _, _, rfl, rfl, SqT.of (D7.tk _ _ ha), atI_nat (j := 3) rfl, rfl, _, rfl, ite2 (fun z => absurd (of_decide_eq_true z) (fun e => by cases e)) (fun _ => ?_)⟩
        refine ⟨_, rfl, _, _, _, _, rfl, rfl, SqT.of (D7.tk _ _ ha), atI_nat (j := 3) rfl, _, rfl, slA_at (D7.tk _ _ hq3) (tq3.keep D7.tk) fun r H8 s8 t8 => ?_⟩
        refine ⟨by show 1 ≤ sizeLine; decide, fun p9 hp9 => ⟨_, _, (t8.new hp9).dp, (Tr.tup upd_same (.cons (.str _) .nil) : Tr _ (.ref p9) (.tuple [.str "if"])).dp, td_shaped (m := 20) (TD.tup (m := 19) (fun y hy => by rw [List.mem_singleton.mp hy]; exact .str (kw_nice (by decide +kernel)))) (by decide), td_shaped (m := 20) (TD.tup (m := 19) (fun y hy => by rw [List.mem_singleton.mp hy]; exact .str (kw_nice (by decide +kernel)))) (by decide), ?_⟩⟩
        rw [eqv_iff]
        have D9 := (D7.same s8).same (same_new (o := .tup [.str "if"]) hp9)
        have e9 := (e7.same s8).same (same_new (o := .tup [.str "if"]) hp9)
        generalize upd H8 p9 (HO.tup [.str "if"]) = H9 at D9 e9 ⊢
        refine ⟨_, rfl, true, rfl, ite2 (fun _ => ?_) (fun z => absurd rfl z)⟩
        refine ⟨_, rfl, _, rfl, _, _, _, _, rfl, rfl, SqT.of (D9.tk _ _ ha), atI_nat (j := 3) rfl, o, mm, bv, _, _, c6, rfl, by omega, by omega, hi, t3.keep D9.tk, DrO.bgo B D9, fun qa wa Ha ca na ea la cta Da => ?_⟩
        exact fin (DrO.wdl (DrO.bgo B D9) Da e9) ea la cta (cta.le D9.rng.1 Da.rng.2) (D9.trans Da) nElse_if
    have h4 : kd ≠ "if" := fun e => h4 (decide_eq_true (congrArg V.str e))
    refine ⟨_, rfl, rfl, _, rfl, ite2 (fun h => ?_) (fun h5 => ?_)⟩
    · -- while
      have e : kd = "while" := V.str.inj (of_decide_eq_true h)
      subst e
      obtain ⟨mm, x, bs, rfl, rfl, hx, hl, hb⟩ := F.whil rfl
      obtain ⟨v1, v2, rfl, t1, t2⟩ := ta2 hy
      have ns : nSk (gOf (mm + 1)) "while" [x, .tuple bs] = 1 + nE x + nBk (gOf (mm + 1)) (.tuple bs) := ns_while (g := gOf (mm + 1)) (ds := [x, .tuple bs])
      refine ⟨_, rfl, by show 1 ≤ sizeLine; decide, fun p3 hp3 => ⟨p3, ["while"], rfl, SqL.of upd_same, by show 1 ≤ 1000; decide, fun q3 us_ H3 s_ n_ h_ t_ => ?_⟩⟩
      obtain ⟨_, s3, e3⟩ := row_e hp3 s_ n_ h_ t_
      have D3 := D1.same s3
      refine ⟨_, rfl, _, rfl, _, _, _, _, rfl, rfl, SqT.of (D3.tk _ _ ha), atI_nat (j := 1) rfl, inn D3 hx t1 fun q4 w4 H4 c4 _ e4 l4 ct4 z4 D4 kp4 => ?_⟩
      refine cat_wd (kp4 e3) e4 (sz_m (by rw [row_len]; show 1 + _ ≤ _; omega)) fun q5 H5 n5 s5 e5 => ?_
      have D5 := D4.same s5
      refine ⟨_, rfl, _, rfl, _, _, _, _, rfl, rfl, SqT.of (D5.tk _ _ ha), atI_nat (j := 2) rfl, blk D5 rfl hl hb t2 fun q6 w6 H6 c6 n6 e6 l6 ct6 z6 D6 kp6 => ?_⟩
      refine cat_wd (kp6 e5) e6 (sz_m (by rw [List.length_append, row_len]; show 1 + _ + _ ≤ _; omega)) fun q7 H7 n7 s7 e7 => ?_
      refine k q7 _ H7 c6 (DrO.free B D6 n7) e7 (.app (.app (.one (fix_ok (by decide +kernel))) l4) l6) ?_ (D6.same s7)
      refine ((ct4.const' 1).add ct6).of ?_ ?_
      · rw [List.length_append, List.length_append, row_len]
        rfl
      · rw [ns]
    have h5 : kd ≠ "while" := fun e => h5 (decide_eq_true (congrArg V.str e))
    refine ⟨_, rfl, rfl, _, rfl, ite2 (fun h => ?_) (fun h6 => ?_)⟩
    · -- for
      have e : kd = "for" := V.str.inj (of_decide_eq_true h)
      subst e
      obtain ⟨mm, z, x, bs, rfl, rfl, hz, hx, hl, hb⟩ := F.for_ rfl
      obtain ⟨v0, v1, v2, rfl, t0, t1, t2⟩ := ta3 hy
      obtain rfl := t_str t0
      have ns : nSk (gOf (mm + 1)) "for" [.str z, x, .tuple bs] = 3 + nE x + nBk (gOf (mm + 1)) (.tuple bs) := ns_for (g := gOf (mm + 1)) (ds := [.str z, x, .tuple bs])
      refine ⟨_, rfl, _, rfl, _, _, _, _, rfl, rfl, SqT.of (D1.tk _ _ ha), atI_nat (j := 1) rfl, by show 3 ≤ sizeLine; decide, fun p3 hp3 => ⟨p3, ["for", z, "in"], rfl, SqL.of upd_same, by show 3 ≤ 1000; decide, fun q3 us_ H3 s_ n_ h_ t_ => ?_⟩⟩
      obtain ⟨_, s3, e3⟩ := row_e hp3 s_ n_ h_ t_
      have D3 := D1.same s3
      refine ⟨_, rfl, _, rfl, _, _, _, _, rfl, rfl, SqT.of (D3.tk _ _ ha), atI_nat (j := 2) rfl, inn D3 hx t1 fun q4 w4 H4 c4 _ e4 l4 ct4 z4 D4 kp4 => ?_⟩
      refine cat_wd (kp4 e3) e4 (sz_m (by rw [row_len]; show 3 + _ ≤ _; omega)) fun q5 H5 n5 s5 e5 => ?_
      have D5 := D4.same s5
      refine ⟨_, rfl, _, rfl, _, rfl, _, _, _, _, rfl, rfl, SqT.of (D5.tk _ _ ha), atI_nat (j := 3) rfl, blk D5 rfl hl hb t2 fun q6 w6 H6 c6 n6 e6 l6 ct6 z6 D6 kp6 => ?_⟩
      refine cat_wd (kp6 e5) e6 (sz_m (by rw [List.length_append, row_len]; show 3 + _ + _ ≤ _; omega)) fun q7 H7 n7 s7 e7 => ?_
      refine k q7 _ H7 c6 (DrO.free B D6 n7) e7 (.app (.app (WL.row (ws := ["for", z, "in"]) fun y hy => ?_) l4) l6) ?_ (D6.same s7)
      · rcases mem3.mp hy with rfl | rfl | rfl
        · exact fix_ok (by decide +kernel)
        · exact .name hz
        · exact fix_ok (by decide +kernel)
      · refine ((ct4.const' 3).add ct6).of ?_ ?_
        · rw [List.length_append, List.length_append, row_len]
          rfl
        · rw [ns]
    have h6 : kd ≠ "for" := fun e => h6 (decide_eq_true (congrArg V.str e))
    -- def
    obtain ⟨rfl, mm, z, ns, bs, rfl, rfl, hz, ln, hns, hl, hb⟩ := F.def_ h1 h2 h3 h4 h5 h6
    obtain ⟨v0, vn, v2, rfl, t0, tn, t2⟩ := ta3 hy
    obtain rfl := t_str t0
    obtain ⟨qx, us0, rfl, hqx, tx⟩ := t_tup tn
    have e0 := ta_strs tx
    subst e0
    have nd : nSk (gOf (mm + 1)) "def" [.str z, .tuple (ns.map .str), .tuple bs] = 3 + btwN ((ns.map PyData.str).map fun _ => 1) + 1 + nBk (gOf (mm + 1)) (.tuple bs) := ns_def (g := gOf (mm + 1)) (ds := [.str z, .tuple (ns.map .str), .tuple bs])
    rw [List.map_map] at nd
    refine ⟨_, rfl, _, _, _, _, rfl, rfl, SqT.of (D1.tk _ _ ha), atI_nat (j := 2) rfl, _, rfl, ⟨_, SqT.of (D1.tk _ _ hqx)⟩, fun D hD => ?_⟩
    refine lc_tup (K := K) (a := qx) (xs := ns.map V.str) (fun i H' => ∃ us wss, Lst o D H1 H' c c ((ns.take i).map fun _ => 1) us wss)
      ⟨[], [], Lst.nil (DrO.bgo B D1) hD⟩ (fun i H' _ ⟨_, _, L⟩ => SqT.of (L.dr.tk _ _ (D1.tk _ _ hqx))) ?_ ?_
    · rintro i x H' hi ⟨us, wss, L⟩
      rw [List.getElem?_map] at hi
      obtain ⟨z, hz, rfl⟩ := Option.map_eq_some_iff.mp hi
      have li := (List.getElem?_eq_some_iff.mp hz).1
      refine ⟨rfl, _, rfl, by show 1 ≤ sizeLine; decide, fun p6 hp6 => ⟨p6, [z], rfl, SqL.of upd_same, by show 1 ≤ 1000; decide, fun q6 us_ H6 s_ n_ h_ t_ => ?_⟩⟩
      obtain ⟨n6, s6, e6⟩ := row_e hp6 s_ n_ h_ t_
      have B' := DrO.bgo B (D1.trans L.dr)
      obtain ⟨hD3, L3⟩ := L.add (DrO.bgo B D1) hD n6 e6 (.one (.name (hns z (List.mem_of_getElem? hz)))) (.refl rfl) ((DrO.refl B').same s6)
      refine ⟨us, hD3, L.size (by rw [List.length_map, List.length_take]; omega), us ++ [.ref q6], wss ++ [rowW [z]], ?_⟩
      rw [take_map hz]
      exact L3
    rintro H3 ⟨us, wss, L⟩
    rw [List.length_map, List.take_length] at L
    have D3 := D1.trans L.dr
    have ctB := L.btw
    have zB := ctB.le cr.1 D3.rng.2
    have yB := btwN_map (g := fun _ : Str => 1) (l := ns) (M := 1) (fun _ _ => Nat.le_refl _) (Nat.le_succ_of_le ln)
    have wlB : WL (btw true wss) := WL.btw L.wl
    refine ⟨D, us, wss, rfl, SqL.of L.at_, L.len, L.wd, by omega, fun vB H4 s4 eB => ?_⟩
    have D4 := D3.same s4
    clear D3 s4
    refine ⟨_, rfl, _, rfl, _, _, _, _, rfl, rfl, SqT.of (D4.tk _ _ ha), atI_nat (j := 1) rfl, by show 3 ≤ sizeLine; decide, fun p6 hp6 => ⟨p6, ["def", z, "("], rfl, SqL.of upd_same, by show 3 ≤ 1000; decide, fun q6 us_ H6 s_ n_ h_ t_ => ?_⟩⟩
    obtain ⟨_, s6, e6⟩ := row_e hp6 s_ n_ h_ t_
    refine ⟨_, rfl, cat_wd e6 (eB.same s6) (sz_m (by rw [row_len]; show 3 + _ ≤ _; omega)) fun q7 H7 _ s7 e7 => ?_⟩
    refine ⟨by show 1 ≤ sizeLine; decide, fun p8 hp8 => ⟨p8, [")"], rfl, SqL.of upd_same, by show 1 ≤ 1000; decide, fun q8 us_ H8 s_ n_ h_ t_ => ?_⟩⟩
    obtain ⟨_, s8, e8⟩ := row_e hp8 s_ n_ h_ t_
    refine cat_wd (e7.same s8) e8 (sz_m (by rw [List.length_append, row_len, row_len]; show 3 + _ + 1 ≤ _; omega)) fun q9 H9 _ s9 e9 => ?_
    have D9 := ((D4.same s6).same s7).same (s8.trans s9)
    refine ⟨_, rfl, _, rfl, _, rfl, _, _, _, _, rfl, rfl, SqT.of (D9.tk _ _ ha), atI_nat (j := 3) rfl, blk D9 rfl hl hb t2 fun qA wA HA cA _ eA lA ctA zA DA kpA => ?_⟩
    refine cat_wd (kpA e9) eA (sz_m (by rw [List.length_append, List.length_append, row_len, row_len]; show 3 + _ + 1 + _ ≤ _; omega)) fun qB HB nB sB eB2 => ?_
    refine k qB _ HB cA (DrO.free B DA nB) eB2 (.of (.app (.app (WL.row (ws := ["def", z]) fun y hy => ?_) (.br (o := "(") (c := ")") (b := true) (by decide +kernel) wlB)) lA) ?_) ?_ (DA.same sB)
    · rcases mem2.mp hy with rfl | rfl
      · exact fix_ok (by decide +kernel)
      · exact .name hz
    · simp [rowW]
    · refine ((ctB.const 4).add ctA).of ?_ ?_
      · rw [List.length_append, List.length_append, List.length_append, row_len, row_len]
        show 3 + _ + 1 + _ = _
        omega
      · rw [nd]
        show 3 + btwN (ns.map fun _ => 1) + 1 + _ = _
        omega

/-- words of a program -/
def nPr (n : Nat) (ds : List PyData) : Nat := (ds.map (nSt n)).sum
def spPw : Sp := fun vs H Q _ => ∃ (o : Option Bg) (n : Nat) (bv v : V) (ds : List PyData) (c : Int), vs = [bv, v] ∧ n ≤ 4 ∧ ds.length ≤ 4 ∧ (∀ x ∈ ds, St n x) ∧ Tr H v (.tuple ds) ∧ BgO H bv o c ∧ Wds Q H o 0 (nPr n ds)
theorem sum4 {α : Type} {f : α → Nat} {M : Nat} : ∀ {l : List α}, (∀ x ∈ l, f x ≤ M) → (l.map f).sum ≤ l.length * M
  | [], _ => Nat.zero_le _
  | a :: r, h => by
    have h1 := h a (List.mem_cons_self ..)
    have h2 := sum4 (f := f) (l := r) fun x hx => h x (List.mem_cons_of_mem _ hx)
    show f a + (r.map f).sum ≤ (r.length + 1) * M
    rw [Nat.succ_mul]
    omega
theorem c_l_program_words (T : Txt K mg w) (c_l_flat : Cal P w K mg base 1 "_law_flat" (spFlW K) []) (c_l_statement_words : Cal P w K mg base 23 "_law_statement_words" (spSw 5) []) :
    Cal P w K mg base 24 "_law_program_words" spPw [] := by
  refine calOf T.d_l_program_words sc_l_program_words (fun vs H Q E h => ?_) (fun f cdv A outer s H vs Q E hr h => ?_)
  · obtain ⟨o, n, bv, v, d, c, rfl, _⟩ := h
    rfl
  · obtain ⟨o, n, bv, v, ds, c, rfl, hn, hl, hs, ht, B, k⟩ := h
    obtain ⟨qx, us0, rfl, hqx, tx⟩ := t_tup ht
    refine ⟨_,
      (Evl.pss_cut (ps_if (pt_cmpR op_notN (pv 0) pe_non (nomark _))
        (pss_one (ps_asg pe_int (pg_sub (pv 0) pe_int set_list)))
        pss_nil)
        (pss_one (ps_ret (pe_c c_l_flat hr (by first | decide | omega) rfl (pa_cons (pe_lc (own := [("_law_statement_here", 2)]) (g := gName 2) (tt := tYes) rfl sc_l_program_words.nd (pi_tup (pv 1)) (blkOk_by (N := ["_law_bag_here", "_law_program_here", "_law_statement_here"]) (sc := defScope s_l_program_words) (by decide +kernel)) (fun _ _ _ _ _ => pg_name (i := 2) sc_l_program_words.nd rfl (Or.inl rfl)) (fun _ _ _ _ _ => pts_nil) (fun _ _ _ _ _ => (pe_c c_l_statement_words hr (by first | decide | omega) rfl (pa_cons (pv 0) (pa_cons (pv 2) pa_nil))))) pa_nil)))))
      , ?_⟩
    refine ⟨fun σ' H' => σ' = [some bv, some (.ref qx), none] ∧ DrO H H' o 0, ?_, ?_⟩
    · refine ⟨_, rfl, rfl, _, rfl, ?_⟩
      cases o with
      | none =>
        obtain ⟨rfl, rfl⟩ := B
        exact ite2 (fun z => absurd z (by decide)) (fun _ => ⟨rfl, rfl, Same.refl _⟩)
      | some g =>
        obtain ⟨rfl, c0, c12, e, b⟩ := B
        obtain ⟨z, mm, i, ns, hb, hL, rest⟩ := b.ex
        refine ite2 (fun _ => ?_) (fun z => absurd (by rw [decide_eq_false (fun e => by cases e)]; rfl) z)
        walk_at "rd"
        exact ⟨by decide, by decide, e, .mk' b ⟨⟨z, mm, i, ns, upd_same, by rw [upd_ne b.ne]; exact hL, rest⟩, b.ne⟩ (Fr.refl _ _).at⟩
    rintro σ' H1 ⟨rfl, D1⟩
    have B1 := DrO.bgo B D1
    have Sm : nPr n ds ≤ 12800000 := by
      have := sum4 (f := nSt n) (l := ds) fun x hx => nSt_4 (hs x hx) hn
      exact Nat.le_trans this (by omega)
    refine ⟨_, rfl, _, rfl, ⟨_, SqT.of (D1.tk _ _ hqx)⟩, fun D hD => ?_⟩
    refine lc_tup (K := K) (a := qx) (xs := us0) (fun i H' => ∃ us wss c', Lst o D H1 H' 0 c' ((ds.take i).map fun d => nSt n d) us wss)
      ⟨[], [], 0, Lst.nil B1 hD⟩ (fun i H' _ ⟨_, _, _, L⟩ => SqT.of (L.dr.tk _ _ (D1.tk _ _ hqx))) ?_ ?_
    · rintro i x H' hi ⟨us, wss, c', L⟩
      obtain ⟨d, hd, td⟩ := tx.get hi
      have li := (List.getElem?_eq_some_iff.mp hd).1
      have D' := D1.trans L.dr
      refine ⟨rfl, _, rfl, _, rfl, o, n, bv, x, d, c', rfl, by omega, hn, hs d (List.mem_of_getElem? hd), td.keep D'.tk, DrO.bgo B D', fun q3 w3 H3 c3 n3 e3 l3 ct3 D3 => ?_⟩
      obtain ⟨hD3, L3⟩ := L.add B1 hD n3 e3 l3 ct3 D3
      refine ⟨us, hD3, L.size (by rw [List.length_map, List.length_take]; omega), us ++ [.ref q3], wss ++ [w3], c3, ?_⟩
      rw [take_map hd]
      exact L3
    rintro H3 ⟨us, wss, c3, L⟩
    rw [tx.len, List.take_length] at L
    have ctF : Cnt o (nPr n ds) wss.flatten.length 0 c3 := L.flat
    have D3 := D1.trans L.dr
    have z := ctF.le (by decide) D3.rng.2
    refine ⟨D, us, wss, rfl, SqL.of L.at_, L.len, L.wd, by omega, fun q us2 H4 s4 n4 h4 t4 => ?_⟩
    exact k q _ H4 c3 (DrO.free B D3 n4) ⟨q, us2, rfl, h4, t4⟩ (WL.flat L.wl) ctF (D3.same s4)

/-- a program is drawn -/
def spPr : Sp := fun vs H Q _ => ∃ (g : Bg) (many dp : Nat) (c e : Int), vs = [.ref g.b, .int many, .int dp] ∧ many ≤ 3 ∧ dp ≤ 3 ∧ Bag H g c e ∧
  ∀ (v : V) (ds : List PyData) (H' : Hp) (e' : Int), ds.length ≤ 3 → (∀ x ∈ ds, St (dp + 1) x) → nPr (dp + 1) ds ≤ 140 → Tr H' v (.tuple ds) → Drawn g H H' c e' → Q v H'
theorem c_l_program (T : Txt K mg w) (c_l_take : Cal P w K mg base 1 "_law_take" spTake []) (c_l_statement : Cal P w K mg base 25 "_law_statement" (spSt 5) []) (c_l_program_words : Cal P w K mg base 24 "_law_program_words" spPw []) :
    Cal P w K mg base 26 "_law_program" spPr [] := by
  refine calOf T.d_l_program sc_l_program (fun vs H Q E h => ?_) (fun f cdv A outer s H vs Q E hr h => ?_)
  · obtain ⟨g, many, dp, c, e, rfl, _⟩ := h
    rfl
  · obtain ⟨g, many, dp, c, e, rfl, hm, hd, B, k⟩ := h
    refine ⟨_,
      (pss_cons (ps_set (i := 3) sc_l_program.nd rfl (Or.inl rfl) (pe_callTy call_tuple_of (by rfl) T.n_tuple (by decide +kernel) (pa_cons (pe_lc (own := [("_law_turn", 4)]) (g := gName 4) (tt := tYes) rfl sc_l_program.nd (pi_range1 (by rfl) T.n_range (pa_cons (pe_c c_l_take hr (by first | decide | omega) rfl (pa_cons (pv 0) (pa_cons (pe_op op_add (pv 1) pe_int) pa_nil))) pa_nil)) (blkOk_by (N := ["_law_bag_here", "_law_many", "_law_deep", "_law_found", "_law_turn"]) (sc := defScope s_l_program) (by decide +kernel)) (fun _ _ _ _ _ => pg_name (i := 4) sc_l_program.nd rfl (Or.inl rfl)) (fun _ _ _ _ _ => pts_nil) (fun _ _ _ _ _ => (pe_c c_l_statement hr (by first | decide | omega) rfl (pa_cons (pv 0) (pa_cons (pv 2) pa_nil))))) pa_nil)))
        (pss_cons (ps_while PassesOwn.never (pt_cmpR op_gt (pe_callB call_len (by rfl) T.n_len PySem.boot_len (pa_cons (pe_c c_l_program_words hr (by first | decide | omega) rfl (pa_cons pe_non (pa_cons (pv 3) pa_nil))) pa_nil)) pe_int (nomark _))
        (pss_one (ps_set (i := 3) sc_l_program.nd rfl (Or.inl rfl) (pe_slice sl_tup (pv 3) po_none (po_some (pe_un un_neg pe_int))))))
        (pss_one (ps_ret (pv 3)))))
      , ?_⟩
    refine ⟨_, rfl, _, rfl, _, _, rfl, rfl, g, (many : Int) + 1, c, e, rfl, B, by omega, by omega, fun r H1 r0 r1 D1 => ?_⟩
    obtain ⟨r, rfl⟩ := Int.eq_ofNat_of_zero_le r0
    refine ⟨_, rfl, by omega, by omega, fun D hD => ?_⟩
    have nD := D1.bag.ne_new hD
    refine lc_range (lo := 0) (n := ((r : Int)).toNat) (fun i H' => ∃ (us : List V) (ds : List PyData) (e' : Int), ds.length = i ∧ (∀ x ∈ ds, St (dp + 1) x) ∧ TrAll H' us ds ∧ H' D = some (.lst us) ∧ Drawn g H1 H' c e') ⟨[], [], e, rfl, (by simp), .nil, upd_same, (Drawn.of D1.bag).put D1.bag hD⟩ ?_ ?_
    · rintro i H' hi ⟨us, ds, e', hl, hs, tr, hd', Dw⟩
      refine ⟨rfl, _, rfl, _, rfl, g, dp + 1, c, e', by show [V.ref g.b, V.int dp] = _; rw [show ((dp + 1 : Nat) : Int) - 1 = (dp : Int) by omega], by omega, Dw.bag, fun v d H3 e3 hv tv D3 => ?_⟩
      have lu := tr.len
      refine ⟨us, D3.keep nD hd', Nat.lt_of_lt_of_le (show us.length < 100 by omega) (by decide), us ++ [v], ds ++ [d], e3, ?_, ?_, ?_, upd_same, (Dw.trans D3).put D1.bag hD⟩
      · rw [List.length_append, hl] <;> rfl
      · intro x hx
        rcases List.mem_append.mp hx with h | h
        · exact hs x h
        · rw [List.mem_singleton.mp h]
          exact hv
      · exact ((tr.keep D3.tk).app (.one tv)).keep (tk_lst (D3.keep nD hd'))
    rintro H2 ⟨us, ds, e2, hl, hs, tr, hd2, Dw⟩
    refine ⟨D, us, rfl, .inl ⟨SqL.of hd2, fun q hq => ?_⟩⟩
    have D2 := (D1.trans Dw).new (o := .tup us) hq
    have t2 : Tr (upd H2 q (.tup us)) (.ref q) (.tuple ds) := .tup upd_same (tr.new hq)
    have l3 : ds.length ≤ 3 := by omega
    generalize upd H2 q (.tup us) = H3 at D2 t2 ⊢
    refine ⟨fun m σ H' => ∃ (q : Addr) (ds : List PyData) (v4 : Option V), m = ds.length ∧ σ = [some (.ref g.b), some (.int many), some (.int dp), some (.ref q), v4] ∧ ds.length ≤ 3 ∧ (∀ x ∈ ds, St (dp + 1) x) ∧ Tr H' (.ref q) (.tuple ds) ∧ Drawn g H H' c e2, ⟨_, q, ds, _, rfl, rfl, l3, hs, t2, D2⟩, ?_⟩
    clear t2 D2 hs l3 hl tr hd2 Dw hq
    rintro m σ' H4 ⟨q, ds, v4, rfl, rfl, l3, hs, t4, D4⟩
    refine ⟨_, rfl, none, dp + 1, .non, .ref q, ds, 0, rfl, by omega, by omega, hs, t4, ⟨rfl, rfl⟩, fun q5 ws H5 c5 n5 e5 l5 ct5 D5 => ?_⟩
    obtain ⟨rfl, s5⟩ := D5
    obtain ⟨_, ct1, ct2⟩ := ct5
    have ct2 := ct2 rfl
    have D6 := D4.trans (.same D4.bag s5)
    have t6 := t4.keep (.of s5)
    obtain ⟨qq, us5, e, h5, tr5⟩ := e5
    cases e
    have lu := tr5.len
    rw [List.length_map] at lu
    refine ⟨_, us5.length, rfl, .inl ⟨us5, SqL.of h5, rfl⟩, _, _, rfl, rfl, _, rfl, ?_⟩
    refine ite2 (fun h => ?_) (fun h => ?_)
    · have h : (140 : Int) < us5.length := of_decide_eq_true h
      obtain ⟨x, r, rfl⟩ : ∃ x r, ds = r ++ [x] := by
        rcases List.eq_nil_or_concat ds with rfl | ⟨r, x, rfl⟩
        · have : nPr (dp + 1) [] = 0 := rfl
          omega
        · exact ⟨x, r, by simp⟩
      obtain ⟨q', us, e, hq, tr⟩ := t_tup t6
      cases e
      have lr := tr.len
      rw [List.length_append] at lr
      refine ⟨fun σ' H' => ∃ q2 : Addr, σ' = [some (.ref g.b), some (.int many), some (.int dp), some (.ref q2), v4] ∧ Tr H' (.ref q2) (.tuple r) ∧ Drawn g H H' c e2, fun σ' H' ⟨q2, e, t, D⟩ => ⟨r.length, by rw [List.length_append]; exact Nat.lt_succ_self _, q2, r, v4, rfl, e, by rw [List.length_append] at l3; omega, fun x hx => hs x (List.mem_append_left _ hx), t, D⟩, ?_⟩
      have ix : HT.sIx us.length us.length (some (-1)) = r.length := by
        show (if (-1 : Int) < 0 then ((-1 : Int) + us.length).toNat else min (-1 : Int).toNat us.length) = _
        rw [if_pos (by decide), lr, List.length_singleton]
        omega
      have ec : cutV us none (some (-1)) = us.take r.length := by
        unfold cutV
        rw [ix]
        show (us.drop 0).take (r.length - 0) = _
        rw [List.drop_zero, Nat.sub_zero]
      refine ⟨_, rfl, 1, rfl, -1, rfl, q, us, rfl, SqT.of hq, fun z => ?_, fun p hp => ?_⟩
      · have z2 := z.2
        rw [ix, lr, List.length_singleton] at z2
        omega
      · refine ⟨p, rfl, .tup upd_same ?_, D6.new hp⟩
        rw [ec]
        have t := TrAll.take r.length tr
        rw [List.take_left'] at t
        · exact t.new hp
        · rfl
    · have h : ¬ (140 : Int) < us5.length := fun z => h (decide_eq_true z)
      exact ⟨_, rfl, k _ ds H5 e2 l3 hs (by omega) t6 D6⟩

section
variable {T : List (Addr × Str)} {g : Bg} {H H1 H2 : Hp} {a p : Addr} {o : HO} {c e c' e' : Int}
theorem Kp.tk (B : Bag H g c' e') (x : Kp T g c e H H1) : Tk H H1 := fun a xs h => x.kp a _ (fun z => by
  obtain ⟨ob, hb⟩ := B.ob
  rw [z, hb] at h
  cases h) (fun ps z => by cases z) h
end
/-- a short text of signs -/
def okB (n : Nat) : V → Bool
  | .str z => decide (z.length ≤ n) && z.cps.toList.all (· < 0x110000)
  | _ => false
theorem okB_is {n : Nat} {v : V} (h : okB n v = true) : ∃ z : Str, v = .str z ∧ z.length ≤ n ∧ Nice z := by
  cases v with
  | str z =>
    have h : (decide (z.length ≤ n) && z.cps.toList.all (· < 0x110000)) = true := h
    rw [Bool.and_eq_true] at h
    exact ⟨z, rfl, of_decide_eq_true h.1, nice_of h.2⟩
  | _ => cases h
theorem pick_k {K : PySem.W.Frag} {T : List (Addr × Str)} {g : Bg} {H0 H1 : Hp} {c e : Int} {l : List V} {p : Addr} {Q : VK} {n : Nat} (x : Kp T g c e H0 H1) (hp : H1 p = none) (h0 : 0 < l.length) (h1 : l.length < 1000) (ok : l.all (okB n) = true)
    (k : ∀ z H3, z.length ≤ n → Nice z → Kp T g c e H0 H3 → Q (.str z) H3) : spOne K [.ref g.b, .ref p] (upd H1 p (.lst l)) Q E0 :=
  pick_of x.bag hp h0 h1 fun v H3 hv D => by
    obtain ⟨z, rfl, lz, nz⟩ := okB_is (List.all_eq_true.mp ok v hv)
    exact k z H3 lz nz (x.drawn D)
/-- a comment is drawn -/
def spCm : Sp := fun vs H Q _ => ∃ (g : Bg) (c e : Int), vs = [.ref g.b] ∧ Bag H g c e ∧ ∀ (z : Str) (H' : Hp), z.length ≤ 20 → Nice z → Drawn g H H' c e → Q (.str z) H'
theorem c_l_comment (T : Txt K mg w) (c_l_one : Cal P w K mg base 2 "_law_one" (spOne K) []) : Cal P w K mg base 3 "_law_comment" spCm [] := by
  refine calOf T.d_l_comment sc_l_comment (fun vs H Q E h => ?_) (fun f cdv A outer s H vs Q E hr h => ?_)
  · obtain ⟨g, c, e, rfl, _⟩ := h
    rfl
  · obtain ⟨g, c, e, rfl, B, k⟩ := h
    refine ⟨_,
      (pss_cons (ps_set (i := 1) sc_l_comment.nd rfl (Or.inl rfl) (pe_lst (pa_cons pe_str (pa_cons pe_str (pa_cons pe_str (pa_cons pe_str (pa_cons pe_str (pa_cons pe_str (pa_cons pe_str (pa_cons pe_str (pa_cons pe_str pa_nil)))))))))))
        (pss_one (ps_ret (pe_c c_l_one hr (by first | decide | omega) rfl (pa_cons (pv 0) (pa_cons (pv 1) pa_nil))))))
      , ?_⟩
    refine ⟨by decide, fun p hp => ⟨_, rfl, _, rfl, pick_of B hp (by decide) (by decide) fun v H1 hv D1 => ?_⟩⟩
    obtain ⟨z, rfl, z1, z2⟩ := okB_is (n := 20) (List.all_eq_true.mp (by decide +kernel) v hv)
    exact k z _ z1 z2 D1
/-- a word that may be written -/
def Wk (z : Str) : Prop := z.length ≤ 20 ∧ Nice z
theorem okW_wk {z : Str} (h : OkW z) : Wk z := by
  cases h with
  | name h => exact ⟨by have := h.size; omega, h.nice'⟩
  | fix h =>
    have q : fixedL.all (fun z => decide (z.length ≤ 20) && z.cps.toList.all (· < 0x110000)) = true := by decide +kernel
    have := List.all_eq_true.mp q z h
    rw [Bool.and_eq_true] at this
    exact ⟨of_decide_eq_true this.1, nice_of this.2⟩
theorem WL.wk {ws : List Wd} (h : WL ws) : ∀ x ∈ ws, Wk x.1 := by
  induction h with
  | nil => exact fun x hx => absurd hx (by simp)
  | one h => exact fun x hx => by rw [List.mem_singleton.mp hx]; exact okW_wk h
  | dot h =>
    intro x hx
    rcases List.mem_cons.mp hx with rfl | hx
    · exact ⟨show (1 : Nat) ≤ 20 by decide, nice_of (x := ".") (by decide +kernel)⟩
    · rw [List.mem_singleton.mp hx]
      exact okW_wk (.name h)
  | app _ _ h1 h2 => exact fun x hx => (List.mem_append.mp hx).elim (h1 x) (h2 x)
  | @br o c b x hp _ h1 =>
    have q : pairsL.all (fun p => (decide (p.1.length ≤ 20) && p.1.cps.toList.all (· < 0x110000)) && (decide (p.2.length ≤ 20) && p.2.cps.toList.all (· < 0x110000))) = true := by decide +kernel
    have h2 := List.all_eq_true.mp q _ hp
    rw [Bool.and_eq_true, Bool.and_eq_true, Bool.and_eq_true] at h2
    intro y hy
    rcases List.mem_append.mp hy with hy | hy
    · rcases List.mem_append.mp hy with hy | hy
      · rw [List.mem_singleton.mp hy]
        exact ⟨of_decide_eq_true h2.1.1, nice_of h2.1.2⟩
      · exact h1 y hy
    · rw [List.mem_singleton.mp hy]
      exact ⟨of_decide_eq_true h2.2.1, nice_of h2.2.2⟩

open LamX (CodeO TabS Tabs ExtN TabB)
/-- a text of words -/
def spWr (Tl : List (Addr × Str)) : Sp := fun vs H Q _ => ∃ (g : Bg) (v : V) (ws : List Wd) (l : Int) (many : Nat) (c e : Int), vs = [.ref g.b, v, .int l, .int many] ∧ many ≤ 1000 ∧ Bag H g c e ∧ Tabs Tl H ∧ WdL H v ws ∧ ws.length ≤ 400 ∧ (∀ x ∈ ws, Wk x.1) ∧
  ∀ (z : Str) (H' : Hp), z.length ≤ 15000 → Nice z → Kp Tl g c e H H' → Q (.str z) H'
theorem nice_empty : Nice "" := nice_of (by decide +kernel)
theorem gap_nice {z : Str} (h : Gap z) : z.length ≤ 8 ∧ Nice z := ⟨h.1, fun c hc => by
  rcases h.2 c hc with h | h <;> rw [h] <;> decide⟩
/-- a gap, behind a word or at the beginning -/
theorem gap_if {Tl : List (Addr × Str)} {g : Bg} {H3 H : Hp} {c e l : Int} {σ : L2.St} {la cm : Str} {i : Nat} {TL : TE} {L : List V} {R : VK} (x : Kp Tl g c e H3 H) (h0 : σ[0]? = some (some (.ref g.b))) (h2 : σ[2]? = some (some (.int l))) (h5 : σ[5]? = some (some (.str la)))
    (hi : σ[i]? = some (some (.str cm))) (l1 : la.length ≤ 20) (n1 : Nice la) (l2 : cm.length ≤ 20) (n2 : Nice cm) (hL : ∀ R : VK, (∀ p, H p = none → R (.ref p) (upd H p (.lst L))) → TL σ H R)
    (p0 : 0 < L.length) (p1 : L.length < 1000) (ok : L.all (okB 8) = true) (k : ∀ z H', z.length ≤ 8 → Nice z → Kp Tl g c e H3 H' → R (.str z) H') :
    tIf (tTest (tOp rNe (tVar 5) (tC (V.str "")))) (tCall (spGap Tl) [] C8.E0 (tCons (tVar 0) (tCons (tVar 5) (tCons (tVar i) (tCons (tVar 2) tNil))))) (tCall (spOne K) [] C8.E0 (tCons (tVar 0) (tCons TL tNil))) σ H R := by
  refine ⟨_, h5, rfl, _, rfl, ite2 (fun _ => ?_) (fun _ => ?_)⟩
  · refine ⟨_, h0, _, h5, _, hi, _, h2, g, la, cm, l, c, e, rfl, x.bag, x.tb, by omega, by omega, n1, n2, fun z H' gz _ K' => ?_⟩
    obtain ⟨a, b⟩ := gap_nice gz
    exact k z H' a b (x.trans K')
  · refine ⟨_, h0, hL _ fun p hp => ?_⟩
    exact pick_k (n := 8) x hp p0 p1 ok fun z H' a b K' => k z H' a b K'
theorem c_l_written (T : Txt K mg w) {Tl : List (Addr × Str)} (c_l_take : Cal P w K mg base 1 "_law_take" spTake []) (c_l_one : Cal P w K mg base 2 "_law_one" (spOne K) []) (c_l_comment : Cal P w K mg base 3 "_law_comment" spCm []) (c_l_gap : Cal P w K mg base 7 "_law_gap" (spGap Tl) []) : Cal P w K mg base 8 "_law_written" (spWr Tl) [] := by
  refine calOf T.d_l_written sc_l_written (fun vs H Q E h => ?_) (fun f cdv A outer s H vs Q E hr h => ?_)
  · obtain ⟨g, v, ws, l, many, c, e, rfl, _⟩ := h
    rfl
  · obtain ⟨g, v, ws, l, many, c, e, rfl, hm, B, tb, hw, lw, wk, k⟩ := h
    refine ⟨_,
      (pss_cons (ps_asg (pe_tup (pa_cons pe_str (pa_cons pe_str pa_nil))) (pg_tup rfl (pgs_cons (pg_name (i := 4) sc_l_written.nd rfl (Or.inl rfl)) (pgs_cons (pg_name (i := 5) sc_l_written.nd rfl (Or.inl rfl)) pgs_nil))))
        (pss_cons (ps_for PassesOwn.never rfl (pi_list (pe_op op_cat (pv 1) (pe_lst (pa_cons (pe_tup (pa_cons pe_str (pa_cons pe_bl pa_nil))) pa_nil)))) (pg_tup rfl (pgs_cons (pg_name (i := 6) sc_l_written.nd rfl (Or.inl rfl)) (pgs_cons (pg_name (i := 7) sc_l_written.nd rfl (Or.inl rfl)) pgs_nil)))
        (Evl.pss_cut (ps_for PassesOwn.never rfl (pi_range1 (by rfl) T.n_range (pa_cons (pe_ifExp (PW.pt (pw_and (pt_cmpR op_gt (pv 3) pe_int (nomark _)) (pw_and1 (pt_cmpR op_lt (pe_callB call_len (by rfl) T.n_len PySem.boot_len (pa_cons (pv 4) pa_nil)) pe_int (nomark _))))) pe_int pe_int) pa_nil)) (pg_name (i := 8) sc_l_written.nd rfl (Or.inl rfl))
        (pss_cons (ps_if (pt_cmpR op_lt (pe_c c_l_take hr (by first | decide | omega) rfl (pa_cons (pv 0) (pa_cons (pv 3) pa_nil))) (pe_op op_sub (pv 3) pe_int) (nomark _))
        (pss_one ps_break)
        pss_nil)
        (pss_cons (ps_set (i := 9) sc_l_written.nd rfl (Or.inl rfl) (pe_c c_l_comment hr (by first | decide | omega) rfl (pa_cons (pv 0) pa_nil)))
        (pss_cons (ps_set (i := 10) sc_l_written.nd rfl (Or.inl rfl) (pe_ifExp (pt_cmpR op_ne (pv 5) pe_str (nomark _)) (pe_c c_l_gap hr (by first | decide | omega) rfl (pa_cons (pv 0) (pa_cons (pv 5) (pa_cons (pv 9) (pa_cons (pv 2) pa_nil))))) (pe_c c_l_one hr (by first | decide | omega) rfl (pa_cons (pv 0) (pa_cons (pe_lst (pa_cons pe_str (pa_cons pe_str (pa_cons pe_str pa_nil)))) pa_nil)))))
        (pss_cons (ps_par (i := 4) (j := 5) (by rfl) sc_l_written.nd rfl rfl (by decide) rfl rfl (pa_cons (pe_op op_add_str (pe_op op_add_str (pv 4) (pv 10)) (pv 9)) (pa_cons (pv 9) pa_nil)) (by rfl))
        (pss_one (ps_if (pt_cmpR op_eq (pe_slice sl_str (pv 9) po_none (po_some pe_int)) pe_str (nomark _))
        (pss_one (ps_par (i := 4) (j := 5) (by rfl) sc_l_written.nd rfl rfl (by decide) rfl rfl (pa_cons (pe_op op_add_str (pv 4) (pe_c c_l_one hr (by first | decide | omega) rfl (pa_cons (pv 0) (pa_cons (pe_lst (pa_cons pe_str (pa_cons pe_str (pa_cons pe_str (pa_cons pe_str pa_nil))))) pa_nil)))) (pa_cons pe_str pa_nil)) (by rfl)))
        pss_nil)))))))
        (pss_one (ps_if (pt_cmpR op_ne (pv 6) pe_str (nomark _))
        (pss_cons (ps_set (i := 10) sc_l_written.nd rfl (Or.inl rfl) (pe_ifExp (pt_cmpR op_ne (pv 5) pe_str (nomark _)) (pe_c c_l_gap hr (by first | decide | omega) rfl (pa_cons (pv 0) (pa_cons (pv 5) (pa_cons (pv 6) (pa_cons (pv 2) pa_nil))))) (pe_c c_l_one hr (by first | decide | omega) rfl (pa_cons (pv 0) (pa_cons (pe_lst (pa_cons pe_str (pa_cons pe_str (pa_cons pe_str (pa_cons pe_str pa_nil))))) pa_nil)))))
        (pss_cons (ps_set (i := 4) sc_l_written.nd rfl (Or.inl rfl) (pe_op op_add_str (pe_op op_add_str (pv 4) (pv 10)) (pv 6)))
        (pss_one (ps_set (i := 5) sc_l_written.nd rfl (Or.inl rfl) (pv 6)))))
        pss_nil))))
        (pss_one (ps_ret (pe_op op_add_str (pv 4) (pe_c c_l_one hr (by first | decide | omega) rfl (pa_cons (pv 0) (pa_cons (pe_lst (pa_cons pe_str (pa_cons pe_str (pa_cons pe_str (pa_cons pe_str (pa_cons pe_str pa_nil)))))) pa_nil))))))))
      , ?_⟩
    have K0 := Kp.refl B tb
    refine ⟨by show 2 ≤ sizeLine; decide, fun p hp => ⟨p, _, rfl, SqT.of upd_same, rfl, _, _, rfl, _, _, rfl, rfl, ?_⟩⟩
    have K1 := K0.new (o := .tup [.str "", .str ""]) hp
    have w1 := hw.same (same_new (o := .tup [.str "", .str ""]) hp)
    generalize upd H p (HO.tup [.str "", .str ""]) = H1 at K1 w1 ⊢
    -- the words, and none at the end
    refine ⟨_, rfl, by show 2 ≤ sizeLine; decide, fun p1 h1 => ⟨by show 1 ≤ sizeLine; decide, fun p2 h2 => ?_⟩⟩
    have s2 := (same_new (o := .tup [.str "", .bl false]) h1).trans (same_new (o := .lst [.ref p1]) h2)
    have e2 : (upd (upd H1 p1 (.tup [.str "", .bl false])) p2 (.lst [.ref p1])) p2 = some (.lst [.ref p1]) := upd_same
    have t2 : Tr (upd (upd H1 p1 (.tup [.str "", .bl false])) p2 (.lst [.ref p1])) (.ref p1) (wD ("", false)) := (Tr.tup upd_same (.cons (.str _) (.cons (.bl _) .nil))).new h2
    generalize upd (upd H1 p1 _) p2 _ = H2 at s2 e2 t2 ⊢
    have K2 := K1.same s2
    refine cat_wd (w2 := [("", false)]) (w1.same s2) ⟨p2, _, rfl, e2, .cons t2 .nil⟩ (sz_of (by rw [List.length_singleton]; omega)) fun q H3 n3 s3 w3 => ?_
    have K3 := K2.same s3
    have nq := K2.bag.ne_new n3
    obtain ⟨q', us, eq', hq, tr⟩ := w3
    cases eq'
    have lu := tr.len
    rw [List.length_map, List.length_append, List.length_singleton] at lu
    have wk2 : ∀ x ∈ ws ++ [(("", false) : Wd)], Wk x.1 := fun x hx => by
      rcases List.mem_append.mp hx with h | h
      · exact wk x h
      · rw [List.mem_singleton.mp h]
        exact ⟨by decide, nice_empty⟩
    have kq : ∀ {H' : Hp}, Kp Tl g c e H3 H' → H' q = some (.lst us) := fun x => x.lst nq hq
    refine ⟨q, rfl, ⟨us, SqL.of hq⟩, for_list (K := K) (a := q) (xs := us) (fun i σ H' => ∃ (t la : Str) (v6 v7 v8 v9 v10 : Option V), σ = [some (.ref g.b), some v, some (.int l), some (.int many), some (.str t), some (.str la), v6, v7, v8, v9, v10] ∧ Kp Tl g c e H3 H' ∧ t.length ≤ 1400 + 28 * i ∧ Nice t ∧ la.length ≤ 20 ∧ Nice la)
      ⟨"", "", none, none, none, none, none, rfl, .refl K3.bag K3.tb, by decide, nice_empty, by decide, nice_empty⟩ (fun i σ' H' _ ⟨_, _, _, _, _, _, _, _, x, _⟩ => SqL.of (kq x)) ?_ ?_⟩
    · rintro i x σ' H4 hi ⟨t, la, v6, v7, v8, v9, v10, rfl, K4, lt, nt, lla, nla⟩
      obtain ⟨d, hd, td⟩ := tr.get hi
      rw [List.getElem?_map] at hd
      obtain ⟨⟨z, b⟩, hz, rfl⟩ := Option.map_eq_some_iff.mp hd
      have li := (List.getElem?_eq_some_iff.mp hi).1
      obtain ⟨lz, nz⟩ := wk2 _ (List.mem_of_getElem? hz)
      have lz : z.length ≤ 20 := lz
      have nz : Nice z := nz
      obtain ⟨pr, xs, rfl, hpr, tz⟩ := t_tup td
      obtain ⟨x1, x2, rfl, t1, t3⟩ := ta2 tz
      obtain rfl := t_str t1
      refine ⟨pr, _, rfl, SqT.of (K4.tk K3.bag _ _ hpr), rfl, _, _, rfl, _, _, rfl, rfl, ?_⟩
      refine ⟨fun σ' H' => ∃ (t la : Str) (v8 v9 v10 : Option V), σ' = [some (.ref g.b), some v, some (.int l), some (.int many), some (.str t), some (.str la), some (.str z), some x2, v8, v9, v10] ∧ Kp Tl g c e H3 H' ∧ t.length ≤ 1400 + 28 * i ∧ Nice t ∧ la.length ≤ 20 ∧ Nice la, ?_, ?_⟩
      · -- comments
        have no : ∀ {h : t.length ≤ 1400 + 28 * i}, Kp Tl g c e H3 H4 := fun {_} => K4
        refine ⟨_, rfl, _, _, rfl, rfl, _, rfl, ite2 (fun h => ?_) (fun h => ?_)⟩
        · refine ⟨_, rfl, _, t.length, rfl, ⟨Nat.le_trans (show t.length ≤ 16000 by omega) (by decide), rfl⟩, _, _, rfl, rfl, _, rfl, ite2 (fun h2 => ?_) (fun h2 => ?_)⟩
          · have h : (0 : Int) < many := of_decide_eq_true h
            have h2 : ((t.length : Nat) : Int) < 900 := of_decide_eq_true h2
            refine ⟨_, rfl, by decide, by decide, ?_⟩
            refine for_range (lo := 0) (n := 3) (fun j σ' H' => ∃ (t la : Str) (v8 v9 v10 : Option V), σ' = [some (.ref g.b), some v, some (.int l), some (.int many), some (.str t), some (.str la), some (.str z), some x2, v8, v9, v10] ∧ Kp Tl g c e H3 H' ∧ t.length ≤ 900 + 60 * j ∧ Nice t ∧ la.length ≤ 20 ∧ Nice la) ⟨t, la, v8, v9, v10, rfl, K4, by omega, nt, lla, nla⟩ ?_ ?_
            · clear lt nt lla nla K4 h2 no
              rintro j σ' H5 hj ⟨t, la, v8, v9, v10, rfl, K5, lt, nt, lla, nla⟩
              refine ⟨_, rfl, _, rfl, g, many, c, e, rfl, K5.bag, h, by omega, fun r H6 r0 r1 D6 => ?_⟩
              have K6 := K5.drawn D6
              refine ⟨_, rfl, _, _, rfl, rfl, _, _, rfl, rfl, _, rfl, ite2 (fun _ => ?_) (fun _ => ?_)⟩
              · exact ⟨t, la, _, v9, v10, rfl, K6, by omega, nt, lla, nla⟩
              refine ⟨_, rfl, g, c, e, rfl, K6.bag, fun cm H7 lc nc D7 => ?_⟩
              have K7 := K6.drawn D7
              refine gap_if (i := 9) (L := [.str "", .str " ", .str "\n"]) K7 rfl rfl rfl rfl lla nla lc nc (fun R k => ⟨by decide, k⟩) (by decide) (by decide) (by decide +kernel) fun gz H8 lg ng K8 => ?_
              refine ⟨_, rfl, _, rfl, t, gz, rfl, rfl, sz_of (by omega), _, rfl, _, cm, rfl, rfl, sz_of (by rw [Str.length_append]; omega), _, rfl, _, _, rfl, ?_⟩
              have n9 : Nice (t ++ gz ++ cm) := (nt.cat ng).cat nc
              have l9 : (t ++ gz ++ cm).length ≤ 900 + 60 * j + 28 := by
                rw [Str.length_append, Str.length_append]
                omega
              generalize t ++ gz ++ cm = t9 at n9 l9 ⊢
              refine ⟨_, rfl, _, rfl, cm, rfl, sz_of (by omega), rfl, _, rfl, ite2 (fun _ => ?_) (fun _ => ?_)⟩
              · refine ⟨_, rfl, _, rfl, by decide, fun p5 h5 => pick_k (n := 8) K8 h5 (by decide) (by decide) (by decide +kernel) fun y H9 ly ny K9 => ⟨_, _, rfl, rfl, sz_of (by omega), _, _, rfl, ?_⟩⟩
                exact ⟨t9 ++ y, "", _, _, _, rfl, K9, by rw [Str.length_append]; omega, n9.cat ny, by decide, nice_empty⟩
              · exact ⟨t9, cm, _, _, _, rfl, K8, by omega, n9, lc, nc⟩
            · rintro σ' H5 ⟨t, la, v8, v9, v10, rfl, K5, lt, nt, lla, nla⟩
              exact ⟨t, la, v8, v9, v10, rfl, K5, by omega, nt, lla, nla⟩
          · exact ⟨_, rfl, by decide, by decide, for_range (lo := 0) (n := 0) (fun _ σ' H' => σ' = [some (.ref g.b), some v, some (.int l), some (.int many), some (.str t), some (.str la), some (.str z), some x2, v8, v9, v10] ∧ H' = H4) ⟨rfl, rfl⟩ (fun i _ _ hi => absurd hi (Nat.not_lt_zero _)) (fun _ _ ⟨e1, e2⟩ => by subst e1 e2; exact ⟨t, la, v8, v9, v10, rfl, K4, lt, nt, lla, nla⟩)⟩
        · exact ⟨_, rfl, by decide, by decide, for_range (lo := 0) (n := 0) (fun _ σ' H' => σ' = [some (.ref g.b), some v, some (.int l), some (.int many), some (.str t), some (.str la), some (.str z), some x2, v8, v9, v10] ∧ H' = H4) ⟨rfl, rfl⟩ (fun i _ _ hi => absurd hi (Nat.not_lt_zero _)) (fun _ _ ⟨e1, e2⟩ => by subst e1 e2; exact ⟨t, la, v8, v9, v10, rfl, K4, lt, nt, lla, nla⟩)⟩
      · clear lt nt lla nla K4
        rintro σ' H5 ⟨t, la, v8, v9, v10, rfl, K5, lt, nt, lla, nla⟩
        refine ⟨_, rfl, rfl, _, rfl, ite2 (fun _ => ?_) (fun _ => ?_)⟩
        · refine gap_if (i := 6) (L := [.str "", .str " ", .str "", .str "\n\n\n"]) K5 rfl rfl rfl rfl lla nla lz nz (fun R k => ⟨by decide, k⟩) (by decide) (by decide) (by decide +kernel) fun gz H8 lg ng K8 => ?_
          refine ⟨_, rfl, _, rfl, t, gz, rfl, rfl, sz_of (by omega), _, rfl, _, z, rfl, rfl, sz_of (by rw [Str.length_append]; omega), ?_⟩
          refine ⟨_, rfl, t ++ gz ++ z, z, _, _, _, _, _, rfl, K8, by rw [Str.length_append, Str.length_append]; omega, (nt.cat ng).cat nz, lz, nz⟩
        · exact ⟨t, la, _, _, _, _, _, rfl, K5, by omega, nt, lla, nla⟩
    · rintro σ' H4 ⟨t, la, v6, v7, v8, v9, v10, rfl, K4, lt, nt, lla, nla⟩
      refine ⟨_, rfl, _, rfl, by decide, fun p5 h5 => pick_k (n := 8) K4 h5 (by decide) (by decide) (by decide +kernel) fun y H9 ly ny K9 => ⟨_, _, rfl, rfl, sz_of (by omega), ?_⟩⟩
      exact k _ H9 (by rw [Str.length_append]; omega) (nt.cat ny) (K3.trans K9)

open LamX (CodeO TabS Tabs ExtN TabB)
/-- a text of a drawn program -/
def spSom (Tl : List (Addr × Str)) : Sp := fun vs H Q _ => ∃ (g : Bg) (many : Nat) (c e : Int), vs = [.ref g.b, .int many] ∧ many ≤ 3 ∧ Bag H g c e ∧ 0 ≤ c ∧ c ≤ 12 ∧ Tabs Tl H ∧
  ∀ (p : Addr) (t : Str) (v2 v3 : V) (H' : Hp) (c' e' : Int), t.length ≤ 15000 → Nice t → H' p = some (.tup [.str t, v2, v3]) → 0 ≤ c' → c' ≤ 12 → Kp Tl g c' e' H H' → Q (.ref p) H'
theorem c_l_some_text (T : Txt K mg w) {Tl : List (Addr × Str)} (c_l_one : Cal P w K mg base 2 "_law_one" (spOne K) []) (c_l_program : Cal P w K mg base 26 "_law_program" spPr []) (c_l_program_words : Cal P w K mg base 24 "_law_program_words" spPw [])
    (c_l_written : Cal P w K mg base 8 "_law_written" (spWr Tl) []) : Cal P w K mg base 27 "_law_some_text" (spSom Tl) [] := by
  refine calOf T.d_l_some_text sc_l_some_text (fun vs H Q E h => ?_) (fun f cdv A outer s H vs Q E hr h => ?_)
  · obtain ⟨g, many, c, e, rfl, _⟩ := h
    rfl
  · obtain ⟨g, many, c, e, rfl, hm, B, c0, c12, tb, k⟩ := h
    refine ⟨_,
      (pss_cons (ps_set (i := 2) sc_l_some_text.nd rfl (Or.inl rfl) (pe_c c_l_program hr (by first | decide | omega) rfl (pa_cons (pv 0) (pa_cons (pv 1) (pa_cons (pe_c c_l_one hr (by first | decide | omega) rfl (pa_cons (pv 0) (pa_cons (pe_lst (pa_cons pe_int (pa_cons pe_int (pa_cons pe_int pa_nil)))) pa_nil))) pa_nil)))))
        (pss_cons (ps_set (i := 3) sc_l_some_text.nd rfl (Or.inl rfl) (pe_c c_l_program_words hr (by first | decide | omega) rfl (pa_cons (pv 0) (pa_cons (pv 2) pa_nil))))
        (pss_one (ps_ret (pe_tup (pa_cons (pe_c c_l_written hr (by first | decide | omega) rfl (pa_cons (pv 0) (pa_cons (pv 3) (pa_cons pe_int (pa_cons (pe_c c_l_one hr (by first | decide | omega) rfl (pa_cons (pv 0) (pa_cons (pe_lst (pa_cons pe_int (pa_cons pe_int (pa_cons pe_int pa_nil)))) pa_nil))) pa_nil))))) (pa_cons (pv 3) (pa_cons (pv 2) pa_nil))))))))
      , ?_⟩
    have K0 := Kp.refl B tb
    refine ⟨_, rfl, _, rfl, _, rfl, by decide, fun p hp => pick_of B hp (by decide) (by decide) fun v H1 hv D1 => ?_⟩
    obtain ⟨dp, hdp, rfl⟩ : ∃ dp : Nat, dp ≤ 2 ∧ v = .int dp := by
      simp only [List.mem_cons, List.not_mem_nil, or_false] at hv
      rcases hv with rfl | rfl | rfl
      · exact ⟨1, by decide, rfl⟩
      · exact ⟨2, by decide, rfl⟩
      · exact ⟨0, by decide, rfl⟩
    have K1 := K0.drawn D1
    refine ⟨g, many, dp, c, e, rfl, hm, by omega, K1.bag, fun vp ds H2 e2 l3 hs h140 tp2 D2 => ?_⟩
    have K2 := K1.drawn D2
    refine ⟨_, rfl, _, rfl, some g, dp + 1, .ref g.b, vp, ds, c, rfl, by omega, by omega, hs, tp2, ⟨rfl, c0, c12, _, K2.bag⟩, fun q ws H3 c3 n3 w3 wl ct D3 => ?_⟩
    obtain ⟨c30, c312, e3, D3⟩ := D3
    have K3 := K2.drawn D3
    have z := ct.le (by decide) c312
    refine ⟨_, rfl, _, rfl, _, rfl, by decide, fun p4 hp4 => pick_of K3.bag hp4 (by decide) (by decide) fun v4 H4 hv D4 => ?_⟩
    obtain ⟨mm, hmm, rfl⟩ : ∃ mm : Nat, mm ≤ 14 ∧ v4 = .int mm := by
      simp only [List.mem_cons, List.not_mem_nil, or_false] at hv
      rcases hv with rfl | rfl | rfl
      · exact ⟨0, by decide, rfl⟩
      · exact ⟨7, by decide, rfl⟩
      · exact ⟨14, by decide, rfl⟩
    have K4 := K3.drawn D4
    have w4 := DrO.wdl (o := some g) (c := c3) (c1 := c3) ⟨rfl, c30, c312, _, K3.bag⟩ ⟨c30, c312, _, D4⟩ w3
    refine ⟨g, _, ws, 1, mm, c3, e3, rfl, by omega, K4.bag, K4.tb, w4, by omega, wl.wk, fun t H5 lt nt K5 => ?_⟩
    refine ⟨_, rfl, _, rfl, by show 3 ≤ sizeLine; decide, fun p6 hp6 => ?_⟩
    exact k p6 t _ _ _ c3 e3 lt nt upd_same c30 c312 ((K4.trans K5).new hp6)

/-! ### places by the lines -/
open TL (tl joinL tl_join)
theorem col_cat (l L : List Nat) : ∀ i, colN (l ++ 10 :: L) (l.length + 1 + i) = colN L i
  | 0 => by
    show (if (l ++ 10 :: L)[l.length]? = some 10 then 0 else _) = 0
    rw [if_pos (by simp)]
  | i + 1 => by
    show (if (l ++ 10 :: L)[l.length + 1 + i]? = some 10 then 0 else colN (l ++ 10 :: L) (l.length + 1 + i) + 1) = (if L[i]? = some 10 then 0 else colN L i + 1)
    have e : (l ++ 10 :: L)[l.length + 1 + i]? = L[i]? := by
      rw [List.getElem?_append_right (by omega), show l.length + 1 + i - l.length = i + 1 by omega, List.getElem?_cons_succ]
    rw [e, col_cat l L i]
theorem col_free {l L : List Nat} (h : 10 ∉ l) {i : Nat} (hi : i ≤ l.length) : colN (l ++ L) i = i := by
  have := col_run (l ++ L) 0 i fun k _ hk q => h (by
    rw [List.getElem?_append_left (by omega)] at q
    exact List.mem_of_getElem? q)
  rw [Nat.zero_add] at this
  rw [this]
  show 0 + i = i
  omega
theorem line_free {l L : List Nat} (h : 10 ∉ l) {i : Nat} (hi : i ≤ l.length) : lineN (l ++ L) i = 0 := by
  unfold lineN
  rw [List.take_append_of_le_length hi]
  exact List.count_eq_zero.mpr fun m => h (List.mem_of_mem_take m)
theorem line_cat {l L : List Nat} (h : 10 ∉ l) (i : Nat) : lineN (l ++ 10 :: L) (l.length + 1 + i) = 1 + lineN L i := by
  unfold lineN
  rw [List.take_append, show l.length + 1 + i - l.length = i + 1 by omega, List.take_succ_cons, List.count_append, List.count_cons, List.take_of_length_le (by omega), List.count_eq_zero.mpr h]
  simp
  omega
/-- the length of so many lines, their ends with them -/
def sumL (ls : List (List Nat)) (k : Nat) : Nat := ((ls.take k).map fun l => l.length + 1).sum
theorem place_sum : ∀ {ls : List (List Nat)}, (∀ l ∈ ls, 10 ∉ l) → ∀ i, i ≤ (joinL [10] ls).length → sumL ls (lineN (joinL [10] ls) i) + colN (joinL [10] ls) i = i
  | [], _, i, hi => by
    have : i = 0 := by
      have : (joinL [10] []).length = 0 := rfl
      omega
    subst this
    rfl
  | [l], h, i, hi => by
    have e : joinL [10] [l] = l ++ [] := (List.append_nil l).symm
    have hi : i ≤ l.length := hi
    rw [e, line_free (h l (by simp)) hi, col_free (h l (by simp)) hi]
    show 0 + i = i
    omega
  | l :: m :: r, h, i, hi => by
    have e : joinL [10] (l :: m :: r) = l ++ 10 :: joinL [10] (m :: r) := rfl
    rw [e] at hi ⊢
    have hl := h l (by simp)
    by_cases q : i ≤ l.length
    · rw [line_free hl q, col_free hl q]
      show 0 + i = i
      omega
    · obtain ⟨j, rfl⟩ : ∃ j, i = l.length + 1 + j := ⟨i - (l.length + 1), by omega⟩
      rw [line_cat hl, col_cat]
      rw [List.length_append, List.length_cons] at hi
      have ih := place_sum (ls := m :: r) (fun x hx => h x (List.mem_cons_of_mem _ hx)) j (by omega)
      have : sumL (l :: m :: r) (1 + lineN (joinL [10] (m :: r)) j) = (l.length + 1) + sumL (m :: r) (lineN (joinL [10] (m :: r)) j) := by
        unfold sumL
        rw [Nat.add_comm 1, List.take_succ_cons]
        rfl
      rw [this]
      omega
def linesS (t : Str) : List Str := Txt.split t "\n"
theorem lines_join (t : Str) : joinL [10] ((linesS t).map tl) = t.cps.toList := by
  have h := tl_join "\n" (linesS t)
  unfold linesS at h ⊢
  rw [PySem.StrLaws.join_split] at h
  exact h.symm
theorem lines_sum {t : Str} {i : Nat} (h : i ≤ t.length) : (((linesS t).take (lineN t.cps.toList i)).map fun l => l.length + 1).sum + colN t.cps.toList i = i := by
  have p := place_sum (ls := (linesS t).map tl) (fun l hl => by
    obtain ⟨x, hx, rfl⟩ := List.mem_map.mp hl
    exact PySem.StrLaws.split_free t 10 x hx) i (by rw [lines_join, ← str_len]; exact h)
  rw [lines_join] at p
  unfold sumL at p
  rw [← List.map_take, List.map_map] at p
  have e : ((fun l : List Nat => l.length + 1) ∘ tl) = fun l : Str => l.length + 1 := by
    funext x
    show (tl x).length + 1 = x.length + 1
    rw [str_len]
  rw [e] at p
  exact p

theorem line_le (L : List Nat) (i : Nat) : lineN L i ≤ i := by
  unfold lineN
  refine Nat.le_trans List.count_le_length ?_
  rw [List.length_take]
  exact Nat.min_le_left _ _
theorem col_le (L : List Nat) : ∀ i, colN L i ≤ i
  | 0 => Nat.le_refl _
  | i + 1 => by
    show (if L[i]? = some 10 then 0 else colN L i + 1) ≤ _
    have := col_le L i
    split <;> omega
theorem line_succ (L : List Nat) (i : Nat) : lineN L (i + 1) = lineN L i + (if L[i]? = some 10 then 1 else 0) := by
  unfold lineN
  rw [List.take_add_one, List.count_append]
  cases e : L[i]? with
  | none => rfl
  | some c =>
    show _ + List.count 10 [c] = _
    by_cases q : c = 10
    · subst q
      rw [if_pos rfl]
      rfl
    · rw [if_neg (fun z => q (by injection z)), List.count_cons]
      simp [q]
theorem nl_slice (t : Str) (i : Nat) : decide (V.str (cutS t (some (i : Int)) (some ((i : Int) + 1))) = V.str "\n") = decide (t.cps.toList[i]? = some 10) := by
  rw [show ((i : Int) + 1) = ((i + 1 : Nat) : Int) by omega, cut2 t (by omega : i ≤ i + 1), str_ofL, show i + 1 - i = 1 by omega, take1]
  refine decide_eq_decide.mpr ?_
  show t.cps.toList[i]?.toList = [10] ↔ _
  cases t.cps.toList[i]? with
  | none => exact ⟨fun h => (by cases h), fun h => (by cases h)⟩
  | some c =>
    constructor
    · intro h
      have h : [c] = [10] := h
      cases h
      rfl
    · intro h
      cases h
      rfl
theorem dp_strs {K : PySem.W.Frag} {H : Hp} {p : Addr} {l : List Str} (h : H p = some (.lst (l.map V.str))) : Dp K H (.ref p) (.list (l.map .str)) :=
  .lst (SqL.of h) (TrAll.dp (TrAll.strs l))
theorem wt_strs : ∀ {l : List Str}, wtAll (l.map .str) = 10 * (l.map (·.length)).sum + 4 * l.length
  | [] => rfl
  | x :: r => by
    have h2 := wt_strs (l := r)
    show 10 * x.length + 2 + 2 + wtAll (r.map .str) = 10 * (x.length + (r.map (·.length)).sum) + 4 * (r.length + 1)
    omega
theorem lines_nice {t : Str} (h : Nice t) : ∀ x ∈ linesS t, Nice x := by
  intro x hx c hc
  have e := lines_join t
  have key : ∀ {ls : List (List Nat)} {l : List Nat}, l ∈ ls → ∀ c ∈ l, c ∈ TL.joinL [10] ls := by
    intro ls
    induction ls with
    | nil => intro l hl; cases hl
    | cons a r ih =>
      intro l hl c hc
      cases r with
      | nil =>
        rw [List.mem_singleton.mp hl] at hc
        exact hc
      | cons b q =>
        show c ∈ a ++ ([10] ++ TL.joinL [10] (b :: q))
        rcases List.mem_cons.mp hl with rfl | hl
        · exact List.mem_append_left _ hc
        · exact List.mem_append_right _ (List.mem_append_right _ (ih hl c hc))
  have := key (List.mem_map.mpr ⟨x, hx, rfl⟩) c hc
  rw [e] at this
  exact h c this
theorem lines_ok {t : Str} (n : Nice t) (l : t.length ≤ 20000) : OkD (.list ((linesS t).map .str)) := by
  refine ⟨tameAll_of fun d hd => ?_, ?_, ?_⟩
  · obtain ⟨x, hx, rfl⟩ := List.mem_map.mp hd
    exact (lines_nice n x hx).tame
  · have := depthAll_of (m := 0) (ds := (linesS t).map .str) fun d hd => by
      obtain ⟨x, hx, rfl⟩ := List.mem_map.mp hd
      exact Nat.zero_le _
    show PyData.depthAll ((linesS t).map .str) + 1 ≤ 60
    omega
  · have a := wt_strs (l := linesS t)
    have b := PyProof.Rows.split_weight t "\n" (by decide)
    have b : ((linesS t).map (·.length)).sum + (linesS t).length ≤ t.length + 1 := b
    show wtAll ((linesS t).map .str) + 4 ≤ 16000000
    omega
def placeD (l c i : Nat) : PyData := .list [.tuple [.int l, .int c], .int i]
theorem place_ok {l c i : Nat} (hl : l ≤ 20000) (hc : c ≤ 20000) (hi : i ≤ 20000) : OkD (placeD l c i) := by
  have ti : ∀ {n : Nat}, n ≤ 20000 → tame (.int (n : Int)) = true := fun h => decide_eq_true (Nat.lt_of_le_of_lt (show ((_ : Nat) : Int).natAbs ≤ 20000 by omega) (by decide +kernel))
  refine ⟨?_, by show max (max 0 (max 0 0) + 1) (max 0 0) + 1 ≤ 60; decide, by show (32 + 2 + (32 + 2 + 0) + 4) + 2 + (32 + 2 + 0) + 4 ≤ 16000000; decide⟩
  show ((tame (.int (l : Int)) && (tame (.int (c : Int)) && true)) && (tame (.int (i : Int)) && true)) = true
  rw [ti hl, ti hc, ti hi]
  rfl

/-! ### the cutting of a text, its faults with it -/
/-- where it goes on behind a fault -/
def behA (t : Str) (i c : Nat) : Nat := if kdA t i c = "sign" then i + 1 else if kdA t i c = "quote" then runE notNl t.cps.toList i else t.length
abbrev Tk3 := Str × (Nat × Nat)
abbrev Ft := Nat × Str
def cutG : Nat → Str → Nat → List Tk3 × List Ft
  | 0, _, _ => ([], [])
  | n + 1, t, i =>
    match t.cps.toList[i]? with
    | none => ([], [])
    | some c => if c = 32 ∨ c = 10 then cutG n t (i + 1) else
      match wrdE t i with
      | some e => ((kdA t i c, (i, e)) :: (cutG n t e).1, (cutG n t e).2)
      | none => ((cutG n t (behA t i c)).1, (i, kdA t i c) :: (cutG n t (behA t i c)).2)
theorem beh_gt {t : Str} {i c : Nat} (hc : t.cps.toList[i]? = some c) (h : ¬ (c = 32 ∨ c = 10)) : i < behA t i c := by
  have hl := len_at hc
  unfold behA
  split
  · omega
  · split
    · refine run_gt hc ?_
      unfold notNl
      rw [decide_eq_false (fun z => h (.inr z))]
      rfl
    · rw [str_len]
      exact hl
theorem beh_le {t : Str} {i c : Nat} (hc : t.cps.toList[i]? = some c) : behA t i c ≤ t.length := by
  have hl := len_at hc
  rw [str_len]
  unfold behA
  split
  · omega
  · split
    · exact run_le (Nat.le_of_lt hl)
    · rw [str_len]
      exact Nat.le_refl _
theorem cutG_fuel {t : Str} : ∀ (n m i : Nat), t.length ≤ i + n → t.length ≤ i + m → cutG n t i = cutG m t i
  | 0, 0, _, _, _ => rfl
  | 0, m + 1, i, h, _ => by
    have e : t.cps.toList[i]? = none := List.getElem?_eq_none_iff.mpr (by rw [← str_len]; omega)
    unfold cutG
    rw [e]
  | n + 1, 0, i, _, h => by
    have e : t.cps.toList[i]? = none := List.getElem?_eq_none_iff.mpr (by rw [← str_len]; omega)
    unfold cutG
    rw [e]
  | n + 1, m + 1, i, h1, h2 => by
    unfold cutG
    cases e : t.cps.toList[i]? with
    | none => rfl
    | some c =>
      by_cases q : c = 32 ∨ c = 10
      · show (if c = 32 ∨ c = 10 then cutG n t (i + 1) else _) = (if c = 32 ∨ c = 10 then cutG m t (i + 1) else _)
        rw [if_pos q, if_pos q, cutG_fuel n m (i + 1) (by omega) (by omega)]
      · have gt := beh_gt e q
        cases ew : wrdE t i with
        | none =>
          show (if c = 32 ∨ c = 10 then _ else ((cutG n t (behA t i c)).1, (i, kdA t i c) :: (cutG n t (behA t i c)).2)) = (if c = 32 ∨ c = 10 then _ else ((cutG m t (behA t i c)).1, (i, kdA t i c) :: (cutG m t (behA t i c)).2))
          rw [if_neg q, if_neg q, cutG_fuel n m (behA t i c) (by omega) (by omega)]
        | some e2 =>
          have := (wrd_in ew).1
          show (if c = 32 ∨ c = 10 then _ else ((kdA t i c, (i, e2)) :: (cutG n t e2).1, (cutG n t e2).2)) = (if c = 32 ∨ c = 10 then _ else ((kdA t i c, (i, e2)) :: (cutG m t e2).1, (cutG m t e2).2))
          rw [if_neg q, if_neg q, cutG_fuel n m e2 (by omega) (by omega)]
def cutB (t : Str) (i : Nat) : List Tk3 × List Ft := cutG t.length t i
theorem cutB_end {t : Str} {i : Nat} (h : t.length ≤ i) : cutB t i = ([], []) := (cutG_fuel t.length 0 i (by omega) (by omega)).trans rfl
theorem cutB_at {t : Str} {i c : Nat} (hc : t.cps.toList[i]? = some c) : cutB t i = if c = 32 ∨ c = 10 then cutB t (i + 1) else
    match wrdE t i with
    | some e => ((kdA t i c, (i, e)) :: (cutB t e).1, (cutB t e).2)
    | none => ((cutB t (behA t i c)).1, (i, kdA t i c) :: (cutB t (behA t i c)).2) := by
  unfold cutB
  rw [cutG_fuel t.length (t.length + 1) i (by omega) (by omega)]
  show (match t.cps.toList[i]? with
    | none => ([], [])
    | some c => if c = 32 ∨ c = 10 then cutG t.length t (i + 1) else
      match wrdE t i with
      | some e => ((kdA t i c, (i, e)) :: (cutG t.length t e).1, (cutG t.length t e).2)
      | none => ((cutG t.length t (behA t i c)).1, (i, kdA t i c) :: (cutG t.length t (behA t i c)).2)) = _
  rw [hc]
theorem cutB_blank {t : Str} {i c : Nat} (hc : t.cps.toList[i]? = some c) (h : c = 32 ∨ c = 10) : cutB t i = cutB t (i + 1) := by
  rw [cutB_at hc, if_pos h]
theorem cutB_fault {t : Str} {i c : Nat} (hc : t.cps.toList[i]? = some c) (h : ¬ (c = 32 ∨ c = 10)) (hw : wrdE t i = none) : cutB t i = ((cutB t (behA t i c)).1, (i, kdA t i c) :: (cutB t (behA t i c)).2) := by
  rw [cutB_at hc, if_neg h, hw]
theorem cutB_word {t : Str} {i c e : Nat} (hc : t.cps.toList[i]? = some c) (h : ¬ (c = 32 ∨ c = 10)) (hw : wrdE t i = some e) : cutB t i = ((kdA t i c, (i, e)) :: (cutB t e).1, (cutB t e).2) := by
  rw [cutB_at hc, if_neg h, hw]
/-- what has been cut, and what is left -/
def okK (s : Str) : Prop := s.length ≤ 10 ∧ Nice s
theorem kdA_ok (t : Str) (i c : Nat) : okK (kdA t i c) := by
  have h : ∀ {s : Str}, s.length ≤ 10 → (s.cps.toList.all (· < 0x110000)) = true → okK s := fun a b => ⟨a, nice_of b⟩
  unfold kdA
  split
  · exact h (by decide) (by decide +kernel)
  split
  · exact h (by decide) (by decide +kernel)
  split
  · exact h (by decide) (by decide +kernel)
  split
  · exact h (by decide) (by decide +kernel)
  split
  · exact h (by decide) (by decide +kernel)
  split
  · split
    · exact h (by decide) (by decide +kernel)
    · exact h (by decide) (by decide +kernel)
  · exact h (by decide) (by decide +kernel)
structure Bcut (t : Str) (ts : List Tk3) (fs : List Ft) (j : Nat) : Prop where
  t1 : ts ++ (cutB t j).1 = (cutB t 0).1
  f1 : fs ++ (cutB t j).2 = (cutB t 0).2
  le : j ≤ t.length
  tl : ts.length ≤ j
  fl : fs.length ≤ j
  tt : (ts.map fun x => (sl t x.2).length).sum ≤ j
  kt : ∀ x ∈ ts, okK x.1 ∧ x.2.1 < t.length
  kf : ∀ x ∈ fs, okK x.2 ∧ x.1 < t.length
theorem Bcut.nil {t : Str} : Bcut t [] [] 0 := ⟨rfl, rfl, Nat.zero_le _, Nat.le_refl _, Nat.le_refl _, Nat.le_refl _, fun x hx => absurd hx (by simp), fun x hx => absurd hx (by simp)⟩
section
variable {t : Str} {ts : List Tk3} {fs : List Ft} {j c e : Nat}
theorem Bcut.blank (B : Bcut t ts fs j) (hc : t.cps.toList[j]? = some c) (h : c = 32 ∨ c = 10) : Bcut t ts fs (j + 1) := by
  have hl := len_at hc
  have b := cutB_blank hc h
  exact ⟨by rw [← B.t1, b], by rw [← B.f1, b], by rw [str_len]; omega, by have := B.tl; omega, by have := B.fl; omega, by have := B.tt; omega, B.kt, B.kf⟩
theorem Bcut.word (B : Bcut t ts fs j) (hc : t.cps.toList[j]? = some c) (h : ¬ (c = 32 ∨ c = 10)) (hw : wrdE t j = some e) : Bcut t (ts ++ [(kdA t j c, (j, e))]) fs e := by
  have b := cutB_word hc h hw
  obtain ⟨w1, w2⟩ := wrd_in hw
  have hl : j < t.length := by rw [str_len]; exact len_at hc
  refine ⟨?_, by rw [← B.f1, b], w2, ?_, by have := B.fl; omega, ?_, ?_, B.kf⟩
  · rw [← B.t1, b, List.append_assoc]
    rfl
  · rw [List.length_append]
    have := B.tl
    show ts.length + 1 ≤ e
    omega
  · rw [List.map_append, List.sum_append]
    have := B.tt
    have e1 := sl_len (t := t) (Nat.le_of_lt w1) w2
    show _ + ((sl t (j, e)).length + 0) ≤ e
    omega
  · intro x hx
    rcases List.mem_append.mp hx with h | h
    · exact B.kt x h
    · rw [List.mem_singleton.mp h]
      exact ⟨kdA_ok t j c, hl⟩
theorem Bcut.fault (B : Bcut t ts fs j) (hc : t.cps.toList[j]? = some c) (h : ¬ (c = 32 ∨ c = 10)) (hw : wrdE t j = none) : Bcut t ts (fs ++ [(j, kdA t j c)]) (behA t j c) := by
  have b := cutB_fault hc h hw
  have g := beh_gt hc h
  have hl : j < t.length := by rw [str_len]; exact len_at hc
  refine ⟨by rw [← B.t1, b], ?_, beh_le hc, by have := B.tl; omega, ?_, by have := B.tt; omega, B.kt, ?_⟩
  · rw [← B.f1, b, List.append_assoc]
    rfl
  · rw [List.length_append]
    have := B.fl
    show fs.length + 1 ≤ _
    omega
  · intro x hx
    rcases List.mem_append.mp hx with h | h
    · exact B.kf x h
    · rw [List.mem_singleton.mp h]
      exact ⟨kdA_ok t j c, hl⟩
theorem Bcut.done (B : Bcut t ts fs j) (h : t.length ≤ j) : ts = (cutB t 0).1 ∧ fs = (cutB t 0).2 := by
  have b := cutB_end h
  have h1 := B.t1
  have h2 := B.f1
  rw [b] at h1 h2
  exact ⟨by rw [← h1]; exact (List.append_nil _).symm, by rw [← h2]; exact (List.append_nil _).symm⟩
end
def tkD (t : Str) (x : Tk3) : PyData := .tuple [.str x.1, .str (sl t x.2), .int x.2.1]
def flD (t : Str) (x : Ft) : PyData := .tuple [.tuple [.int (lineN t.cps.toList x.1), .int (colN t.cps.toList x.1)], .str x.2]
def cutsD (t : Str) (ts : List Tk3) (fs : List Ft) : PyData := .tuple [.tuple (ts.map (tkD t)), .tuple (fs.map (flD t))]
def allD (t : Str) : PyData := cutsD t (cutB t 0).1 (cutB t 0).2
/-- some way the cutting comes to its end -/
theorem bcut_all (t : Str) : ∀ (n j : Nat) (ts : List Tk3) (fs : List Ft), t.length ≤ j + n → Bcut t ts fs j → Bcut t (cutB t 0).1 (cutB t 0).2 t.length
  | n, j, ts, fs, h, B => by
    by_cases q : t.length ≤ j
    · obtain ⟨e1, e2⟩ := B.done q
      have : j = t.length := Nat.le_antisymm B.le q
      rw [← e1, ← e2, ← this]
      exact B
    · obtain ⟨c, hc⟩ := at_lt (show j < t.length by omega)
      cases n with
      | zero => exact absurd h (by omega)
      | succ n =>
        by_cases bl : c = 32 ∨ c = 10
        · exact bcut_all t n _ _ _ (by omega) (B.blank hc bl)
        · cases hw : wrdE t j with
          | none => exact bcut_all t n _ _ _ (by have := beh_gt hc bl; omega) (B.fault hc bl hw)
          | some e => exact bcut_all t n _ _ _ (by have := (wrd_in hw).1; omega) (B.word hc bl hw)
theorem bcut (t : Str) : Bcut t (cutB t 0).1 (cutB t 0).2 t.length := bcut_all t t.length 0 [] [] (by omega) .nil
theorem wtAll_le {α : Type} {f : α → PyData} {g : α → Nat} : ∀ {l : List α}, (∀ x ∈ l, wt (f x) ≤ g x) → wtAll (l.map f) ≤ (l.map g).sum + 2 * l.length
  | [], _ => Nat.le_refl _
  | a :: r, h => by
    have h1 := h a (List.mem_cons_self ..)
    have h2 := wtAll_le (f := f) (g := g) (l := r) fun x hx => h x (List.mem_cons_of_mem _ hx)
    show wt (f a) + 2 + wtAll (r.map f) ≤ (g a + (r.map g).sum) + 2 * (r.length + 1)
    omega
theorem sum_lin {α : Type} {g : α → Nat} (m : Nat) : ∀ {l : List α}, (l.map fun x => 10 * g x + m).sum = 10 * (l.map g).sum + m * l.length
  | [] => rfl
  | a :: r => by
    have := sum_lin (g := g) m (l := r)
    show 10 * g a + m + (r.map fun x => 10 * g x + m).sum = 10 * (g a + (r.map g).sum) + m * (r.length + 1)
    rw [Nat.mul_add m]
    omega
theorem int_tame {n : Nat} (h : n ≤ 100000) : tame (.int (n : Int)) = true := decide_eq_true (Nat.lt_of_le_of_lt (show ((n : Nat) : Int).natAbs ≤ 100000 by omega) (by decide +kernel))
theorem tk_td {t : Str} (nt : Nice t) (l : t.length ≤ 100000) {x : Tk3} (h : okK x.1 ∧ x.2.1 < t.length) : TD 1 (tkD t x) :=
  .tup (all3 (.str h.1.2) (.str (nt.cut _ _)) ⟨int_tame (by omega), Nat.zero_le _⟩)
theorem fl_td {t : Str} (l : t.length ≤ 100000) {x : Ft} (h : okK x.2 ∧ x.1 < t.length) : TD 2 (flD t x) := by
  have a := line_le t.cps.toList x.1
  have b := col_le t.cps.toList x.1
  exact .tup (all2 (.tup (all2 ⟨int_tame (by omega), Nat.zero_le _⟩ ⟨int_tame (by omega), Nat.zero_le _⟩)) (.str h.1.2))
/-- all tokens and faults of a text are data that may be compared and shown -/
theorem all_ok {t : Str} (nt : Nice t) (l : t.length ≤ 20000) : OkD (allD t) := by
  have B := bcut t
  have td : TD 4 (allD t) := .tup (all2 ((TD.tup (m := 1) fun d hd => by
      obtain ⟨x, hx, rfl⟩ := List.mem_map.mp hd
      exact tk_td nt (by omega) (B.kt x hx)).up (by omega)) (.tup fun d hd => by
      obtain ⟨x, hx, rfl⟩ := List.mem_map.mp hd
      exact fl_td (by omega) (B.kf x hx)))
  refine ⟨td.1, Nat.le_trans td.2 (by decide), ?_⟩
  have a := wtAll_le (f := tkD t) (g := fun x => 10 * (sl t x.2).length + 146) (l := (cutB t 0).1) fun x hx => by
    have := (B.kt x hx).1.1
    show (10 * x.1.length + 2) + 2 + ((10 * (sl t x.2).length + 2) + 2 + (32 + 2 + 0)) + 4 ≤ 10 * (sl t x.2).length + 146
    omega
  rw [sum_lin] at a
  have b := wtAll_le (f := flD t) (g := fun _ => 190) (l := (cutB t 0).2) fun x hx => by
    have := (B.kf x hx).1.1
    show (32 + 2 + (32 + 2 + 0) + 4) + 2 + ((10 * x.2.length + 2) + 2 + 0) + 4 ≤ 190
    omega
  have c := sum4 (f := fun _ : Ft => 190) (l := (cutB t 0).2) (M := 190) fun _ _ => Nat.le_refl _
  have d1 := B.tl
  have d2 := B.fl
  have d3 := B.tt
  show wtAll ((cutB t 0).1.map (tkD t)) + 4 + 2 + (wtAll ((cutB t 0).2.map (flD t)) + 4 + 2 + 0) + 4 ≤ 16000000
  omega

def spBh2 : Sp := fun vs H Q _ => ∃ (t : Str) (i c : Nat), vs = [.str t, .int i, .str (kdA t i c)] ∧ t.length ≤ sizeLine ∧ t.cps.toList[i]? = some c ∧ Q (.int (behA t i c)) H
theorem c_p_behind_fault (T : Txt K mg w) (c_p_line_end : Cal P w K mg base 1 "line_end" (spAt fun t i => .int (runE notNl t.cps.toList i)) []) : Cal P w K mg base 2 "_behind_fault" spBh2 [] := by
  refine calOf T.d_p_behind_fault sc_p_behind_fault (fun vs H Q E h => ?_) (fun f cdv A outer s H vs Q E hr h => ?_)
  · obtain ⟨t, i, c, rfl, _⟩ := h
    rfl
  · obtain ⟨t, i, c, rfl, hz, hc, k⟩ := h
    have hi : i < t.length := by
      rw [str_len]
      exact len_at hc
    unfold behA at k
    refine ⟨_,
      (pss_cons (ps_if (pt_cmpR op_eq (pv 2) pe_str (nomark _))
        (pss_one (ps_ret (pe_op op_add (pv 1) pe_int)))
        pss_nil)
        (pss_cons (ps_if (pt_cmpR op_eq (pv 2) pe_str (nomark _))
        (pss_one (ps_ret (pe_c c_p_line_end hr (by first | decide | omega) rfl (pa_cons (pv 0) (pa_cons (pv 1) pa_nil)))))
        pss_nil)
        (pss_one (ps_ret (pe_callB call_len (by rfl) T.n_len PySem.boot_len (pa_cons (pv 0) pa_nil))))))
      , ?_⟩
    refine ⟨_, rfl, rfl, _, rfl, ?_⟩
    refine ite2 (fun h => ?_) (fun h => ?_)
    · rw [if_pos (V.str.inj (of_decide_eq_true h))] at k
      exact ⟨_, rfl, _, _, rfl, rfl, k⟩
    rw [if_neg (fun z => h (decide_eq_true (congrArg V.str z)))] at k
    refine ⟨_, rfl, rfl, _, rfl, ?_⟩
    refine ite2 (fun h => ?_) (fun h => ?_)
    · rw [if_pos (V.str.inj (of_decide_eq_true h))] at k
      exact ⟨_, rfl, _, rfl, t, i, rfl, hz, hi, k⟩
    · rw [if_neg (fun z => h (decide_eq_true (congrArg V.str z)))] at k
      exact ⟨_, rfl, _, t.length, rfl, ⟨hz, rfl⟩, k⟩
/-- a text, cut -/
def spCut2 : Sp := fun vs H Q _ => ∃ (t : Str), vs = [.str t] ∧ t.length ≤ 100000 ∧ ∀ (p : Addr) (H' : Hp), Same H H' → Tr H' (.ref p) (allD t) → Q (.ref p) H'
theorem c_p_cut (T : Txt K mg w) (c_p_word_at : Cal P w K mg base 3 "word_at" spWA []) (c_p_place_of : Cal P w K mg base 1 "place_of" spPlc []) (c_p_behind_fault : Cal P w K mg base 2 "_behind_fault" spBh2 []) :
    Cal P w K mg base 4 "cut" spCut2 [] := by
  refine calOf T.d_p_cut sc_p_cut (fun vs H Q E h => ?_) (fun f cdv A outer s H vs Q E hr h => ?_)
  · obtain ⟨t, rfl, _⟩ := h
    rfl
  · obtain ⟨t, rfl, hl, k⟩ := h
    have hz : t.length ≤ sizeLine := sz_of hl
    refine ⟨_,
      (pss_cons (ps_set (i := 1) sc_p_cut.nd rfl (Or.inl rfl) (pe_lst pa_nil))
        (pss_cons (ps_set (i := 2) sc_p_cut.nd rfl (Or.inl rfl) (pe_lst pa_nil))
        (pss_cons (ps_set (i := 3) sc_p_cut.nd rfl (Or.inl rfl) pe_int)
        (pss_cons (ps_while PassesOwn.never (pt_cmpR op_lt (pv 3) (pe_callB call_len (by rfl) T.n_len PySem.boot_len (pa_cons (pv 0) pa_nil)) (nomark _))
        (pss_cons (ps_if (pt_cmpR op_in_sign (pe_ix ix_str (pv 0) (pv 3) (fun _ _ => rfl)) pe_str (by rfl))
        (pss_cons (ps_aug (i := 3) sc_p_cut.nd rfl (Or.inl rfl) pe_int ip_add)
        (pss_one ps_continue))
        pss_nil)
        (pss_cons (ps_asg (pe_c c_p_word_at hr (by first | decide | omega) rfl (pa_cons (pv 0) (pa_cons (pv 3) pa_nil))) (pg_tup rfl (pgs_cons (pg_name (i := 4) sc_p_cut.nd rfl (Or.inl rfl)) (pgs_cons (pg_name (i := 5) sc_p_cut.nd rfl (Or.inl rfl)) pgs_nil))))
        (pss_one (ps_if (pt_cmpR op_isN (pv 5) pe_non (nomark _))
        (pss_cons (ps_expr (pe_bm PySem.F.plainAttrs_list PySem.F.slot_list_append PySem.F.type_list_append mt_append (pv 2) (pa_cons (pe_tup (pa_cons (pe_c c_p_place_of hr (by first | decide | omega) rfl (pa_cons (pv 0) (pa_cons (pv 3) pa_nil))) (pa_cons (pv 4) pa_nil))) pa_nil)))
        (pss_one (ps_set (i := 3) sc_p_cut.nd rfl (Or.inl rfl) (pe_c c_p_behind_fault hr (by first | decide | omega) rfl (pa_cons (pv 0) (pa_cons (pv 3) (pa_cons (pv 4) pa_nil)))))))
        (pss_cons (ps_expr (pe_bm PySem.F.plainAttrs_list PySem.F.slot_list_append PySem.F.type_list_append mt_append (pv 1) (pa_cons (pe_tup (pa_cons (pv 4) (pa_cons (pe_slice sl_str (pv 0) (po_some (pv 3)) (po_some (pv 5))) (pa_cons (pv 3) pa_nil)))) pa_nil)))
        (pss_one (ps_set (i := 3) sc_p_cut.nd rfl (Or.inl rfl) (pv 5)))))))))
        (pss_one (ps_ret (pe_tup (pa_cons (pe_callTy call_tuple_of (by rfl) T.n_tuple (by decide +kernel) (pa_cons (pv 1) pa_nil)) (pa_cons (pe_callTy call_tuple_of (by rfl) T.n_tuple (by decide +kernel) (pa_cons (pv 2) pa_nil)) pa_nil)))))))))
      , ?_⟩
    refine ⟨by decide, fun L hL => ⟨by decide, fun F hF => ?_⟩⟩
    have hFL : F ≠ L := fun z => by
      rw [z, upd_same] at hF
      cases hF
    have hF0 : H F = none := by
      rw [upd_ne hFL] at hF
      exact hF
    refine ⟨fun m σ' H' => ∃ (ts : List Tk3) (fl : List Ft) (vs fs : List V) (j : Nat) (v4 v5 : Option V), σ' = [some (.str t), some (.ref L), some (.ref F), some (.int j), v4, v5] ∧ H' L = some (.lst vs) ∧ TrAll H' vs (ts.map (tkD t)) ∧ H' F = some (.lst fs) ∧ TrAll H' fs (fl.map (flD t)) ∧ Bcut t ts fl j ∧ Same H H' ∧ m = t.length - j,
      ⟨_, [], [], [], [], 0, none, none, rfl, upd_some upd_same hF, .nil, upd_same, .nil, .nil, (same_new hL).trans (same_new hF), rfl⟩, ?_⟩
    rintro m σ' H1 ⟨ts, fl, vs, fs, j, v4, v5, rfl, hT, tr, hFs, trf, B, s1, rfl⟩
    refine ⟨_, rfl, _, rfl, _, t.length, rfl, ⟨hz, rfl⟩, _, _, rfl, rfl, _, rfl, ?_⟩
    refine ite2 (fun h1 => ?_) (fun h1 => ?_)
    · have hlt : j < t.length := by
        have := of_decide_eq_true h1
        omega
      obtain ⟨c, hc⟩ := at_lt hlt
      have l1 := tr.len
      have l2 := trf.len
      rw [List.length_map] at l1 l2
      have b1 := B.tl
      have b2 := B.fl
      refine ⟨fun σ' H2 => ∃ m', m' < t.length - j ∧ ∃ (ts : List Tk3) (fl : List Ft) (vs fs : List V) (j : Nat) (v4 v5 : Option V), σ' = [some (.str t), some (.ref L), some (.ref F), some (.int j), v4, v5] ∧ H2 L = some (.lst vs) ∧ TrAll H2 vs (ts.map (tkD t)) ∧ H2 F = some (.lst fs) ∧ TrAll H2 fs (fl.map (flD t)) ∧ Bcut t ts fl j ∧ Same H H2 ∧ m' = t.length - j, fun _ _ h => h, ?_⟩
      refine ⟨_, rfl, _, rfl, _, _, c, rfl, rfl, hz, atI_nat hc, c, _, rfl, rfl, _, rfl, ?_⟩
      refine ite2 (fun h2 => ?_) (fun h2 => ?_)
      · have bl : c = 32 ∨ c = 10 := by
          have : c ∈ [32, 10] := of_decide_eq_true h2
          simpa using this
        refine ⟨_, rfl, _, _, rfl, rfl, ?_⟩
        exact ⟨_, (by omega : t.length - (j + 1) < t.length - j), ts, fl, vs, fs, j + 1, v4, v5, rfl, hT, tr, hFs, trf, B.blank hc bl, s1, rfl⟩
      · have bl : ¬ (c = 32 ∨ c = 10) := fun z => h2 (decide_eq_true (p := c ∈ [32, 10]) (by simpa using z))
        refine ⟨_, rfl, _, rfl, t, j, rfl, hz, hlt, fun c' p hc' hp => ?_⟩
        rw [hc] at hc'
        cases hc'
        refine ⟨p, _, rfl, SqT.of upd_same, rfl, _, _, rfl, _, _, rfl, rfl, ?_⟩
        have s2 := same_new (o := .tup [.str (kdA t j c), optV (wrdE t j)]) hp
        generalize hG : upd H1 p (.tup [.str (kdA t j c), optV (wrdE t j)]) = H2 at s2 ⊢
        have hT2 := s2 _ _ hT
        have hF2 := s2 _ _ hFs
        have tr2 := tr.keep (Tk.of s2)
        have trf2 := trf.keep (Tk.of s2)
        have s12 := s1.trans s2
        cases hw : wrdE t j with
        | none =>
          have gt := beh_gt hc bl
          refine ⟨_, rfl, rfl, _, rfl, ?_⟩
          rw [decide_eq_true (show optV none = V.non from rfl)]
          refine iteT ?_
          refine ⟨_, rfl, .inl ⟨rfl, _, SqL.of hF2⟩, _, rfl, _, rfl, t, j, rfl, Nat.le_of_lt hlt, fun q hq => ?_⟩
          refine ⟨_, rfl, by show 2 ≤ sizeLine; decide, fun p5 hp5 => ⟨F, fs, .ref p5, rfl, rfl, upd_some (upd_some hF2 hq) hp5, Nat.lt_of_le_of_lt (show fs.length ≤ 100000 by omega) (by decide), ?_⟩⟩
          have t5 : Tr (upd (upd H2 q (.tup [.int (lineN t.cps.toList j), .int (colN t.cps.toList j)])) p5 (.tup [.ref q, .str (kdA t j c)])) (.ref p5) (flD t (j, kdA t j c)) :=
            .tup upd_same (.cons (.tup (upd_some upd_same hp5) (.cons (.int _) (.cons (.int _) .nil))) (.cons (.str _) .nil))
          have s35 := (same_new (o := .tup [.int (lineN t.cps.toList j), .int (colN t.cps.toList j)]) hq).trans (same_new (o := .tup [.ref q, .str (kdA t j c)]) hp5)
          generalize upd (upd H2 q _) p5 _ = H5 at t5 s35 ⊢
          have hF5 := s35 _ _ hF2
          have s5 : Same H (upd H5 F (.lst (fs ++ [.ref p5]))) := same_put (s12.trans s35) hF0
          have hT5 : (upd H5 F (.lst (fs ++ [.ref p5]))) L = some (.lst vs) := by
            rw [upd_ne (fun z => hFL z.symm)]
            exact s35 _ _ hT2
          have tk5 : Tk H5 (upd H5 F (.lst (fs ++ [.ref p5]))) := tk_lst hF5
          refine ⟨_, rfl, _, rfl, _, rfl, t, j, c, rfl, hz, hc, ?_⟩
          refine ⟨_, (by omega : t.length - behA t j c < t.length - j), ts, fl ++ [(j, kdA t j c)], vs, fs ++ [.ref p5], behA t j c, _, _, rfl, hT5, (tr2.keep (Tk.of s35)).keep tk5, upd_same, ?_, B.fault hc bl hw, s5, rfl⟩
          rw [List.map_append]
          exact ((trf2.keep (Tk.of s35)).app (.one t5)).keep tk5
        | some e =>
          have wi := wrd_in hw
          refine ⟨_, rfl, rfl, _, rfl, ?_⟩
          refine ite2 (fun h3 => ?_) (fun h3 => ?_)
          · have := of_decide_eq_true h3
            cases this
          refine ⟨_, rfl, .inl ⟨rfl, _, SqL.of hT2⟩, _, rfl, _, rfl, _, rfl, _, rfl, _, rfl, _, rfl, _, rfl, hz, _, rfl, by show 3 ≤ sizeLine; decide, fun p5 hp5 => ⟨L, vs, .ref p5, rfl, rfl, upd_some hT2 hp5, Nat.lt_of_le_of_lt (show vs.length ≤ 100000 by omega) (by decide), ?_⟩⟩
          refine ⟨_, rfl, ?_⟩
          have t5 : Tr (upd H2 p5 (.tup [.str (kdA t j c), .str (sl t (j, e)), .int j])) (.ref p5) (tkD t (kdA t j c, (j, e))) := .tup upd_same (.cons (.str _) (.cons (.str _) (.cons (.int _) .nil)))
          have s35 := same_new (o := .tup [.str (kdA t j c), .str (sl t (j, e)), .int j]) hp5
          have hT5 : upd H2 p5 (.tup [.str (kdA t j c), .str (sl t (j, e)), .int j]) L = some (.lst vs) := upd_some hT2 hp5
          have hF5 : (upd (upd H2 p5 (.tup [.str (kdA t j c), .str (sl t (j, e)), .int j])) L (.lst (vs ++ [.ref p5]))) F = some (.lst fs) := by
            rw [upd_ne hFL]
            exact upd_some hF2 hp5
          have s5 : Same H (upd (upd H2 p5 (.tup [.str (kdA t j c), .str (sl t (j, e)), .int j])) L (.lst (vs ++ [.ref p5]))) := same_put (s12.trans s35) hL
          have tk5 := tk_lst (o := .lst (vs ++ [.ref p5])) hT5
          refine ⟨_, (by omega : t.length - e < t.length - j), ts ++ [(kdA t j c, (j, e))], fl, vs ++ [.ref p5], fs, e, _, _, rfl, upd_same, ?_, hF5, (trf2.keep (Tk.of s35)).keep tk5, B.word hc bl hw, s5, rfl⟩
          rw [List.map_append]
          exact ((tr2.keep (Tk.of s35)).app (.one t5)).keep tk5
    · have hge : t.length ≤ j := by
        have : ¬ ((j : Nat) : Int) < t.length := fun z => h1 (decide_eq_true z)
        omega
      obtain ⟨e1, e2⟩ := B.done hge
      subst e1 e2
      refine ⟨_, rfl, L, vs, rfl, .inl ⟨SqL.of hT, fun q1 hq1 => ⟨_, rfl, F, fs, rfl, .inl ⟨SqL.of (upd_some hFs hq1), fun q2 hq2 => ⟨by show 2 ≤ sizeLine; decide, fun p hp => ?_⟩⟩⟩⟩⟩
      refine k p _ (((s1.trans (same_new hq1)).trans (same_new hq2)).trans (same_new hp)) (.tup upd_same (.cons ?_ (.cons ?_ .nil)))
      · exact .tup (upd_some (upd_some upd_same hq2) hp) (((tr.new hq1).new hq2).new hp)
      · exact .tup (upd_some upd_same hp) (((trf.new hq1).new hq2).new hp)

open LamX (CodeO TabS Tabs ExtN TabB)
theorem cut_pre (t : Str) (n : Nat) (l : List Nat) : decide (V.str (cutS t none (some (n : Int))) = V.str ⟨l.toArray⟩) = decide (t.cps.toList.take n = l) := by
  have e : cutS t none (some (n : Int)) = cutS t (some ((0 : Nat) : Int)) (some ((0 + n : Nat) : Int)) := by
    unfold cutS
    simp only [HT.sIx_nat, Nat.zero_add, Nat.zero_min]
    rfl
  rw [e, cut_l t 0 n l]
  rfl
def lkdA (t : Str) (c : Nat) : Str :=
  if c = 35 then "line" else if t.cps.toList.take 2 = [60, 42] then "block" else if c = 34 then "quote" else if c = 39 then "raw" else if digC c then "number"
  else if letC c then (if t ∈ kws then "keyword" else "name") else "sign"
def spKd : Sp := fun vs H Q _ => ∃ (t : Str) (c : Nat) (r : List Nat), vs = [.str t] ∧ t.cps.toList = c :: r ∧ t.length ≤ sizeLine ∧ ∀ H', Same H H' → Q (.str (lkdA t c)) H'
theorem c_l_kind (T : Txt K mg w) (c_l_keywords : Cal P w K mg base 1 "_law_keywords" spKws []) (c_l_is_letter : Cal P w K mg base 1 "_law_is_letter" (spSg letC) []) (c_l_is_digit : Cal P w K mg base 1 "_law_is_digit" (spSg digC) []) :
    Cal P w K mg base 2 "_law_kind" spKd [] := by
  refine calOf T.d_l_kind sc_l_kind (fun vs H Q E h => ?_) (fun f cdv A outer s H vs Q E hr h => ?_)
  · obtain ⟨t, c, r, rfl, _⟩ := h
    rfl
  · obtain ⟨t, c, r, rfl, hL, hz, k⟩ := h
    refine ⟨_,
      (pss_cons (ps_if (pt_cmpR op_eq (pe_slice sl_str (pv 0) po_none (po_some pe_int)) pe_str (nomark _))
        (pss_one (ps_ret pe_str))
        pss_nil)
        (pss_cons (ps_if (pt_cmpR op_eq (pe_slice sl_str (pv 0) po_none (po_some pe_int)) pe_str (nomark _))
        (pss_one (ps_ret pe_str))
        pss_nil)
        (pss_cons (ps_if (pt_cmpR op_eq (pe_slice sl_str (pv 0) po_none (po_some pe_int)) pe_str (nomark _))
        (pss_one (ps_ret pe_str))
        pss_nil)
        (pss_cons (ps_if (pt_cmpR op_eq (pe_slice sl_str (pv 0) po_none (po_some pe_int)) pe_str (nomark _))
        (pss_one (ps_ret pe_str))
        pss_nil)
        (pss_cons (ps_if (pt_val (pe_c c_l_is_digit hr (by first | decide | omega) rfl (pa_cons (pe_ix ix_str (pv 0) pe_int (fun _ _ => rfl)) pa_nil)))
        (pss_one (ps_ret pe_str))
        pss_nil)
        (pss_cons (ps_if (pt_val (pe_c c_l_is_letter hr (by first | decide | omega) rfl (pa_cons (pe_ix ix_str (pv 0) pe_int (fun _ _ => rfl)) pa_nil)))
        (pss_one (ps_ret (pe_ifExp (pt_cmpR op_in_seq (pv 0) (pe_c0 c_l_keywords hr (by first | decide | omega) rfl) (by rfl)) pe_str pe_str)))
        pss_nil)
        (pss_one (ps_ret pe_str))))))))
      , ?_⟩
    unfold lkdA at k
    have hc : t.cps.toList[0]? = some c := by rw [hL] <;> rfl
    have one : ∀ a : Nat, decide (V.str (cutS t none (some ((1 : Nat) : Int))) = V.str ⟨#[a]⟩) = decide (c = a) := fun a => by
      have e := cut_pre t 1 [a]
      rw [hL] at e
      refine e.trans (decide_eq_decide.mpr ⟨fun h => ?_, fun h => by rw [h]; rfl⟩)
      have h : [c] = [a] := h
      injection h
    refine ⟨_, rfl, _, rfl, _, rfl, hz, rfl, _, rfl, ?_⟩
    rw [show decide (V.str (cutS t none (some (1 : Int))) = V.str "#") = decide (c = 35) from one 35]
    refine ite2 (fun h1 => ?_) (fun h1 => ?_)
    · rw [if_pos (of_decide_eq_true h1)] at k
      exact k _ (Same.refl _)
    rw [if_neg (fun z => h1 (decide_eq_true z))] at k
    refine ⟨_, rfl, _, rfl, _, rfl, hz, rfl, _, rfl, ?_⟩
    rw [show decide (V.str (cutS t none (some (2 : Int))) = V.str "<*") = decide (t.cps.toList.take 2 = [60, 42]) from cut_pre t 2 [60, 42]]
    refine ite2 (fun h2 => ?_) (fun h2 => ?_)
    · rw [if_pos (of_decide_eq_true h2)] at k
      exact k _ (Same.refl _)
    rw [if_neg (fun z => h2 (decide_eq_true z))] at k
    refine ⟨_, rfl, _, rfl, _, rfl, hz, rfl, _, rfl, ?_⟩
    rw [show decide (V.str (cutS t none (some (1 : Int))) = V.str "\"") = decide (c = 34) from one 34]
    refine ite2 (fun h3 => ?_) (fun h3 => ?_)
    · rw [if_pos (of_decide_eq_true h3)] at k
      exact k _ (Same.refl _)
    rw [if_neg (fun z => h3 (decide_eq_true z))] at k
    refine ⟨_, rfl, _, rfl, _, rfl, hz, rfl, _, rfl, ?_⟩
    rw [show decide (V.str (cutS t none (some (1 : Int))) = V.str "'") = decide (c = 39) from one 39]
    refine ite2 (fun h4 => ?_) (fun h4 => ?_)
    · rw [if_pos (of_decide_eq_true h4)] at k
      exact k _ (Same.refl _)
    rw [if_neg (fun z => h4 (decide_eq_true z))] at k
    refine ⟨_, rfl, _, _, c, rfl, rfl, hz, atI_nat (j := 0) hc, c, rfl, _, rfl, ?_⟩
    refine ite2 (fun h5 => ?_) (fun h5 => ?_)
    · rw [if_pos h5] at k
      exact k _ (Same.refl _)
    rw [if_neg h5] at k
    refine ⟨_, rfl, _, _, c, rfl, rfl, hz, atI_nat (j := 0) hc, c, rfl, _, rfl, ?_⟩
    refine ite2 (fun h6 => ?_) (fun h6 => ?_)
    · rw [if_pos h6] at k
      refine ⟨_, rfl, rfl, fun p hp => ?_⟩
      have k := k _ (same_new (o := .lst (kws.map V.str)) hp)
      refine ⟨p, _, rfl, .inl (SqL.of upd_same), rfl, rfl, _, rfl, ?_⟩
      have ei : inV (.str t) (kws.map V.str) = decide (t ∈ kws) := inV_strs t kws
      refine ite2 (fun h7 => ?_) (fun h7 => ?_)
      · rw [if_pos (of_decide_eq_true (ei.symm.trans h7))] at k
        exact k
      · rw [if_neg (fun z => h7 (ei.trans (decide_eq_true z)))] at k
        exact k
    · rw [if_neg h6] at k
      exact k _ (Same.refl _)

theorem kws_same : tp_KEYWORDS = kws := by decide +kernel
theorem sl_tl (t : Str) {i e : Nat} (h : i ≤ e) : (sl t (i, e)).cps.toList = (t.cps.toList.drop i).take (e - i) := by
  unfold sl
  rw [cut2 t h]
/-- the kind of a word, by itself and where it stands -/
theorem kd_sl {t : Str} {i c e : Nat} (hc : t.cps.toList[i]? = some c) (hw : wrdE t i = some e) : lkdA (sl t (i, e)) c = kdA t i c := by
  obtain ⟨w1, w2⟩ := wrd_in hw
  have es := sl_tl t (Nat.le_of_lt w1)
  have wa := wrd_at hc
  rw [hw] at wa
  have tk2 : (sl t (i, e)).cps.toList.take 2 = [60, 42] ↔ (t.cps.toList.drop i).take 2 = [60, 42] := by
    rw [es, List.take_take]
    constructor
    · intro h
      have l := congrArg List.length h
      rw [List.length_take] at l
      have : min 2 (e - i) = 2 := by
        have : min (min 2 (e - i)) (t.cps.toList.drop i).length = 2 := l
        omega
      rw [this] at h
      exact h
    · intro h
      have e60 : c = 60 := take_hd hc h
      rw [if_neg (by rw [e60]; decide), if_neg (by rw [e60]; decide), if_neg (by omega), if_neg (by omega), if_neg (by omega), if_pos h] at wa
      have := (cls_in wa.symm).1
      rw [Nat.min_eq_left (by omega)]
      exact h
  unfold kdA lkdA
  by_cases q1 : (t.cps.toList.drop i).take 2 = [60, 42]
  · have e60 : c = 60 := take_hd hc q1
    rw [if_pos q1, if_neg (by omega), if_pos (tk2.mpr q1)]
  rw [if_neg q1, if_neg (fun z => q1 (tk2.mp z))]
  by_cases q2 : (t.cps.toList.drop i).take 3 = [39, 39, 39]
  · have e39 : c = 39 := take_hd hc q2
    rw [if_pos q2, if_neg (by omega), if_neg (by omega), if_pos e39]
  rw [if_neg q2]
  by_cases q3 : c = 34
  · rw [if_pos q3, if_neg (by omega), if_pos q3]
  rw [if_neg q3, if_neg q3]
  by_cases q4 : c = 35
  · rw [if_pos q4, if_pos q4]
  rw [if_neg q4, if_neg q4]
  by_cases q5 : c = 39
  · subst q5
    rw [if_neg (by decide), if_neg (by decide), if_neg (by decide), if_pos rfl, if_neg q2] at wa
    cases wa
  rw [if_neg q5]
  by_cases q6 : digC c = true
  · rw [if_pos q6, if_pos q6]
  rw [if_neg q6, if_neg q6]
  by_cases q7 : letC c = true
  · rw [if_pos q7] at wa ⊢
    rw [if_pos q7]
    injection wa with wa
    rw [← wa, kws_same]
    have : sl t (i, e) = ⟨((t.cps.toList.drop i).take (e - i)).toArray⟩ := cut2 t (Nat.le_of_lt w1)
    rw [this]
  · rw [if_neg q7, if_neg q7]
/-! ### a place, by the lines ahead -/
theorem last_place : ∀ {ls : List (List Nat)}, ls ≠ [] → (∀ l ∈ ls, 10 ∉ l) → ∃ init l, ls = init ++ [l] ∧ lineN (TL.joinL [10] ls) (TL.joinL [10] ls).length = init.length ∧ colN (TL.joinL [10] ls) (TL.joinL [10] ls).length = l.length
  | [], h, _ => absurd rfl h
  | [l], _, h => by
    have e : TL.joinL [10] [l] = l ++ [] := (List.append_nil l).symm
    refine ⟨[], l, rfl, ?_, ?_⟩
    · rw [e, line_free (h l (by simp)) (by simp)]
      rfl
    · rw [e, col_free (h l (by simp)) (by simp)]
      simp
  | l :: m :: r, _, h => by
    have e : TL.joinL [10] (l :: m :: r) = l ++ 10 :: TL.joinL [10] (m :: r) := rfl
    obtain ⟨init, x, e1, e2, e3⟩ := last_place (ls := m :: r) (by simp) fun y hy => h y (List.mem_cons_of_mem _ hy)
    have el : (l ++ 10 :: TL.joinL [10] (m :: r)).length = l.length + 1 + (TL.joinL [10] (m :: r)).length := by
      rw [List.length_append, List.length_cons]
      omega
    refine ⟨l :: init, x, by rw [e1]; rfl, ?_, ?_⟩
    · rw [e, el, line_cat (h l (by simp)), e2, List.length_cons]
      omega
    · rw [e, el, col_cat, e3]
theorem line_take (L : List Nat) (i : Nat) : lineN (L.take i) i = lineN L i := by
  unfold lineN
  rw [List.take_take, Nat.min_self]
theorem col_take (L : List Nat) (i : Nat) : ∀ k, k ≤ i → colN (L.take i) k = colN L k
  | 0, _ => rfl
  | k + 1, h => by
    show (if (L.take i)[k]? = some 10 then 0 else colN (L.take i) k + 1) = (if L[k]? = some 10 then 0 else colN L k + 1)
    rw [List.getElem?_take_of_lt (by omega), col_take L i k (by omega)]
def spLPl : Sp := fun vs H Q _ => ∃ (t : Str) (i : Nat), vs = [.str t, .int i] ∧ i ≤ t.length ∧ t.length ≤ 100000 ∧ ∀ p H', Same H H' → H' p = some (.tup [.int (lineN t.cps.toList i), .int (colN t.cps.toList i)]) → Q (.ref p) H'
theorem c_l_place (T : Txt K mg w) : Cal P w K mg base 1 "_law_place" spLPl [] := by
  refine calOf T.d_l_place sc_l_place (fun vs H Q E h => ?_) (fun f cdv A outer s H vs Q E hr h => ?_)
  · obtain ⟨t, i, rfl, _⟩ := h
    rfl
  · obtain ⟨t, i, rfl, hi, hl, k⟩ := h
    refine ⟨_,
      (pss_cons (ps_set (i := 2) sc_l_place.nd rfl (Or.inl rfl) (pe_split (pe_slice sl_str (pv 0) po_none (po_some (pv 1))) pe_str))
        (pss_one (ps_ret (pe_tup (pa_cons (pe_op op_sub (pe_callB call_len (by rfl) T.n_len PySem.boot_len (pa_cons (pv 2) pa_nil)) pe_int) (pa_cons (pe_callB call_len (by rfl) T.n_len PySem.boot_len (pa_cons (pe_ix ix_list (pv 2) (pe_un un_neg pe_int) (fun _ _ => rfl)) pa_nil)) pa_nil))))))
      , ?_⟩
    have et := tl_upto t i
    have lx : (cutS t none (some (i : Int))).length = i := by
      rw [str_len]
      show (TL.tl (cutS t none (some (i : Int)))).length = i
      rw [et, List.length_take]
      have := str_len t
      show min i t.cps.toList.length = i
      omega
    obtain ⟨init, l, e1, e2, e3⟩ := last_place (ls := (linesS (cutS t none (some (i : Int)))).map TL.tl) (by
      intro z
      have := PyProof.Rows.split_pos (cutS t none (some (i : Int))) "\n"
      have h0 := congrArg List.length z
      rw [List.length_map] at h0
      have : 1 ≤ (linesS (cutS t none (some (i : Int)))).length := this
      rw [h0] at this
      exact absurd this (by decide)) (fun l hl => by
      obtain ⟨x, hx, rfl⟩ := List.mem_map.mp hl
      exact PySem.StrLaws.split_free _ 10 x hx)
    rw [lines_join] at e2 e3
    have e0 : (cutS t none (some (i : Int))).cps.toList = t.cps.toList.take i := et
    rw [← str_len, lx, e0, line_take] at e2
    rw [← str_len, lx, e0, col_take _ _ _ (Nat.le_refl _)] at e3
    obtain ⟨i2, l2, e4, e5, e6⟩ : ∃ (i2 : List Str) (l2 : Str), linesS (cutS t none (some (i : Int))) = i2 ++ [l2] ∧ i2.length = init.length ∧ l2.length = l.length := by
      obtain ⟨a, b, h1, h2, h3⟩ := List.map_eq_append_iff.mp e1
      obtain ⟨x, hx, rfl⟩ := List.map_eq_singleton_iff.mp h3
      refine ⟨a, x, by rw [h1, hx], ?_, ?_⟩
      · rw [← h2, List.length_map]
      · rw [str_len]
    have ll : (linesS (cutS t none (some (i : Int)))).length ≤ i + 2 := by
      have := PyProof.Rows.split_le (cutS t none (some (i : Int))) "\n"
      rw [lx] at this
      exact this
    refine ⟨_, rfl, _, rfl, _, rfl, t, rfl, sz_of hl, ⟨_, rfl⟩, _, _, rfl, rfl, rfl, by rw [lx]; exact sz_m (by omega), fun p hp => ?_⟩
    have hp1 : upd H p (.lst ((Txt.split (cutS t none (some (i : Int))) "\n").map V.str)) p = some (.lst ((i2 ++ [l2]).map V.str)) := by
      rw [upd_same, ← e4]
      rfl
    have s1 := same_new (o := .lst ((Txt.split (cutS t none (some (i : Int))) "\n").map V.str)) hp
    generalize upd H p (HO.lst _) = H1 at hp1 s1 ⊢
    rw [List.map_append] at hp1
    have l2n : l2.length ≤ 100000 := by
      have := col_le t.cps.toList i
      omega
    refine ⟨_, rfl, _, ((i2.map V.str) ++ ([l2].map V.str)).length, rfl, .inl ⟨_, SqL.of hp1, rfl⟩, _, _, rfl, rfl, ?_⟩
    refine ⟨_, rfl, _, rfl, p, _, _, _, rfl, rfl, SqL.of hp1, atI_last _ _, _, l2.length, rfl, ⟨sz_of l2n, rfl⟩, by show 2 ≤ sizeLine; decide, fun q hq => ?_⟩
    have ea : (((i2.map V.str ++ [l2].map V.str).length : Nat) : Int) - 1 = ((lineN t.cps.toList i : Nat) : Int) := by
      rw [List.length_append, List.length_map, List.length_map, List.length_singleton]
      omega
    show Q (.ref q) (upd H1 q (.tup [.int ((((i2.map V.str ++ [l2].map V.str).length : Nat) : Int) - 1), .int l2.length]))
    rw [ea]
    refine k q _ (s1.trans (same_new hq)) ?_
    rw [upd_same, e6, e3]
def hurtA : List V := [.str "@", .str "\"", .str "'''", .str "<*", .str "*>", .str "'", .str "#", .str "\n", .str ";", .str ")", .str "(", .str "}", .str "{", .str "]", .str " let ", .str "="]
def hurtB : List V := [.str "!", .str "\\", .str " else "]
/-- a text, hurt -/
def spHurt (n : Nat) : Sp := fun vs H Q _ => ∃ (g : Bg) (t : Str) (c e : Int), vs = [.ref g.b, .str t] ∧ Bag H g c e ∧ t.length ≤ n ∧ Nice t ∧ ∀ (z : Str) (H' : Hp), z.length ≤ t.length + 8 → Nice z → Drawn g H H' c e → Q (.str z) H'
theorem c_l_hurt (T : Txt K mg w) (c_l_take : Cal P w K mg base 1 "_law_take" spTake []) (c_l_one : Cal P w K mg base 2 "_law_one" (spOne K) []) : Cal P w K mg base 3 "_law_hurt" (spHurt 90000) [] := by
  refine calOf T.d_l_hurt sc_l_hurt (fun vs H Q E h => ?_) (fun f cdv A outer s H vs Q E hr h => ?_)
  · obtain ⟨g, t, c, e, rfl, _⟩ := h
    rfl
  · obtain ⟨g, t, c, e, rfl, B, lt, nt, k⟩ := h
    refine ⟨_,
      (pss_cons (ps_set (i := 2) sc_l_hurt.nd rfl (Or.inl rfl) (pe_c c_l_take hr (by first | decide | omega) rfl (pa_cons (pv 0) (pa_cons (pe_op op_add (pe_callB call_len (by rfl) T.n_len PySem.boot_len (pa_cons (pv 1) pa_nil)) pe_int) pa_nil))))
        (pss_cons (ps_set (i := 3) sc_l_hurt.nd rfl (Or.inl rfl) (pe_c c_l_take hr (by first | decide | omega) rfl (pa_cons (pv 0) (pa_cons pe_int pa_nil))))
        (pss_cons (ps_if (pt_cmpR op_eq (pv 3) pe_int (nomark _))
        (pss_one (ps_ret (pe_op op_add_str (pe_slice sl_str (pv 1) po_none (po_some (pv 2))) (pe_slice sl_str (pv 1) (po_some (pe_op op_add (pv 2) pe_int)) po_none))))
        pss_nil)
        (pss_cons (ps_if (pt_cmpR op_eq (pv 3) pe_int (nomark _))
        (pss_one (ps_ret (pe_slice sl_str (pv 1) po_none (po_some (pv 2)))))
        pss_nil)
        (pss_cons (ps_set (i := 4) sc_l_hurt.nd rfl (Or.inl rfl) (pe_lst (pa_cons pe_str (pa_cons pe_str (pa_cons pe_str (pa_cons pe_str (pa_cons pe_str (pa_cons pe_str (pa_cons pe_str (pa_cons pe_str (pa_cons pe_str (pa_cons pe_str (pa_cons pe_str (pa_cons pe_str (pa_cons pe_str (pa_cons pe_str (pa_cons pe_str (pa_cons pe_str pa_nil))))))))))))))))))
        (pss_cons (ps_set (i := 4) sc_l_hurt.nd rfl (Or.inl rfl) (pe_op op_cat (pv 4) (pe_lst (pa_cons pe_str (pa_cons pe_str (pa_cons pe_str pa_nil))))))
        (pss_cons (ps_set (i := 4) sc_l_hurt.nd rfl (Or.inl rfl) (pe_c c_l_one hr (by first | decide | omega) rfl (pa_cons (pv 0) (pa_cons (pv 4) pa_nil))))
        (pss_one (ps_ret (pe_op op_add_str (pe_op op_add_str (pe_slice sl_str (pv 1) po_none (po_some (pv 2))) (pv 4)) (pe_slice sl_str (pv 1) (po_some (pe_op op_add (pv 2) (pe_callTy call_int1 (by rfl) T.n_int (by decide +kernel) (pa_cons (pe_cmpR op_eq (pv 3) pe_int (nomark _)) pa_nil)))) po_none)))))))))))
      , ?_⟩
    have lz : t.length ≤ sizeLine := sz_of (by omega)
    refine ⟨_, rfl, _, rfl, _, t.length, rfl, ⟨lz, rfl⟩, _, _, rfl, rfl, g, _, c, e, rfl, B, by omega, by omega, fun r H1 r0 r1 D1 => ?_⟩
    obtain ⟨r, rfl⟩ := Int.eq_ofNat_of_zero_le r0
    refine ⟨_, rfl, g, 5, c, e, rfl, D1.bag, by decide, by decide, fun m H2 m0 m1 D2 => ?_⟩
    have D2 := D1.trans D2
    have la : (cutS t none (some (r : Int))).length ≤ r := by
      rw [str_len]
      show (TL.tl (cutS t none (some (r : Int)))).length ≤ r
      rw [tl_upto, List.length_take]
      exact Nat.min_le_left _ _
    have lb : ∀ j : Nat, r ≤ j → (cutS t none (some (r : Int))).length + (cutS t (some (j : Int)) none).length ≤ t.length := fun j hj => by
      rw [str_len, str_len, str_len]
      show (TL.tl (cutS t none (some (r : Int)))).length + (TL.tl (cutS t (some (j : Int)) none)).length ≤ (TL.tl t).length
      rw [tl_upto, tl_from, List.length_take, List.length_drop]
      omega
    refine ⟨_, rfl, rfl, _, rfl, ite2 (fun _ => ?_) (fun _ => ?_)⟩
    · refine ⟨_, rfl, _, rfl, _, rfl, t, rfl, lz, _, rfl, _, rfl, _, _, rfl, rfl, _, rfl, t, rfl, lz, _, _, rfl, rfl, ?_, ?_⟩
      · exact sz_of (by have := lb (r + 1) (by omega); have e : ((r : Int) + 1) = ((r + 1 : Nat) : Int) := by omega
                        rw [e]; omega)
      · have := lb (r + 1) (by omega)
        have e : ((r : Int) + 1) = ((r + 1 : Nat) : Int) := by omega
        refine k _ H2 ?_ ((nt.cut _ _).cat (nt.cut _ _)) D2
        rw [Str.length_append, e]
        omega
    refine ⟨_, rfl, rfl, _, rfl, ite2 (fun _ => ?_) (fun _ => ?_)⟩
    · exact ⟨_, rfl, _, rfl, _, rfl, t, rfl, lz, k _ H2 (by omega) (nt.cut _ _) D2⟩
    refine ⟨by show 16 ≤ sizeLine; decide, fun p1 h1 => ?_⟩
    refine ⟨_, rfl, by show 3 ≤ sizeLine; decide, fun p2 h2 => ⟨p1, p2, hurtA, hurtB, rfl, rfl, upd_some upd_same h2, upd_same, by decide, fun p3 h3 => ?_⟩⟩
    have D3 := ((D2.new (o := .lst hurtA) h1).new (o := .lst hurtB) h2).new (o := .lst (hurtA ++ hurtB)) h3
    have n3 := ((D2.new (o := .lst hurtA) h1).new (o := .lst hurtB) h2).bag.ne_new h3
    refine ⟨_, rfl, _, rfl, g, _, c, e, rfl, D3.bag, .inl ⟨p3, _, rfl, .inl (SqL.of upd_same), n3, by decide, by decide, fun v H4 hv D4 => ?_⟩⟩
    obtain ⟨z, rfl, z1, z2⟩ := okB_is (n := 6) (List.all_eq_true.mp (show (hurtA ++ hurtB).all (okB 6) = true by decide +kernel) v hv)
    have D4 := D3.trans D4
    obtain ⟨j, hj, ej⟩ : ∃ j : Nat, r ≤ j ∧ (r : Int) + (if decide (V.int m = V.int 2) = true then 1 else 0) = (j : Int) := by
      by_cases q : decide (V.int m = V.int 2) = true
      · exact ⟨r + 1, by omega, by rw [if_pos q]; omega⟩
      · exact ⟨r, by omega, by rw [if_neg q]; omega⟩
    have lj := lb j hj
    refine ⟨_, rfl, _, rfl, _, rfl, t, rfl, lz, _, rfl, _, _, rfl, rfl, sz_of (by omega), _, rfl, _, rfl, _, rfl, rfl, .inr ⟨_, rfl, _, _, rfl, rfl, _, rfl, t, rfl, lz, _, _, rfl, rfl, ?_⟩⟩
    rw [ej]
    refine ⟨sz_of (by rw [Str.length_append]; omega), k _ H4 ?_ (((nt.cut _ _).cat z2).cat (nt.cut _ _)) D4⟩
    rw [Str.length_append, Str.length_append]
    omega

open LamX (CodeO TabS Tabs ExtN TabB)
abbrev lamC : Str := "_law_cut_all" ++ ".<locals>." ++ "<lambda>"
/-- the reason of a fault, as the law tells it -/
def rsnA (t : Str) (i c : Nat) : Str :=
  if c = 34 then "quote" else if (t.cps.toList.drop i).take 3 = [39, 39, 39] then "raw" else if (t.cps.toList.drop i).take 2 = [60, 42] then "block" else "sign"
theorem rsn_kd {t : Str} {i c : Nat} (hc : t.cps.toList[i]? = some c) (hw : wrdE t i = none) : kdA t i c = rsnA t i c := by
  have wa := wrd_at hc
  rw [hw] at wa
  unfold kdA rsnA
  by_cases q1 : (t.cps.toList.drop i).take 2 = [60, 42]
  · have e : c = 60 := take_hd hc q1
    rw [if_pos q1, if_neg (by omega), if_neg (fun z => by have : c = 39 := take_hd hc z; omega), if_pos q1]
  rw [if_neg q1, if_neg q1]
  by_cases q2 : (t.cps.toList.drop i).take 3 = [39, 39, 39]
  · have e : c = 39 := take_hd hc q2
    rw [if_pos q2, if_neg (by omega), if_pos q2]
  rw [if_neg q2, if_neg q2]
  by_cases q3 : c = 34
  · rw [if_pos q3, if_pos q3]
  rw [if_neg q3, if_neg q3]
  by_cases q7 : letC c = true
  · rw [if_pos q7] at wa
    cases wa
  rw [if_neg q7] at wa
  by_cases q6 : digC c = true
  · rw [if_pos q6] at wa
    cases wa
  rw [if_neg q6, if_neg q3] at wa
  by_cases q4 : c = 35
  · subst q4
    rw [if_neg (by decide), if_pos rfl] at wa
    cases wa
  rw [if_neg q4, if_neg q6, if_neg q7]
theorem tOr_bl {ta tb : TE} {σ : L2.St} {H : Hp} {Q : VK} {a b : Bool} (ha : ∀ R : VK, R (.bl a) H → ta σ H R) (hb : ∀ R : VK, R (.bl b) H → tb σ H R) (q : Q (.bl (a || b)) H) : tOrV ta tb σ H Q := by
  refine ha _ ⟨a, rfl, ?_⟩
  cases a
  · exact hb _ q
  · exact q
/-- text[i:i + n] == z -/
theorem sleq_at {σ : L2.St} {H : Hp} {R : VK} {t : Str} {i n : Nat} (l : List Nat) (h0 : σ[0]? = some (some (.str t))) (h3 : σ[3]? = some (some (.int i))) (hz : t.length ≤ sizeLine) (q : R (.bl (decide ((t.cps.toList.drop i).take n = l))) H) :
    tOp rEq (tSl rSlS (tVar 0) (tPart (tVar 3)) (tPart (tOp (rI0 fun i j => V.int (i + j)) (tVar 3) (tC (V.int n))))) (tC (V.str ⟨l.toArray⟩)) σ H R := by
  refine ⟨_, h0, _, h3, _, rfl, _, h3, _, _, rfl, rfl, _, rfl, t, rfl, hz, rfl, ?_⟩
  rw [show decide (V.str (cutS t (some (i : Int)) (some ((i : Int) + (n : Nat)))) = V.str ⟨l.toArray⟩) = decide ((t.cps.toList.drop i).take n = l) from cut_l t i n l]
  exact q
theorem rsn_te {σ : L2.St} {H : Hp} {R : VK} {K : PySem.W.Frag} {t : Str} {j c : Nat} {b : Bool} (h0 : σ[0]? = some (some (.str t))) (h3 : σ[3]? = some (some (.int j))) (h5 : σ[5]? = some (some (.bl b))) (hz : t.length ≤ sizeLine) (hc : t.cps.toList[j]? = some c)
    (eb : (decide ((t.cps.toList.drop j).take 3 = [39, 39, 39]) || decide ((t.cps.toList.drop j).take 2 = [60, 42])) = b) (q : R (.str (rsnA t j c)) H) :
    tIf (tTest (tOp rEq (tOp rIxS (tVar 0) (tVar 3)) (tC (V.str "\"")))) (tC (V.str "quote"))
      (tIf (tAnd (fun σ H Q => tVar 5 σ H fun x H' => ∃ k, TruV K x H' k ∧ Q k H') (tTest (tOp rEq (tOp rIxS (tVar 0) (tVar 3)) (tC (V.str "'"))))) (tC (V.str "raw"))
        (tIf (fun σ H Q => tVar 5 σ H fun x H' => ∃ k, TruV K x H' k ∧ Q k H') (tC (V.str "block")) (tC (V.str "sign")))) σ H R := by
  unfold rsnA at q
  refine ⟨_, h0, _, h3, _, _, c, rfl, rfl, hz, atI_nat hc, rfl, _, rfl, ?_⟩
  rw [show decide (V.str ⟨#[c]⟩ = V.str "\"") = decide (c = 34) from eq_one 34 c]
  refine ite2 (fun h => ?_) (fun h => ?_)
  · rw [if_pos (of_decide_eq_true h)] at q
    exact q
  rw [if_neg (fun z => h (decide_eq_true z))] at q
  refine ⟨_, h5, b, rfl, ?_⟩
  by_cases q3 : (t.cps.toList.drop j).take 3 = [39, 39, 39]
  · have ec : c = 39 := take_hd hc q3
    rw [decide_eq_true q3, Bool.true_or] at eb
    rw [if_pos q3] at q
    subst eb
    refine ite2 (fun _ => ?_) (fun z => absurd rfl z)
    refine ⟨_, h0, _, h3, _, _, c, rfl, rfl, hz, atI_nat hc, rfl, _, rfl, ?_⟩
    rw [show decide (V.str ⟨#[c]⟩ = V.str "'") = decide (c = 39) from eq_one 39 c, decide_eq_true ec]
    exact ite2 (fun _ => q) (fun z => absurd rfl z)
  · rw [if_neg q3] at q
    rw [decide_eq_false q3, Bool.false_or] at eb
    by_cases q2 : (t.cps.toList.drop j).take 2 = [60, 42]
    · have ec : c = 60 := take_hd hc q2
      rw [decide_eq_true q2] at eb
      rw [if_pos q2] at q
      subst eb
      refine ite2 (fun _ => ?_) (fun z => absurd rfl z)
      refine ⟨_, h0, _, h3, _, _, c, rfl, rfl, hz, atI_nat hc, rfl, _, rfl, ?_⟩
      rw [show decide (V.str ⟨#[c]⟩ = V.str "'") = decide (c = 39) from eq_one 39 c, decide_eq_false (by omega)]
      refine ite2 (fun z => absurd z (by decide)) (fun _ => ?_)
      exact ⟨_, h5, true, rfl, ite2 (fun _ => q) (fun z => absurd rfl z)⟩
    · rw [decide_eq_false q2] at eb
      rw [if_neg q2] at q
      subst eb
      refine ite2 (fun z => absurd z (by decide)) (fun _ => ?_)
      refine ite2 (fun z => absurd z (by decide)) (fun _ => ?_)
      exact ⟨_, h5, false, rfl, ite2 (fun z => absurd z (by decide)) (fun _ => q)⟩
/-- all of a text, cut by the law -/
def spCutA (K : PySem.W.Frag) (Tl : List (Addr × Str)) : Sp := fun vs H Q _ => ∃ (t : Str), vs = [.str t] ∧ t.length ≤ 100000 ∧ Tabs Tl H ∧ ∀ (p : Addr) (H' : Hp), ExtN H H' → Tabs Tl H' → Tr H' (.ref p) (allD t) → Q (.ref p) H'
theorem c_l_cut_all (T : Txt K mg w) {c tp : Addr} {Tl : List (Addr × Str)} (mT : (tp, lamC) ∈ Tl) (uT : ∀ p ∈ Tl, p.1 = tp → p.2 = lamC) (D : DefC K mg "_law_cut_all" s_l_cut_all ["_law_text"] (.ref c)) (TB : TabB base mg c tp)
    (c_l_word_end : Cal P w K mg base 4 "_law_word_end" (spWE Tl) []) (c_l_kind : Cal P w K mg base 2 "_law_kind" spKd []) (c_l_place : Cal P w K mg base 1 "_law_place" spLPl []) (c_l_run : Cal P w K mg base 3 "_law_run" (spRun P w K mg base) []) :
    Cal P w K mg base 5 "_law_cut_all" (spCutA K Tl) [] := by
  refine calOfC D sc_l_cut_all (fun vs H Q E h => ?_) (fun f A outer s H vs Q E hr h => ?_)
  · obtain ⟨t, rfl, _⟩ := h
    rfl
  · obtain ⟨t, rfl, hl, tb, k⟩ := h
    have hz : t.length ≤ sizeLine := sz_of hl
    refine ⟨_,
      (pss_cons (ps_par3 (i := 1) (j := 2) (l := 3) (by rfl) sc_l_cut_all.nd rfl rfl rfl (by decide) (by decide) (by decide) rfl rfl rfl (pa_cons (pe_lst pa_nil) (pa_cons (pe_lst pa_nil) (pa_cons pe_int pa_nil))) (by rfl))
        (pss_cons (ps_while PassesOwn.never (pt_cmpR op_lt (pv 3) (pe_callB call_len (by rfl) T.n_len PySem.boot_len (pa_cons (pv 0) pa_nil)) (nomark _))
        (pss_cons (ps_set (i := 4) sc_l_cut_all.nd rfl (Or.inl rfl) (pe_ifExp (pt_cmpR op_notIn_sign (pe_ix ix_str (pv 0) (pv 3) (fun _ _ => rfl)) pe_str (by rfl)) (pe_c c_l_word_end hr (by first | decide | omega) rfl (pa_cons (pv 0) (pa_cons (pv 3) pa_nil))) (pe_op op_add (pv 3) pe_int)))
        (pss_one (ps_if (pt_cmpR op_in_sign (pe_ix ix_str (pv 0) (pv 3) (fun _ _ => rfl)) pe_str (by rfl))
        (pss_one (ps_set (i := 3) sc_l_cut_all.nd rfl (Or.inl rfl) (pv 4)))
        (pss_one (ps_if (pt_cmpR op_notN (pv 4) pe_non (nomark _))
        (pss_cons (ps_expr (pe_bm PySem.F.plainAttrs_list PySem.F.slot_list_append PySem.F.type_list_append mt_append (pv 1) (pa_cons (pe_tup (pa_cons (pe_c c_l_kind hr (by first | decide | omega) rfl (pa_cons (pe_slice sl_str (pv 0) (po_some (pv 3)) (po_some (pv 4))) pa_nil)) (pa_cons (pe_slice sl_str (pv 0) (po_some (pv 3)) (po_some (pv 4))) (pa_cons (pv 3) pa_nil)))) pa_nil)))
        (pss_one (ps_set (i := 3) sc_l_cut_all.nd rfl (Or.inl rfl) (pv 4))))
        (pss_cons (ps_set (i := 5) sc_l_cut_all.nd rfl (Or.inl rfl) (pe_or (pe_cmpR op_eq (pe_slice sl_str (pv 0) (po_some (pv 3)) (po_some (pe_op op_add (pv 3) pe_int))) pe_str (nomark _)) (pe_one (pe_cmpR op_eq (pe_slice sl_str (pv 0) (po_some (pv 3)) (po_some (pe_op op_add (pv 3) pe_int))) pe_str (nomark _)))))
        (pss_cons (ps_set (i := 6) sc_l_cut_all.nd rfl (Or.inl rfl) (pe_ifExp (pt_cmpR op_eq (pe_ix ix_str (pv 0) (pv 3) (fun _ _ => rfl)) pe_str (nomark _)) pe_str (pe_ifExp (PW.pt (pw_and (pt_truth (pv 5) (by intro _; rfl)) (pw_and1 (pt_cmpR op_eq (pe_ix ix_str (pv 0) (pv 3) (fun _ _ => rfl)) pe_str (nomark _))))) pe_str (pe_ifExp (pt_truth (pv 5) (by intro _; rfl)) pe_str pe_str))))
        (pss_cons (ps_expr (pe_bm PySem.F.plainAttrs_list PySem.F.slot_list_append PySem.F.type_list_append mt_append (pv 2) (pa_cons (pe_tup (pa_cons (pe_c c_l_place hr (by first | decide | omega) rfl (pa_cons (pv 0) (pa_cons (pv 3) pa_nil))) (pa_cons (pv 6) pa_nil))) pa_nil)))
        (pss_one (ps_set (i := 3) sc_l_cut_all.nd rfl (Or.inl rfl) (pe_ifExp (pt_truth (pv 5) (by intro _; rfl)) (pe_callB call_len (by rfl) T.n_len PySem.boot_len (pa_cons (pv 0) pa_nil)) (pe_ifExp (pt_cmpR op_eq (pv 6) pe_str (nomark _)) (pe_c c_l_run hr (by first | decide | omega) rfl (pa_cons (pv 0) (pa_cons (pv 3) (pa_cons (pe_lam TB rfl mT uT rfl (by decide +kernel) rfl) pa_nil)))) (pe_op op_add (pv 3) pe_int))))))))))))))
        (pss_one (ps_ret (pe_tup (pa_cons (pe_callTy call_tuple_of (by rfl) T.n_tuple (by decide +kernel) (pa_cons (pv 1) pa_nil)) (pa_cons (pe_callTy call_tuple_of (by rfl) T.n_tuple (by decide +kernel) (pa_cons (pv 2) pa_nil)) pa_nil)))))))
      , ?_⟩
    refine ⟨by decide, fun L hL => ⟨by decide, fun F hF => ⟨_, _, _, rfl, ?_⟩⟩⟩
    have hFL : F ≠ L := fun z => by
      rw [z, upd_same] at hF
      cases hF
    have hF0 : H F = none := by
      rw [upd_ne hFL] at hF
      exact hF
    have sLF := (same_new (o := .lst []) hL).trans (same_new (o := .lst []) hF)
    refine ⟨fun m σ' H' => ∃ (ts : List Tk3) (fl : List Ft) (vs fs : List V) (j : Nat) (v4 v5 v6 : Option V), σ' = [some (.str t), some (.ref L), some (.ref F), some (.int j), v4, v5, v6] ∧ H' L = some (.lst vs) ∧ TrAll H' vs (ts.map (tkD t)) ∧ H' F = some (.lst fs) ∧ TrAll H' fs (fl.map (flD t)) ∧ Bcut t ts fl j ∧ ExtN H H' ∧ Tabs Tl H' ∧ m = t.length - j,
      ⟨_, [], [], [], [], 0, none, none, none, rfl, upd_some upd_same hF, .nil, upd_same, .nil, .nil, Same.ext sLF, Tabs.same tb sLF, rfl⟩, ?_⟩
    rintro m σ' H1 ⟨ts, fl, vs, fs, j, v4, v5, v6, rfl, hT, tr, hFs, trf, B, ex, tb1, rfl⟩
    refine ⟨_, rfl, _, rfl, _, t.length, rfl, ⟨hz, rfl⟩, _, _, rfl, rfl, _, rfl, ?_⟩
    refine ite2 (fun h1 => ?_) (fun h1 => ?_)
    · have hlt : j < t.length := by
        have := of_decide_eq_true h1
        omega
      obtain ⟨c, hc⟩ := at_lt hlt
      have l1 := tr.len
      have l2 := trf.len
      rw [List.length_map] at l1 l2
      have b1 := B.tl
      have b2 := B.fl
      refine ⟨fun σ' H2 => ∃ m', m' < t.length - j ∧ ∃ (ts : List Tk3) (fl : List Ft) (vs fs : List V) (j : Nat) (v4 v5 v6 : Option V), σ' = [some (.str t), some (.ref L), some (.ref F), some (.int j), v4, v5, v6] ∧ H2 L = some (.lst vs) ∧ TrAll H2 vs (ts.map (tkD t)) ∧ H2 F = some (.lst fs) ∧ TrAll H2 fs (fl.map (flD t)) ∧ Bcut t ts fl j ∧ ExtN H H2 ∧ Tabs Tl H2 ∧ m' = t.length - j, fun _ _ h => h, ?_⟩
      refine ⟨_, rfl, _, rfl, _, _, c, rfl, rfl, hz, atI_nat hc, c, _, rfl, rfl, _, rfl, ?_⟩
      by_cases bl : c = 32 ∨ c = 10
      · have hb : decide (c ∈ (" \n" : Str).cps.toList) = true := decide_eq_true (by show c ∈ [32, 10]; simpa using bl)
        rw [hb]
        refine ite2 (fun z => absurd z (by decide)) (fun _ => ?_)
        refine ⟨_, rfl, _, _, rfl, rfl, ?_⟩
        refine ⟨_, rfl, _, rfl, _, _, c, rfl, rfl, hz, atI_nat hc, c, _, rfl, rfl, _, rfl, ?_⟩
        rw [hb]
        refine ite2 (fun _ => ?_) (fun z => absurd rfl z)
        refine ⟨_, rfl, ?_⟩
        exact ⟨_, (by omega : t.length - (j + 1) < t.length - j), ts, fl, vs, fs, j + 1, _, v5, v6, rfl, hT, tr, hFs, trf, B.blank hc bl, ex, tb1, rfl⟩
      · have hb : decide (c ∈ (" \n" : Str).cps.toList) = false := decide_eq_false (fun z => bl (by have z : c ∈ [32, 10] := z; simpa using z))
        rw [hb]
        refine ite2 (fun _ => ?_) (fun z => absurd rfl z)
        refine ⟨_, rfl, _, rfl, t, j, rfl, hz, hlt, tb1, fun H2 e2 tb2 => ?_⟩
        refine ⟨_, rfl, _, rfl, _, _, c, rfl, rfl, hz, atI_nat hc, c, _, rfl, rfl, _, rfl, ?_⟩
        rw [hb]
        refine ite2 (fun z => absurd z (by decide)) (fun _ => ?_)
        have hT2 := ExtN.lst e2 hT
        have hF2 := ExtN.lst e2 hFs
        have tr2 := tr.keep (ExtN.tk' e2)
        have trf2 := trf.keep (ExtN.tk' e2)
        have ex2 := ExtN.trans ex e2
        cases hw : wrdE t j with
        | some e =>
          have wi := wrd_in hw
          have hcons : ∃ r, (sl t (j, e)).cps.toList = c :: r := by
            rw [sl_tl t (Nat.le_of_lt wi.1), drop_at hc]
            obtain ⟨n, hn⟩ : ∃ n, e - j = n + 1 := ⟨e - j - 1, by omega⟩
            rw [hn, List.take_succ_cons]
            exact ⟨_, rfl⟩
          obtain ⟨r, hr⟩ := hcons
          have lsl := sl_len (t := t) (Nat.le_of_lt wi.1) wi.2
          refine ⟨_, rfl, rfl, _, rfl, ite2 (fun _ => ?_) (fun z => absurd (by rw [decide_eq_false (fun e => by cases e)]; rfl) z)⟩
          refine ⟨_, rfl, .inl ⟨rfl, _, SqL.of hT2⟩, _, rfl, _, rfl, _, rfl, _, rfl, _, rfl, _, rfl, hz, sl t (j, e), c, r, rfl, hr, sz_of (by omega), fun H3 s3 => ?_⟩
          rw [kd_sl hc hw]
          refine ⟨_, rfl, _, rfl, _, rfl, _, rfl, _, rfl, _, rfl, hz, _, rfl, by show 3 ≤ sizeLine; decide, fun p5 hp5 => ⟨L, vs, .ref p5, rfl, rfl, upd_some (s3 _ _ hT2) hp5, Nat.lt_of_le_of_lt (show vs.length ≤ 100000 by omega) (by decide), ?_⟩⟩
          have t5 : Tr (upd H3 p5 (.tup [.str (kdA t j c), .str (sl t (j, e)), .int j])) (.ref p5) (tkD t (kdA t j c, (j, e))) := .tup upd_same (.cons (.str _) (.cons (.str _) (.cons (.int _) .nil)))
          have s35 := s3.trans (same_new (o := .tup [.str (kdA t j c), .str (sl t (j, e)), .int j]) hp5)
          have hT5 := s35 _ _ hT2
          have hF5 : (upd (upd H3 p5 (.tup [.str (kdA t j c), .str (sl t (j, e)), .int j])) L (.lst (vs ++ [.ref p5]))) F = some (.lst fs) := by
            rw [upd_ne hFL]
            exact s35 _ _ hF2
          have ex5 : ExtN H (upd (upd H3 p5 (.tup [.str (kdA t j c), .str (sl t (j, e)), .int j])) L (.lst (vs ++ [.ref p5]))) := ExtN.put (ExtN.trans ex2 (Same.ext s35)) hL
          have tb5 : Tabs Tl (upd (upd H3 p5 (.tup [.str (kdA t j c), .str (sl t (j, e)), .int j])) L (.lst (vs ++ [.ref p5]))) := Tabs.putL (Tabs.same tb2 s35) hT5
          have tk5 := tk_lst (o := .lst (vs ++ [.ref p5])) hT5
          refine ⟨_, rfl, _, (by omega : t.length - e < t.length - j), ts ++ [(kdA t j c, (j, e))], fl, vs ++ [.ref p5], fs, e, _, _, _, rfl, upd_same, ?_, hF5, (trf2.keep (Tk.of s35)).keep tk5, B.word hc bl hw, ex5, tb5, rfl⟩
          rw [List.map_append]
          exact ((tr2.keep (Tk.of s35)).app (.one t5)).keep tk5
        | none =>
          have gt := beh_gt hc bl
          have rk := rsn_kd hc hw
          refine ⟨_, rfl, rfl, _, rfl, ite2 (fun z => absurd z (by rw [decide_eq_true (show optV none = V.non from rfl)]; decide)) (fun _ => ?_)⟩
          refine tOr_bl (a := decide ((t.cps.toList.drop j).take 3 = [39, 39, 39])) (b := decide ((t.cps.toList.drop j).take 2 = [60, 42])) (fun R q => sleq_at (n := 3) [39, 39, 39] rfl rfl hz q) (fun R q => sleq_at (n := 2) [60, 42] rfl rfl hz q) ?_
          generalize eb : (decide ((t.cps.toList.drop j).take 3 = [39, 39, 39]) || decide ((t.cps.toList.drop j).take 2 = [60, 42])) = b
          refine rsn_te (t := t) (j := j) (c := c) (b := b) rfl rfl rfl hz hc eb ?_
          refine ⟨_, rfl, .inl ⟨rfl, _, SqL.of hF2⟩, _, rfl, _, rfl, t, j, rfl, Nat.le_of_lt hlt, hl, fun q H3 s3 hq => ?_⟩
          refine ⟨_, rfl, by show 2 ≤ sizeLine; decide, fun p5 hp5 => ⟨F, fs, .ref p5, rfl, rfl, upd_some (s3 _ _ hF2) hp5, Nat.lt_of_le_of_lt (show fs.length ≤ 100000 by omega) (by decide), ?_⟩⟩
          have t5 : Tr (upd H3 p5 (.tup [.ref q, .str (rsnA t j c)])) (.ref p5) (flD t (j, kdA t j c)) := by
            rw [rk]
            exact .tup upd_same (.cons (.tup (upd_some hq hp5) (.cons (.int _) (.cons (.int _) .nil))) (.cons (.str _) .nil))
          have s35 := s3.trans (same_new (o := .tup [.ref q, .str (rsnA t j c)]) hp5)
          generalize upd H3 p5 _ = H5 at t5 s35 ⊢
          have hF5 := s35 _ _ hF2
          have hT5 : (upd H5 F (.lst (fs ++ [.ref p5]))) L = some (.lst vs) := by
            rw [upd_ne (fun z => hFL z.symm)]
            exact s35 _ _ hT2
          have tk5 : Tk H5 (upd H5 F (.lst (fs ++ [.ref p5]))) := tk_lst hF5
          have ex5 : ExtN H (upd H5 F (.lst (fs ++ [.ref p5]))) := ExtN.put (ExtN.trans ex2 (Same.ext s35)) hF0
          have tb5 : Tabs Tl (upd H5 F (.lst (fs ++ [.ref p5]))) := Tabs.putL (Tabs.same tb2 s35) hF5
          have trA : TrAll (upd H5 F (.lst (fs ++ [.ref p5]))) (fs ++ [.ref p5]) ((fl ++ [(j, kdA t j c)]).map (flD t)) := by
            rw [List.map_append]
            exact ((trf2.keep (Tk.of s35)).app (.one t5)).keep tk5
          have trB : TrAll (upd H5 F (.lst (fs ++ [.ref p5]))) vs (ts.map (tkD t)) := (tr2.keep (Tk.of s35)).keep tk5
          have hF6 : (upd H5 F (.lst (fs ++ [.ref p5]))) F = some (.lst (fs ++ [.ref p5])) := upd_same
          generalize upd H5 F (HO.lst (fs ++ [.ref p5])) = H6 at hT5 ex5 tb5 trA trB hF6 ⊢
          have fin : ∀ H7, ExtN H6 H7 → Tabs Tl H7 → ∃ m', m' < t.length - j ∧ ∃ (ts : List Tk3) (fl : List Ft) (vs fs : List V) (j' : Nat) (v4 v5 v6 : Option V), [some (.str t), some (.ref L), some (.ref F), some (.int (behA t j c)), some (optV none), some (.bl b), some (.str (rsnA t j c))] = [some (.str t), some (.ref L), some (.ref F), some (.int j'), v4, v5, v6] ∧ H7 L = some (.lst vs) ∧ TrAll H7 vs (ts.map (tkD t)) ∧ H7 F = some (.lst fs) ∧ TrAll H7 fs (fl.map (flD t)) ∧ Bcut t ts fl j' ∧ ExtN H H7 ∧ Tabs Tl H7 ∧ m' = t.length - j' := fun H7 e7 tb7 =>
            ⟨_, (by omega : t.length - behA t j c < t.length - j), ts, fl ++ [(j, kdA t j c)], vs, fs ++ [.ref p5], behA t j c, _, _, _, rfl, ExtN.lst e7 hT5, trB.keep (ExtN.tk' e7), ExtN.lst e7 hF6, trA.keep (ExtN.tk' e7), B.fault hc bl hw, ExtN.trans ex5 e7, tb7, rfl⟩
          have fin0 := fin H6 (Same.ext (Same.refl _)) tb5
          have eA : behA t j c = if kdA t j c = "sign" then j + 1 else if kdA t j c = "quote" then runE notNl t.cps.toList j else t.length := rfl
          rw [rk] at eA
          refine ⟨_, rfl, b, rfl, ite2 (fun hb1 => ?_) (fun hb1 => ?_)⟩
          · -- to the end
            have : behA t j c = t.length := by
              rw [eA]
              subst hb1
              rw [Bool.or_eq_true] at eb
              have ne : rsnA t j c ≠ "sign" ∧ rsnA t j c ≠ "quote" := by
                unfold rsnA
                rcases eb with h | h
                · have h := of_decide_eq_true h
                  have ec : c = 39 := take_hd hc h
                  rw [if_neg (by omega), if_pos h]
                  decide +kernel
                · have h := of_decide_eq_true h
                  have ec : c = 60 := take_hd hc h
                  rw [if_neg (by omega), if_neg (fun z => by have : c = 39 := take_hd hc z; omega), if_pos h]
                  decide +kernel
              rw [if_neg ne.1, if_neg ne.2]
            rw [this] at fin0
            exact ⟨_, rfl, _, t.length, rfl, ⟨hz, rfl⟩, fin0⟩
          · have hb2 : b = false := Bool.eq_false_iff.mpr hb1
            rw [hb2, Bool.or_eq_false_iff] at eb
            have n3 := of_decide_eq_false eb.1
            have n2 := of_decide_eq_false eb.2
            refine ⟨_, rfl, rfl, _, rfl, ite2 (fun hq2 => ?_) (fun hq2 => ?_)⟩
            · have rq : rsnA t j c = "quote" := V.str.inj (of_decide_eq_true hq2)
              have ea : behA t j c = runE notNl t.cps.toList j := by
                rw [eA, rq, if_neg (by decide +kernel), if_pos rfl]
              rw [ea] at fin
              refine ⟨_, rfl, _, rfl, tb5, fun f1 c1 H7 ext tb7 hf hc1 hn hcn => ?_⟩
              refine ⟨t, j, f1, notNl, _, rfl, hz, one_lamO (k := 1) (sp := spSg notNl) (p := "_law_one_here") (N := ["_law_one_here"]) hf ⟨rfl, rfl, rfl, by decide +kernel, rfl, by decide +kernel, by decide +kernel⟩ (by decide +kernel) (fun _ _ _ => rfl) ?_, .inr ⟨c1, _, _, _, _, hf⟩, fun d Q' E' q => ⟨hf, hc1, d, rfl, q⟩, fin H7 ext tb7⟩
              rintro A outer s H v Q E hr ⟨d, e, q⟩
              cases e
              refine ⟨_, (pe_cmpR op_ne (pv 0) pe_str (nomark _)), ?_⟩
              refine ⟨_, rfl, ?_⟩
              unfold notNl at q
              rw [← eq_one 10 d] at q
              exact ⟨rfl, q⟩
            · have rq : rsnA t j c ≠ "quote" := fun z => hq2 (decide_eq_true (congrArg V.str z))
              have rs : rsnA t j c = "sign" := by
                unfold rsnA at rq ⊢
                by_cases q : c = 34
                · rw [if_pos q] at rq
                  exact absurd rfl rq
                · rw [if_neg q, if_neg n3, if_neg n2]
              have ea : behA t j c = j + 1 := by
                rw [eA, rs, if_pos rfl]
              rw [ea] at fin0
              exact ⟨_, rfl, _, _, rfl, rfl, fin0⟩
    · have hge : t.length ≤ j := by
        have : ¬ ((j : Nat) : Int) < t.length := fun z => h1 (decide_eq_true z)
        omega
      obtain ⟨e1, e2⟩ := B.done hge
      subst e1 e2
      refine ⟨_, rfl, L, vs, rfl, .inl ⟨SqL.of hT, fun q1 hq1 => ⟨_, rfl, F, fs, rfl, .inl ⟨SqL.of (upd_some hFs hq1), fun q2 hq2 => ⟨by show 2 ≤ sizeLine; decide, fun p hp => ?_⟩⟩⟩⟩⟩
      have s3 := ((same_new (o := .tup vs) hq1).trans (same_new (o := .tup fs) hq2)).trans (same_new (o := .tup [.ref q1, .ref q2]) hp)
      refine k p _ (ExtN.trans ex (Same.ext s3)) (Tabs.same tb1 s3) (.tup upd_same (.cons ?_ (.cons ?_ .nil)))
      · exact .tup (upd_some (upd_some upd_same hq2) hp) (((tr.new hq1).new hq2).new hp)
      · exact .tup (upd_some upd_same hp) (((trf.new hq1).new hq2).new hp)

/-! ### brackets: pairs, faults, depths, by the places of words alone -/
structure Bs where
  prs : List (Nat × Nat)
  fts : List Nat
  os : List Nat
def bstep (o c : Nat → Bool) (m : Nat → Nat → Bool) (S : Bs) (i : Nat) : Bs :=
  if o i = true then ⟨S.prs, S.fts, S.os ++ [i]⟩
  else if c i = true then
    match S.os.reverse with
    | n :: r => if m n i = true then ⟨S.prs ++ [(n, i)], S.fts, r.reverse⟩ else ⟨S.prs, S.fts ++ [i], S.os⟩
    | [] => ⟨S.prs, S.fts ++ [i], S.os⟩
  else S
def bAt (o c : Nat → Bool) (m : Nat → Nat → Bool) : Nat → Bs
  | 0 => ⟨[], [], []⟩
  | n + 1 => bstep o c m (bAt o c m n) n
structure BInv (S : Bs) (n : Nat) : Prop where
  osn : S.os.Nodup
  osl : ∀ x ∈ S.os, x < n
  kn : (S.prs.map (·.1)).Nodup
  vn : (S.prs.map (·.2)).Nodup
  lt : ∀ p ∈ S.prs, p.1 < p.2 ∧ p.2 < n
  df : ∀ x ∈ S.os, x ∉ S.prs.map (·.1)
  fl : ∀ x ∈ S.fts, x < n
  l1 : S.prs.length ≤ n
  l2 : S.fts.length + S.os.length ≤ n
theorem nodup_snoc {l : List Nat} {x : Nat} (h : l.Nodup) (hx : x ∉ l) : (l ++ [x]).Nodup := by
  rw [List.nodup_append]
  exact ⟨h, List.nodup_cons.mpr ⟨by simp, List.nodup_nil⟩, fun a ha b hb e => hx (by rw [List.mem_singleton.mp hb] at e; exact e ▸ ha)⟩
theorem bstep_inv {o c : Nat → Bool} {m : Nat → Nat → Bool} {S : Bs} {i : Nat} (I : BInv S i) : BInv (bstep o c m S i) (i + 1) := by
  have osl' : ∀ x ∈ S.os, x < i + 1 := fun x hx => Nat.lt_succ_of_lt (I.osl x hx)
  have lt' : ∀ p ∈ S.prs, p.1 < p.2 ∧ p.2 < i + 1 := fun p hp => ⟨(I.lt p hp).1, Nat.lt_succ_of_lt (I.lt p hp).2⟩
  have fl' : ∀ x ∈ S.fts, x < i + 1 := fun x hx => Nat.lt_succ_of_lt (I.fl x hx)
  have l1' := I.l1
  have l2' := I.l2
  have bad : BInv ⟨S.prs, S.fts ++ [i], S.os⟩ (i + 1) := by
    refine ⟨I.osn, osl', I.kn, I.vn, lt', I.df, fun x hx => ?_, Nat.le_succ_of_le l1', ?_⟩
    · rcases List.mem_append.mp hx with h | h
      · exact fl' x h
      · rw [List.mem_singleton.mp h]
        exact Nat.lt_succ_self _
    · show (S.fts ++ [i]).length + S.os.length ≤ i + 1
      rw [List.length_append, List.length_singleton]
      omega
  unfold bstep
  split
  · refine ⟨nodup_snoc I.osn fun h => Nat.lt_irrefl _ (I.osl i h), fun x hx => ?_, I.kn, I.vn, lt', fun x hx hk => ?_, fl', Nat.le_succ_of_le l1', ?_⟩
    · rcases List.mem_append.mp hx with h | h
      · exact osl' x h
      · rw [List.mem_singleton.mp h]
        exact Nat.lt_succ_self _
    · rcases List.mem_append.mp hx with h | h
      · exact I.df x h hk
      · rw [List.mem_singleton.mp h] at hk
        obtain ⟨p, hp, e⟩ := List.mem_map.mp hk
        have := I.lt p hp
        have e : p.1 = i := e
        omega
    · show S.fts.length + (S.os ++ [i]).length ≤ i + 1
      rw [List.length_append, List.length_singleton]
      omega
  · split
    · cases er : S.os.reverse with
      | nil => exact bad
      | cons n r =>
        have eo : S.os = r.reverse ++ [n] := by
          have := congrArg List.reverse er
          rw [List.reverse_reverse, List.reverse_cons] at this
          exact this
        show BInv (if m n i = true then ⟨S.prs ++ [(n, i)], S.fts, r.reverse⟩ else ⟨S.prs, S.fts ++ [i], S.os⟩) (i + 1)
        split
        · have hn : n ∈ S.os := by rw [eo]; simp
          have sub : ∀ x ∈ r.reverse, x ∈ S.os := fun x hx => by rw [eo]; exact List.mem_append_left _ hx
          have nd := I.osn
          rw [eo, List.nodup_append] at nd
          refine ⟨nd.1, fun x hx => osl' x (sub x hx), ?_, ?_, fun p hp => ?_, fun x hx hk => ?_, fl', ?_, ?_⟩
          · show ((S.prs ++ [(n, i)]).map (·.1)).Nodup
            rw [List.map_append]
            exact nodup_snoc I.kn (I.df n hn)
          · show ((S.prs ++ [(n, i)]).map (·.2)).Nodup
            rw [List.map_append]
            refine nodup_snoc I.vn fun h => ?_
            obtain ⟨p, hp, e⟩ := List.mem_map.mp h
            have := (I.lt p hp).2
            have e : p.2 = i := e
            omega
          · rcases List.mem_append.mp hp with h | h
            · exact lt' p h
            · rw [List.mem_singleton.mp h]
              exact ⟨I.osl n hn, Nat.lt_succ_self _⟩
          · have hk : x ∈ (S.prs ++ [(n, i)]).map (·.1) := hk
            rw [List.map_append] at hk
            rcases List.mem_append.mp hk with h | h
            · exact I.df x (sub x hx) h
            · have : x = n := List.mem_singleton.mp h
              exact nd.2.2 x hx n (List.mem_singleton.mpr rfl) this
          · show (S.prs ++ [(n, i)]).length ≤ i + 1
            rw [List.length_append, List.length_singleton]
            omega
          · have := congrArg List.length eo
            rw [List.length_append, List.length_singleton] at this
            show S.fts.length + r.reverse.length ≤ i + 1
            omega
        · exact bad
    · exact ⟨I.osn, osl', I.kn, I.vn, lt', I.df, fl', Nat.le_succ_of_le l1', Nat.le_succ_of_le l2'⟩
theorem bAt_inv (o c : Nat → Bool) (m : Nat → Nat → Bool) : ∀ n, BInv (bAt o c m n) n
  | 0 => ⟨List.nodup_nil, fun x hx => absurd hx (by simp [bAt]), List.nodup_nil, List.nodup_nil, fun p hp => absurd hp (by simp [bAt]), fun x hx => absurd hx (by simp [bAt]), fun x hx => absurd hx (by simp [bAt]), Nat.le_refl _, Nat.le_refl _⟩
  | n + 1 => bstep_inv (bAt_inv o c m n)
/-- the pairs, ascending -/
def sortP (l : List (Nat × Nat)) : List (Nat × Nat) := l.mergeSort fun a b => decide (a.1 ≤ b.1)
theorem sortP_perm (l : List (Nat × Nat)) : (sortP l).Perm l := List.mergeSort_perm _ _
theorem sortP_srt (l : List (Nat × Nat)) : (sortP l).Pairwise fun a b => a.1 ≤ b.1 := by
  have h := List.pairwise_mergeSort (le := fun a b : Nat × Nat => decide (a.1 ≤ b.1)) (fun a b c h1 h2 => by
    rw [decide_eq_true_eq] at h1 h2 ⊢
    omega) (fun a b => by
    rw [Bool.or_eq_true, decide_eq_true_eq, decide_eq_true_eq]
    omega) l
  exact h.imp fun h => of_decide_eq_true h
theorem srt_uniq : ∀ {a b : List Int}, a.Pairwise (· ≤ ·) → b.Pairwise (· ≤ ·) → a.Perm b → a = b
  | [], b, _, _, h => (List.Perm.eq_nil h.symm).symm
  | x :: a, [], _, _, h => absurd h.length_eq (by simp)
  | x :: a, y :: b, ha, hb, h => by
    have e : x = y := by
      rcases List.mem_cons.mp (h.mem_iff.mp (List.mem_cons_self (a := x) (l := a))) with e | h1
      · exact e
      · rcases List.mem_cons.mp (h.mem_iff.mpr (List.mem_cons_self (a := y) (l := b))) with e | h2
        · exact e.symm
        · have := (List.pairwise_cons.mp ha).1 y h2
          have := (List.pairwise_cons.mp hb).1 x h1
          omega
    subst e
    rw [srt_uniq (List.pairwise_cons.mp ha).2 (List.pairwise_cons.mp hb).2 h.cons_inv]
theorem sorted_keys {l : List (Nat × Nat)} {ys : List Int} (h : ys.Perm (l.map fun p => (p.1 : Int))) (s : ys.Pairwise (· ≤ ·)) : ys = (sortP l).map fun p => (p.1 : Int) := by
  refine srt_uniq s ?_ (h.trans ((sortP_perm l).map _).symm)
  exact List.pairwise_map.mpr ((sortP_srt l).imp fun h => by omega)
def cnt (P : Nat × Nat → Bool) (l : List (Nat × Nat)) : Nat := (l.filter P).length
theorem cnt_cons (P : Nat × Nat → Bool) (p : Nat × Nat) (l : List (Nat × Nat)) : cnt P (p :: l) = (if P p = true then 1 else 0) + cnt P l := by
  unfold cnt
  rw [List.filter_cons]
  split
  · rw [List.length_cons, Nat.add_comm]
  · rw [Nat.zero_add]
def dIn (n : Nat) (p : Nat × Nat) : Bool := decide (p.1 ≤ n) && decide (n ≤ p.2)
def dAh (n : Nat) (p : Nat × Nat) : Bool := decide (p.1 < n) && decide (n ≤ p.2)
theorem dIn_iff {n : Nat} {p : Nat × Nat} : dIn n p = true ↔ p.1 ≤ n ∧ n ≤ p.2 := by
  unfold dIn
  rw [Bool.and_eq_true, decide_eq_true_eq, decide_eq_true_eq]
theorem dAh_iff {n : Nat} {p : Nat × Nat} : dAh n p = true ↔ p.1 < n ∧ n ≤ p.2 := by
  unfold dAh
  rw [Bool.and_eq_true, decide_eq_true_eq, decide_eq_true_eq]
theorem cnt_no (n : Nat) : ∀ {l : List (Nat × Nat)}, n ∉ l.map (·.1) → cnt (dIn n) l = cnt (dAh n) l
  | [], _ => rfl
  | p :: l, h => by
    rw [List.map_cons, List.mem_cons, not_or] at h
    rw [cnt_cons, cnt_cons, cnt_no n h.2]
    congr 1
    have e : dIn n p = true ↔ dAh n p = true := by
      rw [dIn_iff, dAh_iff]
      omega
    by_cases q : dIn n p = true
    · rw [if_pos q, if_pos (e.mp q)]
    · rw [if_neg q, if_neg (fun z => q (e.mpr z))]
theorem cnt_open (n : Nat) : ∀ {l : List (Nat × Nat)}, (l.map (·.1)).Nodup → (∀ p ∈ l, p.1 < p.2) → n ∈ l.map (·.1) → cnt (dIn n) l = cnt (dAh n) l + 1
  | [], _, _, h => absurd h (by simp)
  | p :: l, nd, lt, h => by
    rw [List.map_cons, List.nodup_cons] at nd
    rw [cnt_cons, cnt_cons]
    have hp := lt p (List.mem_cons_self ..)
    by_cases e : p.1 = n
    · rw [cnt_no n (by rw [← e]; exact nd.1), if_pos (dIn_iff.mpr (by omega)), if_neg (fun z => by have := dAh_iff.mp z; omega)]
      omega
    · rw [List.map_cons, List.mem_cons] at h
      rw [cnt_open n nd.2 (fun q hq => lt q (List.mem_cons_of_mem _ hq)) (h.resolve_left fun z => e z.symm)]
      have e2 : dIn n p = true ↔ dAh n p = true := by
        rw [dIn_iff, dAh_iff]
        omega
      by_cases q : dIn n p = true
      · rw [if_pos q, if_pos (e2.mp q), Nat.add_assoc]
      · rw [if_neg q, if_neg (fun z => q (e2.mpr z)), Nat.add_assoc]
theorem cnt_no2 (n : Nat) : ∀ {l : List (Nat × Nat)}, n ∉ l.map (·.2) → cnt (dIn n) l = cnt (dAh (n + 1)) l
  | [], _ => rfl
  | p :: l, h => by
    rw [List.map_cons, List.mem_cons, not_or] at h
    rw [cnt_cons, cnt_cons, cnt_no2 n h.2]
    congr 1
    have e : dIn n p = true ↔ dAh (n + 1) p = true := by
      rw [dIn_iff, dAh_iff]
      omega
    by_cases q : dIn n p = true
    · rw [if_pos q, if_pos (e.mp q)]
    · rw [if_neg q, if_neg (fun z => q (e.mpr z))]
theorem cnt_close (n : Nat) : ∀ {l : List (Nat × Nat)}, (l.map (·.2)).Nodup → (∀ p ∈ l, p.1 < p.2) → n ∈ l.map (·.2) → cnt (dIn n) l = cnt (dAh (n + 1)) l + 1
  | [], _, _, h => absurd h (by simp)
  | p :: l, nd, lt, h => by
    rw [List.map_cons, List.nodup_cons] at nd
    rw [cnt_cons, cnt_cons]
    have hp := lt p (List.mem_cons_self ..)
    by_cases e : p.2 = n
    · rw [cnt_no2 n (by rw [← e]; exact nd.1), if_pos (dIn_iff.mpr (by omega)), if_neg (fun z => by have := dAh_iff.mp z; omega)]
      omega
    · rw [List.map_cons, List.mem_cons] at h
      rw [cnt_close n nd.2 (fun q hq => lt q (List.mem_cons_of_mem _ hq)) (h.resolve_left fun z => e z.symm)]
      have e2 : dIn n p = true ↔ dAh (n + 1) p = true := by
        rw [dIn_iff, dAh_iff]
        omega
      by_cases q : dIn n p = true
      · rw [if_pos q, if_pos (e2.mp q), Nat.add_assoc]
      · rw [if_neg q, if_neg (fun z => q (e2.mpr z)), Nat.add_assoc]
theorem cnt_zero (l : List (Nat × Nat)) : cnt (dAh 0) l = 0 := by
  unfold cnt
  rw [List.filter_eq_nil_iff.mpr fun p _ z => by have := dAh_iff.mp z; omega]
  rfl

/-! ### brackets in pairs, the rest told as faults: the program's -/
def opnL : List Str := ["(", "[", "{"]
def clsL : List Str := [")", "]", "}"]
def cloS (o : Str) : Str := if o = "(" then ")" else if o = "[" then "]" else "}"
def wAt (t : Str) (ts : List Tk3) (n : Nat) : Str := (ts[n]?.map fun x => sl t x.2).getD ""
def bgn (ts : List Tk3) (n : Nat) : Nat := (ts[n]?.map fun x => x.2.1).getD 0
def bk (t : Str) (ts : List Tk3) (n : Nat) : Bs := bAt (fun i => decide (wAt t ts i ∈ opnL)) (fun i => decide (wAt t ts i ∈ clsL)) (fun n i => decide (cloS (wAt t ts n) = wAt t ts i)) n
def ftD (t : Str) (ts : List Tk3) (w : Str) (n : Nat) : PyData := .tuple [.tuple [.int (lineN t.cps.toList (bgn ts n)), .int (colN t.cps.toList (bgn ts n))], .str w]
def kvU (l : List (Nat × Nat)) : List (Key × V) := l.map fun p => (.inl (p.1 : Int), .int (p.2 : Int))
noncomputable def fltD (t : Str) (ts : List Tk3) : List PyData := srtD ((bk t ts ts.length).fts.map (ftD t ts "close") ++ (bk t ts ts.length).os.map (ftD t ts "open"))
def prsS (t : Str) (ts : List Tk3) : List (Nat × Nat) := sortP (bk t ts ts.length).prs
theorem bk_succ (t : Str) (ts : List Tk3) (n : Nat) : bk t ts (n + 1) = bstep (fun i => decide (wAt t ts i ∈ opnL)) (fun i => decide (wAt t ts i ∈ clsL)) (fun n i => decide (cloS (wAt t ts n) = wAt t ts i)) (bk t ts n) n := by
  unfold bk
  rw [bAt]
theorem kvU_keys (l : List (Nat × Nat)) : (kvU l).map (·.1) = l.map fun p => (.inl (p.1 : Int) : Key) := by
  unfold kvU
  rw [List.map_map]
  rfl
theorem kvU_not {l : List (Nat × Nat)} {n : Nat} (h : n ∉ l.map (·.1)) : (.inl (n : Int) : Key) ∉ (kvU l).map (·.1) := by
  rw [kvU_keys]
  intro z
  obtain ⟨p, hp, e⟩ := List.mem_map.mp z
  injection e with e
  exact h (List.mem_map.mpr ⟨p, hp, by omega⟩)
theorem kvU_nodup {l : List (Nat × Nat)} (h : (l.map (·.1)).Nodup) : ((kvU l).map (·.1)).Nodup := by
  rw [kvU_keys]
  have e : (l.map fun p => (.inl (p.1 : Int) : Key)) = (l.map (·.1)).map fun n : Nat => (.inl (n : Int) : Key) := by
    rw [List.map_map]
    rfl
  rw [e]
  exact h.map _ fun a b n z => n (by injection z with z; omega)
theorem clo_get {w : Str} (h : w ∈ opnL) : valV kd_CLOSING (.inr w) = some (.str (cloS w)) := by
  unfold opnL at h
  simp only [List.mem_cons, List.not_mem_nil, or_false] at h
  rcases h with rfl | rfl | rfl <;> decide +kernel
theorem clo_in (w : Str) : (valV kd_CLOSING (.inr w)).isSome = decide (w ∈ opnL) := by
  by_cases h : w ∈ opnL
  · rw [clo_get h, decide_eq_true h]
    rfl
  · rw [decide_eq_false h]
    cases q : valV kd_CLOSING (.inr w) with
    | none => rfl
    | some v =>
      exfalso
      have nm : ∀ z ∈ opnL, ¬ z = w := fun z hz e => h (e ▸ hz)
      unfold valV at q
      rw [List.find?_eq_none.mpr (fun x hx => by
        have hx : x ∈ [((.inr "(" : Key), V.str ")"), (.inr "[", V.str "]"), (.inr "{", V.str "}")] := hx
        simp only [List.mem_cons, List.not_mem_nil, or_false] at hx
        intro hd
        rcases hx with rfl | rfl | rfl
        · exact nm "(" (by decide +kernel) (Sum.inr.inj (of_decide_eq_true hd))
        · exact nm "[" (by decide +kernel) (Sum.inr.inj (of_decide_eq_true hd))
        · exact nm "{" (by decide +kernel) (Sum.inr.inj (of_decide_eq_true hd)))] at q
      cases q
theorem cls_inV (w : Str) : inV (.str w) [.str ")", .str "]", .str "}"] = decide (w ∈ clsL) := inV_strs w clsL
theorem bk_open {t : Str} {ts : List Tk3} {i : Nat} (h : wAt t ts i ∈ opnL) : bk t ts (i + 1) = ⟨(bk t ts i).prs, (bk t ts i).fts, (bk t ts i).os ++ [i]⟩ := by
  rw [bk_succ]
  unfold bstep
  rw [if_pos (decide_eq_true h)]
theorem bk_else {t : Str} {ts : List Tk3} {i : Nat} (h : wAt t ts i ∉ opnL) (h2 : wAt t ts i ∉ clsL) : bk t ts (i + 1) = bk t ts i := by
  rw [bk_succ]
  unfold bstep
  rw [if_neg (fun z => h (of_decide_eq_true z)), if_neg (fun z => h2 (of_decide_eq_true z))]
theorem bk_pair {t : Str} {ts : List Tk3} {i n : Nat} {r : List Nat} (h : wAt t ts i ∉ opnL) (h2 : wAt t ts i ∈ clsL) (e : (bk t ts i).os = r ++ [n]) (m : cloS (wAt t ts n) = wAt t ts i) : bk t ts (i + 1) = ⟨(bk t ts i).prs ++ [(n, i)], (bk t ts i).fts, r⟩ := by
  rw [bk_succ]
  unfold bstep
  rw [if_neg (fun z => h (of_decide_eq_true z)), if_pos (decide_eq_true h2), e, List.reverse_append]
  show (if decide (cloS (wAt t ts n) = wAt t ts i) = true then Bs.mk _ _ r.reverse.reverse else _) = _
  rw [if_pos (decide_eq_true m), List.reverse_reverse]
theorem bk_bad {t : Str} {ts : List Tk3} {i : Nat} (h : wAt t ts i ∉ opnL) (h2 : wAt t ts i ∈ clsL) (m : ∀ r n, (bk t ts i).os = r ++ [n] → ¬ cloS (wAt t ts n) = wAt t ts i) : bk t ts (i + 1) = ⟨(bk t ts i).prs, (bk t ts i).fts ++ [i], (bk t ts i).os⟩ := by
  rw [bk_succ]
  unfold bstep
  rw [if_neg (fun z => h (of_decide_eq_true z)), if_pos (decide_eq_true h2)]
  cases er : (bk t ts i).os.reverse with
  | nil => rfl
  | cons n r =>
    have eo : (bk t ts i).os = r.reverse ++ [n] := by
      have := congrArg List.reverse er
      rw [List.reverse_reverse, List.reverse_cons] at this
      exact this
    show (if decide (cloS (wAt t ts n) = wAt t ts i) = true then _ else _) = _
    rw [if_neg (fun z => m _ _ eo (of_decide_eq_true z))]
theorem bk_inv (t : Str) (ts : List Tk3) (n : Nat) : BInv (bk t ts n) n := bAt_inv _ _ _ n
theorem bk_op (t : Str) (ts : List Tk3) : ∀ n, ∀ x ∈ (bk t ts n).os, wAt t ts x ∈ opnL
  | 0, x, h => absurd h (by simp [bk, bAt])
  | n + 1, x, h => by
    have ih := bk_op t ts n
    by_cases h1 : wAt t ts n ∈ opnL
    · rw [bk_open h1] at h
      rcases List.mem_append.mp h with h | h
      · exact ih x h
      · rw [List.mem_singleton.mp h]
        exact h1
    · by_cases h2 : wAt t ts n ∈ clsL
      · by_cases h3 : ∃ r m, (bk t ts n).os = r ++ [m] ∧ cloS (wAt t ts m) = wAt t ts n
        · obtain ⟨r, m, e, q⟩ := h3
          rw [bk_pair h1 h2 e q] at h
          exact ih x (by rw [e]; exact List.mem_append_left _ h)
        · rw [bk_bad h1 h2 (fun r m e q => h3 ⟨r, m, e, q⟩)] at h
          exact ih x h
      · rw [bk_else h1 h2] at h
        exact ih x h
theorem last_get (l : List V) (x : V) : (l ++ [x])[(l ++ [x]).length - 1]? = some x := by
  rw [List.length_append, List.length_singleton, Nat.add_sub_cancel, List.getElem?_append_right (Nat.le_refl _), Nat.sub_self]
  rfl
theorem snoc_or {α : Type} (l : List α) : l = [] ∨ ∃ r x, l = r ++ [x] := by
  cases e : l.reverse with
  | nil => exact .inl (List.reverse_eq_nil_iff.mp e)
  | cons x r =>
    refine .inr ⟨r.reverse, x, ?_⟩
    have := congrArg List.reverse e
    rw [List.reverse_reverse, List.reverse_cons] at this
    exact this
/-- some tokens of a text -/
structure Toks (H : Hp) (t : Str) (p : Addr) (xs : List V) (ts : List Tk3) : Prop where
  hp : H p = some (.tup xs)
  tr : TrAll H xs (ts.map (tkD t))
  le : ∀ x ∈ ts, x.2.1 < t.length
  lt : ts.length ≤ 100000
  ll : t.length ≤ 100000
theorem Toks.keep {H H' : Hp} {t : Str} {p : Addr} {xs : List V} {ts : List Tk3} (T : Toks H t p xs ts) (k : Tk H H') : Toks H' t p xs ts := ⟨k _ _ T.hp, T.tr.keep k, T.le, T.lt, T.ll⟩
theorem Toks.lx {H : Hp} {t : Str} {p : Addr} {xs : List V} {ts : List Tk3} (T : Toks H t p xs ts) : xs.length = ts.length := by
  rw [T.tr.len, List.length_map]
theorem Toks.at {H : Hp} {t : Str} {p : Addr} {xs : List V} {ts : List Tk3} (T : Toks H t p xs ts) {i : Nat} {x : V} (hx : xs[i]? = some x) : ∃ (r : Addr) (kd : Str), x = .ref r ∧ bgn ts i < t.length ∧ ts[i]? ≠ none ∧ (∃ tk, ts[i]? = some tk ∧ kd = tk.1) ∧ H r = some (.tup [.str kd, .str (wAt t ts i), .int (bgn ts i)]) := by
  obtain ⟨d, hd, td⟩ := T.tr.get hx
  rw [List.getElem?_map] at hd
  obtain ⟨tk, htk, rfl⟩ := Option.map_eq_some_iff.mp hd
  obtain ⟨r, ys, rfl, hr, ty⟩ := t_tup td
  obtain ⟨y1, y2, y3, rfl, t1, t2, t3⟩ := ta3 ty
  obtain rfl := t_str t1
  obtain rfl := t_str t2
  cases t3
  have e1 : bgn ts i = tk.2.1 := by
    unfold bgn
    rw [htk]
    rfl
  have e2 : wAt t ts i = sl t tk.2 := by
    unfold wAt
    rw [htk]
    rfl
  refine ⟨r, tk.1, rfl, by rw [e1]; exact T.le tk (List.mem_of_getElem? htk), by rw [htk]; simp, ⟨tk, htk, rfl⟩, ?_⟩
  rw [e1, e2]
  exact hr
/-- pairs and faults of tokens -/
def spPr5 : Sp := fun vs H Q _ => ∃ (t : Str) (p : Addr) (xs : List V) (ts : List Tk3), vs = [.str t, .ref p] ∧ Toks H t p xs ts ∧
  ∀ (q d e : Addr) (es : List V) (H' : Hp), Same H H' → H d = none → H' q = some (.tup [.ref d, .ref e]) → H' d = some (.dK (kvU (prsS t ts))) → H' e = some (.tup es) → TrAll H' es (fltD t ts) → Q (.ref q) H'

theorem tk_put {H H' : Hp} {p : Addr} {o : HO} (k : Tk H H') {u : HO} (h : H' p = some u) (n : ∀ xs, u ≠ .tup xs) : Tk H (upd H' p o) := fun a xs h2 => by
  have h3 := k a xs h2
  by_cases e : a = p
  · rw [e, h] at h3
    injection h3 with h3
    exact absurd h3 (n xs)
  · rw [upd_ne e]
    exact h3
/-- the loop over the tokens -/
structure Pst5 (t : Str) (ts : List Tk3) (H : Hp) (m f1 o : Addr) (S : Bs) (H' : Hp) (fs : List V) : Prop where
  sm : Same H H'
  hm : H' m = some (.dK (kvU S.prs))
  hf : H' f1 = some (.lst fs)
  tf : TrAll H' fs (S.fts.map (ftD t ts "close"))
  ho : H' o = some (.lst (S.os.map fun (n : Nat) => V.int n))
theorem Pst5.new {t : Str} {ts : List Tk3} {H H' : Hp} {m f1 o : Addr} {S : Bs} {fs : List V} (P : Pst5 t ts H m f1 o S H' fs) {q : Addr} {x : HO} (h : H' q = none) : Pst5 t ts H m f1 o S (upd H' q x) fs :=
  ⟨P.sm.trans (same_new h), upd_some P.hm h, upd_some P.hf h, P.tf.new h, upd_some P.ho h⟩
theorem ft_new {t : Str} {ts : List Tk3} {w : Str} {n : Nat} {H : Hp} {q p : Addr} (hq : H q = some (.tup [.int (lineN t.cps.toList (bgn ts n)), .int (colN t.cps.toList (bgn ts n))])) (hp : H p = none) :
    Tr (upd H p (.tup [.ref q, .str w])) (.ref p) (ftD t ts w n) :=
  .tup upd_same (.cons (.tup (upd_some hq hp) (.cons (.int _) (.cons (.int _) .nil))) (.cons (.str _) .nil))
theorem alike_fts (t : Str) (ts : List Tk3) (l : List PyData) (h : ∀ d ∈ l, ∃ w n, d = ftD t ts w n) : PySem.W.AllAlike l ∧ PySem.W.Sortable l ∧ ∀ d ∈ l, d.depth ≤ 60 := by
  refine ⟨fun d hd d' hd' => ?_, .inl fun d hd => ?_, fun d hd => ?_⟩
  · obtain ⟨w, n, rfl⟩ := h d hd
    obtain ⟨w', n', rfl⟩ := h d' hd'
    simp [ftD, PySem.W.alike, PySem.W.alikeAll]
  · obtain ⟨w, n, rfl⟩ := h d hd
    exact ⟨_, _, rfl⟩
  · obtain ⟨w, n, rfl⟩ := h d hd
    exact Nat.le_trans (show max (max 0 (max 0 0) + 1) (max 0 0) + 1 ≤ 2 by decide) (by decide)
theorem trAll_paired {H : Hp} : ∀ {xs : List V} {ds : List PyData}, TrAll H xs ds → Paired (Tr H) xs ds
  | _, _, .nil => .nil
  | _, _, .cons a b => .cons a (trAll_paired b)
theorem paired_trAll {H : Hp} : ∀ {xs : List V} {ds : List PyData}, Paired (Tr H) xs ds → TrAll H xs ds
  | _, _, .nil => .nil
  | _, _, .cons a b => .cons a (paired_trAll b)
theorem none_of {H H' : Hp} {a : Addr} (s : Same H H') (h : H' a = none) : H a = none := by
  cases q : H a with
  | none => rfl
  | some u => rw [s _ _ q] at h; cases h
theorem c_p_paired (T : Txt K mg w) (c_p_place_of : Cal P w K mg base 1 "place_of" spPlc []) : Cal P w K mg base 2 "paired" spPr5 [] := by
  obtain ⟨a_CLOSING, m_CLOSING, k_CLOSING⟩ := T.k_CLOSING
  refine calOf T.d_p_paired sc_p_paired (fun vs H Q E h => ?_) (fun f cdv A outer s H vs Q E hr h => ?_)
  · obtain ⟨t, p, xs, ts, rfl, _⟩ := h
    rfl
  · obtain ⟨t, p, xs, ts, rfl, TK, k⟩ := h
    have hu := hu_of hr
    have lz : ∀ {n : Nat}, n ≤ 100000 → n < sizeLine := fun h => Nat.lt_of_le_of_lt h (by decide)
    refine ⟨_,
      (pss_cons (ps_set (i := 2) sc_p_paired.nd rfl (Or.inr rfl) pe_dnewK)
        (pss_cons (ps_set (i := 3) sc_p_paired.nd rfl (Or.inl rfl) (pe_lst pa_nil))
        (pss_cons (ps_set (i := 4) sc_p_paired.nd rfl (Or.inl rfl) (pe_lst pa_nil))
        (pss_cons (ps_for PassesOwn.never rfl (pi_enumT (by rfl) T.n_enumerate (pa_cons (pv 1) pa_nil)) (pg_tup rfl (pgs_cons (pg_name (i := 5) sc_p_paired.nd rfl (Or.inl rfl)) (pgs_cons (pg_name (i := 6) sc_p_paired.nd rfl (Or.inl rfl)) pgs_nil)))
        (pss_cons (ps_set (i := 7) sc_p_paired.nd rfl (Or.inl rfl) (pe_ix ix_tup (pv 6) pe_int (fun _ _ => rfl)))
        (pss_one (ps_if (pt_cmpR op_in_kdw (pv 7) (pe_gc (v := V.ref a_CLOSING) rfl ⟨_, m_CLOSING, rfl⟩) (by rfl))
        (pss_one (ps_expr (pe_bm PySem.F.plainAttrs_list PySem.F.slot_list_append PySem.F.type_list_append mt_append (pv 4) (pa_cons (pv 5) pa_nil))))
        (pss_one (ps_if (pt_cmpR op_in_seq (pv 7) (pe_tup (pa_cons pe_str (pa_cons pe_str (pa_cons pe_str pa_nil)))) (by rfl))
        (pss_one (ps_if (PW.pt (pw_and (pt_truth (pv 4) (by intro _; rfl)) (pw_and1 (pt_cmpR op_eq (pe_ix ix_kd (pe_gc (v := V.ref a_CLOSING) rfl ⟨_, m_CLOSING, rfl⟩) (pe_ix ix_tup (pe_ix ix_tup (pv 1) (pe_ix ix_list (pv 4) (pe_un un_neg pe_int) (fun _ _ => rfl)) (fun _ _ => rfl)) pe_int (fun _ _ => rfl)) (fun _ _ => rfl)) (pv 7) (nomark _)))))
        (pss_one (ps_dput hu (pv 2) (pe_bm0 PySem.F.plainAttrs_list PySem.F.slot_list_pop PySem.F.type_list_pop mt_pop (pv 4)) (pv 5) rfl))
        (pss_one (ps_expr (pe_bm PySem.F.plainAttrs_list PySem.F.slot_list_append PySem.F.type_list_append mt_append (pv 3) (pa_cons (pe_tup (pa_cons (pe_c c_p_place_of hr (by first | decide | omega) rfl (pa_cons (pv 0) (pa_cons (pe_ix ix_tup (pv 6) pe_int (fun _ _ => rfl)) pa_nil))) (pa_cons pe_str pa_nil))) pa_nil))))))
        pss_nil))))))
        (pss_cons (ps_for PassesOwn.never rfl (pi_list (pv 4)) (pg_name (i := 5) sc_p_paired.nd rfl (Or.inl rfl))
        (pss_one (ps_expr (pe_bm PySem.F.plainAttrs_list PySem.F.slot_list_append PySem.F.type_list_append mt_append (pv 3) (pa_cons (pe_tup (pa_cons (pe_c c_p_place_of hr (by first | decide | omega) rfl (pa_cons (pv 0) (pa_cons (pe_ix ix_tup (pe_ix ix_tup (pv 1) (pv 5) (fun _ _ => rfl)) pe_int (fun _ _ => rfl)) pa_nil))) (pa_cons pe_str pa_nil))) pa_nil)))))
        (pss_one (ps_ret (pe_tup (pa_cons (pe_dc (own := [("at", 5)]) (g := gName 5) (tt := tYes) rfl sc_p_paired.nd (pi_list (pe_callB (call_sortedDA rfl) (by rfl) T.n_sorted (by decide +kernel) (pa_cons (pv 2) pa_nil))) (blkOk_by (N := ["text", "tokens", "mates", "faults", "still_open", "at", "token", "word"]) (sc := defScope s_p_paired) (by decide +kernel)) (fun _ _ _ _ _ => pg_name (i := 5) sc_p_paired.nd rfl (Or.inl rfl)) (fun _ _ _ _ _ => pts_nil) (fun _ _ _ _ _ => (pv 5)) (fun _ _ _ _ _ => (pe_dget hu (pv 2) (pv 5) (fun _ _ => rfl)))) (pa_cons (pe_callTy call_tuple_of (by rfl) T.n_tuple (by decide +kernel) (pa_cons (pe_callB (call_sortedX (u70 hr)) (by rfl) T.n_sorted (by decide +kernel) (pa_cons (pv 3) pa_nil)) pa_nil)) pa_nil))))))))))
      , ?_⟩
    have lx := TK.lx
    have ltt := TK.lt
    have llt := TK.ll
    intro m hm
    refine ⟨by decide, fun f1 hf => ⟨by decide, fun o ho => ?_⟩⟩
    have S1 := same_new (o := .dK []) hm
    have fH : H f1 = none := none_of S1 hf
    have S2 := same_put (o := .lst []) S1 fH
    have oH : H o = none := none_of S2 ho
    have S3 := same_put (o := .lst []) S2 oH
    have fm : m ≠ f1 := fun z => by rw [← z, upd_same] at hf; cases hf
    have mo : m ≠ o := fun z => by rw [← z, upd_ne fm, upd_same] at ho; cases ho
    have fo : f1 ≠ o := fun z => by rw [← z, upd_same] at ho; cases ho
    have H3m : (upd (upd (upd H m (.dK [])) f1 (.lst [])) o (.lst [])) m = some (.dK []) := by rw [upd_ne mo, upd_ne fm, upd_same]
    have H3f : (upd (upd (upd H m (.dK [])) f1 (.lst [])) o (.lst [])) f1 = some (.lst []) := by rw [upd_ne fo, upd_same]
    have H3o : (upd (upd (upd H m (.dK [])) f1 (.lst [])) o (.lst [])) o = some (.lst []) := upd_same
    generalize upd (upd (upd H m (.dK [])) f1 (.lst [])) o (.lst []) = H3 at S3 H3m H3f H3o ⊢
    refine ⟨_, rfl, p, xs, rfl, SqT.of (S3 _ _ TK.hp), for_it walk_enumT (fun i σ H' => ∃ (fs : List V) (v5 v6 v7 : Option V), σ = [some (.str t), some (.ref p), some (.ref m), some (.ref f1), some (.ref o), v5, v6, v7] ∧ Pst5 t ts H m f1 o (bk t ts i) H' fs)
      ⟨[], none, none, none, rfl, S3, H3m, H3f, .nil, H3o⟩ (fun i σ' H' _ ⟨_, _, _, _, _, P⟩ => SqT.of (P.sm _ _ TK.hp)) ?_ ?_⟩
    · rintro i x σ' H4 H5 hi ⟨fs, v5, v6, v7, rfl, P4⟩ ⟨T1, x1, x2, rfl, hT, rfl, hx1, hx2⟩
      cases hx1
      have hi : i < ts.length := by omega
      have bi := bk_inv t ts i
      obtain ⟨r, kd, rfl, hb, _, _, hr4⟩ := (TK.keep (Tk.of P4.sm)).at hx2
      have hr5 := upd_some (u := .tup [.int (i : Nat), .ref r]) hr4 hT
      have P5 := P4.new (x := .tup [.int (i : Nat), .ref r]) hT
      have hT5 : (upd H4 T1 (.tup [.int (i : Nat), .ref r])) T1 = some (.tup [.int (i : Nat), .ref r]) := upd_same
      generalize upd H4 T1 _ = H5 at P5 hT5 hr5 ⊢
      have lf := P5.tf.len
      rw [List.length_map] at lf
      have l2 := bi.l2
      refine ⟨T1, _, rfl, SqT.of hT5, rfl, _, _, rfl, _, _, rfl, rfl, ?_⟩
      refine ⟨_, rfl, r, _, _, _, rfl, rfl, SqT.of hr5, atI_nat (j := 1) rfl, ?_⟩
      refine ⟨_, rfl, a_CLOSING, kd_CLOSING, .inr (wAt t ts i), rfl, rfl, k_CLOSING, _, rfl, ite2 (fun h1 => ?_) (fun h1 => ?_)⟩
      · rw [clo_in] at h1
        have h1 := of_decide_eq_true h1
        refine ⟨_, rfl, .inl ⟨rfl, _, SqL.of P5.ho⟩, _, rfl, o, _, _, rfl, rfl, P5.ho, lz (by rw [List.length_map]; omega), ?_⟩
        refine ⟨fs, _, _, _, rfl, ?_⟩
        rw [bk_open h1]
        exact ⟨same_put P5.sm oH, by rw [upd_ne mo]; exact P5.hm, by rw [upd_ne fo]; exact P5.hf, P5.tf.keep (tk_put (Tk.refl _) P5.ho fun _ z => by cases z), by rw [upd_same, List.map_append] <;> rfl⟩
      · rw [clo_in] at h1
        have h1 : wAt t ts i ∉ opnL := fun z => h1 (decide_eq_true z)
        refine ⟨_, rfl, by show 3 ≤ sizeLine; decide, fun q hq => ⟨q, _, rfl, .inr (SqT.of upd_same), rfl, rfl, _, rfl, ?_⟩⟩
        have P6 := P5.new (x := .tup [.str ")", .str "]", .str "}"]) hq
        have hr6 := upd_some (u := .tup [.str ")", .str "]", .str "}"]) hr5 hq
        generalize upd H5 q _ = H6 at P6 hr6 ⊢
        refine ite2 (fun h2 => ?_) (fun h2 => ?_)
        · have h2 : wAt t ts i ∈ clsL := of_decide_eq_true ((cls_inV _).symm.trans h2)
          have bad : (∀ r n, (bk t ts i).os = r ++ [n] → ¬ cloS (wAt t ts n) = wAt t ts i) → ∀ (v5 v6 v7 : Option V) (R : L2.St → Hp → Prop),
              (∀ (H' : Hp) (fs' : List V), Pst5 t ts H m f1 o (bk t ts (i + 1)) H' fs' → R [some (.str t), some (.ref p), some (.ref m), some (.ref f1), some (.ref o), v5, v6, v7] H') → True := fun _ _ _ _ _ _ => trivial
          have ho6 := P6.ho
          rcases snoc_or (bk t ts i).os with e | ⟨os', n, e⟩
          · rw [e] at ho6
            refine ⟨_, rfl, _, .inl ⟨_, SqL.of ho6, rfl⟩, ?_⟩
            refine ite2 (fun z => absurd z (by decide)) (fun _ => ?_)
            refine iteF ⟨_, rfl, .inl ⟨rfl, _, SqL.of P6.hf⟩, _, rfl, _, rfl, r, _, _, _, rfl, rfl, SqT.of hr6, atI_nat (j := 2) rfl, t, bgn ts i, rfl, Nat.le_of_lt hb, fun p2 hp2 => ?_⟩
            refine ⟨by show 2 ≤ sizeLine; decide, fun p3 hp3 => ⟨f1, _, _, rfl, rfl, upd_some (upd_some P6.hf hp2) hp3, lz (by omega), ?_⟩⟩
            refine ⟨fs ++ [.ref p3], _, _, _, rfl, ?_⟩
            have P8 := (P6.new (x := .tup [.int (lineN t.cps.toList (bgn ts i)), .int (colN t.cps.toList (bgn ts i))]) hp2).new (x := .tup [.ref p2, .str "close"]) hp3
            have t8 := ft_new (t := t) (ts := ts) (w := "close") (n := i) upd_same hp3
            rw [bk_bad h1 h2 (fun r n e' => by rw [e] at e'; exact absurd e'.symm (by simp))]
            exact ⟨same_put P8.sm fH, by rw [upd_ne fm]; exact P8.hm, upd_same, by
              rw [List.map_append]
              exact (P8.tf.app (.one t8)).keep (tk_put (Tk.refl _) P8.hf fun _ z => by cases z), by rw [upd_ne (Ne.symm fo)]; exact P8.ho⟩
          · rw [e, List.map_append] at ho6
            have hnm : n ∈ (bk t ts i).os := by rw [e]; simp
            have hn := bi.osl n hnm
            have hop := bk_op t ts i n hnm
            obtain ⟨y, hy⟩ : ∃ y, xs[n]? = some y := ⟨xs[n], List.getElem?_eq_getElem (by omega)⟩
            obtain ⟨r2, kd2, rfl, _, _, _, hr2⟩ := (TK.keep (Tk.of P6.sm)).at hy
            refine ⟨_, rfl, _, .inl ⟨_, SqL.of ho6, rfl⟩, ?_⟩
            refine ite2 (fun _ => ?_) (fun z => absurd (by simp) z)
            refine ⟨_, rfl, _, rfl, _, rfl, o, _, _, _, rfl, rfl, SqL.of ho6, atI_last _ _, p, _, _, _, rfl, rfl, SqT.of (P6.sm _ _ TK.hp), atI_nat hy, r2, _, _, _, rfl, rfl, SqT.of hr2, atI_nat (j := 1) rfl, a_CLOSING, kd_CLOSING, .inr (wAt t ts n), _, rfl, rfl, k_CLOSING, clo_get hop, _, rfl, rfl, _, rfl, ?_⟩
            refine ite2 (fun h3 => ?_) (fun h3 => ?_)
            · have h3 := V.str.inj (of_decide_eq_true h3)
              have bi1 := bk_inv t ts (i + 1)
              refine ⟨_, rfl, _, rfl, _, rfl, .inl ⟨rfl, _, SqL.of ho6⟩, o, _, _, rfl, rfl, ho6, last_get _ _, m, _, rfl, DPut.k (k := .inl (n : Int)) (by rw [upd_ne mo]; exact P6.hm) (lz (by show (kvU (bk t ts i).prs).length ≤ _; unfold kvU; rw [List.length_map]; have := bi.l1; omega)), ?_⟩
              refine ⟨fs, _, _, _, rfl, ?_⟩
              rw [bk_pair h1 h2 e h3]
              refine ⟨same_put (same_put P6.sm oH) hm, ?_, by rw [upd_ne (Ne.symm fm), upd_ne fo]; exact P6.hf, ?_, ?_⟩
              · rw [upd_same, putK_new _ (kvU_not (bi.df n hnm))]
                show _ = some (HO.dK (((bk t ts i).prs ++ [(n, i)]).map fun p => _))
                rw [List.map_append]
                rfl
              · refine P6.tf.keep (tk_put (tk_put (Tk.refl _) P6.ho fun _ z => by cases z) (by rw [upd_ne mo]; exact P6.hm) fun _ z => by cases z)
              · rw [upd_ne (Ne.symm mo), upd_same]
                have : (os'.map (fun n : Nat => V.int n) ++ [n].map (fun n : Nat => V.int n)).dropLast = os'.map (fun n : Nat => V.int n) := List.dropLast_concat
                rw [this]
            · have h3 : ¬ cloS (wAt t ts n) = wAt t ts i := fun z => h3 (decide_eq_true (congrArg V.str z))
              refine ⟨_, rfl, .inl ⟨rfl, _, SqL.of P6.hf⟩, _, rfl, _, rfl, r, _, _, _, rfl, rfl, SqT.of hr6, atI_nat (j := 2) rfl, t, bgn ts i, rfl, Nat.le_of_lt hb, fun p2 hp2 => ?_⟩
              refine ⟨by show 2 ≤ sizeLine; decide, fun p3 hp3 => ⟨f1, _, _, rfl, rfl, upd_some (upd_some P6.hf hp2) hp3, lz (by omega), ?_⟩⟩
              refine ⟨fs ++ [.ref p3], _, _, _, rfl, ?_⟩
              have P8 := (P6.new (x := .tup [.int (lineN t.cps.toList (bgn ts i)), .int (colN t.cps.toList (bgn ts i))]) hp2).new (x := .tup [.ref p2, .str "close"]) hp3
              have t8 := ft_new (t := t) (ts := ts) (w := "close") (n := i) upd_same hp3
              rw [bk_bad h1 h2 (fun r n' e' => by
                rw [e] at e'
                obtain ⟨_, e''⟩ := List.append_inj' e' rfl
                injection e'' with e''
                rw [← e'']
                exact h3)]
              exact ⟨same_put P8.sm fH, by rw [upd_ne fm]; exact P8.hm, upd_same, by
                rw [List.map_append]
                exact (P8.tf.app (.one t8)).keep (tk_put (Tk.refl _) P8.hf fun _ z => by cases z), by rw [upd_ne (Ne.symm fo)]; exact P8.ho⟩
        · have h2 : wAt t ts i ∉ clsL := fun z => h2 ((cls_inV _).trans (decide_eq_true z))
          refine ⟨fs, _, _, _, rfl, ?_⟩
          rw [bk_else h1 h2]
          exact P6
    · rintro σ' H' ⟨fs, v5, v6, v7, rfl, P5⟩
      rw [lx] at P5
      have bi := bk_inv t ts ts.length
      generalize eS : bk t ts ts.length = S at P5 bi
      have l2 := bi.l2
      refine ⟨_, rfl, o, rfl, ⟨_, SqL.of P5.ho⟩, for_list (K := K) (a := o) (xs := S.os.map fun (n : Nat) => V.int n) (fun i σ H2 => ∃ (fs2 : List V) (v5 v6 v7 : Option V), σ = [some (.str t), some (.ref p), some (.ref m), some (.ref f1), some (.ref o), v5, v6, v7] ∧ Same H H2 ∧ H2 m = some (.dK (kvU S.prs)) ∧ H2 f1 = some (.lst fs2) ∧ TrAll H2 fs2 (S.fts.map (ftD t ts "close") ++ (S.os.take i).map (ftD t ts "open")) ∧ H2 o = some (.lst (S.os.map fun (n : Nat) => V.int n)))
        ⟨fs, v5, v6, v7, rfl, P5.sm, P5.hm, P5.hf, by rw [List.take_zero, List.map_nil, List.append_nil]; exact P5.tf, P5.ho⟩ (fun i σ' H2 _ ⟨_, _, _, _, _, _, _, _, _, h⟩ => SqL.of h) ?_ ?_⟩
      · rintro i x σ2 H2 hi ⟨fs2, v5, v6, v7, rfl, s2, m2, f2, t2, o2⟩
        rw [List.getElem?_map] at hi
        obtain ⟨n, hn, rfl⟩ := Option.map_eq_some_iff.mp hi
        have hlo := (List.getElem?_eq_some_iff.mp hn).1
        have hnt := bi.osl n (List.mem_of_getElem? hn)
        obtain ⟨y, hy⟩ : ∃ y, xs[n]? = some y := ⟨xs[n], List.getElem?_eq_getElem (by omega)⟩
        obtain ⟨r2, kd2, rfl, hb, _, _, hr2⟩ := (TK.keep (Tk.of s2)).at hy
        have lf := t2.len
        rw [List.length_append, List.length_map, List.length_map, List.length_take] at lf
        refine ⟨_, rfl, .inl ⟨rfl, _, SqL.of f2⟩, _, rfl, _, rfl, _, rfl, p, _, _, _, rfl, rfl, SqT.of (s2 _ _ TK.hp), atI_nat hy, r2, _, _, _, rfl, rfl, SqT.of hr2, atI_nat (j := 2) rfl, t, bgn ts n, rfl, Nat.le_of_lt hb, fun p2 hp2 => ?_⟩
        refine ⟨by show 2 ≤ sizeLine; decide, fun p3 hp3 => ⟨f1, _, _, rfl, rfl, upd_some (upd_some f2 hp2) hp3, lz (by omega), ?_⟩⟩
        have t8 := ft_new (t := t) (ts := ts) (w := "open") (n := n) upd_same hp3
        refine ⟨fs2 ++ [.ref p3], _, _, _, rfl, same_put (s2.trans ((same_new hp2).trans (same_new hp3))) fH, by rw [upd_ne fm]; exact upd_some (upd_some m2 hp2) hp3, upd_same, ?_, by rw [upd_ne (Ne.symm fo)]; exact upd_some (upd_some o2 hp2) hp3⟩
        rw [List.take_add_one, hn, List.map_append, ← List.append_assoc]
        exact (((t2.new hp2).new hp3).app (.one t8)).keep (tk_put (Tk.refl _) (upd_some (upd_some f2 hp2) hp3) fun _ z => by cases z)
      rintro σ2 H2 ⟨fs2, v5, v6, v7, rfl, s2, m2, f2, t2, o2⟩
      rw [List.length_map, List.take_length] at t2
      have eq2 : fltD t ts = srtD (S.fts.map (ftD t ts "close") ++ S.os.map (ftD t ts "open")) := by
        unfold fltD
        rw [eS]
      have ep : prsS t ts = sortP S.prs := by
        unfold prsS
        rw [eS]
      rw [eq2, ep] at k
      refine ⟨_, rfl, m, kvU S.prs, S.prs.map (fun p => (p.1 : Int)), rfl, .inl m2, by rw [kvU_keys, List.map_map] <;> rfl, fun ys q perm srt hq => ⟨q, rfl, ⟨_, SqL.of upd_same⟩, fun D hD => ?_⟩⟩
      have ey := sorted_keys perm srt
      have sp := sortP_perm S.prs
      have Sq := s2.trans (same_new (o := .lst (ys.map V.int)) hq)
      have qm : (upd H2 q (.lst (ys.map V.int))) m = some (.dK (kvU S.prs)) := upd_some m2 hq
      have qf : (upd H2 q (.lst (ys.map V.int))) f1 = some (.lst fs2) := upd_some f2 hq
      have qt := t2.new (o := .lst (ys.map V.int)) hq
      have qq : (upd H2 q (.lst (ys.map V.int))) q = some (.lst (ys.map V.int)) := upd_same
      have hdm : D ≠ m := fun z => by rw [z, qm] at hD; cases hD
      have hdf : D ≠ f1 := fun z => by rw [z, qf] at hD; cases hD
      have hdq : D ≠ q := fun z => by rw [z, qq] at hD; cases hD
      have DH := none_of Sq hD
      generalize upd H2 q _ = H3 at Sq qm qf qq qt hD ⊢
      have lys : ys.length = (sortP S.prs).length := by rw [ey, List.length_map]
      have lsp : (sortP S.prs).length ≤ 100000 := by
        rw [sp.length_eq]
        have := bi.l1
        omega
      have nds : ((sortP S.prs).map (·.1)).Nodup := (sp.map _).nodup_iff.mpr bi.kn
      refine dc_itv (walk_list (K := K) (a := q) (xs := ys.map V.int)) (fun i H' => Same H H' ∧ H' m = some (.dK (kvU S.prs)) ∧ H' f1 = some (.lst fs2) ∧ TrAll H' fs2 (S.fts.map (ftD t ts "close") ++ S.os.map (ftD t ts "open")) ∧ H' q = some (.lst (ys.map V.int)) ∧ H' D = some (.dK (kvU ((sortP S.prs).take i))))
        ⟨same_put Sq DH, by rw [upd_ne (Ne.symm hdm)]; exact qm, by rw [upd_ne (Ne.symm hdf)]; exact qf, qt.new hD, by rw [upd_ne (Ne.symm hdq)]; exact qq, upd_same⟩ (fun i H' _ ⟨_, _, _, _, h, _⟩ => SqL.of h) ?_ ?_
      · rintro i x H4 H' hi ⟨s4, m4, f4, t4, q4, d4⟩ ⟨rfl, hx⟩
        rw [List.getElem?_map] at hx
        obtain ⟨nI, hn, rfl⟩ := Option.map_eq_some_iff.mp hx
        rw [ey, List.getElem?_map] at hn
        obtain ⟨pr, hpr, rfl⟩ := Option.map_eq_some_iff.mp hn
        have hmem : pr ∈ S.prs := sp.mem_iff.mp (List.mem_of_getElem? hpr)
        have hv : valV (kvU S.prs) (.inl (pr.1 : Int)) = some (.int (pr.2 : Int)) := valV_mem (kvU_nodup bi.kn) (List.mem_map.mpr ⟨pr, hmem, rfl⟩)
        rw [List.length_map] at hi
        refine ⟨rfl, _, rfl, _, rfl, _, rfl, m, .int (pr.2 : Int), rfl, by rw [← hv]; exact DGet.k (k := .inl (pr.1 : Int)) m4, _, .inl (pr.1 : Int), rfl, d4, lz (by show (kvU _).length ≤ _; unfold kvU; rw [List.length_map, List.length_take]; omega), ?_⟩
        refine ⟨same_put s4 DH, by rw [upd_ne (Ne.symm hdm)]; exact m4, by rw [upd_ne (Ne.symm hdf)]; exact f4, t4.keep (tk_put (Tk.refl _) d4 fun _ z => by cases z), by rw [upd_ne (Ne.symm hdq)]; exact q4, ?_⟩
        rw [upd_same, putK_new _ (kvU_not ?_), List.take_add_one, hpr]
        · show _ = some (HO.dK (((sortP S.prs).take i ++ [pr]).map fun p => _))
          rw [List.map_append]
          rfl
        · intro z
          have h1 : (sortP S.prs) = (sortP S.prs).take i ++ pr :: (sortP S.prs).drop (i + 1) := by
            rw [← drop_at hpr, List.take_append_drop]
          rw [h1, List.map_append, List.nodup_append] at nds
          exact nds.2.2 pr.1 z pr.1 (by simp) rfl
      · rintro H4 ⟨s4, m4, f4, t4, q4, d4⟩
        rw [List.length_map, lys, List.take_length] at d4
        obtain ⟨al, so, de⟩ := alike_fts t ts (S.fts.map (ftD t ts "close") ++ S.os.map (ftD t ts "open")) fun d hd => by
          rcases List.mem_append.mp hd with h | h
          · obtain ⟨n, _, rfl⟩ := List.mem_map.mp h
            exact ⟨_, n, rfl⟩
          · obtain ⟨n, _, rfl⟩ := List.mem_map.mp h
            exact ⟨_, n, rfl⟩
        refine ⟨_, rfl, f1, fs2, _, Tr H4, rfl, SqL.of f4, trAll_paired t4, fun x d h => Vf.Dp.dx h.dp, al, so, de, fun zs p6 pz h6 => ?_⟩
        have tz := paired_trAll pz
        refine ⟨p6, zs, rfl, .inl ⟨SqL.of upd_same, fun e he => ⟨by show 2 ≤ sizeLine; decide, fun q7 h7 => ?_⟩⟩⟩
        refine k q7 D e zs _ (((s4.trans (same_new h6)).trans (same_new he)).trans (same_new h7)) DH upd_same (upd_some (upd_some (upd_some d4 h6) he) h7) (upd_some upd_same h7) (((tz.new h6).new he).new h7)

/-! ### how deep each word stands: the program's -/
theorem kvU_in (l : List (Nat × Nat)) (n : Nat) : (valV (kvU l) (.inl (n : Int))).isSome = decide (n ∈ l.map (·.1)) := by
  by_cases h : n ∈ l.map (·.1)
  · rw [decide_eq_true h]
    refine (valV_some _ _).mpr ?_
    rw [kvU_keys]
    obtain ⟨p, hp, rfl⟩ := List.mem_map.mp h
    exact List.mem_map.mpr ⟨p, hp, rfl⟩
  · rw [decide_eq_false h]
    cases q : (valV (kvU l) (.inl (n : Int))).isSome with
    | false => rfl
    | true => exact absurd ((valV_some _ _).mp q) (kvU_not h)
def kvE (l : List (Nat × Nat)) : List (Key × V) := l.map fun p => (.inl (p.2 : Int), .bl true)
theorem kvE_keys (l : List (Nat × Nat)) : (kvE l).map (·.1) = l.map fun p => (.inl (p.2 : Int) : Key) := by
  unfold kvE
  rw [List.map_map]
  rfl
theorem kvE_not {l : List (Nat × Nat)} {n : Nat} (h : n ∉ l.map (·.2)) : (.inl (n : Int) : Key) ∉ (kvE l).map (·.1) := by
  rw [kvE_keys]
  intro z
  obtain ⟨p, hp, e⟩ := List.mem_map.mp z
  injection e with e
  exact h (List.mem_map.mpr ⟨p, hp, by omega⟩)
theorem kvE_in (l : List (Nat × Nat)) (n : Nat) : (valV (kvE l) (.inl (n : Int))).isSome = decide (n ∈ l.map (·.2)) := by
  by_cases h : n ∈ l.map (·.2)
  · rw [decide_eq_true h]
    refine (valV_some _ _).mpr ?_
    rw [kvE_keys]
    obtain ⟨p, hp, rfl⟩ := List.mem_map.mp h
    exact List.mem_map.mpr ⟨p, hp, rfl⟩
  · rw [decide_eq_false h]
    cases q : (valV (kvE l) (.inl (n : Int))).isSome with
    | false => rfl
    | true => exact absurd ((valV_some _ _).mp q) (kvE_not h)
def dpt (t : Str) (ts : List Tk3) (i : Nat) : Nat := cnt (dIn i) (prsS t ts)
structure PrsOk (l : List (Nat × Nat)) (n : Nat) : Prop where
  kn : (l.map (·.1)).Nodup
  vn : (l.map (·.2)).Nodup
  lt : ∀ p ∈ l, p.1 < p.2 ∧ p.2 < n
  le : l.length ≤ n
theorem prs_ok (t : Str) (ts : List Tk3) : PrsOk (prsS t ts) ts.length := by
  have bi := bk_inv t ts ts.length
  have sp := sortP_perm (bk t ts ts.length).prs
  exact ⟨(sp.map _).nodup_iff.mpr bi.kn, (sp.map _).nodup_iff.mpr bi.vn, fun p hp => bi.lt p (sp.mem_iff.mp hp), by rw [prsS, sp.length_eq]; exact bi.l1⟩
def spDeep : Sp := fun vs H Q _ => ∃ (t : Str) (p : Addr) (xs : List V) (ts : List Tk3), vs = [.str t, .ref p] ∧ Toks H t p xs ts ∧
  ∀ (q : Addr) (H' : Hp), Same H H' → H' q = some (.tup ((List.range ts.length).map fun i => V.int (dpt t ts i))) → Q (.ref q) H'
theorem c_p_deep_at (T : Txt K mg w) (c_p_paired : Cal P w K mg base 2 "paired" spPr5 []) : Cal P w K mg base 3 "deep_at" spDeep [] := by
  refine calOf T.d_p_deep_at sc_p_deep_at (fun vs H Q E h => ?_) (fun f cdv A outer s H vs Q E hr h => ?_)
  · obtain ⟨t, p, xs, ts, rfl, _⟩ := h
    rfl
  · obtain ⟨t, p, xs, ts, rfl, TK, k⟩ := h
    have hu := hu_of hr
    have lz : ∀ {n : Nat}, n ≤ 100000 → n < sizeLine := fun h => Nat.lt_of_le_of_lt h (by decide)
    refine ⟨_,
      (pss_cons (ps_set (i := 2) sc_p_deep_at.nd rfl (Or.inr rfl) (pe_ix ix_tup (pe_c c_p_paired hr (by first | decide | omega) rfl (pa_cons (pv 0) (pa_cons (pv 1) pa_nil))) pe_int (fun _ _ => rfl)))
        (pss_cons (ps_lock (ps_setDc (j := 4) (ow := [("at", 3)]) (g := gName 3) (tt := tYes) rfl sc_p_deep_at.nd rfl rfl (swd_true rfl rfl rfl (by decide +kernel)) (pi_keys (pv 2)) (blkOk_by (N := ["text", "tokens", "pairs", "at", "ends", "deep", "found"]) (sc := defScope s_p_deep_at) (by decide +kernel)) (fun _ _ _ _ _ => pg_name (i := 3) sc_p_deep_at.nd rfl (Or.inl rfl)) (fun _ _ _ _ _ => pts_nil) (fun _ _ _ _ _ => (pe_dget hu (pv 2) (pv 3) (fun _ _ => rfl))) (fun _ _ _ _ _ => pe_bl)))
        (pss_cons (ps_set (i := 5) sc_p_deep_at.nd rfl (Or.inl rfl) pe_int)
        (pss_cons (ps_set (i := 6) sc_p_deep_at.nd rfl (Or.inl rfl) (pe_lst pa_nil))
        (pss_cons (ps_for PassesOwn.never rfl (pi_range1 (by rfl) T.n_range (pa_cons (pe_callB call_len (by rfl) T.n_len PySem.boot_len (pa_cons (pv 1) pa_nil)) pa_nil)) (pg_name (i := 3) sc_p_deep_at.nd rfl (Or.inl rfl))
        (Evl.pss_cut (ps_if (pt_cmpR (op_inDict (u1 hr)) (pv 3) (pv 2) (by rfl))
        (pss_one (ps_aug (i := 5) sc_p_deep_at.nd rfl (Or.inl rfl) pe_int ip_add))
        pss_nil)
        (pss_cons (ps_expr (pe_bm PySem.F.plainAttrs_list PySem.F.slot_list_append PySem.F.type_list_append mt_append (pv 6) (pa_cons (pv 5) pa_nil)))
        (pss_one (ps_if (pt_cmpR (op_inDict (u1 hr)) (pv 3) (pv 4) (by rfl))
        (pss_one (ps_aug (i := 5) sc_p_deep_at.nd rfl (Or.inl rfl) pe_int ip_sub))
        pss_nil)))))
        (pss_one (ps_ret (pe_callTy call_tuple_of (by rfl) T.n_tuple (by decide +kernel) (pa_cons (pv 6) pa_nil)))))))))
      , ?_⟩
    have lx := TK.lx
    have ltt := TK.lt
    refine ⟨_, rfl, _, rfl, t, p, xs, ts, rfl, TK, fun q d e es H1 s1 hd q1 d1 _ _ => ?_⟩
    refine ⟨q, _, _, _, rfl, rfl, SqT.of q1, atI_nat (j := 0) rfl, ?_⟩
    have PO := prs_ok t ts
    unfold dpt at k
    generalize prsS t ts = qs at d1 PO k
    have lq := PO.le
    refine ⟨d, _, d1, trivial, fun od => ?_⟩
    refine ⟨_, rfl, d, od, rfl, .inl ⟨kvU qs, upd_same, fun D hD => ?_⟩⟩
    have hDd : D ≠ d := fun z => by rw [z, upd_same] at hD; cases hD
    have hD1 : H1 D = none := by rw [upd_ne hDd] at hD; exact hD
    have DH := none_of s1 hD1
    refine dc_itv (walk_keys (d := d) (o := od) (kvs := kvU qs)) (fun i H' => Same H H' ∧ H' d = some (.frz od (.dK (kvU qs))) ∧ H' D = some (.dK (kvE (qs.take i))))
      ⟨same_put (same_put s1 hd) DH, by rw [upd_ne (Ne.symm hDd), upd_same], upd_same⟩ (fun i H' _ ⟨_, h, _⟩ => h) ?_ ?_
    · rintro i x H4 H' hi ⟨s4, d4, D4⟩ ⟨rfl, kk, v, hx, rfl⟩
      unfold kvU at hx
      rw [List.getElem?_map] at hx
      obtain ⟨pr, hpr, e1⟩ := Option.map_eq_some_iff.mp hx
      cases e1
      have hm := List.mem_of_getElem? hpr
      have hv : valV (kvU qs) (.inl (pr.1 : Int)) = some (.int (pr.2 : Int)) := valV_mem (kvU_nodup PO.kn) (List.mem_map.mpr ⟨pr, hm, rfl⟩)
      refine ⟨rfl, _, rfl, _, rfl, d, .int (pr.2 : Int), rfl, .inl ⟨_, .inl (pr.1 : Int), .inr ⟨od, d4⟩, rfl, hv.symm⟩, ?_⟩
      refine ⟨_, .inl (pr.2 : Int), rfl, D4, lz (by unfold kvE; rw [List.length_map, List.length_take]; omega), ?_⟩
      refine ⟨same_put s4 DH, by rw [upd_ne (Ne.symm hDd)]; exact d4, ?_⟩
      rw [upd_same, putK_new _ (kvE_not ?_), List.take_add_one, hpr]
      · show _ = some (HO.dK ((qs.take i ++ [pr]).map fun p => _))
        rw [List.map_append]
        rfl
      · intro z
        have h1 : qs = qs.take i ++ pr :: qs.drop (i + 1) := by
          rw [← drop_at hpr, List.take_append_drop]
        have nds := PO.vn
        rw [h1, List.map_append, List.nodup_append] at nds
        exact nds.2.2 pr.2 z pr.2 (by simp) rfl
    · rintro H4 ⟨s4, d4, D4⟩
      rw [show (kvU qs).length = qs.length by unfold kvU; rw [List.length_map], List.take_length] at D4
      refine ⟨d4, ?_⟩
      have s5 : Same H (upd H4 d (.dK (kvU qs))) := same_put s4 hd
      have d5 : (upd H4 d (.dK (kvU qs))) d = some (.dK (kvU qs)) := upd_same
      have D5 : (upd H4 d (.dK (kvU qs))) D = some (.dK (kvE qs)) := by rw [upd_ne hDd]; exact D4
      generalize upd H4 d _ = H5 at s5 d5 D5 ⊢
      refine ⟨by decide, fun L hL => ?_⟩
      have LH := none_of s5 hL
      have hLd : L ≠ d := fun z => by rw [z, d5] at hL; cases hL
      have hLD : L ≠ D := fun z => by rw [z, D5] at hL; cases hL
      refine ⟨_, rfl, _, xs.length, rfl, .inr ⟨_, SqT.of (upd_some (s5 _ _ TK.hp) hL), rfl⟩, _, rfl, by omega, by omega, ?_⟩
      refine for_range (lo := 0) (n := ((xs.length : Nat) : Int).toNat) (fun i σ H' => ∃ (v6 : Option V), σ = [some (.str t), some (.ref p), some (.ref d), v6, some (.ref D), some (.int (cnt (dAh i) qs)), some (.ref L)] ∧ Same H H' ∧ H' d = some (.dK (kvU qs)) ∧ H' D = some (.dK (kvE qs)) ∧ H' L = some (.lst ((List.range i).map fun j => V.int (cnt (dIn j) qs))))
        ⟨none, by rw [cnt_zero] <;> rfl, same_put s5 LH, by rw [upd_ne (Ne.symm hLd)]; exact d5, by rw [upd_ne (Ne.symm hLD)]; exact D5, upd_same⟩ ?_ ?_
      · rintro i σ' H6 hi ⟨v6, rfl, s6, d6, D6, L6⟩
        have hi : i < ts.length := by omega
        have e0 : (0 : Int) + (i : Nat) = ((i : Nat) : Int) := Int.zero_add _
        rw [e0]
        refine ⟨fun σ' H' => σ' = [some (.str t), some (.ref p), some (.ref d), some (.int (i : Nat)), some (.ref D), some (.int (cnt (dIn i) qs)), some (.ref L)] ∧ H' = H6, ?_, ?_⟩
        · refine ⟨_, rfl, _, rfl, d, _, rfl, DGet.k (k := .inl (i : Int)) d6, _, rfl, ?_⟩
          rw [kvU_in]
          refine ite2 (fun h1 => ?_) (fun h1 => ?_)
          · have h1 := of_decide_eq_true h1
            refine ⟨_, rfl, _, _, rfl, rfl, ?_, rfl⟩
            rw [cnt_open i PO.kn (fun p hp => (PO.lt p hp).1) h1]
            rfl
          · have h1 := fun z => h1 (decide_eq_true z)
            refine ⟨?_, rfl⟩
            rw [cnt_no i h1]
            rfl
        · rintro σ' H' ⟨rfl, rfl⟩
          refine ⟨_, rfl, .inl ⟨rfl, _, SqL.of L6⟩, _, rfl, L, _, _, rfl, rfl, L6, lz (by rw [List.length_map, List.length_range]; omega), ?_⟩
          have s7 : Same H (upd H' L (.lst (((List.range i).map fun j => V.int (cnt (dIn j) qs)) ++ [.int (cnt (dIn i) qs)]))) := same_put s6 LH
          have d7 : (upd H' L (.lst (((List.range i).map fun j => V.int (cnt (dIn j) qs)) ++ [.int (cnt (dIn i) qs)]))) d = some (.dK (kvU qs)) := by rw [upd_ne (Ne.symm hLd)]; exact d6
          have D7 : (upd H' L (.lst (((List.range i).map fun j => V.int (cnt (dIn j) qs)) ++ [.int (cnt (dIn i) qs)]))) D = some (.dK (kvE qs)) := by rw [upd_ne (Ne.symm hLD)]; exact D6
          have L7 : (upd H' L (.lst (((List.range i).map fun j => V.int (cnt (dIn j) qs)) ++ [.int (cnt (dIn i) qs)]))) L = some (.lst ((List.range (i + 1)).map fun j => V.int (cnt (dIn j) qs))) := by
            rw [upd_same, List.range_succ, List.map_append] <;> rfl
          refine ⟨_, rfl, _, rfl, D, _, rfl, DGet.k (k := .inl (i : Int)) D7, _, rfl, ?_⟩
          rw [kvE_in]
          refine ite2 (fun h1 => ?_) (fun h1 => ?_)
          · have h1 := of_decide_eq_true h1
            refine ⟨_, rfl, _, _, rfl, rfl, some (.int (i : Nat)), ?_, s7, d7, D7, L7⟩
            have := cnt_close i PO.vn (fun p hp => (PO.lt p hp).1) h1
            have e5 : ((cnt (dIn i) qs : Nat) : Int) - 1 = ((cnt (dAh (i + 1)) qs : Nat) : Int) := by omega
            exact congrArg (fun z : Int => [some (V.str t), some (V.ref p), some (V.ref d), some (V.int (i : Nat)), some (V.ref D), some (V.int z), some (V.ref L)]) e5
          · have h1 := fun z => h1 (decide_eq_true z)
            refine ⟨some (.int (i : Nat)), ?_, s7, d7, D7, L7⟩
            rw [cnt_no2 i h1]
      · rintro σ' H6 ⟨v6, rfl, s6, d6, D6, L6⟩
        rw [Int.toNat_natCast, lx] at L6
        refine ⟨_, rfl, L, _, rfl, .inl ⟨SqL.of L6, fun q6 h6 => ?_⟩⟩
        exact k q6 _ (s6.trans (same_new h6)) upd_same

/-! ### the kinds of brackets -/
theorem cutG_mem : ∀ (n : Nat) {t : Str} {j : Nat} {x : Tk3}, x ∈ (cutG n t j).1 → ∃ i c e, x = (kdA t i c, (i, e)) ∧ t.cps.toList[i]? = some c ∧ wrdE t i = some e
  | 0, t, j, x, h => by
    unfold cutG at h
    cases h
  | n + 1, t, j, x, h => by
    unfold cutG at h
    cases hc : t.cps.toList[j]? with
    | none =>
      rw [hc] at h
      cases h
    | some c =>
      rw [hc] at h
      have h : x ∈ (if c = 32 ∨ c = 10 then cutG n t (j + 1) else
        match wrdE t j with
        | some e => ((kdA t j c, (j, e)) :: (cutG n t e).1, (cutG n t e).2)
        | none => ((cutG n t (behA t j c)).1, (j, kdA t j c) :: (cutG n t (behA t j c)).2)).1 := h
      split at h
      · exact cutG_mem n h
      · cases hw : wrdE t j with
        | none =>
          rw [hw] at h
          exact cutG_mem n h
        | some e =>
          rw [hw] at h
          rcases List.mem_cons.mp h with h | h
          · exact ⟨j, c, e, h, hc, hw⟩
          · exact cutG_mem n h
def occB (x y : Str) : Bool := !(PySem.Builtin.Str.occurrences y x 0 y.length 1).isEmpty
structure KdP (k w : Str) : Prop where
  yes : k = "sign" → occB w "([{" = decide (w ∈ opnL) ∧ occB w ")]}" = decide (w ∈ clsL)
  no : ¬ k = "sign" → w ∉ opnL ∧ w ∉ clsL
theorem signs_all : ∀ l ∈ twoL ++ oneL.map (fun c => [c]), (occB ⟨l.toArray⟩ "([{" = decide ((⟨l.toArray⟩ : Str) ∈ opnL)) ∧ (occB ⟨l.toArray⟩ ")]}" = decide ((⟨l.toArray⟩ : Str) ∈ clsL)) := by decide +kernel
theorem brs_first : ∀ w ∈ opnL ++ clsL, ∃ c, w.cps.toList = [c] ∧ c ∈ [40, 41, 91, 93, 123, 125] := by
  intro w hw
  unfold opnL clsL at hw
  simp only [List.cons_append, List.nil_append, List.mem_cons, List.not_mem_nil, or_false] at hw
  rcases hw with rfl | rfl | rfl | rfl | rfl | rfl
  · exact ⟨40, by decide +kernel, by decide⟩
  · exact ⟨91, by decide +kernel, by decide⟩
  · exact ⟨123, by decide +kernel, by decide⟩
  · exact ⟨41, by decide +kernel, by decide⟩
  · exact ⟨93, by decide +kernel, by decide⟩
  · exact ⟨125, by decide +kernel, by decide⟩
theorem sl_hd {t : Str} {i c e : Nat} (hc : t.cps.toList[i]? = some c) (hw : wrdE t i = some e) : ∃ r, (sl t (i, e)).cps.toList = c :: r := by
  obtain ⟨w1, w2⟩ := wrd_in hw
  rw [sl_tl t (Nat.le_of_lt w1), drop_at hc]
  obtain ⟨n, hn⟩ : ∃ n, e - i = n + 1 := ⟨e - i - 1, by omega⟩
  rw [hn]
  exact ⟨_, rfl⟩
theorem kdA_br {t : Str} {i c : Nat} (hc : t.cps.toList[i]? = some c) (h : c ∈ [40, 41, 91, 93, 123, 125]) : kdA t i c = "sign" := by
  have h' : c = 40 ∨ c = 41 ∨ c = 91 ∨ c = 93 ∨ c = 123 ∨ c = 125 := by simpa using h
  have h1 : ¬ (t.cps.toList.drop i).take 2 = [60, 42] := fun z => by have := take_hd hc z; omega
  have h2 : ¬ (t.cps.toList.drop i).take 3 = [39, 39, 39] := fun z => by have := take_hd hc z; omega
  have h3 : digC c = false := by rcases h' with rfl | rfl | rfl | rfl | rfl | rfl <;> decide
  have h4 : letC c = false := by rcases h' with rfl | rfl | rfl | rfl | rfl | rfl <;> decide
  unfold kdA
  rw [if_neg h1, if_neg h2, if_neg (by omega), if_neg (by omega), if_neg (by rw [h3]; decide), if_neg (by rw [h4]; decide)]
theorem kd_ok {t : Str} {i c e : Nat} (hc : t.cps.toList[i]? = some c) (hw : wrdE t i = some e) : KdP (kdA t i c) (sl t (i, e)) := by
  refine ⟨fun hs => ?_, fun hs => ?_⟩
  · have wa := wrd_at hc
    rw [hw] at wa
    unfold kdA at hs
    have ne : ∀ {s : Str}, s = "sign" → s.cps.toList = [115, 105, 103, 110] := fun h => by rw [h]; decide +kernel
    by_cases q1 : (t.cps.toList.drop i).take 2 = [60, 42]
    · rw [if_pos q1] at hs
      exact absurd (ne hs) (by decide +kernel)
    rw [if_neg q1] at hs
    by_cases q2 : (t.cps.toList.drop i).take 3 = [39, 39, 39]
    · rw [if_pos q2] at hs
      exact absurd (ne hs) (by decide +kernel)
    rw [if_neg q2] at hs
    by_cases q3 : c = 34
    · rw [if_pos q3] at hs
      exact absurd (ne hs) (by decide +kernel)
    rw [if_neg q3] at hs
    by_cases q4 : c = 35
    · rw [if_pos q4] at hs
      exact absurd (ne hs) (by decide +kernel)
    rw [if_neg q4] at hs
    by_cases q5 : digC c = true
    · rw [if_pos q5] at hs
      exact absurd (ne hs) (by decide +kernel)
    rw [if_neg q5] at hs
    by_cases q6 : letC c = true
    · rw [if_pos q6] at hs
      split at hs
      · exact absurd (ne hs) (by decide +kernel)
      · exact absurd (ne hs) (by decide +kernel)
    rw [if_neg q6, if_neg q5, if_neg q3] at wa
    have es := sl_tl t (Nat.le_of_lt (wrd_in hw).1)
    by_cases q7 : c = 39
    · rw [if_pos q7, if_neg q2] at wa
      cases wa
    rw [if_neg q7, if_neg q4, if_neg q1] at wa
    have fin : ∀ l, (sl t (i, e)).cps.toList = l → l ∈ twoL ++ oneL.map (fun c => [c]) → occB (sl t (i, e)) "([{" = decide (sl t (i, e) ∈ opnL) ∧ occB (sl t (i, e)) ")]}" = decide (sl t (i, e) ∈ clsL) := fun l hl hm => by
      have : sl t (i, e) = ⟨l.toArray⟩ := by
        rw [← hl]
      rw [this]
      exact signs_all l hm
    by_cases q8 : (t.cps.toList.drop i).take 2 ∈ twoL
    · rw [if_pos q8] at wa
      injection wa with wa
      refine fin _ es (List.mem_append_left _ ?_)
      rw [wa, Nat.add_sub_cancel_left]
      exact q8
    rw [if_neg q8] at wa
    by_cases q9 : c ∈ oneL
    · rw [if_pos q9] at wa
      injection wa with wa
      refine fin [c] ?_ (List.mem_append_right _ (List.mem_map.mpr ⟨c, q9, rfl⟩))
      rw [es, wa, Nat.add_sub_cancel_left, drop_at hc]
      rfl
    · rw [if_neg q9] at wa
      cases wa
  · obtain ⟨r, hr⟩ := sl_hd hc hw
    have no : sl t (i, e) ∉ opnL ++ clsL := fun h => by
      obtain ⟨d, h1, h2⟩ := brs_first _ h
      rw [hr] at h1
      injection h1 with h1
      exact hs (kdA_br hc (h1 ▸ h2))
    exact ⟨fun h => no (List.mem_append_left _ h), fun h => no (List.mem_append_right _ h)⟩
theorem cut_kd (t : Str) : ∀ x ∈ (cutB t 0).1, KdP x.1 (sl t x.2) ∧ x.2.1 < t.length := fun x hx => by
  obtain ⟨i, c, e, rfl, hc, hw⟩ := cutG_mem _ hx
  exact ⟨kd_ok hc hw, by rw [str_len]; exact len_at hc⟩

/-! ### brackets in pairs: the law's -/
def spLp5 : Sp := fun vs H Q _ => ∃ (t : Str) (p : Addr) (xs : List V) (ts : List Tk3), vs = [.str t, .ref p] ∧ Toks H t p xs ts ∧ (∀ x ∈ ts, KdP x.1 (sl t x.2)) ∧
  ∀ (q d e : Addr) (es : List V) (H' : Hp), Same H H' → H d = none → H' q = some (.tup [.ref d, .ref e]) → H' d = some (.dK (kvU (prsS t ts))) → H' e = some (.tup es) → TrAll H' es (fltD t ts) → Q (.ref q) H'
theorem paired_snoc {α β : Type} {R : α → β → Prop} : ∀ {xs : List α} {ys : List β} {x : α} {y : β}, Paired R xs ys → R x y → Paired R (xs ++ [x]) (ys ++ [y])
  | _, _, _, _, .nil, h => .cons h .nil
  | _, _, _, _, .cons a b, h => .cons a (paired_snoc b h)
theorem Pst5.same {t : Str} {ts : List Tk3} {H H' H2 : Hp} {m f1 o : Addr} {S : Bs} {fs : List V} (P : Pst5 t ts H m f1 o S H' fs) (s : Same H' H2) : Pst5 t ts H m f1 o S H2 fs :=
  ⟨P.sm.trans s, s _ _ P.hm, s _ _ P.hf, P.tf.keep (Tk.of s), s _ _ P.ho⟩
theorem ints_shaped (l : List Nat) : SeqAt.shaped (.list (l.map fun n : Nat => PyData.int n)) = true := by
  have h : PyData.canLayAll0 (l.map fun n : Nat => PyData.int n) = true ∧ PyData.depthAll (l.map fun n : Nat => PyData.int n) = 0 := by
    induction l with
    | nil => exact ⟨rfl, rfl⟩
    | cons a r ih =>
      refine ⟨?_, ?_⟩
      · show (true && PyData.canLayAll0 (r.map fun n : Nat => PyData.int n)) = true
        rw [ih.1] <;> rfl
      · show max 0 (PyData.depthAll (r.map fun n : Nat => PyData.int n)) = 0
        rw [ih.2] <;> rfl
  unfold SeqAt.shaped
  rw [Bool.and_eq_true]
  refine ⟨h.1, decide_eq_true ?_⟩
  show PyData.depthAll _ + 1 ≤ 64
  rw [h.2]
  decide
theorem glue_br {a b : Str} (ha : a ∈ opnL) (hb : b ∈ clsL) : inV (.str (a ++ b)) [.str "()", .str "[]", .str "{}"] = decide (cloS a = b) := by
  unfold opnL at ha
  unfold clsL at hb
  simp only [List.mem_cons, List.not_mem_nil, or_false] at ha hb
  rcases ha with rfl | rfl | rfl <;> rcases hb with rfl | rfl | rfl <;> decide +kernel
theorem c_l_paired (T : Txt K mg w) (c_l_place : Cal P w K mg base 1 "_law_place" spLPl []) : Cal P w K mg base 2 "_law_paired" spLp5 [] := by
  refine calOf T.d_l_paired sc_l_paired (fun vs H Q E h => ?_) (fun f cdv A outer s H vs Q E hr h => ?_)
  · obtain ⟨t, p, xs, ts, rfl, _⟩ := h
    rfl
  · obtain ⟨t, p, xs, ts, rfl, TK, kd, k⟩ := h
    have hu := hu_of hr
    have lz : ∀ {n : Nat}, n ≤ 100000 → n < sizeLine := fun h => Nat.lt_of_le_of_lt h (by decide)
    refine ⟨_,
      (pss_cons (ps_asg (pe_tup (pa_cons pe_dnewK (pa_cons (pe_lst pa_nil) (pa_cons (pe_lst pa_nil) pa_nil)))) (pg_tup rfl (pgs_cons (pg_name (i := 2) sc_l_paired.nd rfl (Or.inr rfl)) (pgs_cons (pg_name (i := 3) sc_l_paired.nd rfl (Or.inl rfl)) (pgs_cons (pg_name (i := 4) sc_l_paired.nd rfl (Or.inl rfl)) pgs_nil)))))
        (pss_cons (ps_for PassesOwn.never rfl (pi_enumT (by rfl) T.n_enumerate (pa_cons (pv 1) pa_nil)) (pg_tup rfl (pgs_cons (pg_name (i := 5) sc_l_paired.nd rfl (Or.inl rfl)) (pgs_cons (pg_tup rfl (pgs_cons (pg_name (i := 6) sc_l_paired.nd rfl (Or.inl rfl)) (pgs_cons (pg_name (i := 7) sc_l_paired.nd rfl (Or.inl rfl)) (pgs_cons (pg_name (i := 8) sc_l_paired.nd rfl (Or.inl rfl)) pgs_nil)))) pgs_nil)))
        (pss_one (ps_if (PW.pt (pw_and (pt_cmpR op_eq (pv 6) pe_str (nomark _)) (pw_and1 (pt_cmpR op_in_str (pv 7) pe_str (by rfl)))))
        (pss_one (ps_expr (pe_bm PySem.F.plainAttrs_list PySem.F.slot_list_append PySem.F.type_list_append mt_append (pv 4) (pa_cons (pv 5) pa_nil))))
        (pss_one (ps_if (PW.pt (pw_and (pt_cmpR op_eq (pv 6) pe_str (nomark _)) (pw_and1 (pt_cmpR op_in_str (pv 7) pe_str (by rfl)))))
        (pss_one (ps_if (PW.pt (pw_and (pt_cmpR (op_neD hr.units) (pv 4) (pe_lst pa_nil) (nomark _)) (pw_and1 (pt_cmpR op_in_seq (pe_op op_add_str (pe_ix ix_tup (pe_ix ix_tup (pv 1) (pe_ix ix_list (pv 4) (pe_un un_neg pe_int) (fun _ _ => rfl)) (fun _ _ => rfl)) pe_int (fun _ _ => rfl)) (pv 7)) (pe_tup (pa_cons pe_str (pa_cons pe_str (pa_cons pe_str pa_nil)))) (by rfl)))))
        (pss_one (ps_dput hu (pv 2) (pe_bm0 PySem.F.plainAttrs_list PySem.F.slot_list_pop PySem.F.type_list_pop mt_pop (pv 4)) (pv 5) rfl))
        (pss_one (ps_expr (pe_bm PySem.F.plainAttrs_list PySem.F.slot_list_append PySem.F.type_list_append mt_append (pv 3) (pa_cons (pe_tup (pa_cons (pe_c c_l_place hr (by first | decide | omega) rfl (pa_cons (pv 0) (pa_cons (pv 8) pa_nil))) (pa_cons pe_str pa_nil))) pa_nil))))))
        pss_nil)))))
        (pss_cons (ps_expr (pe_bm PySem.F.plainAttrs_list PySem.F.slot_list_extend PySem.F.type_list_extend mt_extend (pv 3) (pa_cons (pe_lc (own := [("_law_at", 5)]) (g := gName 5) (tt := tYes) rfl sc_l_paired.nd (pi_list (pv 4)) (blkOk_by (N := ["_law_text", "_law_tokens", "_law_pairs", "_law_faults", "_law_opened", "_law_at", "_law_kind_here", "_law_word", "_law_begin"]) (sc := defScope s_l_paired) (by decide +kernel)) (fun _ _ _ _ _ => pg_name (i := 5) sc_l_paired.nd rfl (Or.inl rfl)) (fun _ _ _ _ _ => pts_nil) (fun _ _ _ _ _ => (pe_tup (pa_cons (pe_c c_l_place hr (by first | decide | omega) rfl (pa_cons (pv 0) (pa_cons (pe_ix (show IxR _ (rIxT K) from ix_tup) (pe_ix (show IxR _ (rIxT K) from ix_tup) (pv 1) (pv 5) (fun _ _ => rfl)) pe_int (fun _ _ => rfl)) pa_nil))) (pa_cons pe_str pa_nil))))) pa_nil)))
        (pss_one (ps_ret (pe_tup (pa_cons (pe_callTy (call_dictP rfl) (by rfl) T.n_dict (by decide +kernel) (pa_cons (pe_lc (own := [("_law_at", 5)]) (g := gName 5) (tt := tYes) rfl sc_l_paired.nd (pi_list (pe_callB (call_sortedDA rfl) (by rfl) T.n_sorted (by decide +kernel) (pa_cons (pv 2) pa_nil))) (blkOk_by (N := ["_law_text", "_law_tokens", "_law_pairs", "_law_faults", "_law_opened", "_law_at", "_law_kind_here", "_law_word", "_law_begin"]) (sc := defScope s_l_paired) (by decide +kernel)) (fun _ _ _ _ _ => pg_name (i := 5) sc_l_paired.nd rfl (Or.inl rfl)) (fun _ _ _ _ _ => pts_nil) (fun _ _ _ _ _ => (pe_tup (pa_cons (pv 5) (pa_cons (pe_dget hu (pv 2) (pv 5) (fun _ _ => rfl)) pa_nil))))) pa_nil)) (pa_cons (pe_callTy call_tuple_of (by rfl) T.n_tuple (by decide +kernel) (pa_cons (pe_callB (call_sortedX (u70 hr)) (by rfl) T.n_sorted (by decide +kernel) (pa_cons (pv 3) pa_nil)) pa_nil)) pa_nil))))))))
      , ?_⟩
    have lx := TK.lx
    have ltt := TK.lt
    have llt := TK.ll
    intro m hm
    refine ⟨by decide, fun f1 hf => ⟨by decide, fun o ho => ⟨by show 3 ≤ sizeLine; decide, fun T0 hT0 => ?_⟩⟩⟩
    have S1 := same_new (o := .dK []) hm
    have fH : H f1 = none := none_of S1 hf
    have S2 := same_put (o := .lst []) S1 fH
    have oH : H o = none := none_of S2 ho
    have S3 := same_put (o := .lst []) S2 oH
    have fm : m ≠ f1 := fun z => by rw [← z, upd_same] at hf; cases hf
    have mo : m ≠ o := fun z => by rw [← z, upd_ne fm, upd_same] at ho; cases ho
    have fo : f1 ≠ o := fun z => by rw [← z, upd_same] at ho; cases ho
    have H3m : (upd (upd (upd H m (.dK [])) f1 (.lst [])) o (.lst [])) m = some (.dK []) := by rw [upd_ne mo, upd_ne fm, upd_same]
    have H3f : (upd (upd (upd H m (.dK [])) f1 (.lst [])) o (.lst [])) f1 = some (.lst []) := by rw [upd_ne fo, upd_same]
    have H3o : (upd (upd (upd H m (.dK [])) f1 (.lst [])) o (.lst [])) o = some (.lst []) := upd_same
    generalize upd (upd (upd H m (.dK [])) f1 (.lst [])) o (.lst []) = H2 at S3 H3m H3f H3o hT0 ⊢
    refine ⟨T0, _, rfl, SqT.of upd_same, rfl, _, _, rfl, _, _, rfl, _, _, rfl, rfl, ?_⟩
    have S3 := S3.trans (same_new (o := .tup [.ref m, .ref f1, .ref o]) hT0)
    have H3m := upd_some (u := .tup [.ref m, .ref f1, .ref o]) H3m hT0
    have H3f := upd_some (u := .tup [.ref m, .ref f1, .ref o]) H3f hT0
    have H3o := upd_some (u := .tup [.ref m, .ref f1, .ref o]) H3o hT0
    generalize upd H2 T0 (.tup [.ref m, .ref f1, .ref o]) = H3 at S3 H3m H3f H3o ⊢
    refine ⟨_, rfl, p, xs, rfl, SqT.of (S3 _ _ TK.hp), for_it walk_enumT (fun i σ H' => ∃ (fs : List V) (v5 v6 v7 v8 : Option V), σ = [some (.str t), some (.ref p), some (.ref m), some (.ref f1), some (.ref o), v5, v6, v7, v8] ∧ Pst5 t ts H m f1 o (bk t ts i) H' fs)
      ⟨[], none, none, none, none, rfl, S3, H3m, H3f, .nil, H3o⟩ (fun i σ' H' _ ⟨_, _, _, _, _, _, P⟩ => SqT.of (P.sm _ _ TK.hp)) ?_ ?_⟩
    · rintro i x σ' H4 H5 hi ⟨fs, v5, v6, v7, v8, rfl, P4⟩ ⟨T1, x1, x2, rfl, hT, rfl, hx1, hx2⟩
      cases hx1
      have hi : i < ts.length := by omega
      have bi := bk_inv t ts i
      obtain ⟨r, kdw, rfl, hb, _, ⟨tk, htk, ekd⟩, hr4⟩ := (TK.keep (Tk.of P4.sm)).at hx2
      have KD := kd tk (List.mem_of_getElem? htk)
      have ew : wAt t ts i = sl t tk.2 := by
        unfold wAt
        rw [htk]
        rfl
      rw [← ekd, ← ew] at KD
      have hr5 := upd_some (u := .tup [.int (i : Nat), .ref r]) hr4 hT
      have P5 := P4.new (x := .tup [.int (i : Nat), .ref r]) hT
      have hT5 : (upd H4 T1 (.tup [.int (i : Nat), .ref r])) T1 = some (.tup [.int (i : Nat), .ref r]) := upd_same
      generalize upd H4 T1 _ = H5 at P5 hT5 hr5 ⊢
      have lf := P5.tf.len
      rw [List.length_map] at lf
      have l2 := bi.l2
      refine ⟨T1, _, rfl, SqT.of hT5, rfl, _, _, rfl, _, _, rfl, r, _, rfl, SqT.of hr5, rfl, _, _, rfl, _, _, rfl, _, _, rfl, rfl, rfl, ?_⟩
      refine ⟨_, rfl, rfl, _, rfl, ite2 (fun h0 => ?_) (fun h0 => ?_)⟩
      case refine_2 =>
        have h0 : ¬ kdw = "sign" := fun z => h0 (decide_eq_true (congrArg V.str z))
        refine iteF ⟨_, rfl, rfl, _, rfl, ite2 (fun z => absurd (V.str.inj (of_decide_eq_true z)) h0) (fun _ => iteF ?_)⟩
        obtain ⟨n1, n2⟩ := KD.no h0
        refine ⟨fs, _, _, _, _, rfl, ?_⟩
        rw [bk_else n1 n2]
        exact P5
      have h0 := V.str.inj (of_decide_eq_true h0)
      obtain ⟨y1, y2⟩ := KD.yes h0
      refine ⟨_, rfl, _, _, rfl, rfl, _, rfl, ite2 (fun h1 => ?_) (fun h1 => ?_)⟩
      · have h1 := of_decide_eq_true (y1.symm.trans h1)
        refine ⟨_, rfl, .inl ⟨rfl, _, SqL.of P5.ho⟩, _, rfl, o, _, _, rfl, rfl, P5.ho, lz (by rw [List.length_map]; omega), ?_⟩
        refine ⟨fs, _, _, _, _, rfl, ?_⟩
        rw [bk_open h1]
        exact ⟨same_put P5.sm oH, by rw [upd_ne mo]; exact P5.hm, by rw [upd_ne fo]; exact P5.hf, P5.tf.keep (tk_put (Tk.refl _) P5.ho fun _ z => by cases z), by rw [upd_same, List.map_append] <;> rfl⟩
      · have h1 : wAt t ts i ∉ opnL := fun z => h1 (y1.trans (decide_eq_true z))
        refine ⟨_, rfl, rfl, _, rfl, ite2 (fun _ => ?_) (fun z => absurd (decide_eq_true (congrArg V.str h0)) z)⟩
        refine ⟨_, rfl, _, _, rfl, rfl, _, rfl, ite2 (fun h2 => ?_) (fun h2 => ?_)⟩
        · have h2 : wAt t ts i ∈ clsL := of_decide_eq_true (y2.symm.trans h2)
          have so : Dp K H5 (.ref o) (.list ((bk t ts i).os.map fun n : Nat => PyData.int n)) := .lst (SqL.of P5.ho) (by
            have : ∀ l : List Nat, DpAll K H5 (l.map fun n : Nat => V.int n) (l.map fun n : Nat => PyData.int n) := fun l => by
              induction l with
              | nil => exact .nil
              | cons a r ih => exact .cons (.int _) ih
            exact this _)
          refine ⟨_, rfl, by decide, fun q hq => ?_⟩
          have P6 := P5.new (x := .lst []) hq
          have hr6 := upd_some (u := .lst []) hr5 hq
          have so6 : Dp K (upd H5 q (.lst [])) (.ref o) (.list ((bk t ts i).os.map fun n : Nat => PyData.int n)) := .lst (SqL.of P6.ho) (by
            have : ∀ l : List Nat, DpAll K (upd H5 q (.lst [])) (l.map fun n : Nat => V.int n) (l.map fun n : Nat => PyData.int n) := fun l => by
              induction l with
              | nil => exact .nil
              | cons a r ih => exact .cons (.int _) ih
            exact this _)
          refine ⟨_, .list [], so6, .lst (SqL.of upd_same) .nil, ?_, rfl, _, rfl, ?_⟩
          · exact ints_shaped _
          generalize upd H5 q (.lst []) = H6 at P6 hr6 ⊢
          have ho6 := P6.ho
          -- a fault
          have bad : (∀ r n, (bk t ts i).os = r ++ [n] → ¬ cloS (wAt t ts n) = wAt t ts i) → ∀ {H7 : Hp}, Pst5 t ts H m f1 o (bk t ts i) H7 fs → ∀ (p2 : Addr) (H8 : Hp), Same H7 H8 → H8 p2 = some (.tup [.int (lineN t.cps.toList (bgn ts i)), .int (colN t.cps.toList (bgn ts i))]) → ∀ p3, H8 p3 = none →
              Pst5 t ts H m f1 o (bk t ts (i + 1)) (upd (upd H8 p3 (.tup [.ref p2, .str "close"])) f1 (.lst (fs ++ [.ref p3]))) (fs ++ [.ref p3]) := fun mm H7 P7 p2 H8 s8 hp2 p3 hp3 => by
            have P8 := (P7.same s8).new (x := .tup [.ref p2, .str "close"]) hp3
            have t8 := ft_new (t := t) (ts := ts) (w := "close") (n := i) hp2 hp3
            rw [bk_bad h1 h2 mm]
            exact ⟨same_put P8.sm fH, by rw [upd_ne fm]; exact P8.hm, upd_same, by
              rw [List.map_append]
              exact (P8.tf.app (.one t8)).keep (tk_put (Tk.refl _) P8.hf fun _ z => by cases z), by rw [upd_ne (Ne.symm fo)]; exact P8.ho⟩
          rcases snoc_or (bk t ts i).os with e | ⟨os', n, e⟩
          · rw [e]
            refine ite2 (fun z => absurd z (by decide)) (fun _ => iteF ?_)
            refine ⟨_, rfl, .inl ⟨rfl, _, SqL.of P6.hf⟩, _, rfl, _, rfl, t, bgn ts i, rfl, Nat.le_of_lt hb, llt, fun p2 H8 s8 hp2 => ?_⟩
            refine ⟨by show 2 ≤ sizeLine; decide, fun p3 hp3 => ⟨f1, _, _, rfl, rfl, upd_some ((P6.same s8).hf) hp3, lz (by omega), ?_⟩⟩
            exact ⟨_, _, _, _, _, rfl, bad (fun r n e' => by rw [e] at e'; exact absurd e'.symm (by simp)) P6 p2 H8 s8 hp2 p3 hp3⟩
          · rw [e, List.map_append] at ho6
            have hnm : n ∈ (bk t ts i).os := by rw [e]; simp
            have hn := bi.osl n hnm
            have hop := bk_op t ts i n hnm
            obtain ⟨y, hy⟩ : ∃ y, xs[n]? = some y := ⟨xs[n], List.getElem?_eq_getElem (by omega)⟩
            obtain ⟨r2, kd2, rfl, _, _, _, hr2⟩ := (TK.keep (Tk.of P6.sm)).at hy
            have ev : PyData.eqv (.list ((bk t ts i).os.map fun n : Nat => PyData.int n)) (.list []) = false := by
              rw [e, List.map_append]
              cases os' <;> rfl
            have l1 : (wAt t ts n ++ wAt t ts i).length ≤ sizeLine := by
              have a1 : ∀ a ∈ opnL, a.length ≤ 1 := by decide +kernel
              have a2 : ∀ a ∈ clsL, a.length ≤ 1 := by decide +kernel
              have := a1 _ hop
              have := a2 _ h2
              rw [Str.length_append]
              exact Nat.le_trans (show _ ≤ 2 by omega) (by decide)
            rw [ev]
            refine ite2 (fun _ => ?_) (fun z => absurd (by decide) z)
            refine ⟨_, rfl, _, rfl, _, rfl, o, _, _, _, rfl, rfl, SqL.of ho6, atI_last _ _, p, _, _, _, rfl, rfl, SqT.of (P6.sm _ _ TK.hp), atI_nat hy, r2, _, _, _, rfl, rfl, SqT.of hr2, atI_nat (j := 1) rfl, _, rfl, _, _, rfl, rfl, by rw [Str.length_append] at l1; exact l1, by show 3 ≤ sizeLine; decide, fun q2 hq2 => ⟨q2, _, rfl, .inr (SqT.of upd_same), rfl, rfl, _, rfl, ?_⟩⟩
            have P7 := P6.new (x := .tup [.str "()", .str "[]", .str "{}"]) hq2
            have ho7 := upd_some (u := .tup [.str "()", .str "[]", .str "{}"]) ho6 hq2
            generalize upd H6 q2 _ = H7 at P7 ho7 ⊢
            have eg := glue_br hop h2
            refine ite2 (fun h3 => ?_) (fun h3 => ?_)
            · have h3 := of_decide_eq_true (eg.symm.trans h3)
              have bi1 := bk_inv t ts (i + 1)
              refine ⟨_, rfl, _, rfl, _, rfl, .inl ⟨rfl, _, SqL.of ho7⟩, o, _, _, rfl, rfl, ho7, last_get _ _, m, _, rfl, DPut.k (k := .inl (n : Int)) (by rw [upd_ne mo]; exact P7.hm) (lz (by show (kvU (bk t ts i).prs).length ≤ _; unfold kvU; rw [List.length_map]; have := bi.l1; omega)), ?_⟩
              refine ⟨fs, _, _, _, _, rfl, ?_⟩
              rw [bk_pair h1 h2 e h3]
              refine ⟨same_put (same_put P7.sm oH) hm, ?_, by rw [upd_ne (Ne.symm fm), upd_ne fo]; exact P7.hf, ?_, ?_⟩
              · rw [upd_same, putK_new _ (kvU_not (bi.df n hnm))]
                show _ = some (HO.dK (((bk t ts i).prs ++ [(n, i)]).map fun p => _))
                rw [List.map_append]
                rfl
              · refine P7.tf.keep (tk_put (tk_put (Tk.refl _) P7.ho fun _ z => by cases z) (by rw [upd_ne mo]; exact P7.hm) fun _ z => by cases z)
              · rw [upd_ne (Ne.symm mo), upd_same]
                have : (os'.map (fun n : Nat => V.int n) ++ [n].map (fun n : Nat => V.int n)).dropLast = os'.map (fun n : Nat => V.int n) := List.dropLast_concat
                rw [this]
            · have h3 : ¬ cloS (wAt t ts n) = wAt t ts i := fun z => h3 (eg.trans (decide_eq_true z))
              refine ⟨_, rfl, .inl ⟨rfl, _, SqL.of P7.hf⟩, _, rfl, _, rfl, t, bgn ts i, rfl, Nat.le_of_lt hb, llt, fun p2 H8 s8 hp2 => ?_⟩
              refine ⟨by show 2 ≤ sizeLine; decide, fun p3 hp3 => ⟨f1, _, _, rfl, rfl, upd_some ((P7.same s8).hf) hp3, lz (by omega), ?_⟩⟩
              exact ⟨_, _, _, _, _, rfl, bad (fun r n' e' => by
                rw [e] at e'
                obtain ⟨_, e''⟩ := List.append_inj' e' rfl
                injection e'' with e''
                rw [← e'']
                exact h3) P7 p2 H8 s8 hp2 p3 hp3⟩
        · have h2 : wAt t ts i ∉ clsL := fun z => h2 (y2.trans (decide_eq_true z))
          refine ⟨fs, _, _, _, _, rfl, ?_⟩
          rw [bk_else h1 h2]
          exact P5
    · rintro σ' H' ⟨fs, v5, v6, v7, v8, rfl, P5⟩
      rw [lx] at P5
      have bi := bk_inv t ts ts.length
      have eq2 : fltD t ts = srtD ((bk t ts ts.length).fts.map (ftD t ts "close") ++ (bk t ts ts.length).os.map (ftD t ts "open")) := rfl
      have ep : prsS t ts = sortP (bk t ts ts.length).prs := rfl
      rw [eq2, ep] at k
      generalize bk t ts ts.length = S at P5 bi k
      have l2 := bi.l2
      have lf := P5.tf.len
      rw [List.length_map] at lf
      refine ⟨_, rfl, .inl ⟨rfl, _, SqL.of P5.hf⟩, _, rfl, o, rfl, ⟨_, SqL.of P5.ho⟩, fun D hD => ?_⟩
      have DH := none_of P5.sm hD
      have nD : ∀ {a : Addr} {u : HO}, H' a = some u → D ≠ a := fun h z => by rw [z, h] at hD; cases hD
      refine lc_list (K := K) (a := o) (xs := S.os.map fun (n : Nat) => V.int n) (fun i H2 => Pst5 t ts H m f1 o S H2 fs ∧ ∃ acc, H2 D = some (.lst acc) ∧ TrAll H2 acc ((S.os.take i).map (ftD t ts "open")))
        ⟨P5.new hD, [], upd_same, .nil⟩ (fun i H2 _ ⟨P, _⟩ => SqL.of P.ho) ?_ ?_
      · rintro i y H2 hi ⟨P2, acc, hd2, ta⟩
        rw [List.getElem?_map] at hi
        obtain ⟨n, hn, rfl⟩ := Option.map_eq_some_iff.mp hi
        have hlo := (List.getElem?_eq_some_iff.mp hn).1
        have hnt := bi.osl n (List.mem_of_getElem? hn)
        obtain ⟨y, hy⟩ : ∃ y, xs[n]? = some y := ⟨xs[n], List.getElem?_eq_getElem (by omega)⟩
        obtain ⟨r2, kd2, rfl, hb, _, _, hr2⟩ := (TK.keep (Tk.of P2.sm)).at hy
        have la := ta.len
        rw [List.length_map, List.length_take] at la
        refine ⟨rfl, _, rfl, _, rfl, _, rfl, p, _, _, _, rfl, rfl, SqT.of (P2.sm _ _ TK.hp), atI_nat hy, r2, _, _, _, rfl, rfl, SqT.of hr2, atI_nat (j := 2) rfl, t, bgn ts n, rfl, Nat.le_of_lt hb, llt, fun p2 H8 s8 hp2 => ?_⟩
        refine ⟨by show 2 ≤ sizeLine; decide, fun p3 hp3 => ?_⟩
        have P8 := (P2.same s8).new (x := .tup [.ref p2, .str "open"]) hp3
        have hd8 := upd_some (u := .tup [.ref p2, .str "open"]) (s8 _ _ hd2) hp3
        have t8 := ft_new (t := t) (ts := ts) (w := "open") (n := n) hp2 hp3
        have ta8 := (ta.keep (Tk.of s8)).new (o := .tup [.ref p2, .str "open"]) hp3
        have mD : m ≠ D := Ne.symm (nD P5.hm)
        have fD : f1 ≠ D := Ne.symm (nD P5.hf)
        have oD : o ≠ D := Ne.symm (nD P5.ho)
        refine ⟨acc, hd8, lz (by omega), ⟨same_put P8.sm DH, by rw [upd_ne mD]; exact P8.hm, by rw [upd_ne fD]; exact P8.hf, P8.tf.keep (tk_put (Tk.refl _) hd8 fun _ z => by cases z), by rw [upd_ne oD]; exact P8.ho⟩, _, upd_same, ?_⟩
        rw [List.take_add_one, hn, List.map_append]
        exact (ta8.app (.one t8)).keep (tk_put (Tk.refl _) hd8 fun _ z => by cases z)
      rintro H2 ⟨P2, acc, hd2, ta⟩
      rw [List.length_map, List.take_length] at ta
      have la := ta.len
      rw [List.length_map] at la
      refine ⟨f1, D, fs, acc, rfl, rfl, P2.hf, hd2, Nat.le_of_lt (lz (by omega)), ?_⟩
      have ex : ∃ zs, (upd H2 f1 (.lst (fs ++ acc))) f1 = some (.lst zs) ∧ TrAll (upd H2 f1 (.lst (fs ++ acc))) zs (S.fts.map (ftD t ts "close") ++ S.os.map (ftD t ts "open")) :=
        ⟨_, upd_same, (P2.tf.app ta).keep (tk_put (Tk.refl _) P2.hf fun _ z => by cases z)⟩
      have s3 : Same H (upd H2 f1 (.lst (fs ++ acc))) := same_put P2.sm fH
      have m3 : (upd H2 f1 (.lst (fs ++ acc))) m = some (.dK (kvU S.prs)) := by rw [upd_ne fm]; exact P2.hm
      generalize upd H2 f1 (.lst (fs ++ acc)) = H3 at ex s3 m3 ⊢
      obtain ⟨zs, f3, t3⟩ := ex
      refine ⟨_, rfl, m, kvU S.prs, S.prs.map (fun p => (p.1 : Int)), rfl, .inl m3, by rw [kvU_keys, List.map_map] <;> rfl, fun ys q perm srt hq => ⟨q, rfl, ⟨_, SqL.of upd_same⟩, fun D2 hD2 => ?_⟩⟩
      have ey := sorted_keys perm srt
      have sp := sortP_perm S.prs
      have Sq := s3.trans (same_new (o := .lst (ys.map V.int)) hq)
      have qm : (upd H3 q (.lst (ys.map V.int))) m = some (.dK (kvU S.prs)) := upd_some m3 hq
      have qf : (upd H3 q (.lst (ys.map V.int))) f1 = some (.lst zs) := upd_some f3 hq
      have qt := t3.new (o := .lst (ys.map V.int)) hq
      have qq : (upd H3 q (.lst (ys.map V.int))) q = some (.lst (ys.map V.int)) := upd_same
      have hdm : D2 ≠ m := fun z => by rw [z, qm] at hD2; cases hD2
      have hdf : D2 ≠ f1 := fun z => by rw [z, qf] at hD2; cases hD2
      have hdq : D2 ≠ q := fun z => by rw [z, qq] at hD2; cases hD2
      have DH := none_of Sq hD2
      generalize upd H3 q _ = H4 at Sq qm qf qq qt hD2 ⊢
      have lys : ys.length = (sortP S.prs).length := by rw [ey, List.length_map]
      have lsp : (sortP S.prs).length ≤ 100000 := by
        rw [sp.length_eq]
        have := bi.l1
        omega
      have nds : ((sortP S.prs).map (·.1)).Nodup := (sp.map _).nodup_iff.mpr bi.kn
      refine lc_list (K := K) (a := q) (xs := ys.map V.int) (fun i H' => Same H H' ∧ H' m = some (.dK (kvU S.prs)) ∧ H' f1 = some (.lst zs) ∧ TrAll H' zs (S.fts.map (ftD t ts "close") ++ S.os.map (ftD t ts "open")) ∧ H' q = some (.lst (ys.map V.int)) ∧ ∃ ps : List Addr, H' D2 = some (.lst (ps.map V.ref)) ∧ Paired (fun p kv => H' p = some (.tup [kV kv.1, kv.2])) ps (kvU ((sortP S.prs).take i)))
        ⟨same_put Sq DH, by rw [upd_ne (Ne.symm hdm)]; exact qm, by rw [upd_ne (Ne.symm hdf)]; exact qf, qt.new hD2, by rw [upd_ne (Ne.symm hdq)]; exact qq, [], upd_same, .nil⟩ (fun i H' _ ⟨_, _, _, _, h, _⟩ => SqL.of h) ?_ ?_
      · rintro i x H5 hi ⟨s4, m4, f4, t4, q4, ps, d4, pp⟩
        rw [List.getElem?_map] at hi
        obtain ⟨nI, hn, rfl⟩ := Option.map_eq_some_iff.mp hi
        rw [ey, List.getElem?_map] at hn
        obtain ⟨pr, hpr, rfl⟩ := Option.map_eq_some_iff.mp hn
        have hmem : pr ∈ S.prs := sp.mem_iff.mp (List.mem_of_getElem? hpr)
        have hv : valV (kvU S.prs) (.inl (pr.1 : Int)) = some (.int (pr.2 : Int)) := valV_mem (kvU_nodup bi.kn) (List.mem_map.mpr ⟨pr, hmem, rfl⟩)
        have hi2 := (List.getElem?_eq_some_iff.mp hpr).1
        have lp := Paired.length pp
        have lp : ps.length = i := by
          rw [lp]
          unfold kvU
          rw [List.length_map, List.length_take]
          omega
        refine ⟨rfl, _, rfl, _, rfl, _, rfl, m, .int (pr.2 : Int), rfl, by rw [← hv]; exact DGet.k (k := .inl (pr.1 : Int)) m4, by show 2 ≤ sizeLine; decide, fun p3 hp3 => ⟨_, upd_some d4 hp3, lz (by rw [List.length_map]; omega), ?_⟩⟩
        have d5 := upd_some (u := .tup [.int (pr.1 : Int), .int (pr.2 : Int)]) d4 hp3
        refine ⟨same_put (s4.trans (same_new hp3)) DH, by rw [upd_ne (Ne.symm hdm)]; exact upd_some m4 hp3, by rw [upd_ne (Ne.symm hdf)]; exact upd_some f4 hp3, (t4.new hp3).keep (tk_put (Tk.refl _) d5 fun _ z => by cases z), by rw [upd_ne (Ne.symm hdq)]; exact upd_some q4 hp3, ps ++ [p3], by rw [upd_same, List.map_append] <;> rfl, ?_⟩
        rw [List.take_add_one, hpr]
        have e6 : kvU ((sortP S.prs).take i ++ (some pr).toList) = kvU ((sortP S.prs).take i) ++ [((.inl (pr.1 : Int) : Key), V.int (pr.2 : Int))] := by
          unfold kvU
          rw [List.map_append]
          rfl
        rw [e6]
        have keep : ∀ {a : Addr} {xs : List V}, H5 a = some (.tup xs) → (upd (upd H5 p3 (.tup [.int (pr.1 : Int), .int (pr.2 : Int)])) D2 (.lst (ps.map V.ref ++ [.ref p3]))) a = some (.tup xs) := fun {a xs} h => by
          have h2 := upd_some (u := .tup [.int (pr.1 : Int), .int (pr.2 : Int)]) h hp3
          exact tk_put (Tk.refl _) d5 (fun _ z => by cases z) _ _ h2
        have np : p3 ≠ D2 := fun z => by rw [z, d4] at hp3; cases hp3
        exact paired_snoc (L2.Paired.mapP pp fun a b h => keep h) (by rw [upd_ne np, upd_same]; rfl)
      · rintro H5 ⟨s4, m4, f4, t4, q4, ps, d4, pp⟩
        rw [List.length_map, lys, List.take_length] at pp
        refine ⟨D2, ps, kvU (sortP S.prs), rfl, SqL.of d4, L2.Paired.mapP pp fun a b h => SqT.of h, fun d hd => ?_⟩
        rw [merge_new (kvs := []) (more := kvU (sortP S.prs)) (kvU_nodup nds)]
        obtain ⟨al, so, de⟩ := alike_fts t ts (S.fts.map (ftD t ts "close") ++ S.os.map (ftD t ts "open")) fun d hd => by
          rcases List.mem_append.mp hd with h | h
          · obtain ⟨n, _, rfl⟩ := List.mem_map.mp h
            exact ⟨_, n, rfl⟩
          · obtain ⟨n, _, rfl⟩ := List.mem_map.mp h
            exact ⟨_, n, rfl⟩
        have dH := none_of s4 hd
        refine ⟨_, rfl, f1, zs, _, Tr _, rfl, SqL.of (upd_some f4 hd), trAll_paired (t4.new hd), fun x d h => Vf.Dp.dx h.dp, al, so, de, fun us p6 pz h6 => ?_⟩
        have tz := paired_trAll pz
        refine ⟨p6, us, rfl, .inl ⟨SqL.of upd_same, fun e he => ⟨by show 2 ≤ sizeLine; decide, fun q7 h7 => ?_⟩⟩⟩
        exact k q7 d e us _ ((((s4.trans (same_new hd)).trans (same_new h6)).trans (same_new he)).trans (same_new h7)) dH upd_same (upd_some (upd_some (upd_some upd_same h6) he) h7) (upd_some upd_same h7) (((tz.new h6).new he).new h7)

/-! ### what is told, as data -/
theorem tmxAll_all : ∀ {ds : List PyData}, (∀ d ∈ ds, tmx d = true) → tmxAll ds = true
  | [], _ => rfl
  | d :: r, h => by
    show (tmx d && tmxAll r) = true
    rw [h d (List.mem_cons_self ..), tmxAll_all fun x hx => h x (List.mem_cons_of_mem _ hx)] <;> rfl
theorem wtxAll_all {M : Nat} : ∀ {ds : List PyData}, (∀ d ∈ ds, wtx d ≤ M) → wtxAll ds ≤ (M + 2) * ds.length
  | [], _ => Nat.zero_le _
  | d :: r, h => by
    have a := h d (List.mem_cons_self ..)
    have b := wtxAll_all fun x hx => h x (List.mem_cons_of_mem _ hx)
    show wtx d + 2 + wtxAll r ≤ (M + 2) * (r.length + 1)
    rw [Nat.mul_succ]
    omega
theorem depAll_all {M : Nat} : ∀ {ds : List PyData}, (∀ d ∈ ds, d.depth ≤ M) → PyData.depthAll ds ≤ M
  | [], _ => Nat.zero_le _
  | d :: r, h => by
    have a := h d (List.mem_cons_self ..)
    have b := depAll_all fun x hx => h x (List.mem_cons_of_mem _ hx)
    show max d.depth (PyData.depthAll r) ≤ M
    omega
theorem tmx_int {i : Int} (h : i.natAbs ≤ 1000000) : tmx (.int i) = true := decide_eq_true (Nat.lt_of_le_of_lt h (by decide +kernel))
def dkD (qs : List (Nat × Nat)) : PyData := .dict (((kvU qs).map fun q => keyD q.1).zip (qs.map fun p => .int (p.2 : Int)))
theorem dk_ok : ∀ {qs : List (Nat × Nat)}, (∀ p ∈ qs, p.1 ≤ 100000 ∧ p.2 ≤ 100000) → tmxKv (((kvU qs).map fun q => keyD q.1).zip (qs.map fun p => .int (p.2 : Int))) = true ∧
    PyData.depthKv (((kvU qs).map fun q => keyD q.1).zip (qs.map fun p => .int (p.2 : Int))) = 0 ∧ wtxKv (((kvU qs).map fun q => keyD q.1).zip (qs.map fun p => .int (p.2 : Int))) = 128 * qs.length
  | [], _ => ⟨rfl, rfl, rfl⟩
  | p :: r, h => by
    obtain ⟨a, b, c⟩ := dk_ok fun x hx => h x (List.mem_cons_of_mem _ hx)
    obtain ⟨h1, h2⟩ := h p (List.mem_cons_self ..)
    refine ⟨?_, ?_, ?_⟩
    · show (tmx (.int (p.1 : Int)) && (tmx (.int (p.2 : Int)) && tmxKv _)) = true
      rw [tmx_int (by omega), tmx_int (by omega)]
      exact a
    · show max (max 0 0) (PyData.depthKv _) = 0
      have b' : PyData.depthKv (((kvU r).map fun q => keyD q.1).zip (r.map fun p => .int (p.2 : Int))) = 0 := b
      exact (congrArg (max (max 0 0)) b').trans rfl
    · show 62 + 62 + 4 + wtxKv _ = 128 * (r.length + 1)
      have c' : wtxKv (((kvU r).map fun q => keyD q.1).zip (r.map fun p => .int (p.2 : Int))) = 128 * r.length := c
      exact (congrArg (62 + 62 + 4 + ·) c').trans (by omega)
theorem bgn_le {t : Str} {ts : List Tk3} (h : ∀ x ∈ ts, x.2.1 < t.length) (n : Nat) : bgn ts n ≤ t.length := by
  unfold bgn
  cases e : ts[n]? with
  | none => exact Nat.zero_le _
  | some x => exact Nat.le_of_lt (h x (List.mem_of_getElem? e))
theorem ft_ok {t : Str} {ts : List Tk3} (h : ∀ x ∈ ts, x.2.1 < t.length) (l : t.length ≤ 100000) {w : Str} (hw : w.length ≤ 5) (nw : Nice w) (n : Nat) : tmx (ftD t ts w n) = true ∧ (ftD t ts w n).depth ≤ 2 ∧ wtx (ftD t ts w n) ≤ 200 := by
  have b := bgn_le h n
  have a := line_le t.cps.toList (bgn ts n)
  have c := col_le t.cps.toList (bgn ts n)
  refine ⟨?_, Nat.le_refl _, ?_⟩
  · show (((tmx (.int (lineN t.cps.toList (bgn ts n) : Nat)) && (tmx (.int (colN t.cps.toList (bgn ts n) : Nat)) && true))) && (tmx (.str w) && true)) = true
    rw [tmx_int (by omega), tmx_int (by omega), show tmx (.str w) = true from nw.tame] <;> rfl
  · show (62 + 2 + (62 + 2 + 0) + 4) + 2 + ((10 * w.length + 2) + 2 + 0) + 4 ≤ 200
    omega
noncomputable def dueD (t : Str) (ts : List Tk3) : PyData := .tuple [dkD (prsS t ts), .tuple (fltD t ts)]
def dptD (t : Str) (ts : List Tk3) : PyData := .tuple ((List.range ts.length).map fun i => .int (dpt t ts i : Nat))
theorem due_ok {t : Str} {ts : List Tk3} (h : ∀ x ∈ ts, x.2.1 < t.length) (l : t.length ≤ 20000) (lt : ts.length ≤ 20000) : tmx (dueD t ts) = true ∧ (dueD t ts).depth ≤ 10 ∧ wtx (dueD t ts) ≤ 7000000 := by
  have PO := prs_ok t ts
  obtain ⟨a1, a2, a3⟩ := dk_ok (qs := prsS t ts) fun p hp => by
    have := PO.lt p hp
    omega
  have bi := bk_inv t ts ts.length
  have l2 := bi.l2
  have fm : ∀ d ∈ fltD t ts, tmx d = true ∧ d.depth ≤ 2 ∧ wtx d ≤ 200 := fun d hd => by
    have hd := (srtD_perm _).mem_iff.mp hd
    rcases List.mem_append.mp hd with hd | hd
    · obtain ⟨n, _, rfl⟩ := List.mem_map.mp hd
      exact ft_ok h (by omega) (by decide) (nice_of (by decide +kernel)) n
    · obtain ⟨n, _, rfl⟩ := List.mem_map.mp hd
      exact ft_ok h (by omega) (by decide) (nice_of (by decide +kernel)) n
  have fl : (fltD t ts).length ≤ 20000 := by
    rw [show (fltD t ts).length = _ from (srtD_perm _).length_eq, List.length_append, List.length_map, List.length_map]
    omega
  have b1 := tmxAll_all fun d hd => (fm d hd).1
  have b2 := depAll_all fun d hd => (fm d hd).2.1
  have b3 := wtxAll_all fun d hd => (fm d hd).2.2
  have le := PO.le
  refine ⟨?_, ?_, ?_⟩
  · show (tmxKv _ && (tmxAll (fltD t ts) && true)) = true
    rw [a1, b1] <;> rfl
  · show max (PyData.depthKv (((kvU (prsS t ts)).map fun q => keyD q.1).zip ((prsS t ts).map fun p => .int (p.2 : Int))) + 1) (max (PyData.depthAll (fltD t ts) + 1) 0) + 1 ≤ 10
    rw [a2]
    omega
  · show wtxKv (((kvU (prsS t ts)).map fun q => keyD q.1).zip ((prsS t ts).map fun p => .int (p.2 : Int))) + 4 + 2 + (wtxAll (fltD t ts) + 4 + 2 + 0) + 4 ≤ 7000000
    rw [a3]
    have : (200 + 2) * (fltD t ts).length ≤ 202 * 20000 := Nat.mul_le_mul_left _ fl
    omega
theorem cnt_le (P : Nat × Nat → Bool) (l : List (Nat × Nat)) : cnt P l ≤ l.length := List.length_filter_le _ _
theorem dpt_ok {t : Str} {ts : List Tk3} (lt : ts.length ≤ 20000) : tmx (dptD t ts) = true ∧ (dptD t ts).depth ≤ 10 ∧ wtx (dptD t ts) ≤ 2000000 := by
  have PO := prs_ok t ts
  have fm : ∀ d ∈ ((List.range ts.length).map fun i => PyData.int (dpt t ts i : Nat)), tmx d = true ∧ d.depth ≤ 0 ∧ wtx d ≤ 62 := fun d hd => by
    obtain ⟨n, _, rfl⟩ := List.mem_map.mp hd
    have := cnt_le (dIn n) (prsS t ts)
    have := PO.le
    refine ⟨tmx_int ?_, Nat.le_refl _, Nat.le_refl _⟩
    show (dpt t ts n : Int).natAbs ≤ _
    unfold dpt
    omega
  have b1 := tmxAll_all fun d hd => (fm d hd).1
  have b2 := depAll_all fun d hd => (fm d hd).2.1
  have b3 := wtxAll_all fun d hd => (fm d hd).2.2
  rw [List.length_map, List.length_range] at b3
  refine ⟨b1, ?_, ?_⟩
  · show PyData.depthAll _ + 1 ≤ 10
    omega
  · show wtxAll _ + 4 ≤ 2000000
    omega
theorem two_ok {a b : PyData} (h1 : tmx a = true ∧ a.depth ≤ 10 ∧ wtx a ≤ 7000000) (h2 : tmx b = true ∧ b.depth ≤ 10 ∧ wtx b ≤ 7000000) : OkX (.list [a, b]) := by
  refine ⟨?_, ?_, ?_⟩
  · show (tmx a && (tmx b && true)) = true
    rw [h1.1, h2.1] <;> rfl
  · show max a.depth (max b.depth 0) + 1 ≤ 60
    omega
  · show wtx a + 2 + (wtx b + 2 + 0) + 4 ≤ 16000000
    omega
theorem toks_ok {t : Str} (nt : Nice t) (l : t.length ≤ 20000) : tmx (.tuple ((cutB t 0).1.map (tkD t))) = true ∧ (PyData.tuple ((cutB t 0).1.map (tkD t))).depth ≤ 10 ∧ wtx (.tuple ((cutB t 0).1.map (tkD t))) ≤ 7000000 := by
  have B := bcut t
  have td : TD 4 (.tuple ((cutB t 0).1.map (tkD t))) := (TD.tup (m := 1) fun d hd => by
      obtain ⟨x, hx, rfl⟩ := List.mem_map.mp hd
      exact tk_td nt (by omega) (B.kt x hx)).up (by omega)
  obtain ⟨c1, c2⟩ := tmx_of _ td.1
  have a := wtAll_le (f := tkD t) (g := fun x => 10 * (sl t x.2).length + 146) (l := (cutB t 0).1) fun x hx => by
    have := (B.kt x hx).1.1
    show (10 * x.1.length + 2) + 2 + ((10 * (sl t x.2).length + 2) + 2 + (32 + 2 + 0)) + 4 ≤ 10 * (sl t x.2).length + 146
    omega
  rw [sum_lin] at a
  have d1 := B.tl
  have d3 := B.tt
  have c2 : wtx (.tuple ((cutB t 0).1.map (tkD t))) ≤ 2 * (wtAll ((cutB t 0).1.map (tkD t)) + 4) := c2
  exact ⟨c1, Nat.le_trans td.2 (by decide), by omega⟩
/-- pairs and faults, as they stand -/
structure Due (H : Hp) (t : Str) (ts : List Tk3) (q d e : Addr) (es : List V) : Prop where
  hq : H q = some (.tup [.ref d, .ref e])
  hd : H d = some (.dK (kvU (prsS t ts)))
  he : H e = some (.tup es)
  te : TrAll H es (fltD t ts)
theorem Due.same {H H' : Hp} {t : Str} {ts : List Tk3} {q d e : Addr} {es : List V} (D : Due H t ts q d e es) (s : Same H H') : Due H' t ts q d e es := ⟨s _ _ D.hq, s _ _ D.hd, s _ _ D.he, D.te.keep (Tk.of s)⟩
theorem Due.dx {K : PySem.W.Frag} {H : Hp} {t : Str} {ts : List Tk3} {q d e : Addr} {es : List V} (D : Due H t ts q d e es) : Dx K H (.ref q) (dueD t ts) := by
  have vals : ∀ l : List (Nat × Nat), DxAll K H ((kvU l).map (·.2)) (l.map fun p => .int (p.2 : Int)) := fun l => by
    induction l with
    | nil => exact .nil
    | cons a r ih => exact .cons (.int _) ih
  exact .tup (SqT.of D.hq) (.cons (.dic (.inl D.hd) (kvU_nodup (prs_ok t ts).kn) (vals _)) (.cons (.tup (SqT.of D.he) (Vf.DpAll.dx D.te.dp)) .nil))
theorem dpt_dx {K : PySem.W.Frag} {H : Hp} {t : Str} {ts : List Tk3} {q : Addr} (h : H q = some (.tup ((List.range ts.length).map fun i => V.int (dpt t ts i)))) : Dx K H (.ref q) (dptD t ts) := by
  have vals : ∀ l : List Nat, DxAll K H (l.map fun i => V.int (dpt t ts i)) (l.map fun i => PyData.int (dpt t ts i : Nat)) := fun l => by
    induction l with
    | nil => exact .nil
    | cons a r ih => exact .cons (.int _) ih
  exact .tup (SqT.of h) (vals _)
theorem cnt_snoc {P : Nat × Nat → Bool} {l : List (Nat × Nat)} {j : Nat} {p : Nat × Nat} (h : l[j]? = some p) : cnt P (l.take (j + 1)) = cnt P (l.take j) + (if P p = true then 1 else 0) := by
  unfold cnt
  rw [List.take_add_one, h, List.filter_append, List.length_append]
  congr 1
  show (List.filter P [p]).length = _
  rw [List.filter_cons]
  split <;> rfl

/-! ### how deep each word stands: the law's -/
theorem depth_rd {K : PySem.W.Frag} {w0 w1 w2 w3 w4 w5 w6 w8 w9 w10 w11 w12 w13 w14 : Option V} {H : Hp} {Q : VK} {x : Str} {p q d e : Addr} {xs es : List V} {ts : List Tk3} {j : Nat} (TK : Toks H x p xs ts) (D : Due H x ts q d e es)
    (hj : [w0, w1, w2, w3, w4, w5, w6, some (V.ref q), w8, w9, w10, w11, w12, w13, w14][j]? = some (some (.ref p)))
    (k : ∀ (L : Addr) (H' : Hp), Same H H' → H L = none → H' L = some (.lst ((List.range ts.length).map fun i => V.int (dpt x ts i))) → Q (.ref L) H') :
    tLc (iRng1 (tCons (tCB (rLenK K) (tCons (tVar j) tNil)) tNil)) (gName 11) tYes (tCB (rLenK K) (tCons (tLockE (tLc (iKeys (tOp (rIxT K) (tVar 7) (tC (V.int 0)))) (gName 14)
      (tTest (tChain (rI0 fun i j => V.bl (decide (i ≤ j))) (rI0 fun i j => V.bl (decide (i ≤ j))) (tVar 14) (tVar 11) (tDGet (tOp (rIxT K) (tVar 7) (tC (V.int 0))) (tVar 14)))) (tC (V.int 1)) [14])) tNil)) [11]
      [w0, w1, w2, w3, w4, w5, w6, some (V.ref q), w8, w9, w10, w11, w12, w13, w14] H Q := by
  have lz : ∀ {n : Nat}, n ≤ 100000 → n < sizeLine := fun h => Nat.lt_of_le_of_lt h (by decide)
  have lx := TK.lx
  have ltt := TK.lt
  have PO := prs_ok x ts
  have hd := D.hd
  have hq := D.hq
  unfold dpt at k
  generalize prsS x ts = qs at hd k PO
  have lq := PO.le
  refine ⟨_, hj, _, xs.length, rfl, .inr ⟨_, SqT.of TK.hp, rfl⟩, _, rfl, by omega, by omega, fun L hL => ?_⟩
  refine lc_range (lo := 0) (n := ((xs.length : Nat) : Int).toNat) (fun i H' => Same H H' ∧ H' L = some (.lst ((List.range i).map fun n => V.int (cnt (dIn n) qs)))) ⟨same_new hL, upd_same⟩ ?_ ?_
  · rintro i H1 hi ⟨s1, L1⟩
    have d1 := s1 _ _ hd
    have q1 := s1 _ _ hq
    refine ⟨rfl, d, _, d1, trivial, fun od => ?_⟩
    have e0 : (0 : Int) + (i : Nat) = ((i : Nat) : Int) := Int.zero_add _
    rw [e0]
    have nqd : q ≠ d := fun z => by
      rw [z, d1] at q1
      cases q1
    have q2 : (upd H1 d (.frz od (.dK (kvU qs)))) q = some (.tup [.ref d, .ref e]) := by rw [upd_ne nqd]; exact q1
    refine ⟨_, rfl, q, _, _, _, rfl, rfl, SqT.of q2, atI_nat (j := 0) rfl, d, od, rfl, .inl ⟨kvU qs, upd_same, fun D2 hD2 => ?_⟩⟩
    have nD : D2 ≠ d := fun z => by rw [z, upd_same] at hD2; cases hD2
    have nq : D2 ≠ q := fun z => by rw [z, q2] at hD2; cases hD2
    have hD1 : H1 D2 = none := by rw [upd_ne nD] at hD2; exact hD2
    refine lc_it (walk_keys (d := d) (o := od) (kvs := kvU qs)) (fun m H' => Fr d H1 H' ∧ H' d = some (.frz od (.dK (kvU qs))) ∧ H' q = some (.tup [.ref d, .ref e]) ∧ H' D2 = some (.lst (List.replicate (cnt (dIn i) (qs.take m)) (V.int 1))))
      ⟨((Fr.refl d H1).at).put hD1, by rw [upd_ne (Ne.symm nD), upd_same], by rw [upd_ne (Ne.symm nq)]; exact q2, upd_same⟩ (fun m H' _ ⟨_, h, _⟩ => h) ?_ ?_
    · rintro m y H2 H3 hm ⟨f2, d2, q3, D3⟩ ⟨rfl, kk, v, hx, rfl⟩
      unfold kvU at hx
      rw [List.getElem?_map] at hx
      obtain ⟨pr, hpr, e1⟩ := Option.map_eq_some_iff.mp hx
      cases e1
      have hmem := List.mem_of_getElem? hpr
      have hv : valV (kvU qs) (.inl (pr.1 : Int)) = some (.int (pr.2 : Int)) := valV_mem (kvU_nodup PO.kn) (List.mem_map.mpr ⟨pr, hmem, rfl⟩)
      have cs := cnt_snoc (P := dIn i) hpr
      have cl := cnt_le (dIn i) (qs.take m)
      rw [List.length_take] at cl
      have no : ¬ dIn i pr = true → Fr d H1 H3 ∧ H3 d = some (.frz od (.dK (kvU qs))) ∧ H3 q = some (.tup [.ref d, .ref e]) ∧ H3 D2 = some (.lst (List.replicate (cnt (dIn i) (qs.take (m + 1))) (V.int 1))) := fun z => by
        rw [if_neg z] at cs
        exact ⟨f2, d2, q3, by rw [cs]; exact D3⟩
      refine ⟨rfl, _, rfl, _, rfl, _, _, rfl, rfl, _, rfl, ite2 (fun h1 => ?_) (fun h1 => ?_)⟩
      · have h1 := of_decide_eq_true h1
        refine ⟨_, rfl, q, _, _, _, rfl, rfl, SqT.of q3, atI_nat (j := 0) rfl, _, rfl, d, .int (pr.2 : Int), rfl, .inl ⟨_, .inl (pr.1 : Int), .inr ⟨od, d2⟩, rfl, hv.symm⟩, _, _, rfl, rfl, _, rfl, ite2 (fun h2 => ?_) (fun h2 => ?_)⟩
        · have h2 := of_decide_eq_true h2
          refine ⟨_, D3, lz (by rw [List.length_replicate]; omega), f2.put hD1, by rw [upd_ne (Ne.symm nD)]; exact d2, by rw [upd_ne (Ne.symm nq)]; exact q3, ?_⟩
          rw [upd_same, cs, if_pos (dIn_iff.mpr (by omega))]
          exact congrArg (fun l => some (HO.lst l)) (List.replicate_succ' (n := cnt (dIn i) (qs.take m)) (a := V.int 1)).symm
        · exact no fun z => h2 (decide_eq_true (by have := dIn_iff.mp z; omega))
      · refine ⟨_, rfl, iteF (no fun z => h1 (decide_eq_true (by have := dIn_iff.mp z; omega)))⟩
    · rintro H2 ⟨f2, d2, q3, D3⟩
      rw [show (kvU qs).length = qs.length by unfold kvU; rw [List.length_map], List.take_length] at D3
      have s2 : Same H1 (upd H2 d (.dK (kvU qs))) := fun b o hb => by
        by_cases z : b = d
        · subst z
          rw [d1] at hb
          rw [upd_same, ← hb]
        · rw [upd_ne z]
          exact f2 b o z hb
      have D4 : (upd H2 d (.dK (kvU qs))) D2 = some (.lst (List.replicate (cnt (dIn i) qs) (V.int 1))) := by rw [upd_ne nD]; exact D3
      refine ⟨d2, _, _, rfl, .inl ⟨_, SqL.of D4, rfl⟩, ?_⟩
      generalize upd H2 d (.dK (kvU qs)) = H4 at s2 D4 ⊢
      refine ⟨_, s2 _ _ L1, lz (by rw [List.length_map, List.length_range]; omega), same_put (s1.trans s2) hL, ?_⟩
      rw [upd_same, List.range_succ, List.map_append, List.length_replicate]
      rfl
  · rintro H1 ⟨s1, L1⟩
    rw [Int.toNat_natCast, lx] at L1
    exact k L H1 s1 hL L1

open LamX (CodeO TabS Tabs ExtN TabB)
def spLaw5k (K : PySem.W.Frag) (Tl : List (Addr × Str)) : Sp := fun vs H Q _ => ∃ (a : Addr) (ns : List Int), vs = [.ref a] ∧ SqL K H a (ns.map V.int) ∧ ns.length ≤ 63 ∧ Tabs Tl H ∧ ∀ H', Q (.bl true) H'
theorem c_l_alike (T : Txt K mg w) (sb : ∃ o, base.get? sysModules = some o ∧ o.cls = .type "dict") : CalG P w K mg base 1 "_law_alike" (spAlikeX K) := by
  refine calGOf T.d_l_alike sc_l_alike (fun vs H Q E h => ?_) (fun f cdv A outer s H vs Q E hr gd h => ?_)
  · obtain ⟨a, b, d, rfl, _⟩ := h
    rfl
  · obtain ⟨a, b, d, rfl, ha, hb, ok, k⟩ := h
    refine ⟨_,
      (pss_one (ps_ret (pe_and (pe_cmpR (op_eqX hr.units) (pv 0) (pv 1) (nomark _)) (pe_one (pe_cmpR op_eq (pe_callB (call_reprO (u65 hr) gd sb) (by rfl) T.n_repr (by decide +kernel) (pa_cons (pv 0) pa_nil)) (pe_callB (call_reprO (u65 hr) gd sb) (by rfl) T.n_repr (by decide +kernel) (pa_cons (pv 1) pa_nil)) (nomark _))))))
      , ?_⟩
    refine ⟨_, rfl, _, rfl, a, b, d, rfl, rfl, ha, hb, ok.dp, _, rfl, ?_⟩
    refine iteT ⟨_, rfl, a, d, rfl, ha, ok, _, rfl, b, d, rfl, hb, ok, rfl, ?_⟩
    rw [decide_eq_true rfl]
    exact k H (Same.refl H)
def bareB (x : Tk3) : Bool := !inV (.str x.1) [.str "line", .str "block"]
theorem filter_snoc {α : Type} {f : α → Bool} {l : List α} {j : Nat} {p : α} (h : l[j]? = some p) : (l.take (j + 1)).filter f = (l.take j).filter f ++ (if f p = true then [p] else []) := by
  rw [List.take_add_one, h, List.filter_append]
  congr 1
  show List.filter f [p] = _
  rw [List.filter_cons]
  split <;> rfl
def signs9 : List Str := ["(", ")", "[", "]", "{", "}", "a ", "\n", "#)\n"]
theorem signs9_ok : ∀ x ∈ signs9, x.length ≤ 3 ∧ Nice x := by
  intro x hx
  refine ⟨?_, nice_of ?_⟩
  · revert x
    decide +kernel
  · revert x
    decide +kernel
theorem fn_law5k (T : Txt K mg w) {f : Addr} {fd : FuncData} {Tl : List (Addr × Str)} (F : Fun K "law" "law" s_p_law f fd)
    (c_l_bag : Cal P w K mg base 1 "_law_bag" (spBag K) []) (c_l_take : Cal P w K mg base 1 "_law_take" spTake []) (c_l_one : Cal P w K mg base 2 "_law_one" (spOne K) []) (c_l_some_text : Cal P w K mg base 27 "_law_some_text" (spSom Tl) [])
    (c_l_hurt : Cal P w K mg base 3 "_law_hurt" (spHurt 90000) []) (c_l_alike : CalG P w K mg base 1 "_law_alike" (spAlikeX K)) (c_p_cut : Cal P w K mg base 4 "cut" spCut2 []) (c_l_cut_all : Cal P w K mg base 5 "_law_cut_all" (spCutA K Tl) [])
    (c_p_paired : Cal P w K mg base 2 "paired" spPr5 []) (c_p_deep_at : Cal P w K mg base 3 "deep_at" spDeep []) (c_l_paired : Cal P w K mg base 2 "_law_paired" spLp5 []) :
    FnG P w K mg base 28 f fd ["_law_script"] (spLaw5k K Tl) := by
  refine fnG_of F sc_p_law (fun vs H Q E h => ?_) (fun cdv A outer s H vs Q E hr gd h => ?_)
  · obtain ⟨a, ns, rfl, _⟩ := h
    rfl
  · obtain ⟨a, ns, rfl, hq, hl, T0, k⟩ := h
    have hu := u1 hr
    refine ⟨_,
      (pss_cons (ps_set (i := 1) sc_p_law.nd rfl (Or.inr rfl) (pe_c c_l_bag hr (by first | decide | omega) rfl (pa_cons (pv 0) pa_nil)))
        (pss_cons (ps_for PassesOwn.never rfl (pi_range1 (by rfl) T.n_range (pa_cons pe_int pa_nil)) (pg_name (i := 2) sc_p_law.nd rfl (Or.inl rfl))
        (Evl.pss_cut (ps_set (i := 3) sc_p_law.nd rfl (Or.inl rfl) (pe_ix ix_tup (pe_c c_l_some_text hr (by first | decide | omega) rfl (pa_cons (pv 1) (pa_cons pe_int pa_nil))) pe_int (fun _ _ => rfl)))
        (Evl.pss_cut (ps_if (pt_cmpR op_eq (pe_op op_mod (pv 2) pe_int) pe_int (nomark _))
        (pss_cons (ps_set (i := 4) sc_p_law.nd rfl (Or.inr rfl) (pe_lst (pa_cons pe_str (pa_cons pe_str (pa_cons pe_str (pa_cons pe_str (pa_cons pe_str (pa_cons pe_str (pa_cons pe_str (pa_cons pe_str (pa_cons pe_str pa_nil)))))))))))
        (pss_one (ps_set (i := 3) sc_p_law.nd rfl (Or.inl rfl) (pe_join pe_str (pe_lc (own := [("_law_k", 13)]) (g := gName 13) (tt := tYes) rfl sc_p_law.nd (pi_range1 (by rfl) T.n_range (pa_cons (pe_c c_l_take hr (by first | decide | omega) rfl (pa_cons (pv 1) (pa_cons pe_int pa_nil))) pa_nil)) (blkOk_by (N := ["_law_script", "_law_bag_here", "_law_turn", "_law_text", "_law_signs", "_law_again", "_law_tokens", "_law_due", "_law_told", "_law_depth", "_law_bare", "_law_at", "_law_token", "_law_k", "_law_one_here"]) (sc := defScope s_p_law) (by decide +kernel)) (fun _ _ _ _ _ => pg_name (i := 13) sc_p_law.nd rfl (Or.inl rfl)) (fun _ _ _ _ _ => pts_nil) (fun _ _ _ _ _ => (pe_c c_l_one hr (by first | decide | omega) rfl (pa_cons (pv 1) (pa_cons (pv 4) pa_nil)))))))))
        pss_nil)
        (Evl.pss_cut (ps_for PassesOwn.never rfl (pi_range1 (by rfl) T.n_range (pa_cons (pe_c c_l_take hr (by first | decide | omega) rfl (pa_cons (pv 1) (pa_cons pe_int pa_nil))) pa_nil)) (pg_name (i := 5) sc_p_law.nd rfl (Or.inl rfl))
        (pss_one (ps_set (i := 3) sc_p_law.nd rfl (Or.inl rfl) (pe_c c_l_hurt hr (by first | decide | omega) rfl (pa_cons (pv 1) (pa_cons (pv 3) pa_nil))))))
        (pss_cons (ps_set (i := 6) sc_p_law.nd rfl (Or.inl rfl) (pe_ix ix_tup (pe_c c_l_cut_all hr (by first | decide | omega) rfl (pa_cons (pv 3) pa_nil)) pe_int (fun _ _ => rfl)))
        (pss_cons (ps_set (i := 7) sc_p_law.nd rfl (Or.inr rfl) (pe_c c_l_paired hr (by first | decide | omega) rfl (pa_cons (pv 3) (pa_cons (pv 6) pa_nil))))
        (pss_cons (ps_set (i := 8) sc_p_law.nd rfl (Or.inl rfl) (pe_c c_p_paired hr (by first | decide | omega) rfl (pa_cons (pv 3) (pa_cons (pv 6) pa_nil))))
        (pss_cons (ps_if (pt_not (pt_val (pe_cG c_l_alike (hr.mono (by decide)) gd rfl (pa_cons (pe_lst (pa_cons (pe_ix ix_tup (pe_c c_p_cut hr (by first | decide | omega) rfl (pa_cons (pv 3) pa_nil)) pe_int (fun _ _ => rfl)) (pa_cons (pv 8) pa_nil))) (pa_cons (pe_lst (pa_cons (pv 6) (pa_cons (pv 7) pa_nil))) pa_nil)))))
        (pss_one (ps_ret pe_bl))
        pss_nil)
        (pss_cons (ps_setLc (i := 9) (own := [("_law_at", 11)]) (g := gName 11) (tt := tYes) rfl sc_p_law.nd rfl rfl (sw_true rfl rfl rfl (by decide +kernel)) (pi_range1 (by rfl) T.n_range (pa_cons (pe_callB call_len (by rfl) T.n_len PySem.boot_len (pa_cons (pv 6) pa_nil)) pa_nil)) (blkOk_by (N := ["_law_script", "_law_bag_here", "_law_turn", "_law_text", "_law_signs", "_law_again", "_law_tokens", "_law_due", "_law_told", "_law_depth", "_law_bare", "_law_at", "_law_token", "_law_k", "_law_one_here"]) (sc := defScope s_p_law) (by decide +kernel)) (fun _ _ _ _ _ => pg_name (i := 11) sc_p_law.nd rfl (Or.inr rfl)) (fun _ _ _ _ _ => pts_nil) (fun _ _ _ _ _ => (pe_callB (show CallR _ (.builtin "len") (rLenK K) from call_len) (by rfl) T.n_len PySem.boot_len (pa_cons (pe_lock (pe_lc (own := [("_law_one_here", 14)]) (g := gName 14) rfl sc_p_law.nd (pi_keys (pe_ix (show IxR _ (rIxT K) from ix_tup) (pv 7) pe_int (fun _ _ => rfl))) (blkOk_by (by first | kernel_rfl | with_unfolding_all rfl)) (fun _ _ _ _ _ => pg_name (i := 14) sc_p_law.nd rfl (Or.inl rfl)) (fun _ _ _ _ _ => (pts_one (pt_chain op_le op_le (pv 14) (pv 11) (pe_dget hu (pe_ix (show IxR _ (rIxT K) from ix_tup) (pv 7) pe_int (fun _ _ => rfl)) (pv 14) (fun _ _ => rfl))))) (fun _ _ _ _ _ => pe_int))) pa_nil))))
        (pss_cons (ps_dput hu (pe_ix ix_tup (pv 8) pe_int (fun _ _ => rfl)) (pe_un un_neg pe_int) pe_int rfl)
        (pss_cons (ps_if (pt_not (pt_val (pe_cG c_l_alike (hr.mono (by decide)) gd rfl (pa_cons (pe_lst (pa_cons (pe_c c_p_deep_at hr (by first | decide | omega) rfl (pa_cons (pv 3) (pa_cons (pv 6) pa_nil))) (pa_cons (pe_c c_p_paired hr (by first | decide | omega) rfl (pa_cons (pv 3) (pa_cons (pv 6) pa_nil))) pa_nil))) (pa_cons (pe_lst (pa_cons (pe_callTy call_tuple_of (by rfl) T.n_tuple (by decide +kernel) (pa_cons (pv 9) pa_nil)) (pa_cons (pv 7) pa_nil))) pa_nil)))))
        (pss_one (ps_ret pe_bl))
        pss_nil)
        (pss_cons (ps_set (i := 10) sc_p_law.nd rfl (Or.inl rfl) (pe_callTy call_tuple_of (by rfl) T.n_tuple (by decide +kernel) (pa_cons (pe_lc (own := [("_law_token", 12)]) (g := gName 12) rfl sc_p_law.nd (pi_tup (pv 6)) (blkOk_by (N := ["_law_script", "_law_bag_here", "_law_turn", "_law_text", "_law_signs", "_law_again", "_law_tokens", "_law_due", "_law_told", "_law_depth", "_law_bare", "_law_at", "_law_token", "_law_k", "_law_one_here"]) (sc := defScope s_p_law) (by decide +kernel)) (fun _ _ _ _ _ => pg_name (i := 12) sc_p_law.nd rfl (Or.inl rfl)) (fun _ _ _ _ _ => (pts_one (pt_cmpR (show OpR _ (compareOp .NotIn) (rIn K true) from op_notIn_seq) (pe_ix (show IxR _ (rIxT K) from ix_tup) (pv 12) pe_int (fun _ _ => rfl)) (pe_tup (pa_cons pe_str (pa_cons pe_str pa_nil))) (by rfl)))) (fun _ _ _ _ _ => (pv 12))) pa_nil)))
        (pss_cons (ps_set (i := 7) sc_p_law.nd rfl (Or.inr rfl) (pe_c c_l_paired hr (by first | decide | omega) rfl (pa_cons (pv 3) (pa_cons (pv 10) pa_nil))))
        (pss_cons (ps_setLc (i := 9) (own := [("_law_at", 11)]) (g := gName 11) (tt := tYes) rfl sc_p_law.nd rfl rfl (sw_true rfl rfl rfl (by decide +kernel)) (pi_range1 (by rfl) T.n_range (pa_cons (pe_callB call_len (by rfl) T.n_len PySem.boot_len (pa_cons (pv 10) pa_nil)) pa_nil)) (blkOk_by (N := ["_law_script", "_law_bag_here", "_law_turn", "_law_text", "_law_signs", "_law_again", "_law_tokens", "_law_due", "_law_told", "_law_depth", "_law_bare", "_law_at", "_law_token", "_law_k", "_law_one_here"]) (sc := defScope s_p_law) (by decide +kernel)) (fun _ _ _ _ _ => pg_name (i := 11) sc_p_law.nd rfl (Or.inr rfl)) (fun _ _ _ _ _ => pts_nil) (fun _ _ _ _ _ => (pe_callB (show CallR _ (.builtin "len") (rLenK K) from call_len) (by rfl) T.n_len PySem.boot_len (pa_cons (pe_lock (pe_lc (own := [("_law_one_here", 14)]) (g := gName 14) rfl sc_p_law.nd (pi_keys (pe_ix (show IxR _ (rIxT K) from ix_tup) (pv 7) pe_int (fun _ _ => rfl))) (blkOk_by (by first | kernel_rfl | with_unfolding_all rfl)) (fun _ _ _ _ _ => pg_name (i := 14) sc_p_law.nd rfl (Or.inl rfl)) (fun _ _ _ _ _ => (pts_one (pt_chain op_le op_le (pv 14) (pv 11) (pe_dget hu (pe_ix (show IxR _ (rIxT K) from ix_tup) (pv 7) pe_int (fun _ _ => rfl)) (pv 14) (fun _ _ => rfl))))) (fun _ _ _ _ _ => pe_int))) pa_nil))))
        (pss_one (ps_if (pt_not (pt_val (pe_cG c_l_alike (hr.mono (by decide)) gd rfl (pa_cons (pe_lst (pa_cons (pe_c c_p_paired hr (by first | decide | omega) rfl (pa_cons (pv 3) (pa_cons (pv 10) pa_nil))) (pa_cons (pe_c c_p_deep_at hr (by first | decide | omega) rfl (pa_cons (pv 3) (pa_cons (pv 10) pa_nil))) pa_nil))) (pa_cons (pe_lst (pa_cons (pv 7) (pa_cons (pe_callTy call_tuple_of (by rfl) T.n_tuple (by decide +kernel) (pa_cons (pv 9) pa_nil)) pa_nil))) pa_nil)))))
        (pss_one (ps_ret pe_bl))
        pss_nil))))))))))))))))
        (pss_one (ps_ret pe_bl))))
      , ?_⟩
    have lz : ∀ {n : Nat}, n ≤ 100000 → n < sizeLine := fun h => Nat.lt_of_le_of_lt h (by decide)
    refine ⟨_, rfl, a, ns, rfl, hq, hl, fun g H0 s0 B0 => ?_⟩
    have T1 := Tabs.same T0 s0
    refine ⟨6, rfl, by decide, by decide, ?_⟩
    refine for_range (lo := 0) (n := 6) (fun i σ H' => ∃ (w2 w3 w4 w5 w6 w7 w8 w9 w10 w11 w12 w13 w14 : Option V) (c e : Int), σ = [some (.ref a), some (.ref g.b), w2, w3, w4, w5, w6, w7, w8, w9, w10, w11, w12, w13, w14] ∧ Bag H' g c e ∧ 0 ≤ c ∧ c ≤ 12 ∧ Tabs Tl H') ⟨none, none, none, none, none, none, none, none, none, none, none, none, none, 0, 0, rfl, B0, by decide, by decide, T1⟩ ?_ ?_
    · rintro i σ H1 hi ⟨w2, w3, w4, w5, w6, w7, w8, w9, w10, w11, w12, w13, w14, c, e, rfl, B1, c0, c12, T1⟩
      refine ⟨fun σ' H' => ∃ (x : Str) (w4 w5 w6 w7 w8 w9 w10 w11 w12 w13 w14 : Option V) (c e : Int), σ' = [some (.ref a), some (.ref g.b), some (.int (0 + (i : Nat))), some (.str x), w4, w5, w6, w7, w8, w9, w10, w11, w12, w13, w14] ∧ Bag H' g c e ∧ 0 ≤ c ∧ c ≤ 12 ∧ Tabs Tl H' ∧ x.length ≤ 15000 ∧ Nice x, ?_, ?_⟩
      · refine ⟨_, rfl, g, 3, c, e, rfl, by decide, B1, c0, c12, T1, fun p t v2' v3' H3 c3 e3 lt nt hp c30 c312 K3 => ?_⟩
        exact ⟨p, _, _, _, rfl, rfl, SqT.of hp, atI_nat (j := 0) rfl, t, _, _, _, _, _, _, _, _, _, _, _, c3, e3, rfl, K3.bag, c30, c312, K3.tb, lt, nt⟩
      clear T1 B1 c0 c12 c e w4 w5 w6 w7 w8 w9 w10 w11 w12 w13 w14
      rintro σ' H2 ⟨x, w4, w5, w6, w7, w8, w9, w10, w11, w12, w13, w14, c, e, rfl, B2, c0, c12, T2, lx, nx⟩
      refine ⟨fun σ' H' => ∃ (x : Str) (w4 w5 w6 w7 w8 w9 w10 w11 w12 w13 w14 : Option V) (c e : Int), σ' = [some (.ref a), some (.ref g.b), some (.int (0 + (i : Nat))), some (.str x), w4, w5, w6, w7, w8, w9, w10, w11, w12, w13, w14] ∧ Bag H' g c e ∧ 0 ≤ c ∧ c ≤ 12 ∧ Tabs Tl H' ∧ x.length ≤ 15000 ∧ Nice x, ?_, ?_⟩
      · refine ⟨_, rfl, _, _, rfl, rfl, (by walk_at "side"), rfl, _, rfl, ite2 (fun _ => ?_) (fun _ => ?_)⟩
        · refine ⟨by decide, fun ps hps => ?_⟩
          have nps := B2.ne_new hps
          generalize hH : upd H2 ps _ = H3
          have aps : H3 ps = some (.lst (signs9.map V.str)) := by
            rw [← hH]
            exact upd_same
          have B3 : Bag H3 g c e := by
            rw [← hH]
            exact B2.new hps
          have T3 : Tabs Tl H3 := by
            rw [← hH]
            exact Tabs.same T2 (same_new hps)
          refine ⟨⟨_, rfl⟩, _, rfl, g, 16, c, e, rfl, B3, by decide, by decide, fun r H4 r0 r1 D4 => ⟨_, rfl, by omega, by omega, fun D hD => ?_⟩⟩
          have nD4 := D4.bag.ne_new hD
          refine lc_range (lo := 0) (n := r.toNat) (fun j H' => ∃ l : List Str, (∀ y ∈ l, y ∈ signs9) ∧ l.length = j ∧ H' D = some (.lst (l.map V.str)) ∧ Drawn g H4 H' c e) ⟨[], by simp, rfl, upd_same, (Drawn.of D4.bag).put D4.bag hD⟩ ?_ ?_
          · rintro j H' hj ⟨l, hl, ll, hd, Dw⟩
            refine ⟨rfl, _, rfl, _, rfl, g, .ref ps, c, e, rfl, Dw.bag, .inl ⟨ps, _, rfl, .inl (SqL.of (Dw.keep nps (D4.keep nps aps))), nps, by decide, by decide, fun v H6 hv D6 => ?_⟩⟩
            obtain ⟨z, hz, rfl⟩ := strs_in hv
            refine ⟨_, D6.keep nD4 hd, lz (by rw [List.length_map]; omega), l ++ [z], fun y hy => ?_, ?_, ?_, (Dw.trans D6).put D4.bag hD⟩
            · rcases List.mem_append.mp hy with h | h
              · exact hl y h
              · rw [List.mem_singleton.mp h]
                exact hz
            · rw [List.length_append, ll] <;> rfl
            · rw [upd_same, List.map_append] <;> rfl
          · rintro H5 ⟨l, hl, ll, hd, Dw⟩
            have sm := sum_le fun y hy => (signs9_ok y (hl y hy)).1
            refine ⟨_, D, l, rfl, rfl, .inl (SqL.of hd), ?_, ?_⟩
            · show _ + _ * 0 ≤ _
              omega
            refine ⟨Txt.join "" l, _, _, _, _, _, _, _, _, _, _, _, c, e, rfl, Dw.bag, c0, c12, ((Kp.refl B3 T3).drawn D4 |>.drawn Dw).tb, ?_, Nice.glue fun y hy => (signs9_ok y (hl y hy)).2⟩
            rw [glue_len]
            omega
        · exact ⟨x, _, _, _, _, _, _, _, _, _, _, _, c, e, rfl, B2, c0, c12, T2, lx, nx⟩
      clear B2 T2 c0 c12 c e w4 w5 w6 w7 w8 w9 w10 w11 w12 w13 w14 lx nx x
      rintro σ' H3 ⟨x, w4, w5, w6, w7, w8, w9, w10, w11, w12, w13, w14, c, e, rfl, B3, c0, c12, T3, lx, nx⟩
      refine ⟨fun σ' H' => ∃ (x : Str) (w4 w5 w6 w7 w8 w9 w10 w11 w12 w13 w14 : Option V) (c e : Int), σ' = [some (.ref a), some (.ref g.b), some (.int (0 + (i : Nat))), some (.str x), w4, w5, w6, w7, w8, w9, w10, w11, w12, w13, w14] ∧ Bag H' g c e ∧ 0 ≤ c ∧ c ≤ 12 ∧ Tabs Tl H' ∧ x.length ≤ 20000 ∧ Nice x, ?_, ?_⟩
      · refine ⟨_, rfl, g, 3, c, e, rfl, B3, by decide, by decide, fun r H4 r0 r1 D4 => ?_⟩
        have T4 := ((Kp.refl B3 T3).drawn D4).tb
        refine ⟨_, rfl, by omega, by omega, ?_⟩
        refine for_range (lo := 0) (n := r.toNat) (fun j σ' H' => ∃ (x : Str) (w5 : Option V), σ' = [some (.ref a), some (.ref g.b), some (.int (0 + (i : Nat))), some (.str x), w4, w5, w6, w7, w8, w9, w10, w11, w12, w13, w14] ∧ Bag H' g c e ∧ Tabs Tl H' ∧ x.length ≤ 15000 + 8 * j ∧ Nice x) ⟨x, w5, rfl, D4.bag, T4, by omega, nx⟩ ?_ ?_
        · rintro j σ' H4 hj ⟨x, w5, rfl, B4, T4, lx, nx⟩
          refine ⟨_, rfl, _, rfl, g, x, c, e, rfl, B4, by omega, nx, fun z H5 lz nz D5 => ?_⟩
          exact ⟨z, _, rfl, D5.bag, ((Kp.refl B4 T4).drawn D5).tb, by omega, nz⟩
        · rintro σ' H4 ⟨x, w5, rfl, B4, T4, lx, nx⟩
          exact ⟨x, _, _, _, _, _, _, _, _, _, _, _, c, e, rfl, B4, c0, c12, T4, by omega, nx⟩
      clear B3 T3 c e w4 w5 w6 w7 w8 w9 w10 w11 w12 w13 w14 lx nx x c0 c12
      rintro σ' H4 ⟨x, w4, w5, w6, w7, w8, w9, w10, w11, w12, w13, w14, c, e, rfl, B4, c0, c12, T4, lx, nx⟩
      refine ⟨_, rfl, x, rfl, by omega, T4, fun p0 H5 x5 T5 t5 => ?_⟩
      have B5 := Bag.ext B4 x5
      obtain ⟨_, ys, e0, hp0, ty⟩ := t_tup (show Tr H5 (.ref p0) (.tuple [.tuple ((cutB x 0).1.map (tkD x)), .tuple ((cutB x 0).2.map (flD x))]) from t5)
      cases e0
      obtain ⟨y1, y2, rfl, ty1, ty2⟩ := ta2 ty
      obtain ⟨p, xs, rfl, hp, tr⟩ := t_tup ty1
      refine ⟨p0, _, _, _, rfl, rfl, SqT.of hp0, atI_nat (j := 0) rfl, ?_⟩
      have BC := bcut x
      have tl1 := BC.tl
      have TK5 : Toks H5 x p xs (cutB x 0).1 := ⟨hp, tr, fun y hy => (cut_kd x y hy).2, by omega, by omega⟩
      have okt := toks_ok nx lx
      have KD : ∀ y ∈ (cutB x 0).1, KdP y.1 (sl x y.2) := fun y hy => (cut_kd x y hy).1
      have okd := due_ok (fun y hy => (cut_kd x y hy).2) lx (show (cutB x 0).1.length ≤ 20000 by omega)
      have okp := dpt_ok (t := x) (show (cutB x 0).1.length ≤ 20000 by omega)
      have tok8 : ∀ {H8 : Hp} {c8 : Addr}, Tr H8 (.ref c8) (allD x) → ∃ (c9 : Addr) (y2 : V), H8 c8 = some (.tup [.ref c9, y2]) ∧ Tr H8 (.ref c9) (.tuple ((cutB x 0).1.map (tkD x))) := fun {H8 c8} t8 => by
        obtain ⟨_, ys, e0, h8, ty⟩ := t_tup (show Tr H8 (.ref c8) (.tuple [.tuple ((cutB x 0).1.map (tkD x)), .tuple ((cutB x 0).2.map (flD x))]) from t8)
        cases e0
        obtain ⟨z1, z2, rfl, tz1, tz2⟩ := ta2 ty
        obtain ⟨c9, zs, rfl, h9, tr9⟩ := t_tup tz1
        exact ⟨c9, z2, h8, tz1⟩
      generalize hts : (cutB x 0).1 = ts at TK5 okt okd okp KD tok8
      have lts : ts.length ≤ 20000 := by
        rw [← hts]
        omega
      refine ⟨_, rfl, _, rfl, x, p, xs, ts, rfl, TK5, KD, fun q1 d1 e1 es1 H6 s6 n6 hq1 hd1 he1 te1 => ?_⟩
      have D16 : Due H6 x ts q1 d1 e1 es1 := ⟨hq1, hd1, he1, te1⟩
      have TK6 := TK5.keep (Tk.of s6)
      have tr6 : Tr H6 (.ref p) (.tuple (ts.map (tkD x))) := .tup TK6.hp TK6.tr
      have B6 := B5.same s6
      have T6 := Tabs.same T5 s6
      clear hq1 hd1 he1 te1 hp0 ty ty1 ty2 hp tr B5 T5 TK5 t5 B4 T4
      refine ⟨_, rfl, _, rfl, x, p, xs, ts, rfl, TK6, fun q2 d2 e2 es2 H7 s7 n7 hq2 hd2 he2 te2 => ?_⟩
      have D27 : Due H7 x ts q2 d2 e2 es2 := ⟨hq2, hd2, he2, te2⟩
      clear hq2 hd2 he2 te2
      refine ⟨_, rfl, x, rfl, by omega, fun c8 H8 s8 t8 => ?_⟩
      obtain ⟨c9, y2, h8, t9⟩ := tok8 t8
      refine ⟨c8, _, _, _, rfl, rfl, SqT.of h8, atI_nat (j := 0) rfl, _, rfl, by show 2 ≤ sizeLine; decide, fun L1 hL1 => ⟨_, rfl, _, rfl, by show 2 ≤ sizeLine; decide, fun L2 hL2 => ⟨L1, L2, .list [.tuple (ts.map (tkD x)), dueD x ts], rfl, ?_, ?_, two_ok okt okd, fun H9 s9 => ⟨_, rfl, iteF ?_⟩⟩⟩⟩
      · exact .lst (SqL.of (upd_some upd_same hL2)) (.cons (Vf.Dp.dx ((t9.new hL1).new hL2).dp) (.cons (((D27.same s8).same (same_new hL1)).same (same_new hL2)).dx .nil))
      · exact .lst (SqL.of upd_same) (.cons (Vf.Dp.dx (((tr6.keep (Tk.of (s7.trans s8))).new hL1).new hL2).dp) (.cons (((D16.same (s7.trans s8)).same (same_new hL1)).same (same_new hL2)).dx .nil))
      have s79 : Same H7 H9 := ((s8.trans (same_new hL1)).trans (same_new hL2)).trans s9
      clear s8 s9 hL1 hL2 t8 t9 h8
      have s69 := s7.trans s79
      dsimp only [tNext, tSeq, tAsg]
      refine depth_rd (K := K) (j := 6) (TK6.keep (Tk.of s69)) (D16.same s69) rfl (fun L H10 s10 n10 hL10 => ?_)
      have D210 := D27.same (s79.trans s10)
      refine ⟨_, rfl, q2, _, _, _, rfl, rfl, SqT.of D210.hq, atI_nat (j := 0) rfl, _, rfl, d2, _, rfl, DPut.k (k := .inl (-1)) D210.hd (lz (by
        show (kvU _).length ≤ _
        unfold kvU
        rw [List.length_map]
        have := (prs_ok x ts).le
        omega)), ?_⟩
      have nLd : L ≠ d2 := fun z => by
        rw [z, (D27.same s79).hd] at n10
        cases n10
      have s611 : Same H6 (upd H10 d2 (.dK (putK (kvU (prsS x ts)) (.inl (-1)) (.int 0)))) := same_put (s69.trans s10) n7
      have hL11 : (upd H10 d2 (.dK (putK (kvU (prsS x ts)) (.inl (-1)) (.int 0)))) L = some (.lst ((List.range ts.length).map fun i => V.int (dpt x ts i))) := by rw [upd_ne nLd]; exact hL10
      generalize upd H10 d2 (.dK (putK (kvU (prsS x ts)) (.inl (-1)) (.int 0))) = H11 at s611 hL11 ⊢
      have TK11 := TK6.keep (Tk.of s611)
      have D111 := D16.same s611
      have B11 := B6.same s611
      have T11 := Tabs.same T6 s611
      clear D210 D27 s10 n10 hL10 s79 s69 s7 n7 nLd TK6 tr6 B6 T6 s611 D16
      refine ⟨_, rfl, _, rfl, x, p, xs, ts, rfl, TK11, fun q3 H12 s12 hq3 => ⟨_, rfl, _, rfl, x, p, xs, ts, rfl, TK11.keep (Tk.of s12), fun q4 d4 e4 es4 H13 s13 n13 hq4 hd4 he4 te4 => ⟨by show 2 ≤ sizeLine; decide, fun L3 hL3 => ?_⟩⟩⟩
      have D413 : Due H13 x ts q4 d4 e4 es4 := ⟨hq4, hd4, he4, te4⟩
      have L13 := (s12.trans s13) _ _ hL11
      refine ⟨_, rfl, L, _, rfl, .inl ⟨SqL.of (upd_some L13 hL3), fun tp htp => ⟨_, rfl, by show 2 ≤ sizeLine; decide, fun L4 hL4 => ⟨L3, L4, .list [dptD x ts, dueD x ts], rfl, ?_, ?_, two_ok ⟨okp.1, okp.2.1, Nat.le_trans okp.2.2 (by decide)⟩ okd, fun H14 s14 => ⟨_, rfl, iteF ?_⟩⟩⟩⟩⟩
      · exact .lst (SqL.of (upd_some (upd_some upd_same htp) hL4)) (.cons (dpt_dx (upd_some (upd_some (upd_some (s13 _ _ hq3) hL3) htp) hL4)) (.cons (((D413.same (same_new hL3)).same (same_new htp)).same (same_new hL4)).dx .nil))
      · exact .lst (SqL.of upd_same) (.cons (dpt_dx (upd_some upd_same hL4)) (.cons (((((D111.same (s12.trans s13)).same (same_new hL3)).same (same_new htp)).same (same_new hL4))).dx .nil))
      have s1114 : Same H11 H14 := (((((s12.trans s13).trans (same_new hL3)).trans (same_new htp)).trans (same_new hL4)).trans s14)
      have TK14 := TK11.keep (Tk.of s1114)
      have B14 := B11.same s1114
      have T14 := Tabs.same T11 s1114
      clear D413 L13 hL3 htp hL4 s12 s13 hq3 hq4 hd4 he4 te4 n13 D111 B11 T11 TK11 hL11 s1114 s14
      -- the words alone
      refine ⟨_, rfl, p, rfl, ⟨xs, SqT.of TK14.hp⟩, fun D hD => ?_⟩
      refine lc_it (walk_tup (K := K) (a := p) (xs := xs)) (fun j H' => Same H14 H' ∧ ∃ acc, H' D = some (.lst acc) ∧ TrAll H' acc (((ts.take j).filter bareB).map (tkD x))) ⟨same_new hD, [], upd_same, .nil⟩ (fun j H' _ ⟨s, _⟩ => SqT.of (s _ _ TK14.hp)) ?_ ?_
      · rintro j y H15 H15b hj ⟨s15, acc, ha, ta⟩ ⟨rfl, hx⟩
        obtain ⟨r, kdw, rfl, _, _, ⟨tk, htk, ekd⟩, hr⟩ := (TK14.keep (Tk.of s15)).at hx
        have lxx := TK14.lx
        have la := ta.len
        rw [List.length_map] at la
        have lf : ((ts.take j).filter bareB).length ≤ 20000 := Nat.le_trans (List.length_filter_le _ _) (by rw [List.length_take]; omega)
        have fs := filter_snoc (f := bareB) htk
        have try1 : Tr H15b (.ref r) (tkD x tk) := by
          have := (TK14.keep (Tk.of s15)).tr.get hx
          obtain ⟨d, hd, td⟩ := this
          rw [List.getElem?_map, htk] at hd
          cases hd
          exact td
        refine ⟨rfl, _, rfl, r, _, _, _, rfl, rfl, SqT.of hr, atI_nat (j := 0) rfl, by show 2 ≤ sizeLine; decide, fun t2 ht2 => ⟨t2, _, rfl, .inr (SqT.of upd_same), rfl, rfl, _, rfl, ite2 (fun h1 => ?_) (fun h1 => ?_)⟩⟩
        · have hb : bareB tk = true := by rw [ekd] at h1; exact h1
          refine ⟨_, rfl, acc, upd_some ha ht2, lz (by omega), same_put (s15.trans (same_new ht2)) hD, _, upd_same, ?_⟩
          rw [fs, if_pos hb, List.map_append]
          exact ((ta.new ht2).app (.one (try1.new ht2))).keep (tk_put (Tk.refl _) (upd_some ha ht2) fun _ z => by cases z)
        · have hb : ¬ bareB tk = true := by rw [ekd] at h1; exact h1
          refine ⟨s15.trans (same_new ht2), acc, upd_some ha ht2, ?_⟩
          rw [fs, if_neg hb, List.append_nil]
          exact ta.new ht2
      rintro H15 ⟨s15, acc, ha, ta⟩
      rw [TK14.lx, List.take_length] at ta
      refine ⟨D, acc, rfl, .inl ⟨SqL.of ha, fun pb hpb => ?_⟩⟩
      have bl : (ts.filter bareB).length ≤ ts.length := List.length_filter_le _ _
      have TKb : Toks (upd H15 pb (.tup acc)) x pb acc (ts.filter bareB) := ⟨upd_same, ta.new hpb, fun y hy => TK14.le y ((List.mem_filter.mp hy).1), by omega, by omega⟩
      have B16 := (B14.same s15).new (o := .tup acc) hpb
      have T16 := Tabs.same T14 (s15.trans (same_new (o := .tup acc) hpb))
      have KDb : ∀ y ∈ ts.filter bareB, KdP y.1 (sl x y.2) := fun y hy => KD y ((List.mem_filter.mp hy).1)
      have okd2 := due_ok TKb.le lx (show (ts.filter bareB).length ≤ 20000 by omega)
      have okp2 := dpt_ok (t := x) (show (ts.filter bareB).length ≤ 20000 by omega)
      generalize upd H15 pb (.tup acc) = H16 at TKb B16 T16 ⊢
      generalize ts.filter bareB = bs at TKb KDb okd2 okp2 ta bl
      clear ta TK14 B14 T14 s15 ha hpb
      refine ⟨_, rfl, _, rfl, x, pb, acc, bs, rfl, TKb, KDb, fun q1 d1 e1 es1 H17 s17 n17 hq1 hd1 he1 te1 => ?_⟩
      have D17 : Due H17 x bs q1 d1 e1 es1 := ⟨hq1, hd1, he1, te1⟩
      dsimp only [gName, tSeq, tAsg]
      refine depth_rd (K := K) (j := 10) (TKb.keep (Tk.of s17)) D17 rfl (fun L H18 s18 n18 hL18 => ?_)
      have TK18 := (TKb.keep (Tk.of s17)).keep (Tk.of s18)
      refine ⟨_, rfl, _, rfl, x, pb, acc, bs, rfl, TK18, fun q4 d4 e4 es4 H19 s19 n19 hq4 hd4 he4 te4 => ⟨_, rfl, _, rfl, x, pb, acc, bs, rfl, TK18.keep (Tk.of s19), fun q3 H20 s20 hq3 => ⟨by show 2 ≤ sizeLine; decide, fun L3 hL3 => ?_⟩⟩⟩
      have D419 : Due H19 x bs q4 d4 e4 es4 := ⟨hq4, hd4, he4, te4⟩
      have L20 := (s19.trans s20) _ _ hL18
      refine ⟨_, rfl, _, rfl, L, _, rfl, .inl ⟨SqL.of (upd_some L20 hL3), fun tp htp => ⟨by show 2 ≤ sizeLine; decide, fun L4 hL4 => ⟨L3, L4, .list [dueD x bs, dptD x bs], rfl, ?_, ?_, two_ok okd2 ⟨okp2.1, okp2.2.1, Nat.le_trans okp2.2.2 (by decide)⟩, fun H21 s21 => ⟨_, rfl, iteF ?_⟩⟩⟩⟩⟩
      · exact .lst (SqL.of (upd_some (upd_some upd_same htp) hL4)) (.cons ((((D419.same s20).same (same_new hL3)).same (same_new htp)).same (same_new hL4)).dx (.cons (dpt_dx (upd_some (upd_some (upd_some hq3 hL3) htp) hL4)) .nil))
      · exact .lst (SqL.of upd_same) (.cons (((((D17.same ((s18.trans s19).trans s20)).same (same_new hL3)).same (same_new htp)).same (same_new hL4))).dx (.cons (dpt_dx (upd_some upd_same hL4)) .nil))
      have sAll : Same H16 H21 := (((((((s17.trans s18).trans s19).trans s20).trans (same_new hL3)).trans (same_new htp)).trans (same_new hL4)).trans s21)
      exact ⟨_, _, _, _, _, _, _, _, _, _, _, _, _, c, e, rfl, B16.same sAll, c0, c12, Tabs.same T16 sAll⟩
    · rintro σ H1 ⟨w2, w3, w4, w5, w6, w7, w8, w9, w10, w11, w12, w13, w14, c, e, rfl, B1, c0, c12, T1⟩
      exact k _

theorem part_all (T : Txt K mg w) (take : Cal P w K mg base 1 "_law_take" spTake []) (one : Cal P w K mg base 2 "_law_one" (spOne K) []) (name : Cal P w K mg base 3 "_law_name" spName []) (names : Cal P w K mg base 4 "_law_names" spNames []) (atom : Cal P w K mg base 4 "_law_atom" spAtom []) :
    ∀ m : Nat, Cal P w K mg base (4 + m) "_law_part" (spPart m) []
  | 0 => part_none T
  | m + 1 => c_l_part T take one name names atom (part_all T take one name names atom m)
theorem st_all (T : Txt K mg w) (take : Cal P w K mg base 1 "_law_take" spTake []) (one : Cal P w K mg base 2 "_law_one" (spOne K) []) (name : Cal P w K mg base 3 "_law_name" spName []) (names : Cal P w K mg base 4 "_law_names" spNames []) (ex : Cal P w K mg base 9 "_law_expression" (spPart 4) []) :
    ∀ m : Nat, Cal P w K mg base (10 + 3 * m) "_law_statement" (spSt m) [] ∧ Cal P w K mg base (12 + 3 * m) "_law_if" (spIf m) []
  | 0 => ⟨st_none T, if_none T⟩
  | m + 1 => by
    obtain ⟨a, b⟩ := st_all T take one name names ex m
    have s : Cal P w K mg base (13 + 3 * m) "_law_statement" (spSt (m + 1)) [] := c_l_statement T take one name names ex (c_l_block T one a) b
    rw [show 13 + 3 * m = 10 + 3 * (m + 1) by omega] at s
    have bl := c_l_block T one s
    rw [show 11 + 3 * (m + 1) = 14 + 3 * m by omega] at bl
    have i := c_l_if T take ex bl b
    rw [show 15 + 3 * m = 12 + 3 * (m + 1) by omega] at i
    exact ⟨s, i⟩
theorem wds_all (T : Txt K mg w) (take : Cal P w K mg base 1 "_law_take" spTake []) (row : Cal P w K mg base 1 "_law_row_words" (spRow K) []) (bt : Cal P w K mg base 2 "_law_between" (spBtw K) []) (lev : Cal P w K mg base 2 "_law_level" (spOf fun d => .int (lvl d)) []) (sd : Cal P w K mg base 2 "_law_sides" spSides []) :
    ∀ m : Nat, Cal P w K mg base (3 + 2 * m) "_law_words" (spWs m) []
  | 0 => inner_none T
  | m + 1 => c_l_words T row bt lev sd (c_l_inner T take lev (wds_all T take row bt lev sd m))
theorem sw_all (T : Txt K mg w) (row : Cal P w K mg base 1 "_law_row_words" (spRow K) []) (bt : Cal P w K mg base 2 "_law_between" (spBtw K) []) (inn : Cal P w K mg base 12 "_law_inner" (spIn 4) []) :
    ∀ m : Nat, Cal P w K mg base (13 + 2 * m) "_law_statement_words" (spSw m) []
  | 0 => sw_none T
  | m + 1 => c_l_statement_words T row bt inn (c_l_block_words T row (sw_all T row bt inn m)) (sw_all T row bt inn m)

open LamX (CodeO TabS Tabs ExtN TabB)
def tl5k : List (Addr × Str) := [(283, lamQ), (346, lamC)]
theorem tabs0 {H : Hp} (h : ∀ T ∈ [(346 : Addr), 283], H T = some (.tbl #[])) : Tabs tl5k H := fun p hp => by
  unfold tl5k at hp
  simp only [List.mem_cons, List.not_mem_nil, or_false] at hp
  rcases hp with rfl | rfl
  · exact LamX.TabS.nil (h 283 (by simp))
  · exact LamX.TabS.nil (h 346 (by simp))
theorem law_all (T : Txt K mg w) (sb : ∃ o, base.get? sysModules = some o ∧ o.cls = .type "dict") {f : Addr} {fd : FuncData} {c1 c2 : Addr} (F : Fun K "law" "law" s_p_law f fd) (D2 : DefK K mg "_law_cut_all" s_l_cut_all ["_law_text"] c2) (D1 : DefK K mg "_law_word_end" s_l_word_end ["_law_text", "_law_at"] c1) (TB2 : TabB base mg c2 346) (TB1 : TabB base mg c1 283) :
    FnG P w K mg base 28 f fd ["_law_script"] (spLaw5k K tl5k) := by
  have m1 : ((283 : Addr), lamQ) ∈ tl5k := by unfold tl5k; simp
  have m2 : ((346 : Addr), lamC) ∈ tl5k := by unfold tl5k; simp
  have u1 : ∀ p ∈ tl5k, p.1 = 283 → p.2 = lamQ := fun p hp e => by
    unfold tl5k at hp
    simp only [List.mem_cons, List.not_mem_nil, or_false] at hp
    rcases hp with rfl | rfl
    · rfl
    · exact absurd e (by decide)
  have u2 : ∀ p ∈ tl5k, p.1 = 346 → p.2 = lamC := fun p hp e => by
    unfold tl5k at hp
    simp only [List.mem_cons, List.not_mem_nil, or_false] at hp
    rcases hp with rfl | rfl
    · exact absurd e (by decide)
    · rfl
  have take : Cal P w K mg base 1 "_law_take" spTake [] := c_l_take T
  have one : Cal P w K mg base 2 "_law_one" (spOne K) [] := c_l_one T take
  have kws : Cal P w K mg base 1 "_law_keywords" spKws [] := c_l_keywords T
  have name : Cal P w K mg base 3 "_law_name" spName [] := c_l_name T take one kws
  have names : Cal P w K mg base 4 "_law_names" spNames [] := c_l_names T one name
  have atom : Cal P w K mg base 4 "_law_atom" spAtom [] := c_l_atom T take one name
  have dig := c_l_is_digit (P := P) (w := w) (base := base) T
  have lett := c_l_is_letter (P := P) (w := w) (base := base) T
  have we : Cal P w K mg base 4 "_law_word_end" (spWE tl5k) [] := c_l_word_end T m1 u1 ⟨D1.ex⟩ TB1 lett dig (c_l_run T) (c_l_quote_end T)
  have gap : Cal P w K mg base 7 "_law_gap" (spGap tl5k) [] := c_l_gap T one (c_l_do_part T (c_l_cut T we))
  have ex : Cal P w K mg base 9 "_law_expression" (spPart 4) [] := c_l_expression T (part_all T take one name names atom 4)
  have st : Cal P w K mg base 25 "_law_statement" (spSt 5) [] := (st_all T take one name names ex 5).1
  have row : Cal P w K mg base 1 "_law_row_words" (spRow K) [] := c_l_row_words T
  have bt : Cal P w K mg base 2 "_law_between" (spBtw K) [] := c_l_between T row
  have sl : Cal P w K mg base 1 "_law_sign_level" spSign [] := c_l_sign_level T
  have lev : Cal P w K mg base 2 "_law_level" (spOf fun d => .int (lvl d)) [] := c_l_level T sl
  have inn : Cal P w K mg base 12 "_law_inner" (spIn 4) [] := c_l_inner T take lev (wds_all T take row bt lev (c_l_sides T sl) 4)
  have pw : Cal P w K mg base 24 "_law_program_words" spPw [] := c_l_program_words T (c_l_flat T) (sw_all T row bt inn 5)
  have pr : Cal P w K mg base 26 "_law_program" spPr [] := c_l_program T take st pw
  have wr : Cal P w K mg base 8 "_law_written" (spWr tl5k) [] := c_l_written T take one (c_l_comment T one) gap
  have som : Cal P w K mg base 27 "_law_some_text" (spSom tl5k) [] := c_l_some_text T one pr pw wr
  have run : Cal P w K mg base 1 "_run_end" spRunS [] := c_p_run_end T
  have le : Cal P w K mg base 1 "line_end" (spAt fun t i => .int (runE notNl t.cps.toList i)) [] := c_p_line_end T
  have wa : Cal P w K mg base 3 "word_at" spWA [] := c_p_word_at T le run (c_p_number_end T run) (c_p_quote_end T) (c_p_closed_end T) (c_p_sign_end T)
  have cut : Cal P w K mg base 4 "cut" spCut2 [] := c_p_cut T wa (c_p_place_of T) (c_p_behind_fault T le)
  have cua : Cal P w K mg base 5 "_law_cut_all" (spCutA K tl5k) [] := c_l_cut_all T m2 u2 ⟨D2.ex⟩ TB2 we (c_l_kind T kws lett dig) (c_l_place T) (c_l_run T)
  have plc : Cal P w K mg base 1 "place_of" spPlc [] := c_p_place_of T
  have ppr : Cal P w K mg base 2 "paired" spPr5 [] := c_p_paired T plc
  exact fn_law5k T F (c_l_bag T) take one som (c_l_hurt T take one) (c_l_alike T sb) cut cua ppr (c_p_deep_at T ppr) (c_l_paired T (c_l_place T))

end
theorem all_mk {l : PySem.W.OpenLaw} {w : World} {K : PySem.W.Frag} {h : Heap} {mg : Str → Option Value} {fa : Addr} (X : K.In h) (G : h.Ns mainGlobals mg) (hfa : mg "law" = some (.ref fa))
    {f0 : Addr} {od0 an0 : Option Addr} {sl0 : Array (Option Value)} {oc0 kV0 dc0 pm0 cd0 ct0 : Value}
    {f1 : Addr} {od1 an1 : Option Addr} {sl1 : Array (Option Value)} {oc1 kV1 dc1 pm1 cd1 ct1 : Value}
    {f2 : Addr} {od2 an2 : Option Addr} {sl2 : Array (Option Value)} {oc2 kV2 dc2 pm2 cd2 ct2 : Value}
    {f3 : Addr} {od3 an3 : Option Addr} {sl3 : Array (Option Value)} {oc3 kV3 dc3 pm3 cd3 ct3 : Value}
    {f4 : Addr} {od4 an4 : Option Addr} {sl4 : Array (Option Value)} {oc4 kV4 dc4 pm4 cd4 ct4 : Value}
    {f5 : Addr} {od5 an5 : Option Addr} {sl5 : Array (Option Value)} {oc5 kV5 dc5 pm5 cd5 ct5 : Value}
    {f6 : Addr} {od6 an6 : Option Addr} {sl6 : Array (Option Value)} {oc6 kV6 dc6 pm6 cd6 ct6 : Value}
    {f7 : Addr} {od7 an7 : Option Addr} {sl7 : Array (Option Value)} {oc7 kV7 dc7 pm7 cd7 ct7 : Value}
    {f8 : Addr} {od8 an8 : Option Addr} {sl8 : Array (Option Value)} {oc8 kV8 dc8 pm8 cd8 ct8 : Value}
    {f9 : Addr} {od9 an9 : Option Addr} {sl9 : Array (Option Value)} {oc9 kV9 dc9 pm9 cd9 ct9 : Value}
    {f10 : Addr} {od10 an10 : Option Addr} {sl10 : Array (Option Value)} {oc10 kV10 dc10 pm10 cd10 ct10 : Value}
    {f11 : Addr} {od11 an11 : Option Addr} {sl11 : Array (Option Value)} {oc11 kV11 dc11 pm11 cd11 ct11 : Value}
    {f12 : Addr} {od12 an12 : Option Addr} {sl12 : Array (Option Value)} {oc12 kV12 dc12 pm12 cd12 ct12 : Value}
    {f13 : Addr} {od13 an13 : Option Addr} {sl13 : Array (Option Value)} {oc13 kV13 dc13 pm13 cd13 ct13 : Value}
    {f14 : Addr} {od14 an14 : Option Addr} {sl14 : Array (Option Value)} {oc14 kV14 dc14 pm14 cd14 ct14 : Value}
    {f15 : Addr} {od15 an15 : Option Addr} {sl15 : Array (Option Value)} {oc15 kV15 dc15 pm15 cd15 ct15 : Value}
    {f16 : Addr} {od16 an16 : Option Addr} {sl16 : Array (Option Value)} {oc16 kV16 dc16 pm16 cd16 ct16 : Value}
    {f17 : Addr} {od17 an17 : Option Addr} {sl17 : Array (Option Value)} {oc17 kV17 dc17 pm17 cd17 ct17 : Value}
    {f18 : Addr} {od18 an18 : Option Addr} {sl18 : Array (Option Value)} {oc18 kV18 dc18 pm18 cd18 ct18 : Value}
    {f19 : Addr} {od19 an19 : Option Addr} {sl19 : Array (Option Value)} {oc19 kV19 dc19 pm19 cd19 ct19 : Value}
    {f20 : Addr} {od20 an20 : Option Addr} {sl20 : Array (Option Value)} {oc20 kV20 dc20 pm20 cd20 ct20 : Value}
    {f21 : Addr} {od21 an21 : Option Addr} {sl21 : Array (Option Value)} {oc21 kV21 dc21 pm21 cd21 ct21 : Value}
    {f22 : Addr} {od22 an22 : Option Addr} {sl22 : Array (Option Value)} {oc22 kV22 dc22 pm22 cd22 ct22 : Value}
    {f23 : Addr} {od23 an23 : Option Addr} {sl23 : Array (Option Value)} {oc23 kV23 dc23 pm23 cd23 ct23 : Value}
    {f24 : Addr} {od24 an24 : Option Addr} {sl24 : Array (Option Value)} {oc24 kV24 dc24 pm24 cd24 ct24 : Value}
    {f25 : Addr} {od25 an25 : Option Addr} {sl25 : Array (Option Value)} {oc25 kV25 dc25 pm25 cd25 ct25 : Value}
    {f26 : Addr} {od26 an26 : Option Addr} {sl26 : Array (Option Value)} {oc26 kV26 dc26 pm26 cd26 ct26 : Value}
    {f27 : Addr} {od27 an27 : Option Addr} {sl27 : Array (Option Value)} {oc27 kV27 dc27 pm27 cd27 ct27 : Value}
    {f28 : Addr} {od28 an28 : Option Addr} {sl28 : Array (Option Value)} {oc28 kV28 dc28 pm28 cd28 ct28 : Value}
    {f29 : Addr} {od29 an29 : Option Addr} {sl29 : Array (Option Value)} {oc29 kV29 dc29 pm29 cd29 ct29 : Value}
    {f30 : Addr} {od30 an30 : Option Addr} {sl30 : Array (Option Value)} {oc30 kV30 dc30 pm30 cd30 ct30 : Value}
    {f31 : Addr} {od31 an31 : Option Addr} {sl31 : Array (Option Value)} {oc31 kV31 dc31 pm31 cd31 ct31 : Value}
    {f32 : Addr} {od32 an32 : Option Addr} {sl32 : Array (Option Value)} {oc32 kV32 dc32 pm32 cd32 ct32 : Value}
    {f33 : Addr} {od33 an33 : Option Addr} {sl33 : Array (Option Value)} {oc33 kV33 dc33 pm33 cd33 ct33 : Value}
    {f34 : Addr} {od34 an34 : Option Addr} {sl34 : Array (Option Value)} {oc34 kV34 dc34 pm34 cd34 ct34 : Value}
    {f35 : Addr} {od35 an35 : Option Addr} {sl35 : Array (Option Value)} {oc35 kV35 dc35 pm35 cd35 ct35 : Value}
    {f36 : Addr} {od36 an36 : Option Addr} {sl36 : Array (Option Value)} {oc36 kV36 dc36 pm36 cd36 ct36 : Value}
    {f37 : Addr} {od37 an37 : Option Addr} {sl37 : Array (Option Value)} {oc37 kV37 dc37 pm37 cd37 ct37 : Value}
    {f38 : Addr} {od38 an38 : Option Addr} {sl38 : Array (Option Value)} {oc38 kV38 dc38 pm38 cd38 ct38 : Value}
    {f39 : Addr} {od39 an39 : Option Addr} {sl39 : Array (Option Value)} {oc39 kV39 dc39 pm39 cd39 ct39 : Value}
    {f40 : Addr} {od40 an40 : Option Addr} {sl40 : Array (Option Value)} {oc40 kV40 dc40 pm40 cd40 ct40 : Value}
    {f41 : Addr} {od41 an41 : Option Addr} {sl41 : Array (Option Value)} {oc41 kV41 dc41 pm41 ct41 : Value} {cc41 : Addr}
    {f42 : Addr} {od42 an42 : Option Addr} {sl42 : Array (Option Value)} {oc42 kV42 dc42 pm42 cd42 ct42 : Value}
    {f43 : Addr} {od43 an43 : Option Addr} {sl43 : Array (Option Value)} {oc43 kV43 dc43 pm43 cd43 ct43 : Value}
    {f44 : Addr} {od44 an44 : Option Addr} {sl44 : Array (Option Value)} {oc44 kV44 dc44 pm44 cd44 ct44 : Value}
    {f45 : Addr} {od45 an45 : Option Addr} {sl45 : Array (Option Value)} {oc45 kV45 dc45 pm45 cd45 ct45 : Value}
    {f46 : Addr} {od46 an46 : Option Addr} {sl46 : Array (Option Value)} {oc46 kV46 dc46 pm46 cd46 ct46 : Value}
    {f47 : Addr} {od47 an47 : Option Addr} {sl47 : Array (Option Value)} {oc47 kV47 dc47 pm47 cd47 ct47 : Value}
    {f48 : Addr} {od48 an48 : Option Addr} {sl48 : Array (Option Value)} {oc48 kV48 dc48 pm48 cd48 ct48 : Value}
    {f49 : Addr} {od49 an49 : Option Addr} {sl49 : Array (Option Value)} {oc49 kV49 dc49 pm49 cd49 ct49 : Value}
    {f50 : Addr} {od50 an50 : Option Addr} {sl50 : Array (Option Value)} {oc50 kV50 dc50 pm50 cd50 ct50 : Value}
    {f51 : Addr} {od51 an51 : Option Addr} {sl51 : Array (Option Value)} {oc51 kV51 dc51 pm51 ct51 : Value} {cc51 : Addr}
    {f52 : Addr} {od52 an52 : Option Addr} {sl52 : Array (Option Value)} {oc52 kV52 dc52 pm52 cd52 ct52 : Value}
    {f53 : Addr} {od53 an53 : Option Addr} {sl53 : Array (Option Value)} {oc53 kV53 dc53 pm53 cd53 ct53 : Value}
    {e_CLOSING : Addr} {es_CLOSING : Array DictEntry} {en_CLOSING : Nat}
    {e_KEYWORDS : Addr} {td_KEYWORDS : Option Addr} {its_KEYWORDS : Array Value} {tn_KEYWORDS : Nat} {ts_KEYWORDS : Array (Option Value)}
    {e_ESCAPES : Addr} {td_ESCAPES : Option Addr} {its_ESCAPES : Array Value} {tn_ESCAPES : Nat} {ts_ESCAPES : Array (Option Value)}
    {e_SIGNS : Addr} {td_SIGNS : Option Addr} {its_SIGNS : Array Value} {tn_SIGNS : Nat} {ts_SIGNS : Array (Option Value)}
    {u_LETTERS : Tok}
    {u_DIGITS : Tok}
    (a0 : PySem.W.nsIn K mainGlobals "line_end" = some (some (.ref f0))) (l0 : K.lookup f0 = some ⟨oc0, od0, .func (PySem.W.fnOf "line_end" "line_end" (defArgs s_p_line_end) (defBody s_p_line_end) (defScope s_p_line_end) .none kV0 dc0 pm0 an0 cd0 ct0), sl0⟩) (c0 : PySem.W.codeIn K cd0 "line_end" = true) (k0 : PySem.W.keepIn K (.ref f0) = true)
    (a1 : PySem.W.nsIn K mainGlobals "_run_end" = some (some (.ref f1))) (l1 : K.lookup f1 = some ⟨oc1, od1, .func (PySem.W.fnOf "_run_end" "_run_end" (defArgs s_p_run_end) (defBody s_p_run_end) (defScope s_p_run_end) .none kV1 dc1 pm1 an1 cd1 ct1), sl1⟩) (c1 : PySem.W.codeIn K cd1 "_run_end" = true) (k1 : PySem.W.keepIn K (.ref f1) = true)
    (a2 : PySem.W.nsIn K mainGlobals "_number_end" = some (some (.ref f2))) (l2 : K.lookup f2 = some ⟨oc2, od2, .func (PySem.W.fnOf "_number_end" "_number_end" (defArgs s_p_number_end) (defBody s_p_number_end) (defScope s_p_number_end) .none kV2 dc2 pm2 an2 cd2 ct2), sl2⟩) (c2 : PySem.W.codeIn K cd2 "_number_end" = true) (k2 : PySem.W.keepIn K (.ref f2) = true)
    (a3 : PySem.W.nsIn K mainGlobals "_quote_end" = some (some (.ref f3))) (l3 : K.lookup f3 = some ⟨oc3, od3, .func (PySem.W.fnOf "_quote_end" "_quote_end" (defArgs s_p_quote_end) (defBody s_p_quote_end) (defScope s_p_quote_end) .none kV3 dc3 pm3 an3 cd3 ct3), sl3⟩) (c3 : PySem.W.codeIn K cd3 "_quote_end" = true) (k3 : PySem.W.keepIn K (.ref f3) = true)
    (a4 : PySem.W.nsIn K mainGlobals "_closed_end" = some (some (.ref f4))) (l4 : K.lookup f4 = some ⟨oc4, od4, .func (PySem.W.fnOf "_closed_end" "_closed_end" (defArgs s_p_closed_end) (defBody s_p_closed_end) (defScope s_p_closed_end) .none kV4 dc4 pm4 an4 cd4 ct4), sl4⟩) (c4 : PySem.W.codeIn K cd4 "_closed_end" = true) (k4 : PySem.W.keepIn K (.ref f4) = true)
    (a5 : PySem.W.nsIn K mainGlobals "_sign_end" = some (some (.ref f5))) (l5 : K.lookup f5 = some ⟨oc5, od5, .func (PySem.W.fnOf "_sign_end" "_sign_end" (defArgs s_p_sign_end) (defBody s_p_sign_end) (defScope s_p_sign_end) .none kV5 dc5 pm5 an5 cd5 ct5), sl5⟩) (c5 : PySem.W.codeIn K cd5 "_sign_end" = true) (k5 : PySem.W.keepIn K (.ref f5) = true)
    (a6 : PySem.W.nsIn K mainGlobals "word_at" = some (some (.ref f6))) (l6 : K.lookup f6 = some ⟨oc6, od6, .func (PySem.W.fnOf "word_at" "word_at" (defArgs s_p_word_at) (defBody s_p_word_at) (defScope s_p_word_at) .none kV6 dc6 pm6 an6 cd6 ct6), sl6⟩) (c6 : PySem.W.codeIn K cd6 "word_at" = true) (k6 : PySem.W.keepIn K (.ref f6) = true)
    (a7 : PySem.W.nsIn K mainGlobals "place_of" = some (some (.ref f7))) (l7 : K.lookup f7 = some ⟨oc7, od7, .func (PySem.W.fnOf "place_of" "place_of" (defArgs s_p_place_of) (defBody s_p_place_of) (defScope s_p_place_of) .none kV7 dc7 pm7 an7 cd7 ct7), sl7⟩) (c7 : PySem.W.codeIn K cd7 "place_of" = true) (k7 : PySem.W.keepIn K (.ref f7) = true)
    (a8 : PySem.W.nsIn K mainGlobals "_behind_fault" = some (some (.ref f8))) (l8 : K.lookup f8 = some ⟨oc8, od8, .func (PySem.W.fnOf "_behind_fault" "_behind_fault" (defArgs s_p_behind_fault) (defBody s_p_behind_fault) (defScope s_p_behind_fault) .none kV8 dc8 pm8 an8 cd8 ct8), sl8⟩) (c8 : PySem.W.codeIn K cd8 "_behind_fault" = true) (k8 : PySem.W.keepIn K (.ref f8) = true)
    (a9 : PySem.W.nsIn K mainGlobals "cut" = some (some (.ref f9))) (l9 : K.lookup f9 = some ⟨oc9, od9, .func (PySem.W.fnOf "cut" "cut" (defArgs s_p_cut) (defBody s_p_cut) (defScope s_p_cut) .none kV9 dc9 pm9 an9 cd9 ct9), sl9⟩) (c9 : PySem.W.codeIn K cd9 "cut" = true) (k9 : PySem.W.keepIn K (.ref f9) = true)
    (a10 : PySem.W.nsIn K mainGlobals "paired" = some (some (.ref f10))) (l10 : K.lookup f10 = some ⟨oc10, od10, .func (PySem.W.fnOf "paired" "paired" (defArgs s_p_paired) (defBody s_p_paired) (defScope s_p_paired) .none kV10 dc10 pm10 an10 cd10 ct10), sl10⟩) (c10 : PySem.W.codeIn K cd10 "paired" = true) (k10 : PySem.W.keepIn K (.ref f10) = true)
    (a11 : PySem.W.nsIn K mainGlobals "deep_at" = some (some (.ref f11))) (l11 : K.lookup f11 = some ⟨oc11, od11, .func (PySem.W.fnOf "deep_at" "deep_at" (defArgs s_p_deep_at) (defBody s_p_deep_at) (defScope s_p_deep_at) .none kV11 dc11 pm11 an11 cd11 ct11), sl11⟩) (c11 : PySem.W.codeIn K cd11 "deep_at" = true) (k11 : PySem.W.keepIn K (.ref f11) = true)
    (a12 : PySem.W.nsIn K mainGlobals "_law_bag" = some (some (.ref f12))) (l12 : K.lookup f12 = some ⟨oc12, od12, .func (PySem.W.fnOf "_law_bag" "_law_bag" (defArgs s_l_bag) (defBody s_l_bag) (defScope s_l_bag) .none kV12 dc12 pm12 an12 cd12 ct12), sl12⟩) (c12 : PySem.W.codeIn K cd12 "_law_bag" = true) (k12 : PySem.W.keepIn K (.ref f12) = true)
    (a13 : PySem.W.nsIn K mainGlobals "_law_take" = some (some (.ref f13))) (l13 : K.lookup f13 = some ⟨oc13, od13, .func (PySem.W.fnOf "_law_take" "_law_take" (defArgs s_l_take) (defBody s_l_take) (defScope s_l_take) .none kV13 dc13 pm13 an13 cd13 ct13), sl13⟩) (c13 : PySem.W.codeIn K cd13 "_law_take" = true) (k13 : PySem.W.keepIn K (.ref f13) = true)
    (a14 : PySem.W.nsIn K mainGlobals "_law_one" = some (some (.ref f14))) (l14 : K.lookup f14 = some ⟨oc14, od14, .func (PySem.W.fnOf "_law_one" "_law_one" (defArgs s_l_one) (defBody s_l_one) (defScope s_l_one) .none kV14 dc14 pm14 an14 cd14 ct14), sl14⟩) (c14 : PySem.W.codeIn K cd14 "_law_one" = true) (k14 : PySem.W.keepIn K (.ref f14) = true)
    (a15 : PySem.W.nsIn K mainGlobals "_law_keywords" = some (some (.ref f15))) (l15 : K.lookup f15 = some ⟨oc15, od15, .func (PySem.W.fnOf "_law_keywords" "_law_keywords" (defArgs s_l_keywords) (defBody s_l_keywords) (defScope s_l_keywords) .none kV15 dc15 pm15 an15 cd15 ct15), sl15⟩) (c15 : PySem.W.codeIn K cd15 "_law_keywords" = true) (k15 : PySem.W.keepIn K (.ref f15) = true)
    (a16 : PySem.W.nsIn K mainGlobals "_law_name" = some (some (.ref f16))) (l16 : K.lookup f16 = some ⟨oc16, od16, .func (PySem.W.fnOf "_law_name" "_law_name" (defArgs s_l_name) (defBody s_l_name) (defScope s_l_name) .none kV16 dc16 pm16 an16 cd16 ct16), sl16⟩) (c16 : PySem.W.codeIn K cd16 "_law_name" = true) (k16 : PySem.W.keepIn K (.ref f16) = true)
    (a17 : PySem.W.nsIn K mainGlobals "_law_atom" = some (some (.ref f17))) (l17 : K.lookup f17 = some ⟨oc17, od17, .func (PySem.W.fnOf "_law_atom" "_law_atom" (defArgs s_l_atom) (defBody s_l_atom) (defScope s_l_atom) .none kV17 dc17 pm17 an17 cd17 ct17), sl17⟩) (c17 : PySem.W.codeIn K cd17 "_law_atom" = true) (k17 : PySem.W.keepIn K (.ref f17) = true)
    (a18 : PySem.W.nsIn K mainGlobals "_law_names" = some (some (.ref f18))) (l18 : K.lookup f18 = some ⟨oc18, od18, .func (PySem.W.fnOf "_law_names" "_law_names" (defArgs s_l_names) (defBody s_l_names) (defScope s_l_names) .none kV18 dc18 pm18 an18 cd18 ct18), sl18⟩) (c18 : PySem.W.codeIn K cd18 "_law_names" = true) (k18 : PySem.W.keepIn K (.ref f18) = true)
    (a19 : PySem.W.nsIn K mainGlobals "_law_part" = some (some (.ref f19))) (l19 : K.lookup f19 = some ⟨oc19, od19, .func (PySem.W.fnOf "_law_part" "_law_part" (defArgs s_l_part) (defBody s_l_part) (defScope s_l_part) .none kV19 dc19 pm19 an19 cd19 ct19), sl19⟩) (c19 : PySem.W.codeIn K cd19 "_law_part" = true) (k19 : PySem.W.keepIn K (.ref f19) = true)
    (a20 : PySem.W.nsIn K mainGlobals "_law_expression" = some (some (.ref f20))) (l20 : K.lookup f20 = some ⟨oc20, od20, .func (PySem.W.fnOf "_law_expression" "_law_expression" (defArgs s_l_expression) (defBody s_l_expression) (defScope s_l_expression) .none kV20 dc20 pm20 an20 cd20 ct20), sl20⟩) (c20 : PySem.W.codeIn K cd20 "_law_expression" = true) (k20 : PySem.W.keepIn K (.ref f20) = true)
    (a21 : PySem.W.nsIn K mainGlobals "_law_block" = some (some (.ref f21))) (l21 : K.lookup f21 = some ⟨oc21, od21, .func (PySem.W.fnOf "_law_block" "_law_block" (defArgs s_l_block) (defBody s_l_block) (defScope s_l_block) .none kV21 dc21 pm21 an21 cd21 ct21), sl21⟩) (c21 : PySem.W.codeIn K cd21 "_law_block" = true) (k21 : PySem.W.keepIn K (.ref f21) = true)
    (a22 : PySem.W.nsIn K mainGlobals "_law_if" = some (some (.ref f22))) (l22 : K.lookup f22 = some ⟨oc22, od22, .func (PySem.W.fnOf "_law_if" "_law_if" (defArgs s_l_if) (defBody s_l_if) (defScope s_l_if) .none kV22 dc22 pm22 an22 cd22 ct22), sl22⟩) (c22 : PySem.W.codeIn K cd22 "_law_if" = true) (k22 : PySem.W.keepIn K (.ref f22) = true)
    (a23 : PySem.W.nsIn K mainGlobals "_law_statement" = some (some (.ref f23))) (l23 : K.lookup f23 = some ⟨oc23, od23, .func (PySem.W.fnOf "_law_statement" "_law_statement" (defArgs s_l_statement) (defBody s_l_statement) (defScope s_l_statement) .none kV23 dc23 pm23 an23 cd23 ct23), sl23⟩) (c23 : PySem.W.codeIn K cd23 "_law_statement" = true) (k23 : PySem.W.keepIn K (.ref f23) = true)
    (a24 : PySem.W.nsIn K mainGlobals "_law_flat" = some (some (.ref f24))) (l24 : K.lookup f24 = some ⟨oc24, od24, .func (PySem.W.fnOf "_law_flat" "_law_flat" (defArgs s_l_flat) (defBody s_l_flat) (defScope s_l_flat) .none kV24 dc24 pm24 an24 cd24 ct24), sl24⟩) (c24 : PySem.W.codeIn K cd24 "_law_flat" = true) (k24 : PySem.W.keepIn K (.ref f24) = true)
    (a25 : PySem.W.nsIn K mainGlobals "_law_row_words" = some (some (.ref f25))) (l25 : K.lookup f25 = some ⟨oc25, od25, .func (PySem.W.fnOf "_law_row_words" "_law_row_words" (defArgs s_l_row_words) (defBody s_l_row_words) (defScope s_l_row_words) .none kV25 dc25 pm25 an25 cd25 ct25), sl25⟩) (c25 : PySem.W.codeIn K cd25 "_law_row_words" = true) (k25 : PySem.W.keepIn K (.ref f25) = true)
    (a26 : PySem.W.nsIn K mainGlobals "_law_sign_level" = some (some (.ref f26))) (l26 : K.lookup f26 = some ⟨oc26, od26, .func (PySem.W.fnOf "_law_sign_level" "_law_sign_level" (defArgs s_l_sign_level) (defBody s_l_sign_level) (defScope s_l_sign_level) .none kV26 dc26 pm26 an26 cd26 ct26), sl26⟩) (c26 : PySem.W.codeIn K cd26 "_law_sign_level" = true) (k26 : PySem.W.keepIn K (.ref f26) = true)
    (a27 : PySem.W.nsIn K mainGlobals "_law_level" = some (some (.ref f27))) (l27 : K.lookup f27 = some ⟨oc27, od27, .func (PySem.W.fnOf "_law_level" "_law_level" (defArgs s_l_level) (defBody s_l_level) (defScope s_l_level) .none kV27 dc27 pm27 an27 cd27 ct27), sl27⟩) (c27 : PySem.W.codeIn K cd27 "_law_level" = true) (k27 : PySem.W.keepIn K (.ref f27) = true)
    (a28 : PySem.W.nsIn K mainGlobals "_law_sides" = some (some (.ref f28))) (l28 : K.lookup f28 = some ⟨oc28, od28, .func (PySem.W.fnOf "_law_sides" "_law_sides" (defArgs s_l_sides) (defBody s_l_sides) (defScope s_l_sides) .none kV28 dc28 pm28 an28 cd28 ct28), sl28⟩) (c28 : PySem.W.codeIn K cd28 "_law_sides" = true) (k28 : PySem.W.keepIn K (.ref f28) = true)
    (a29 : PySem.W.nsIn K mainGlobals "_law_between" = some (some (.ref f29))) (l29 : K.lookup f29 = some ⟨oc29, od29, .func (PySem.W.fnOf "_law_between" "_law_between" (defArgs s_l_between) (defBody s_l_between) (defScope s_l_between) .none kV29 dc29 pm29 an29 cd29 ct29), sl29⟩) (c29 : PySem.W.codeIn K cd29 "_law_between" = true) (k29 : PySem.W.keepIn K (.ref f29) = true)
    (a30 : PySem.W.nsIn K mainGlobals "_law_words" = some (some (.ref f30))) (l30 : K.lookup f30 = some ⟨oc30, od30, .func (PySem.W.fnOf "_law_words" "_law_words" (defArgs s_l_words) (defBody s_l_words) (defScope s_l_words) .none kV30 dc30 pm30 an30 cd30 ct30), sl30⟩) (c30 : PySem.W.codeIn K cd30 "_law_words" = true) (k30 : PySem.W.keepIn K (.ref f30) = true)
    (a31 : PySem.W.nsIn K mainGlobals "_law_inner" = some (some (.ref f31))) (l31 : K.lookup f31 = some ⟨oc31, od31, .func (PySem.W.fnOf "_law_inner" "_law_inner" (defArgs s_l_inner) (defBody s_l_inner) (defScope s_l_inner) .none kV31 dc31 pm31 an31 cd31 ct31), sl31⟩) (c31 : PySem.W.codeIn K cd31 "_law_inner" = true) (k31 : PySem.W.keepIn K (.ref f31) = true)
    (a32 : PySem.W.nsIn K mainGlobals "_law_block_words" = some (some (.ref f32))) (l32 : K.lookup f32 = some ⟨oc32, od32, .func (PySem.W.fnOf "_law_block_words" "_law_block_words" (defArgs s_l_block_words) (defBody s_l_block_words) (defScope s_l_block_words) .none kV32 dc32 pm32 an32 cd32 ct32), sl32⟩) (c32 : PySem.W.codeIn K cd32 "_law_block_words" = true) (k32 : PySem.W.keepIn K (.ref f32) = true)
    (a33 : PySem.W.nsIn K mainGlobals "_law_statement_words" = some (some (.ref f33))) (l33 : K.lookup f33 = some ⟨oc33, od33, .func (PySem.W.fnOf "_law_statement_words" "_law_statement_words" (defArgs s_l_statement_words) (defBody s_l_statement_words) (defScope s_l_statement_words) .none kV33 dc33 pm33 an33 cd33 ct33), sl33⟩) (c33 : PySem.W.codeIn K cd33 "_law_statement_words" = true) (k33 : PySem.W.keepIn K (.ref f33) = true)
    (a34 : PySem.W.nsIn K mainGlobals "_law_program_words" = some (some (.ref f34))) (l34 : K.lookup f34 = some ⟨oc34, od34, .func (PySem.W.fnOf "_law_program_words" "_law_program_words" (defArgs s_l_program_words) (defBody s_l_program_words) (defScope s_l_program_words) .none kV34 dc34 pm34 an34 cd34 ct34), sl34⟩) (c34 : PySem.W.codeIn K cd34 "_law_program_words" = true) (k34 : PySem.W.keepIn K (.ref f34) = true)
    (a35 : PySem.W.nsIn K mainGlobals "_law_program" = some (some (.ref f35))) (l35 : K.lookup f35 = some ⟨oc35, od35, .func (PySem.W.fnOf "_law_program" "_law_program" (defArgs s_l_program) (defBody s_l_program) (defScope s_l_program) .none kV35 dc35 pm35 an35 cd35 ct35), sl35⟩) (c35 : PySem.W.codeIn K cd35 "_law_program" = true) (k35 : PySem.W.keepIn K (.ref f35) = true)
    (a36 : PySem.W.nsIn K mainGlobals "_law_comment" = some (some (.ref f36))) (l36 : K.lookup f36 = some ⟨oc36, od36, .func (PySem.W.fnOf "_law_comment" "_law_comment" (defArgs s_l_comment) (defBody s_l_comment) (defScope s_l_comment) .none kV36 dc36 pm36 an36 cd36 ct36), sl36⟩) (c36 : PySem.W.codeIn K cd36 "_law_comment" = true) (k36 : PySem.W.keepIn K (.ref f36) = true)
    (a37 : PySem.W.nsIn K mainGlobals "_law_is_letter" = some (some (.ref f37))) (l37 : K.lookup f37 = some ⟨oc37, od37, .func (PySem.W.fnOf "_law_is_letter" "_law_is_letter" (defArgs s_l_is_letter) (defBody s_l_is_letter) (defScope s_l_is_letter) .none kV37 dc37 pm37 an37 cd37 ct37), sl37⟩) (c37 : PySem.W.codeIn K cd37 "_law_is_letter" = true) (k37 : PySem.W.keepIn K (.ref f37) = true)
    (a38 : PySem.W.nsIn K mainGlobals "_law_run" = some (some (.ref f38))) (l38 : K.lookup f38 = some ⟨oc38, od38, .func (PySem.W.fnOf "_law_run" "_law_run" (defArgs s_l_run) (defBody s_l_run) (defScope s_l_run) .none kV38 dc38 pm38 an38 cd38 ct38), sl38⟩) (c38 : PySem.W.codeIn K cd38 "_law_run" = true) (k38 : PySem.W.keepIn K (.ref f38) = true)
    (a39 : PySem.W.nsIn K mainGlobals "_law_is_digit" = some (some (.ref f39))) (l39 : K.lookup f39 = some ⟨oc39, od39, .func (PySem.W.fnOf "_law_is_digit" "_law_is_digit" (defArgs s_l_is_digit) (defBody s_l_is_digit) (defScope s_l_is_digit) .none kV39 dc39 pm39 an39 cd39 ct39), sl39⟩) (c39 : PySem.W.codeIn K cd39 "_law_is_digit" = true) (k39 : PySem.W.keepIn K (.ref f39) = true)
    (a40 : PySem.W.nsIn K mainGlobals "_law_quote_end" = some (some (.ref f40))) (l40 : K.lookup f40 = some ⟨oc40, od40, .func (PySem.W.fnOf "_law_quote_end" "_law_quote_end" (defArgs s_l_quote_end) (defBody s_l_quote_end) (defScope s_l_quote_end) .none kV40 dc40 pm40 an40 cd40 ct40), sl40⟩) (c40 : PySem.W.codeIn K cd40 "_law_quote_end" = true) (k40 : PySem.W.keepIn K (.ref f40) = true)
    (a41 : PySem.W.nsIn K mainGlobals "_law_word_end" = some (some (.ref f41))) (l41 : K.lookup f41 = some ⟨oc41, od41, .func (PySem.W.fnOf "_law_word_end" "_law_word_end" (defArgs s_l_word_end) (defBody s_l_word_end) (defScope s_l_word_end) .none kV41 dc41 pm41 an41 (.ref cc41) ct41), sl41⟩) (c41 : PySem.W.codeIn K (.ref cc41) "_law_word_end" = true) (k41 : PySem.W.keepIn K (.ref f41) = true) (hh41 : PySem.W.codeHdIn K cc41 283 = true) (hn41 : K.lookup 283 = none)
    (a42 : PySem.W.nsIn K mainGlobals "_law_cut" = some (some (.ref f42))) (l42 : K.lookup f42 = some ⟨oc42, od42, .func (PySem.W.fnOf "_law_cut" "_law_cut" (defArgs s_l_cut) (defBody s_l_cut) (defScope s_l_cut) .none kV42 dc42 pm42 an42 cd42 ct42), sl42⟩) (c42 : PySem.W.codeIn K cd42 "_law_cut" = true) (k42 : PySem.W.keepIn K (.ref f42) = true)
    (a43 : PySem.W.nsIn K mainGlobals "_law_do_part" = some (some (.ref f43))) (l43 : K.lookup f43 = some ⟨oc43, od43, .func (PySem.W.fnOf "_law_do_part" "_law_do_part" (defArgs s_l_do_part) (defBody s_l_do_part) (defScope s_l_do_part) .none kV43 dc43 pm43 an43 cd43 ct43), sl43⟩) (c43 : PySem.W.codeIn K cd43 "_law_do_part" = true) (k43 : PySem.W.keepIn K (.ref f43) = true)
    (a44 : PySem.W.nsIn K mainGlobals "_law_gap" = some (some (.ref f44))) (l44 : K.lookup f44 = some ⟨oc44, od44, .func (PySem.W.fnOf "_law_gap" "_law_gap" (defArgs s_l_gap) (defBody s_l_gap) (defScope s_l_gap) .none kV44 dc44 pm44 an44 cd44 ct44), sl44⟩) (c44 : PySem.W.codeIn K cd44 "_law_gap" = true) (k44 : PySem.W.keepIn K (.ref f44) = true)
    (a45 : PySem.W.nsIn K mainGlobals "_law_written" = some (some (.ref f45))) (l45 : K.lookup f45 = some ⟨oc45, od45, .func (PySem.W.fnOf "_law_written" "_law_written" (defArgs s_l_written) (defBody s_l_written) (defScope s_l_written) .none kV45 dc45 pm45 an45 cd45 ct45), sl45⟩) (c45 : PySem.W.codeIn K cd45 "_law_written" = true) (k45 : PySem.W.keepIn K (.ref f45) = true)
    (a46 : PySem.W.nsIn K mainGlobals "_law_some_text" = some (some (.ref f46))) (l46 : K.lookup f46 = some ⟨oc46, od46, .func (PySem.W.fnOf "_law_some_text" "_law_some_text" (defArgs s_l_some_text) (defBody s_l_some_text) (defScope s_l_some_text) .none kV46 dc46 pm46 an46 cd46 ct46), sl46⟩) (c46 : PySem.W.codeIn K cd46 "_law_some_text" = true) (k46 : PySem.W.keepIn K (.ref f46) = true)
    (a47 : PySem.W.nsIn K mainGlobals "_law_hurt" = some (some (.ref f47))) (l47 : K.lookup f47 = some ⟨oc47, od47, .func (PySem.W.fnOf "_law_hurt" "_law_hurt" (defArgs s_l_hurt) (defBody s_l_hurt) (defScope s_l_hurt) .none kV47 dc47 pm47 an47 cd47 ct47), sl47⟩) (c47 : PySem.W.codeIn K cd47 "_law_hurt" = true) (k47 : PySem.W.keepIn K (.ref f47) = true)
    (a48 : PySem.W.nsIn K mainGlobals "_law_alike" = some (some (.ref f48))) (l48 : K.lookup f48 = some ⟨oc48, od48, .func (PySem.W.fnOf "_law_alike" "_law_alike" (defArgs s_l_alike) (defBody s_l_alike) (defScope s_l_alike) .none kV48 dc48 pm48 an48 cd48 ct48), sl48⟩) (c48 : PySem.W.codeIn K cd48 "_law_alike" = true) (k48 : PySem.W.keepIn K (.ref f48) = true)
    (a49 : PySem.W.nsIn K mainGlobals "_law_kind" = some (some (.ref f49))) (l49 : K.lookup f49 = some ⟨oc49, od49, .func (PySem.W.fnOf "_law_kind" "_law_kind" (defArgs s_l_kind) (defBody s_l_kind) (defScope s_l_kind) .none kV49 dc49 pm49 an49 cd49 ct49), sl49⟩) (c49 : PySem.W.codeIn K cd49 "_law_kind" = true) (k49 : PySem.W.keepIn K (.ref f49) = true)
    (a50 : PySem.W.nsIn K mainGlobals "_law_place" = some (some (.ref f50))) (l50 : K.lookup f50 = some ⟨oc50, od50, .func (PySem.W.fnOf "_law_place" "_law_place" (defArgs s_l_place) (defBody s_l_place) (defScope s_l_place) .none kV50 dc50 pm50 an50 cd50 ct50), sl50⟩) (c50 : PySem.W.codeIn K cd50 "_law_place" = true) (k50 : PySem.W.keepIn K (.ref f50) = true)
    (a51 : PySem.W.nsIn K mainGlobals "_law_cut_all" = some (some (.ref f51))) (l51 : K.lookup f51 = some ⟨oc51, od51, .func (PySem.W.fnOf "_law_cut_all" "_law_cut_all" (defArgs s_l_cut_all) (defBody s_l_cut_all) (defScope s_l_cut_all) .none kV51 dc51 pm51 an51 (.ref cc51) ct51), sl51⟩) (c51 : PySem.W.codeIn K (.ref cc51) "_law_cut_all" = true) (k51 : PySem.W.keepIn K (.ref f51) = true) (hh51 : PySem.W.codeHdIn K cc51 346 = true) (hn51 : K.lookup 346 = none)
    (a52 : PySem.W.nsIn K mainGlobals "_law_paired" = some (some (.ref f52))) (l52 : K.lookup f52 = some ⟨oc52, od52, .func (PySem.W.fnOf "_law_paired" "_law_paired" (defArgs s_l_paired) (defBody s_l_paired) (defScope s_l_paired) .none kV52 dc52 pm52 an52 cd52 ct52), sl52⟩) (c52 : PySem.W.codeIn K cd52 "_law_paired" = true) (k52 : PySem.W.keepIn K (.ref f52) = true)
    (a53 : PySem.W.nsIn K mainGlobals "law" = some (some (.ref f53))) (l53 : K.lookup f53 = some ⟨oc53, od53, .func (PySem.W.fnOf "law" "law" (defArgs s_p_law) (defBody s_p_law) (defScope s_p_law) .none kV53 dc53 pm53 an53 cd53 ct53), sl53⟩) (c53 : PySem.W.codeIn K cd53 "law" = true) (k53 : PySem.W.keepIn K (.ref f53) = true)
    (z_abs : PySem.W.nsIn K mainGlobals "abs" = some none)
    (z_int : PySem.W.nsIn K mainGlobals "int" = some none)
    (z_len : PySem.W.nsIn K mainGlobals "len" = some none)
    (z_range : PySem.W.nsIn K mainGlobals "range" = some none)
    (z_tuple : PySem.W.nsIn K mainGlobals "tuple" = some none)
    (z_enumerate : PySem.W.nsIn K mainGlobals "enumerate" = some none)
    (z_repr : PySem.W.nsIn K mainGlobals "repr" = some none)
    (z_sorted : PySem.W.nsIn K mainGlobals "sorted" = some none)
    (z_dict : PySem.W.nsIn K mainGlobals "dict" = some none)
    (da_CLOSING : PySem.W.nsIn K mainGlobals "CLOSING" = some (some (.ref e_CLOSING))) (dl_CLOSING : K.lookup e_CLOSING = some ⟨.type "dict", none, .dict es_CLOSING en_CLOSING, #[]⟩) (dw_CLOSING : (e_CLOSING == sysModules) = false) (dk_CLOSING : KdL w kd_CLOSING es_CLOSING.toList)
    (ta_KEYWORDS : PySem.W.nsIn K mainGlobals "KEYWORDS" = some (some (.ref e_KEYWORDS))) (tl_KEYWORDS : K.lookup e_KEYWORDS = some ⟨.type "tuple", td_KEYWORDS, .seq its_KEYWORDS tn_KEYWORDS, ts_KEYWORDS⟩) (tv_KEYWORDS : Vals (tp_KEYWORDS.map V.str) its_KEYWORDS.toList) (tz_KEYWORDS : its_KEYWORDS.size ≤ sizeLine)
    (ta_ESCAPES : PySem.W.nsIn K mainGlobals "ESCAPES" = some (some (.ref e_ESCAPES))) (tl_ESCAPES : K.lookup e_ESCAPES = some ⟨.type "tuple", td_ESCAPES, .seq its_ESCAPES tn_ESCAPES, ts_ESCAPES⟩) (tv_ESCAPES : Vals (tp_ESCAPES.map V.str) its_ESCAPES.toList) (tz_ESCAPES : its_ESCAPES.size ≤ sizeLine)
    (ta_SIGNS : PySem.W.nsIn K mainGlobals "SIGNS" = some (some (.ref e_SIGNS))) (tl_SIGNS : K.lookup e_SIGNS = some ⟨.type "tuple", td_SIGNS, .seq its_SIGNS tn_SIGNS, ts_SIGNS⟩) (tv_SIGNS : Vals (tp_SIGNS.map V.str) its_SIGNS.toList) (tz_SIGNS : its_SIGNS.size ≤ sizeLine)
    (ga_LETTERS : PySem.W.nsIn K mainGlobals "LETTERS" = some (some (.str "ABCDEFGHIJKLMNOPQRSTUVWXYZ_abcdefghijklmnopqrstuvwxyz" u_LETTERS)))
    (ga_DIGITS : PySem.W.nsIn K mainGlobals "DIGITS" = some (some (.str "0123456789" u_DIGITS))) :
    ∃ (fd : FuncData) (L : List (Addr × Addr)), (∀ p ∈ L, PySem.W.codeHdIn K p.1 p.2 = true ∧ K.lookup p.2 = none) ∧ L.map (·.2) = [346, 283] ∧ (∀ (s : Shared) (v : Value), BindsTo s fd ⟨[v], []⟩ [("_law_script", v)]) ∧ ∀ base : Heap, K.In base → base.Ns mainGlobals mg → (True → ∃ o, base.get? sysModules = some o ∧ o.cls = .type "dict") → (∀ p ∈ L, LamX.TabB base mg p.1 p.2) → FnG l.prog w K mg base 28 fa fd ["_law_script"] (spLaw5k K Lw.tl5k) := by
  have e := hfa.symm.trans (PySem.W.mg_of X G a53)
  cases e
  have T : Txt K mg w := {
    d_p_line_end := defIn_mk X G a0 l0 c0 k0 fun _ _ _ _ _ _ us hl => match us, hl with | [_, _], _ => rfl
    d_p_run_end := defIn_mk X G a1 l1 c1 k1 fun _ _ _ _ _ _ us hl => match us, hl with | [_, _, _], _ => rfl
    d_p_number_end := defIn_mk X G a2 l2 c2 k2 fun _ _ _ _ _ _ us hl => match us, hl with | [_, _], _ => rfl
    d_p_quote_end := defIn_mk X G a3 l3 c3 k3 fun _ _ _ _ _ _ us hl => match us, hl with | [_, _], _ => rfl
    d_p_closed_end := defIn_mk X G a4 l4 c4 k4 fun _ _ _ _ _ _ us hl => match us, hl with | [_, _, _, _], _ => rfl
    d_p_sign_end := defIn_mk X G a5 l5 c5 k5 fun _ _ _ _ _ _ us hl => match us, hl with | [_, _], _ => rfl
    d_p_word_at := defIn_mk X G a6 l6 c6 k6 fun _ _ _ _ _ _ us hl => match us, hl with | [_, _], _ => rfl
    d_p_place_of := defIn_mk X G a7 l7 c7 k7 fun _ _ _ _ _ _ us hl => match us, hl with | [_, _], _ => rfl
    d_p_behind_fault := defIn_mk X G a8 l8 c8 k8 fun _ _ _ _ _ _ us hl => match us, hl with | [_, _, _], _ => rfl
    d_p_cut := defIn_mk X G a9 l9 c9 k9 fun _ _ _ _ _ _ us hl => match us, hl with | [_], _ => rfl
    d_p_paired := defIn_mk X G a10 l10 c10 k10 fun _ _ _ _ _ _ us hl => match us, hl with | [_, _], _ => rfl
    d_p_deep_at := defIn_mk X G a11 l11 c11 k11 fun _ _ _ _ _ _ us hl => match us, hl with | [_, _], _ => rfl
    d_l_bag := defIn_mk X G a12 l12 c12 k12 fun _ _ _ _ _ _ us hl => match us, hl with | [_], _ => rfl
    d_l_take := defIn_mk X G a13 l13 c13 k13 fun _ _ _ _ _ _ us hl => match us, hl with | [_, _], _ => rfl
    d_l_one := defIn_mk X G a14 l14 c14 k14 fun _ _ _ _ _ _ us hl => match us, hl with | [_, _], _ => rfl
    d_l_keywords := defIn_mk X G a15 l15 c15 k15 fun _ _ _ _ _ _ us hl => match us, hl with | [], _ => rfl
    d_l_name := defIn_mk X G a16 l16 c16 k16 fun _ _ _ _ _ _ us hl => match us, hl with | [_], _ => rfl
    d_l_atom := defIn_mk X G a17 l17 c17 k17 fun _ _ _ _ _ _ us hl => match us, hl with | [_], _ => rfl
    d_l_names := defIn_mk X G a18 l18 c18 k18 fun _ _ _ _ _ _ us hl => match us, hl with | [_], _ => rfl
    d_l_part := defIn_mk X G a19 l19 c19 k19 fun _ _ _ _ _ _ us hl => match us, hl with | [_, _], _ => rfl
    d_l_expression := defIn_mk X G a20 l20 c20 k20 fun _ _ _ _ _ _ us hl => match us, hl with | [_, _], _ => rfl
    d_l_block := defIn_mk X G a21 l21 c21 k21 fun _ _ _ _ _ _ us hl => match us, hl with | [_, _], _ => rfl
    d_l_if := defIn_mk X G a22 l22 c22 k22 fun _ _ _ _ _ _ us hl => match us, hl with | [_, _], _ => rfl
    d_l_statement := defIn_mk X G a23 l23 c23 k23 fun _ _ _ _ _ _ us hl => match us, hl with | [_, _], _ => rfl
    d_l_flat := defIn_mk X G a24 l24 c24 k24 fun _ _ _ _ _ _ us hl => match us, hl with | [_], _ => rfl
    d_l_row_words := defIn_mk X G a25 l25 c25 k25 fun _ _ _ _ _ _ us hl => match us, hl with | [_], _ => rfl
    d_l_sign_level := defIn_mk X G a26 l26 c26 k26 fun _ _ _ _ _ _ us hl => match us, hl with | [_], _ => rfl
    d_l_level := defIn_mk X G a27 l27 c27 k27 fun _ _ _ _ _ _ us hl => match us, hl with | [_], _ => rfl
    d_l_sides := defIn_mk X G a28 l28 c28 k28 fun _ _ _ _ _ _ us hl => match us, hl with | [_], _ => rfl
    d_l_between := defIn_mk X G a29 l29 c29 k29 fun _ _ _ _ _ _ us hl => match us, hl with | [_], _ => rfl
    d_l_words := defIn_mk X G a30 l30 c30 k30 fun _ _ _ _ _ _ us hl => match us, hl with | [_, _, _], _ => rfl
    d_l_inner := defIn_mk X G a31 l31 c31 k31 fun _ _ _ _ _ _ us hl => match us, hl with | [_, _, _, _], _ => rfl
    d_l_block_words := defIn_mk X G a32 l32 c32 k32 fun _ _ _ _ _ _ us hl => match us, hl with | [_, _], _ => rfl
    d_l_statement_words := defIn_mk X G a33 l33 c33 k33 fun _ _ _ _ _ _ us hl => match us, hl with | [_, _], _ => rfl
    d_l_program_words := defIn_mk X G a34 l34 c34 k34 fun _ _ _ _ _ _ us hl => match us, hl with | [_, _], _ => rfl
    d_l_program := defIn_mk X G a35 l35 c35 k35 fun _ _ _ _ _ _ us hl => match us, hl with | [_, _, _], _ => rfl
    d_l_comment := defIn_mk X G a36 l36 c36 k36 fun _ _ _ _ _ _ us hl => match us, hl with | [_], _ => rfl
    d_l_is_letter := defIn_mk X G a37 l37 c37 k37 fun _ _ _ _ _ _ us hl => match us, hl with | [_], _ => rfl
    d_l_run := defIn_mk X G a38 l38 c38 k38 fun _ _ _ _ _ _ us hl => match us, hl with | [_, _, _], _ => rfl
    d_l_is_digit := defIn_mk X G a39 l39 c39 k39 fun _ _ _ _ _ _ us hl => match us, hl with | [_], _ => rfl
    d_l_quote_end := defIn_mk X G a40 l40 c40 k40 fun _ _ _ _ _ _ us hl => match us, hl with | [_, _], _ => rfl
    d_l_word_end := defIn_mk X G a41 l41 c41 k41 fun _ _ _ _ _ _ us hl => match us, hl with | [_, _], _ => rfl
    d_l_cut := defIn_mk X G a42 l42 c42 k42 fun _ _ _ _ _ _ us hl => match us, hl with | [_], _ => rfl
    d_l_do_part := defIn_mk X G a43 l43 c43 k43 fun _ _ _ _ _ _ us hl => match us, hl with | [_, _], _ => rfl
    d_l_gap := defIn_mk X G a44 l44 c44 k44 fun _ _ _ _ _ _ us hl => match us, hl with | [_, _, _, _], _ => rfl
    d_l_written := defIn_mk X G a45 l45 c45 k45 fun _ _ _ _ _ _ us hl => match us, hl with | [_, _, _, _], _ => rfl
    d_l_some_text := defIn_mk X G a46 l46 c46 k46 fun _ _ _ _ _ _ us hl => match us, hl with | [_, _], _ => rfl
    d_l_hurt := defIn_mk X G a47 l47 c47 k47 fun _ _ _ _ _ _ us hl => match us, hl with | [_, _], _ => rfl
    d_l_alike := defIn_mk X G a48 l48 c48 k48 fun _ _ _ _ _ _ us hl => match us, hl with | [_, _], _ => rfl
    d_l_kind := defIn_mk X G a49 l49 c49 k49 fun _ _ _ _ _ _ us hl => match us, hl with | [_], _ => rfl
    d_l_place := defIn_mk X G a50 l50 c50 k50 fun _ _ _ _ _ _ us hl => match us, hl with | [_, _], _ => rfl
    d_l_cut_all := defIn_mk X G a51 l51 c51 k51 fun _ _ _ _ _ _ us hl => match us, hl with | [_], _ => rfl
    d_l_paired := defIn_mk X G a52 l52 c52 k52 fun _ _ _ _ _ _ us hl => match us, hl with | [_, _], _ => rfl
    d_p_law := defIn_mk X G a53 l53 c53 k53 fun _ _ _ _ _ _ us hl => match us, hl with | [_], _ => rfl
    n_abs := PySem.W.mg_none_of X G z_abs
    n_int := PySem.W.mg_none_of X G z_int
    n_len := PySem.W.mg_none_of X G z_len
    n_range := PySem.W.mg_none_of X G z_range
    n_tuple := PySem.W.mg_none_of X G z_tuple
    n_enumerate := PySem.W.mg_none_of X G z_enumerate
    n_repr := PySem.W.mg_none_of X G z_repr
    n_sorted := PySem.W.mg_none_of X G z_sorted
    n_dict := PySem.W.mg_none_of X G z_dict
    g_LETTERS := ⟨_, PySem.W.mg_of X G ga_LETTERS, ⟨_, rfl⟩⟩
    g_DIGITS := ⟨_, PySem.W.mg_of X G ga_DIGITS, ⟨_, rfl⟩⟩
    k_CLOSING := ⟨_, PySem.W.mg_of X G da_CLOSING, _, _, dl_CLOSING, dw_CLOSING, dk_CLOSING⟩
    t_KEYWORDS := ⟨_, PySem.W.mg_of X G ta_KEYWORDS, fun H => .inr ⟨_, _, _, tl_KEYWORDS, rfl, rfl, tz_KEYWORDS, tv_KEYWORDS⟩⟩
    t_ESCAPES := ⟨_, PySem.W.mg_of X G ta_ESCAPES, fun H => .inr ⟨_, _, _, tl_ESCAPES, rfl, rfl, tz_ESCAPES, tv_ESCAPES⟩⟩
    t_SIGNS := ⟨_, PySem.W.mg_of X G ta_SIGNS, fun H => .inr ⟨_, _, _, tl_SIGNS, rfl, rfl, tz_SIGNS, tv_SIGNS⟩⟩
  }
  have F := fun_mk (st := s_p_law) l53 c53 k53
  have fk51 := fun_mk (st := s_l_cut_all) l51 c51 k51
  have dk51 : DefK K mg "_law_cut_all" s_l_cut_all ["_law_text"] cc51 := ⟨f51, _, _, _, _, _, _, _, _, l51, c51, k51, PySem.W.mg_of X G a51, fk51.binds fun _ _ _ _ _ _ us hl => match us, hl with | [_], _ => rfl⟩
  have fk41 := fun_mk (st := s_l_word_end) l41 c41 k41
  have dk41 : DefK K mg "_law_word_end" s_l_word_end ["_law_text", "_law_at"] cc41 := ⟨f41, _, _, _, _, _, _, _, _, l41, c41, k41, PySem.W.mg_of X G a41, fk41.binds fun _ _ _ _ _ _ us hl => match us, hl with | [_, _], _ => rfl⟩
  refine ⟨_, [(cc51, 346), (cc41, 283)], fun p hp => ?_, rfl, fun s v => .of_eq rfl, fun base kin _ SB TB => law_all T (SB trivial) F  dk51 dk41 (TB (cc51, 346) (by simp)) (TB (cc41, 283) (by simp))⟩
  simp only [List.mem_cons, List.not_mem_nil, or_false] at hp
  rcases hp with rfl | rfl
  · exact ⟨hh51, hn51⟩
  · exact ⟨hh41, hn41⟩
end Lw
open PySem PySem.W PyProof.Rows
local macro_rules | `(tactic| o_head ($f $a $b $c $d)) => `(tactic| o_head (Vf.sysHook ($f $a $b $c $d)))
set_option maxRecDepth 100000 in
set_option maxHeartbeats 0 in
theorem PySem.Challenge.cw_leastlaid_k05_brackets_paired_holds : PySem.Challenge.rw_leastlaid_k05_brackets_paired.Holds := by
  w_on; o_law; k_head; (case hw => w_witness2)
  k_fill
  refine Vf.walk_ofX (S := True) (l := PySem.Challenge.rw_leastlaid_k05_brackets_paired) (n := 63) (k := 28) (x := "_law_script") (sp := fun w => Lw.spLaw5k _ Lw.tl5k) (Ts := [346, 283]) rfl (by decide) rfl ⟨rfl, by decide, by decide⟩ (fun w h Y => ⟨⟨PySem.W.km_in_of Y.1, PySem.W.km_tabs_of Y.1⟩, fun _ => Y.2⟩) ?F (fun _ _ a ns hl hT hS => ⟨a, ns, rfl, hS, hl, Lw.tabs0 hT, fun _ => rfl⟩)
  case F =>
    intro w mg fa h KX G hmg
    refine' Lw.all_mk KX G hmg ?a0 ?l0 ?c0 ?k0 ?a1 ?l1 ?c1 ?k1 ?a2 ?l2 ?c2 ?k2 ?a3 ?l3 ?c3 ?k3 ?a4 ?l4 ?c4 ?k4 ?a5 ?l5 ?c5 ?k5 ?a6 ?l6 ?c6 ?k6 ?a7 ?l7 ?c7 ?k7 ?a8 ?l8 ?c8 ?k8 ?a9 ?l9 ?c9 ?k9 ?a10 ?l10 ?c10 ?k10 ?a11 ?l11 ?c11 ?k11 ?a12 ?l12 ?c12 ?k12 ?a13 ?l13 ?c13 ?k13 ?a14 ?l14 ?c14 ?k14 ?a15 ?l15 ?c15 ?k15 ?a16 ?l16 ?c16 ?k16 ?a17 ?l17 ?c17 ?k17 ?a18 ?l18 ?c18 ?k18 ?a19 ?l19 ?c19 ?k19 ?a20 ?l20 ?c20 ?k20 ?a21 ?l21 ?c21 ?k21 ?a22 ?l22 ?c22 ?k22 ?a23 ?l23 ?c23 ?k23 ?a24 ?l24 ?c24 ?k24 ?a25 ?l25 ?c25 ?k25 ?a26 ?l26 ?c26 ?k26 ?a27 ?l27 ?c27 ?k27 ?a28 ?l28 ?c28 ?k28 ?a29 ?l29 ?c29 ?k29 ?a30 ?l30 ?c30 ?k30 ?a31 ?l31 ?c31 ?k31 ?a32 ?l32 ?c32 ?k32 ?a33 ?l33 ?c33 ?k33 ?a34 ?l34 ?c34 ?k34 ?a35 ?l35 ?c35 ?k35 ?a36 ?l36 ?c36 ?k36 ?a37 ?l37 ?c37 ?k37 ?a38 ?l38 ?c38 ?k38 ?a39 ?l39 ?c39 ?k39 ?a40 ?l40 ?c40 ?k40 ?a41 ?l41 ?c41 ?k41 ?hh41 ?hn41 ?a42 ?l42 ?c42 ?k42 ?a43 ?l43 ?c43 ?k43 ?a44 ?l44 ?c44 ?k44 ?a45 ?l45 ?c45 ?k45 ?a46 ?l46 ?c46 ?k46 ?a47 ?l47 ?c47 ?k47 ?a48 ?l48 ?c48 ?k48 ?a49 ?l49 ?c49 ?k49 ?a50 ?l50 ?c50 ?k50 ?a51 ?l51 ?c51 ?k51 ?hh51 ?hn51 ?a52 ?l52 ?c52 ?k52 ?a53 ?l53 ?c53 ?k53 ?z_abs ?z_int ?z_len ?z_range ?z_tuple ?z_enumerate ?z_repr ?z_sorted ?z_dict ?da_CLOSING ?dl_CLOSING ?dw_CLOSING ?dk_CLOSING ?ta_KEYWORDS ?tl_KEYWORDS ?tv_KEYWORDS ?tz_KEYWORDS ?ta_ESCAPES ?tl_ESCAPES ?tv_ESCAPES ?tz_ESCAPES ?ta_SIGNS ?tl_SIGNS ?tv_SIGNS ?tz_SIGNS ?ga_LETTERS ?ga_DIGITS
    (case a0 => k_is)
    (case l0 => k_is)
    (case c0 => k_is)
    (case k0 => k_is)
    (case a1 => k_is)
    (case l1 => k_is)
    (case c1 => k_is)
    (case k1 => k_is)
    (case a2 => k_is)
    (case l2 => k_is)
    (case c2 => k_is)
    (case k2 => k_is)
    (case a3 => k_is)
    (case l3 => k_is)
    (case c3 => k_is)
    (case k3 => k_is)
    (case a4 => k_is)
    (case l4 => k_is)
    (case c4 => k_is)
    (case k4 => k_is)
    (case a5 => k_is)
    (case l5 => k_is)
    (case c5 => k_is)
    (case k5 => k_is)
    (case a6 => k_is)
    (case l6 => k_is)
    (case c6 => k_is)
    (case k6 => k_is)
    (case a7 => k_is)
    (case l7 => k_is)
    (case c7 => k_is)
    (case k7 => k_is)
    (case a8 => k_is)
    (case l8 => k_is)
    (case c8 => k_is)
    (case k8 => k_is)
    (case a9 => k_is)
    (case l9 => k_is)
    (case c9 => k_is)
    (case k9 => k_is)
    (case a10 => k_is)
    (case l10 => k_is)
    (case c10 => k_is)
    (case k10 => k_is)
    (case a11 => k_is)
    (case l11 => k_is)
    (case c11 => k_is)
    (case k11 => k_is)
    (case a12 => k_is)
    (case l12 => k_is)
    (case c12 => k_is)
    (case k12 => k_is)
    (case a13 => k_is)
    (case l13 => k_is)
    (case c13 => k_is)
    (case k13 => k_is)
    (case a14 => k_is)
    (case l14 => k_is)
    (case c14 => k_is)
    (case k14 => k_is)
    (case a15 => k_is)
    (case l15 => k_is)
    (case c15 => k_is)
    (case k15 => k_is)
    (case a16 => k_is)
    (case l16 => k_is)
    (case c16 => k_is)
    (case k16 => k_is)
    (case a17 => k_is)
    (case l17 => k_is)
    (case c17 => k_is)
    (case k17 => k_is)
    (case a18 => k_is)
    (case l18 => k_is)
    (case c18 => k_is)
    (case k18 => k_is)
    (case a19 => k_is)
    (case l19 => k_is)
    (case c19 => k_is)
    (case k19 => k_is)
    (case a20 => k_is)
    (case l20 => k_is)
    (case c20 => k_is)
    (case k20 => k_is)
    (case a21 => k_is)
    (case l21 => k_is)
    (case c21 => k_is)
    (case k21 => k_is)
    (case a22 => k_is)
    (case l22 => k_is)
    (case c22 => k_is)
    (case k22 => k_is)
    (case a23 => k_is)
    (case l23 => k_is)
    (case c23 => k_is)
    (case k23 => k_is)
    (case a24 => k_is)
    (case l24 => k_is)
    (case c24 => k_is)
    (case k24 => k_is)
    (case a25 => k_is)
    (case l25 => k_is)
    (case c25 => k_is)
    (case k25 => k_is)
    (case a26 => k_is)
    (case l26 => k_is)
    (case c26 => k_is)
    (case k26 => k_is)
    (case a27 => k_is)
    (case l27 => k_is)
    (case c27 => k_is)
    (case k27 => k_is)
    (case a28 => k_is)
    (case l28 => k_is)
    (case c28 => k_is)
    (case k28 => k_is)
    (case a29 => k_is)
    (case l29 => k_is)
    (case c29 => k_is)
    (case k29 => k_is)
    (case a30 => k_is)
    (case l30 => k_is)
    (case c30 => k_is)
    (case k30 => k_is)
    (case a31 => k_is)
    (case l31 => k_is)
    (case c31 => k_is)
    (case k31 => k_is)
    (case a32 => k_is)
    (case l32 => k_is)
    (case c32 => k_is)
    (case k32 => k_is)
    (case a33 => k_is)
    (case l33 => k_is)
    (case c33 => k_is)
    (case k33 => k_is)
    (case a34 => k_is)
    (case l34 => k_is)
    (case c34 => k_is)
    (case k34 => k_is)
    (case a35 => k_is)
    (case l35 => k_is)
    (case c35 => k_is)
    (case k35 => k_is)
    (case a36 => k_is)
    (case l36 => k_is)
    (case c36 => k_is)
    (case k36 => k_is)
    (case a37 => k_is)
    (case l37 => k_is)
    (case c37 => k_is)
    (case k37 => k_is)
    (case a38 => k_is)
    (case l38 => k_is)
    (case c38 => k_is)
    (case k38 => k_is)
    (case a39 => k_is)
    (case l39 => k_is)
    (case c39 => k_is)
    (case k39 => k_is)
    (case a40 => k_is)
    (case l40 => k_is)
    (case c40 => k_is)
    (case k40 => k_is)
    (case a41 => k_is)
    (case l41 => k_is)
    (case c41 => k_is)
    (case k41 => k_is)
    (case hh41 => first | kernel_rfl | rfl | with_unfolding_all rfl | (trace_state; fail "no"))
    (case hn41 => first | kernel_rfl | rfl | with_unfolding_all rfl | (trace_state; fail "no"))
    (case a42 => k_is)
    (case l42 => k_is)
    (case c42 => k_is)
    (case k42 => k_is)
    (case a43 => k_is)
    (case l43 => k_is)
    (case c43 => k_is)
    (case k43 => k_is)
    (case a44 => k_is)
    (case l44 => k_is)
    (case c44 => k_is)
    (case k44 => k_is)
    (case a45 => k_is)
    (case l45 => k_is)
    (case c45 => k_is)
    (case k45 => k_is)
    (case a46 => k_is)
    (case l46 => k_is)
    (case c46 => k_is)
    (case k46 => k_is)
    (case a47 => k_is)
    (case l47 => k_is)
    (case c47 => k_is)
    (case k47 => k_is)
    (case a48 => k_is)
    (case l48 => k_is)
    (case c48 => k_is)
    (case k48 => k_is)
    (case a49 => k_is)
    (case l49 => k_is)
    (case c49 => k_is)
    (case k49 => k_is)
    (case a50 => k_is)
    (case l50 => k_is)
    (case c50 => k_is)
    (case k50 => k_is)
    (case a51 => k_is)
    (case l51 => k_is)
    (case c51 => k_is)
    (case k51 => k_is)
    (case hh51 => first | kernel_rfl | rfl | with_unfolding_all rfl | (trace_state; fail "no"))
    (case hn51 => first | kernel_rfl | rfl | with_unfolding_all rfl | (trace_state; fail "no"))
    (case a52 => k_is)
    (case l52 => k_is)
    (case c52 => k_is)
    (case k52 => k_is)
    (case a53 => k_is)
    (case l53 => k_is)
    (case c53 => k_is)
    (case k53 => k_is)
    (case z_abs => k_is)
    (case z_int => k_is)
    (case z_len => k_is)
    (case z_range => k_is)
    (case z_tuple => k_is)
    (case z_enumerate => k_is)
    (case z_repr => k_is)
    (case z_sorted => k_is)
    (case z_dict => k_is)
    (case da_CLOSING => k_is)
    (case dl_CLOSING => k_is)
    (case dw_CLOSING => first | rfl | decide | k_is)
    (case dk_CLOSING => exact ⟨rfl, rfl, ⟨_, rfl⟩, ⟨rfl, rfl, ⟨_, rfl⟩, ⟨rfl, rfl, ⟨_, rfl⟩, trivial⟩⟩⟩)
    (case ta_KEYWORDS => k_is)
    (case tl_KEYWORDS => k_is)
    (case tv_KEYWORDS => exact .cons ⟨_, rfl⟩ (.cons ⟨_, rfl⟩ (.cons ⟨_, rfl⟩ (.cons ⟨_, rfl⟩ (.cons ⟨_, rfl⟩ (.cons ⟨_, rfl⟩ (.cons ⟨_, rfl⟩ (.cons ⟨_, rfl⟩ (.cons ⟨_, rfl⟩ (.cons ⟨_, rfl⟩ (.cons ⟨_, rfl⟩ (.cons ⟨_, rfl⟩ (.cons ⟨_, rfl⟩ (.cons ⟨_, rfl⟩ (.cons ⟨_, rfl⟩ (.cons ⟨_, rfl⟩ (.nil)))))))))))))))))
    (case tz_KEYWORDS => decide)
    (case ta_ESCAPES => k_is)
    (case tl_ESCAPES => k_is)
    (case tv_ESCAPES => exact .cons ⟨_, rfl⟩ (.cons ⟨_, rfl⟩ (.cons ⟨_, rfl⟩ (.cons ⟨_, rfl⟩ (.nil)))))
    (case tz_ESCAPES => decide)
    (case ta_SIGNS => k_is)
    (case tl_SIGNS => k_is)
    (case tv_SIGNS => exact .cons ⟨_, rfl⟩ (.cons ⟨_, rfl⟩ (.cons ⟨_, rfl⟩ (.cons ⟨_, rfl⟩ (.cons ⟨_, rfl⟩ (.cons ⟨_, rfl⟩ (.cons ⟨_, rfl⟩ (.cons ⟨_, rfl⟩ (.cons ⟨_, rfl⟩ (.cons ⟨_, rfl⟩ (.cons ⟨_, rfl⟩ (.cons ⟨_, rfl⟩ (.cons ⟨_, rfl⟩ (.cons ⟨_, rfl⟩ (.cons ⟨_, rfl⟩ (.cons ⟨_, rfl⟩ (.cons ⟨_, rfl⟩ (.cons ⟨_, rfl⟩ (.cons ⟨_, rfl⟩ (.cons ⟨_, rfl⟩ (.cons ⟨_, rfl⟩ (.cons ⟨_, rfl⟩ (.cons ⟨_, rfl⟩ (.nil))))))))))))))))))))))))
    (case tz_SIGNS => decide)
    (case ga_LETTERS => k_is)
    (case ga_DIGITS => k_is)
