import PyProof.Rows.All
import Wide.All
import OpenK.AllK
import Wide.FinOn
import HandS.ForMost
import KE.OsRunLaw
import HandS.ClsMeth
import HandS.Style
import HandS.IsInst
import HandS.Walk
import HandS.WordsExc
import HandS.ForExc
import HandS.ExcInit
import HandS.WideBits
import HandS.FStr
import HandS.Text
import HandS.Evl
import HandS.Property
import HandS.Defaults
import PyProof.Rows.StrJoinMade
import PyProof.StrLawsRepr
import KE.GoesEnum
import HandS.Iter
import HandS.Star
import HandS.ExcField
import HandS.ExcIs
import HandS.Strs
import HandS.ExcOwn
import KE.KParD
import HandS.MakeKw
import KE.KDictCopyH
import KE.KStar
import KE.KDictPairs
import HandS.OwnEq
import PyProof.InstEq
import KE.KCallOwn
import HandS.SortRule
import PyProof.Rows.SortKeyStr
import HandS.Small
import PyProof.DictUpdate
import KE.KOpsOwn
import KE.KExcIs
import PyProof.ReprRoads
import PyProof.ReprLen
import PySem.Challenge.RW_orplaces_k10_drafts
set_option Elab.async false
set_option linter.all false
set_option maxRecDepth 100000
set_option maxHeartbeats 0
/-! A proof by hand, def by def: each def's promise, its body as a term of the hand layer's rules, its reading; the end. -/
namespace Lx
open PySem PySem.Spec PyProof.Rows L2
/-! ### defs that ask for repr: nothing is being shown when they are called -/
/-- nothing is being shown -/
def Calm (A : Around) : Prop := A.guards = some []
theorem Calm.deeper {A : Around} (c : Calm A) (env : Env) : Calm (A.deeper env) := by
  have e : (A.deeper env).guards = A.guards := by first | rfl | simp [Around.deeper]
  exact e.trans c
/-- a def's promise, kept where nothing is being shown -/
structure FnG (P : Program) (w : World) (K : PySem.W.Frag) (mg : Str → Option Value) (base : Heap) (n : Nat) (g : Addr) (gd : FuncData) (names : List Str) (sp : Sp) : Prop where
  count : ∀ xs H Q E, sp xs H Q E → xs.length = names.length
  go : ∀ (A : Around) (outs : List Env) (st : Shared) (H : Hp) (given : Args) (us : List Value) (xs : List V) (Q : VK) (E : XK),
    Calm A → Room n A → Env0 P w K mg base A outs st H → BindsTo st gd given (names.zip us) → Vals xs us → sp xs H Q E →
    codeAny (model P w) A (.call (.ref g) given) (CR CX0 outs P w H st Q E) st
section
variable {P : Program} {w : World} {K : PySem.W.Frag} {mg : Str → Option Value} {base : Heap} {n : Nat} {g : Addr} {gd : FuncData} {names : List Str} {sp : Sp}
theorem FnG.of (F : FnOk P w K mg base CX0 n g gd names sp) : FnG P w K mg base n g gd names sp :=
  ⟨F.len, fun A outs st H given us xs Q E _ => F.run A outs st H given us xs Q E⟩
theorem okG {x qual : Str} {st : Stmt} {N : List Str} (F : Fun K x qual st g gd) (S : FnScope N names (defScope st)) (count : ∀ xs H Q E, sp xs H Q E → xs.length = names.length)
    (body : ∀ (cv : Value) (A : Around) (outs : List Env) (s0 : Shared) (H : Hp) (xs : List V) (Q : VK) (E : XK), Calm (A.deeper (envOfC qual (defScope st) s0.heap.objs.size g cv)) →
      Room n (A.deeper (envOfC qual (defScope st) s0.heap.objs.size g cv)) → sp xs H Q E →
      ∃ t, PSs (cxOf CX0 P w K mg base N qual (defScope st) g cv A outs s0 H E).nox (defBody st) t ∧ t { nx := fun _ H' => Q .non H', rt := Q } (start N xs) H) : FnG P w K mg base (n + 1) g gd names sp := by
  obtain ⟨c0, o0, k0, d0, p0, a0, cv, t0, sl0, rfl, at0, code0⟩ := F.ex
  refine ⟨count, fun A outs s0 H given us xs Q E calm room e0 bound rel hsp => ?_⟩
  have keep0 := fun b o e => (e0.bs b o e).1
  have KX : K.In s0.heap := e0.mod.kin.keeps keep0
  have lim0 : s0.heap.NoLimit := e0.mod.nolimit.keeps keep0
  refine codeAny_call_function room.depth (KX _ _ at0) rfl S.co S.gen rfl (PySem.W.codeRec_of KX code0) (bound _ _ _ _ ?_)
  refine wpAny_newFunctionEnv_cells S.kind (fun ⟨y, v⟩ hy => ?_) fun en envE s1 ic => ?_
  · exact (S.par y (List.of_mem_zip hy).1).elim (fun q => .inl q) fun q => .inr ⟨q, PySem.W.cellsFrom_some _ _ _ (.inl q)⟩
  subst envE
  refine ⟨lim0.keeps ic.toInCall.keep, codeAny_func ?_⟩
  obtain ⟨t, ht, hq⟩ := body cv A outs s0 H xs Q E (calm.deeper _) (room.deeper _) hsp
  have I := inv_start (CX := CX0) (E := E) S room.hd e0 (count _ _ _ _ hsp) rel ic
  refine wpAny_mono (ht.nox.run [] s1 (start N xs) H _ I hq) (fun fl s2 hs => ?_) fun _ _ hs => hs
  cases fl with
  | ret u =>
    obtain ⟨v, σ2, H2, J, rv, q⟩ := hs
    exact ⟨v, H2, J.os, J.bare, J.base, J.hok, rv, q⟩
  | next =>
    obtain ⟨σ2, H2, J, q⟩ := hs
    exact ⟨V.non, H2, J.os, J.bare, J.base, J.hok, rfl, q⟩
  | brk =>
    obtain ⟨_, _, _, q⟩ := hs
    exact q.elim
  | cont =>
    obtain ⟨_, _, _, q⟩ := hs
    exact q.elim
end
/-- f(e, ..) of such a def -/
theorem pe_callG {X : Cx} {k : Nat} {f : Addr} {fd : FuncData} {ps : List Str} {sp : Sp} {x : Str} {p pos : Pos} {e : Expr} {es : List Expr} {t : TA} (F : FnG X.prog X.w X.K X.mg X.base k f fd ps sp) (calm : Calm X.A) (room : Room k X.A) (gl : Gl X x) (at_ : X.mg x = some (.ref f))
    (kp : PySem.W.keepIn X.K (.ref f) = true) (b : Binds X.K fd ps []) (ha : PA X (e :: es) t) (ndb : (x == ("__debug__" : Str)) = false := by decide) (se : starEach (e :: es) X.env = (false, eval e X.env) :: starEach es X.env := by rfl)
    (ns : (backTo pos (starEach es X.env)).any (·.1) = false := by rfl) : PE X (.Call (.Name x p) (e :: es) [] pos) (tCall sp [] E0 t) := by
  refine ⟨fun pins s σ H Q I h => wpAny_Call_Name_kw (ld_glob I gl at_ ?_ ndb)⟩
  refine PySem.W.callWith_K (h₀ := X.base) I.ok.mod.kin kp (thn (ha.run pos pins s σ H _ I h) fun us s1 hh => ?_) se ns
  obtain ⟨xs, H1, I1, r1, q1⟩ := hh
  rw [List.append_nil] at q1
  refine ⟨I1.kIn, wpAny_call (codeAny_mono (F.go X.A X.stack s1 H1 ⟨us, []⟩ us xs Q E0 calm room I1.env0 ?_ r1 q1) fun r s2 hr => ?_)⟩
  · have bb := b s1 us I1.kIn (by rw [List.append_nil, ← r1.length]; exact F.count _ _ _ _ q1)
    rw [List.append_nil] at bb
    exact bb
  · cases r with
    | error _ => exact False.elim hr
    | ok fl =>
      cases fl with
      | ret u => exact I1.after hr
      | next => exact False.elim hr
      | brk => exact False.elim hr
      | cont => exact False.elim hr
end Lx
namespace Lx
open PySem PySem.Spec PyProof.Rows L2
/-! ### a law whose def asks for repr: its call at the top -/
section
variable {P : Program} {w : World} {K : PySem.W.Frag} {mg mb : Str → Option Value} {k : Nat} {fa a : Addr} {fd : FuncData} {x : Str} {sp : Sp} {s₁ : Shared} {vs : List Value} {ns : List Int}
/-- from one abstract heap: nothing but the script at a is told -/
theorem top_core (KX : K.In s₁.heap) (hns : s₁.heap.Ns mainGlobals mg) (hb : s₁.heap.Ns builtinsNs mb) (hbb : ∀ x : Str, x ≠ "__name__" → mb x = bootBuiltins x) (hlim : s₁.heap.NoLimit) (hg : s₁.gens = #[])
    (ha : s₁.heap.get? a = some { cls := .type "list", data := .seq vs.toArray }) (room : Room k callerA) (F : ∀ base : Heap, K.In base → base.Ns mainGlobals mg → FnG P w K mg base k fa fd [x] sp)
    (bind1 : ∀ (s : Shared) (u : Value), BindsTo s fd ⟨[u], []⟩ [(x, u)]) (H : Hp) (only : Only H) (hok : HOk P w H s₁.heap) (sole : ∀ b, H b ≠ none → b = a) (notK : H a ≠ none → K.lookup a = none)
    (hsp : sp [.ref a] H (fun v _ => v = .bl true) fun _ _ _ => False) :
    codeAny (model P w) callerA (.call (.ref fa) ⟨[.ref a], []⟩) (fun r s' => r = .ok (.ret (.bool true)) ∧ OldK s₁.heap s'.heap ∧ s'.os = s₁.os ∧ AllBare s'.gens) s₁ := by
  have told : ∀ {b : Addr} {u : HO}, H b = some u → b = a := fun q => sole _ (by rw [q]; simp)
  have dicts : ∀ {b : Addr} {o : Obj} {es : Array DictEntry} {ep : Nat}, s₁.heap.get? b = some o → o.data = .dict es ep → H b = none := fun {b o es ep} e d => by
    cases q : H b with
    | none => rfl
    | some u =>
      cases told q
      cases ha.symm.trans e
      cases d
  have spaces : ∀ {b : Addr} {m : Str → Option Value}, s₁.heap.Ns b m → (hidT s₁.heap H).Ns b m := fun ⟨o, es, ep, e, d, r⟩ => ⟨o, es, ep, hidT_get e (dicts e d), d, r⟩
  have inB : K.In (hidT s₁.heap H) := fun b o e => by
    refine hidT_get (KX b o e) ?_
    cases q : H b with
    | none => rfl
    | some u =>
      cases told q
      cases (notK (by rw [q]; simp)).symm.trans e
  obtain ⟨mc, lim1, lim2⟩ := hlim
  have md : Mod K mg (hidT s₁.heap H) := ⟨inB, spaces hns, ⟨mb, spaces hb, hbb⟩, mc, spaces lim1, lim2⟩
  have env : Env0 P w K mg (hidT s₁.heap H) callerA [] s₁ H := ⟨rfl, md, fun _ _ e => of_hidT e, Nat.le_of_eq (hidT_size _ _), trivial, fun b q => by simp [frs] at q, hok, .of_eq hg⟩
  have ran := (F _ inB (spaces hns)).go callerA [] s₁ H ⟨[.ref a], []⟩ [.ref a] [.ref a] _ _ rfl room env (bind1 s₁ (.ref a)) (.cons rfl .nil) hsp
  refine codeAny_mono ran fun r s' h => ?_
  cases r with
  | error _ => exact False.elim h
  | ok fl =>
    cases fl with
    | next => exact False.elim h
    | brk => exact False.elim h
    | cont => exact False.elim h
    | ret u =>
      obtain ⟨v, H', os, bare, un, hok', rel, q⟩ := h
      cases (q : v = .bl true)
      cases (rel : u = Value.bool true)
      refine ⟨rfl, OldK.of_keep fun b o e => ?_, os, bare⟩
      cases q : H b with
      | none => exact un.keep b o e q (fun z => by simp [frs] at z) (by simp)
      | some u =>
        rcases only b with z | ⟨ob, xs, z⟩
        · cases q.symm.trans z
        · have e1 := (hok b _ z).1
          have e2 := (hok' b _ (un.frzs b ob _ z)).1
          cases e.symm.trans e1
          exact e2
theorem top_call (KX : K.In s₁.heap) (hns : s₁.heap.Ns mainGlobals mg) (hb : s₁.heap.Ns builtinsNs mb) (hbb : ∀ x : Str, x ≠ "__name__" → mb x = bootBuiltins x) (hlim : s₁.heap.NoLimit) (hg : s₁.gens = #[])
    (ha : s₁.heap.get? a = some { cls := .type "list", data := .seq vs.toArray }) (hi : IntsAre vs ns) (hl : ns.length ≤ sizeLine) (room : Room k callerA)
    (F : ∀ base : Heap, K.In base → base.Ns mainGlobals mg → FnG P w K mg base k fa fd [x] sp) (bind1 : ∀ (s : Shared) (u : Value), BindsTo s fd ⟨[u], []⟩ [(x, u)])
    (hsp : ∀ H : Hp, Only H → SqL K H a (ns.map V.int) → sp [.ref a] H (fun v _ => v = .bl true) fun _ _ _ => False) :
    codeAny (model P w) callerA (.call (.ref fa) ⟨[.ref a], []⟩) (fun r s' => r = .ok (.ret (.bool true)) ∧ OldK s₁.heap s'.heap ∧ s'.os = s₁.os ∧ AllBare s'.gens) s₁ := by
  have rv := vals_ints hi
  by_cases hk : K.lookup a = none
  · let H : Hp := fun b => if b = a then some (.frz { cls := .type "list", data := .seq vs.toArray } (.lst (ns.map V.int))) else none
    have at_a : H a = some (.frz { cls := .type "list", data := .seq vs.toArray } (.lst (ns.map V.int))) := if_pos rfl
    have off_a : ∀ {b : Addr}, b ≠ a → H b = none := fun n => if_neg n
    have sole : ∀ b, H b ≠ none → b = a := fun b n => Classical.byContradiction fun h => n (off_a h)
    have only : Only H := fun b => by
      by_cases h : b = a
      · subst h
        exact .inr ⟨_, _, at_a⟩
      · exact .inl (off_a h)
    refine top_core KX hns hb hbb hlim hg ha room F bind1 H only (fun b u z => ?_) sole (fun _ => hk) (hsp H only (.inl (.inr ⟨_, at_a⟩)))
    cases sole b (by rw [z]; simp)
    cases at_a.symm.trans z
    exact ⟨ha, by rw [List.length_map]; exact hl, vs, _, rv, ha⟩
  · obtain ⟨o, ho⟩ := Option.ne_none_iff_exists'.mp hk
    cases ha.symm.trans (KX a o ho)
    have only : Only fun _ => none := fun _ => .inl rfl
    refine top_core KX hns hb hbb hlim hg ha room F bind1 (fun _ => none) only (fun b u z => by cases z) (fun b z => absurd rfl z) (fun z => absurd rfl z) (hsp _ only (.inr ⟨_, vs.toArray, _, ho, rfl, rfl, rfl, ?_, by simpa using rv⟩))
    rw [List.size_toArray, hi.length]
    exact hl
end
theorem walkG {l : PySem.W.OpenLaw} {n k : Nat} {q : Program} {loose : List Str} {XP : (Str → Option Value) → Heap → Prop} {YP : World → Heap → Prop} {d : DefRec} {K : Params → PySem.W.Frag} {sp : World → Sp} {x : Str}
    (hn : l.most = some n) (hn2 : n ≤ sizeLine) (hdf : d.params.defaults = []) (room : Room k callerA) (hY : ∀ (w : World) (h : Heap), YP w h → (K w.params).In h)
    (F : ∀ (w : World) (mg : Str → Option Value) (fa : Addr) (h : Heap), (K w.params).In h → h.Ns mainGlobals mg → mg d.name = some (.ref fa) →
      ∃ fd : FuncData, (∀ (s : Shared) (u : Value), BindsTo s fd ⟨[u], []⟩ [(x, u)]) ∧ ∀ base : Heap, (K w.params).In base → base.Ns mainGlobals mg → FnG l.prog w (K w.params) mg base k fa fd [x] (sp w))
    (hsp : ∀ (w : World) (H : Hp) (a : Addr) (ns : List Int), ns.length ≤ n → Only H → SqL (K w.params) H a (ns.map V.int) → sp w [.ref a] H (fun v _ => v = .bl true) fun _ _ _ => False) :
    PySem.W.WalkO q loose XP YP l.row.toRowW d [] (fun f vs => PySem.call f vs) := by
  refine Att.attach_call hn hdf fun w s₀ s₁ mg mb fa o pm cd doc a vs ns G Y ho hd hcd hmg hobj hints hlen hg => ?_
  obtain ⟨fd, bind1, F1⟩ := F w mg fa _ (hY w _ Y) G.T.g hmg
  exact top_call (hY w _ Y) G.T.g G.T.b G.T.builtins G.T.nolimit hg hobj hints (Nat.le_trans hlen hn2) room F1 bind1 fun H only hS => hsp w H a ns hlen only hS
end Lx
namespace Lx
open PySem PySem.Spec PyProof.Rows L2
/-! ### repr of data: flat things, lists and tuples at any depth, dicts of flat things -/
def dKey : Key → PyData
  | .inl i => .int i
  | .inr x => .str x
inductive FlatV : V → PyData → Prop
  | non : FlatV .non .none
  | bl (b : Bool) : FlatV (.bl b) (.bool b)
  | int (i : Int) : FlatV (.int i) (.int i)
  | str (x : Str) : FlatV (.str x) (.str x)
def FlatKv : List (Key × V) → List (PyData × PyData) → Prop := Paired fun kv e => e.1 = dKey kv.1 ∧ FlatV kv.2 e.2
def ShowAt (K : PySem.W.Frag) (H : Hp) (v : V) (d : PyData) : Prop :=
  Dp K H v d ∨ ∃ (a : Addr) (kvs : List (Key × V)) (ds : List (PyData × PyData)), v = .ref a ∧ H a = some (.dK kvs) ∧ d = .dict ds ∧ FlatKv kvs ds
theorem FlatV.reads {h : Heap} {v : V} {d : PyData} {u : Value} (f : FlatV v d) (r : RelV v u) : Reads h u d [] := by
  cases f with
  | non => cases (r : u = .none); exact .none
  | bl b => cases (r : u = .bool b); exact .bool b
  | int i => obtain ⟨t, rfl⟩ := (r : ∃ t, u = .int i t); exact .int i t
  | str x => obtain ⟨t, rfl⟩ := (r : ∃ t, u = .str x t); exact .str x t
theorem pairs_read {P : Program} {w : World} {h : Heap} : ∀ {es : List DictEntry} {vs : List (Key × Value)} {kvs : List (Key × V)} {ds : List (PyData × PyData)}, Pairs (mixKind P w) es vs → KV kvs vs → FlatKv kvs ds →
    ReadsAll h (es.map (·.key)) (ds.map (·.1)) [] ∧ ReadsAll h (es.map (·.val)) (ds.map (·.2)) []
  | _, _, _, _, .nil, .nil, .nil => ⟨.nil, .nil⟩
  | _, _, _, _, .cons (e := e) ik iv pr, .cons ⟨k1, k2⟩ kr, .cons ⟨f1, f2⟩ fr => by
    obtain ⟨h1, h2⟩ := pairs_read (h := h) pr kr fr
    have q := FlatV.reads (h := h) f2 k2
    rw [← iv] at q
    refine ⟨?_, .cons (as := []) (bs := []) q h2⟩
    rw [List.map_cons, List.map_cons, f1, k1]
    rcases keyIs_shape ik with ⟨i, t, e1, e2⟩ | ⟨x, t, e1, e2⟩
    · rw [e1, e2]
      exact .cons (as := []) (bs := []) (.int i t) h1
    · rw [e1, e2]
      exact .cons (as := []) (bs := []) (.str x t) h1
mutual
theorem dp_noDict {K : PySem.W.Frag} {H : Hp} : ∀ (d : PyData) (v : V), Dp K H v d → d.hasDict = false
  | .none, _, _ => by simp only [PyData.hasDict]
  | .bool _, _, _ => by simp only [PyData.hasDict]
  | .int _, _, _ => by simp only [PyData.hasDict]
  | .str _, _, _ => by simp only [PyData.hasDict]
  | .list xs, _, h => by
    cases h with
    | lst _ ha => simp only [PyData.hasDict, dpAll_noDict xs _ ha]
  | .tuple xs, _, h => by
    cases h with
    | tup _ ha => simp only [PyData.hasDict, dpAll_noDict xs _ ha]
  | .dict _, _, h => by cases h
theorem dpAll_noDict {K : PySem.W.Frag} {H : Hp} : ∀ (ds : List PyData) (vs : List V), DpAll K H vs ds → PyData.hasDictAll ds = false
  | [], _, _ => by simp only [PyData.hasDictAll]
  | d :: ds, _, h => by
    cases h with
    | cons h1 h2 => simp only [PyData.hasDictAll, dp_noDict d _ h1, dpAll_noDict ds _ h2, Bool.or_self]
end
section
variable {X : Cx} {pins : List (Addr × Obj)} {σ : L2.St} {H : Hp} {s : Shared}
theorem ShowAt.reads {v : V} {d : PyData} {u : Value} (I : Inv X pins σ H s) (f : ShowAt X.K H v d) (r : RelV v u) : ∃ as, Reads s.heap u d as ∧ (d.hasDict = true → sysModules ∉ as) := by
  rcases f with f | ⟨a, kvs, ds, rfl, ha, rfl, f⟩
  · obtain ⟨as, q⟩ := Dp.reads I d v u f r
    exact ⟨as, q, PyData.noDict_hsm (dp_noDict d v f)⟩
  · cases (r : u = .ref a)
    obtain ⟨_, ns, vs, kv, o, es, ep, h1, h2, h3, _, h5, _⟩ := (show ObjOk X.prog X.w H s.heap a (.dK kvs) from I.hok a _ ha)
    obtain ⟨r1, r2⟩ := pairs_read (h := s.heap) h5 kv f
    refine ⟨a :: [] ++ [], .dict h1 h2.1 h3 r1 r2, fun _ hm => ?_⟩
    have e : sysModules = a := by simpa using hm
    rw [← e] at ns
    simp at ns
theorem call_reprS (calm : Calm X.A) (hu : X.A.units + 64 < cLine) : CallR X (.builtin "repr") (fun xs H Q => ∃ v d, xs = [v] ∧ ShowAt X.K H v d ∧ d.showable = true ∧ d.depth ≤ 60 ∧ d.shown.length ≤ sizeLine ∧ Q (.str d.shown) H) := by
  intro pins s σ H xs us Q I r h
  obtain ⟨v, d, rfl, f, sh, dp, sz, q⟩ := h
  obtain ⟨u, rfl, ru⟩ : ∃ u, us = [u] ∧ RelV v u := by
    cases r with
    | cons r1 r2 =>
      cases r2
      exact ⟨_, rfl, r1⟩
  obtain ⟨as, rd, hsm⟩ := f.reads I ru
  have done : ∀ (h' : Heap) (t : Tok) (tk : Nat), (∀ b o, s.heap.get? b = some o → h'.get? b = some o) → EP X pins σ Q (.str d.shown t) { s with heap := h', toks := tk } := fun h' t tk k => ⟨.str d.shown, H, I.kept (t' := tk) k, ⟨_, rfl⟩, q⟩
  cases rd with
  | none => exact PySem.P.repr_of_none (done s.heap _ _ fun _ _ e => e)
  | bool b => exact PySem.P.repr_of_bool (done s.heap _ _ fun _ _ e => e)
  | int i t => exact PySem.P.repr_of_int (by simpa [PyData.showable] using sh) (done s.heap _ _ fun _ _ e => e)
  | str x t => exact PySem.P.repr_of_str (done s.heap _ _ fun _ _ e => e) sz
  | list a1 a2 a3 a4 => exact repr_of_reads' (.list a1 a2 a3 a4) sh hsm calm (by omega) (fun _ _ e => e) done sz
  | tuple a1 a2 a3 a4 => exact repr_of_reads' (.tuple a1 a2 a3 a4) sh hsm calm (by omega) (fun _ _ e => e) done sz
  | dict a1 a2 a3 a4 a5 => exact repr_of_reads' (.dict a1 a2 a3 a4 a5) sh hsm calm (by omega) (fun _ _ e => e) done sz
end
end Lx
namespace Lx
open PySem PySem.Spec PyProof.Rows L2
/-! ### an own exception held as a value: made, its attributes read, its class asked -/
/-- what the written part says of an exception class at C whose __init__ stands at g -/
structure ExK (K : PySem.W.Frag) (C g : Addr) : Prop where
  oex : OexC K C
  init : PySem.W.findIn K (.ref C) "__init__" = some (some (.ref g))
  ifn : PySem.W.typeIn K (.ref g) = some (.type "function")
  ga : PySem.W.findIn K (.ref C) "__getattribute__" = some (some (.builtin "BaseException.__getattribute__"))
  gg : PySem.W.findIn K (.ref C) "__getattr__" = some none
  cls : PySem.W.findIn K (.ref C) "__class__" = some (some (.builtin "object.__class__"))
  dct : PySem.W.hasDictIn K C = true
  is : (PySem.W.clsIn K C).isSome = true
  ob : PySem.W.mroIn K C (.type "object") = some true
/-- of __class__ itself -/
structure ClsK (K : PySem.W.Frag) : Prop where
  get : PySem.W.specialIn K (.builtin "object.__class__") "__get__" = some (some (.builtin "getset_descriptor.__get__"))
  takes : PySem.W.takesIn K (.builtin "object.__class__") = some true
def tMkV (C : Addr) (sp : Sp) (t : TA) : TE := fun σ H Q => t σ H fun vs H1 => vs.length ≤ 1000 ∧ ∀ a, H1 a = none → sp (.ref a :: vs) (upd H1 a (exo a C none)) (fun v H2 => v = .non ∧ Q (.ref a) H2) E0
section
variable {X : Cx} {C g : Addr} {k : Nat} {fd : FuncData} {ps : List Str} {sp : Sp}
theorem run_excV {pins : List (Addr × Obj)} {σ : L2.St} {H : Hp} {s : Shared} {Q : VK} {us : List Value} {vs : List V} (T : ExK X.K C g) (F : FnOk X.prog X.w X.K X.mg X.base CX0 k g fd ps sp) (room : Room (k + 1) X.A) (b : Binds X.K fd ps [])
    (I : Inv X pins σ H s) (r : Vals vs us) (short : vs.length ≤ 1000) (h : ∀ a, H a = none → sp (.ref a :: vs) (upd H a (exo a C none)) (fun v H2 => v = .non ∧ Q (.ref a) H2) E0) :
    wpAny (model X.prog X.w) X.A (call (.ref C) us) (EP X pins σ Q) X.xe s := by
  obtain ⟨nm, q, N, bs, bm, sn, sub, ab, col, dd, k0, k1, k2, k3, k5, hC, hbm⟩ := T.oex.cls
  obtain ⟨hp, ge, dr, tk, os⟩ := s
  have up : hp.objs.size ≤ hp.objs.size + 1 := Nat.le_succ _
  have ask := h (hp.objs.size + 1) (I.hok.fresh up)
  have made : ((hp.push (PySem.W.kdv_tup us)).push (PySem.HandSPX.excO C hp.objs.size)).get? (hp.objs.size + 1) = some (PySem.HandSPX.excO C hp.objs.size) := by heap_get
  have I2 : Inv X pins σ (upd H (hp.objs.size + 1) (exo (hp.objs.size + 1) C none)) ⟨(hp.push (PySem.W.kdv_tup us)).push (PySem.HandSPX.excO C hp.objs.size), ge, dr, tk, os⟩ :=
    I.laid (t' := tk) (fun _ _ e => Heap.get?_push_of_some _ (Heap.get?_push_of_some _ e)) up (exo_ok made)
  have r2 : Vals (V.ref (hp.objs.size + 1) :: vs) (Value.ref (hp.objs.size + 1) :: us) := .cons rfl r
  have names : (Value.ref (hp.objs.size + 1) :: us).length = ps.length := by rw [← F.len _ _ _ _ ask, r2.length]
  have bound := b ⟨(hp.push (PySem.W.kdv_tup us)).push (PySem.HandSPX.excO C hp.objs.size), ge, dr, tk, os⟩ (Value.ref (hp.objs.size + 1) :: us) I2.kIn (by rw [List.append_nil]; exact names)
  rw [List.append_nil] at bound
  have line : us.length ≤ sizeLine := by
    rw [← Paired.length r, sizeLine_eq]
    omega
  have body := F.run _ X.stack _ _ ⟨Value.ref (hp.objs.size + 1) :: us, []⟩ (Value.ref (hp.objs.size + 1) :: us) (V.ref (hp.objs.size + 1) :: vs) _ E0 (room.make C us []) (I2.env0.make C us []) bound r2 ask
  refine wpAny_call (PySem.HandSPX.call_own PySem.F.excBase_ValueError (fun Y => PySem.HandSPX.refsVE_contains Y bm hbm) (I.kIn _ _ hC) (PySem.W.looks_findIn I.kIn T.init) (fun self => PySem.W.bind_fn I.kIn self T.ifn) line (codeAny_mono body fun res s2 got => ?_))
  cases res with
  | error _ => exact False.elim got
  | ok fl =>
    cases fl with
    | ret u =>
      obtain ⟨v, H2, J, rv, ev, q2⟩ := I2.after got
      subst ev
      exact ⟨rv, .ref (hp.objs.size + 1), H2, J, rfl, q2⟩
    | next => exact False.elim got
    | brk => exact False.elim got
    | cont => exact False.elim got
variable {x : Str} {p pos : Pos} {e : Expr} {es : List Expr} {t : TA} {te : TE} {nm : Str}
/-- C(e, ..) as a value -/
theorem pe_excV (T : ExK X.K C g) (F : FnOk X.prog X.w X.K X.mg X.base CX0 k g fd ps sp) (room : Room (k + 1) X.A) (b : Binds X.K fd ps []) (gl : Gl X x) (at_ : X.mg x = some (.ref C)) (ha : PA X (e :: es) t) (ndb : (x == ("__debug__" : Str)) = false := by decide)
    (se : starEach (e :: es) X.env = (false, eval e X.env) :: starEach es X.env := by rfl) (ns : (backTo pos (starEach es X.env)).any (·.1) = false := by rfl) : PE X (.Call (.Name x p) (e :: es) [] pos) (tMkV C sp t) := by
  refine ⟨fun pins s σ H Q I h => wpAny_Call_Name_kw (ld_glob I gl at_ ?_ ndb)⟩
  refine PySem.W.callWith_K (h₀ := X.base) I.ok.mod.kin T.oex.kC (thn (ha.run pos pins s σ H _ I h) fun us s1 hh => ?_) se ns
  obtain ⟨vs, H1, I1, r1, short, q1⟩ := hh
  exact ⟨I1.kIn, run_excV T F room b I1 r1 short q1⟩
/-- C() as a value -/
theorem pe_excV0 (T : ExK X.K C g) (F : FnOk X.prog X.w X.K X.mg X.base CX0 k g fd ps sp) (room : Room (k + 1) X.A) (b : Binds X.K fd ps []) (gl : Gl X x) (at_ : X.mg x = some (.ref C)) (ndb : (x == ("__debug__" : Str)) = false := by decide) :
    PE X (.Call (.Name x p) [] [] pos) (tMkV C sp tNil) := by
  refine ⟨fun pins s σ H Q I h => wpAny_Call_Name_kw (ld_glob I gl at_ ?_ ndb)⟩
  exact PySem.W.callWith_K0 I.kIn T.oex.kC (run_excV (us := []) T F room b I .nil h.1 h.2)
/-- e.nm, e such an exception with that attribute of its own -/
def tAtt (K : PySem.W.Frag) (nm : Str) (te : TE) : TE := fun σ H Q => te σ H fun y H1 => ∃ (a C g d : Addr) (fs : List (Str × V)) (v : V), y = .ref a ∧ ExK K C g ∧ PySem.W.findIn K (.ref C) nm = some none ∧ H1 a = some (exo a C (some d)) ∧ H1 d = some (exd d fs) ∧ fs.lookup nm = some v ∧ Q v H1
theorem pe_att (he : PE X e te) (hb : attributeBase e nm X.env (eval e X.env) = eval e X.env := by rfl) : PE X (.Attribute e nm pos) (tAtt X.K nm te) := by
  refine ⟨fun pins s σ H Q I h => attr_of hb (thn (he.run pins s σ H _ I h) fun u s1 hh => ?_)⟩
  obtain ⟨y, H1, I1, ry, a, C, g, d, fs, v, rfl, T, no, ea, ed, l, q⟩ := hh
  cases (ry : u = .ref a)
  obtain ⟨t1, ha⟩ := exo_at I1.hok ea
  obtain ⟨mA, hns, rel⟩ := exd_at I1.hok ed
  obtain ⟨od, ho, hl⟩ := lookIn_ns hns
  obtain ⟨z, hz, rz⟩ := RelO.some_of (v := v) (o := mA nm) (by rw [← l]; exact rel nm)
  have J : PySem.W.InstAt s1.heap a _ C (some od) := ⟨ha, rfl, rfl, ho⟩
  exact HandSPX.exc_get I1.kIn J T.ga T.gg T.oex.exC (PySem.W.findObj_own T.dct no rfl (by rw [hl, hz])) (handed_of rz) ⟨v, H1, I1.tok _, rz, q⟩
/-- isinstance(e, c), isinstance(e, (c, ..)) of such an exception -/
def rIsX (K : PySem.W.Frag) : List V → Hp → VK → Prop := fun xs H Q => ∃ (a C g : Addr) (d : Option Addr) (c : V) (cv : Value) (k : Bool), xs = [.ref a, c] ∧ ExK K C g ∧ ClsK K ∧ H a = some (exo a C d) ∧ (∀ dd, d = some dd → ∃ fs, H dd = some (exd dd fs)) ∧ ClsV c cv ∧ PySem.W.kitOne K (.ref C) cv = some k ∧ Q (.bl k) H
theorem inst_at {pins : List (Addr × Obj)} {σ : L2.St} {H : Hp} {s : Shared} {a C : Addr} {d : Option Addr} (I : Inv X pins σ H s) (ea : H a = some (exo a C d)) (ed : ∀ dd, d = some dd → ∃ fs, H dd = some (exd dd fs)) :
    ∃ ox od, PySem.W.InstAt s.heap a ox C od := by
  obtain ⟨t1, ha⟩ := exo_at I.hok ea
  cases d with
  | none => exact ⟨_, none, ha, rfl, rfl, trivial⟩
  | some dd =>
    obtain ⟨fs, hd⟩ := ed dd rfl
    obtain ⟨mA, hns, rel⟩ := exd_at I.hok hd
    obtain ⟨od, ho, hl⟩ := lookIn_ns hns
    exact ⟨_, some od, ha, rfl, rfl, ho⟩
theorem call_isX : CallR X (.builtin "isinstance") (rIsX X.K) := by
  intro pins s σ H xs us Q I r h
  obtain ⟨a, C, g, d, c, cv, kk, rfl, T, Z, ea, ed, hc, e, q⟩ := h
  cases r with
  | cons ra rr =>
    cases rr with
    | cons rc rr =>
      cases rr
      cases ra
      obtain rfl := hc.eq rc
      obtain ⟨ox, od, J⟩ := inst_at I ea ed
      exact PySem.W.kia_one (PySem.W.kitx_exc T.is T.ga T.gg T.oex.exC T.cls Z.get Z.takes T.ob) I.kIn J e (fun z => nomatch z) fun tk => ⟨.bl kk, H, I.kept (t' := tk) fun _ _ z => z, rfl, q⟩
def rIsXT (K : PySem.W.Frag) : List V → Hp → VK → Prop := fun xs H Q => ∃ (a C g tp : Addr) (d : Option Addr) (cs : List V) (cvs : List Value) (k : Bool), xs = [.ref a, .ref tp] ∧ ExK K C g ∧ ClsK K ∧ H a = some (exo a C d) ∧ (∀ dd, d = some dd → ∃ fs, H dd = some (exd dd fs)) ∧
  H tp = some (.tup cs) ∧ Paired ClsV cs cvs ∧ PySem.W.kitAny K (.ref C) cvs = some k ∧ Q (.bl k) H
theorem call_isXT : CallR X (.builtin "isinstance") (rIsXT X.K) := by
  intro pins s σ H xs us Q I r h
  obtain ⟨a, C, g, tp, d, cs, cvs, kk, rfl, T, Z, ea, ed, et, hc, e, q⟩ := h
  cases r with
  | cons ra rr =>
    cases rr with
    | cons rc rr =>
      cases rr
      cases ra
      cases rc
      obtain ⟨_, its, rv, o, ho, oc, n, od0⟩ := (show ObjOk X.prog X.w H s.heap tp (.tup cs) from I.hok tp _ et)
      obtain rfl := ClsV.all hc rv
      obtain ⟨cc, dd, dat, sl⟩ := o
      cases (oc : cc = _)
      cases (od0 : dat = _)
      obtain ⟨ox, odd, J⟩ := inst_at I ea ed
      exact PySem.W.kia_tup (PySem.W.kitx_exc T.is T.ga T.gg T.oex.exC T.cls Z.get Z.takes T.ob) I.kIn J ho e (fun z => nomatch z) fun tk => ⟨.bl kk, H, I.kept (t' := tk) fun _ _ z => z, rfl, q⟩
end
end Lx
namespace Lx
open PySem PySem.Spec PyProof.Rows L2
/-! ### repr of a list of such data, dicts among them -/
section
variable {X : Cx} {pins : List (Addr × Obj)} {σ : L2.St} {H : Hp} {s : Shared}
theorem show_all (I : Inv X pins σ H s) : ∀ {xs : List V} {us : List Value} {ds : List PyData}, Vals xs us → Paired (ShowAt X.K H) xs ds → PyData.showableAll ds = true → (∀ t ∈ PyData.shownAll ds, t.length ≤ sizeLine) →
    ∃ as bs, ReadsAll s.heap us ds as ∧ ReadAtMost s.heap (PyData.depthAll ds) bs ∧ ReprAllK X.prog X.w bs s.heap (PyData.depthAll ds) us (PyData.shownAll ds)
  | _, _, _, .nil, .nil, _, _ => ⟨[], [], .nil, (fun _ h => nomatch h), by simp only [PyData.shownAll]; exact .nil⟩
  | _, _, _, .cons r rs, .cons (b := d) (l₂ := ds) f fs, sh, sz => by
    have sh' : d.showable = true ∧ PyData.showableAll ds = true := by simpa [PyData.showableAll] using sh
    obtain ⟨as, rd, hsm⟩ := f.reads I r
    have z1 : d.shown.length ≤ sizeLine := sz _ (by simp only [PyData.shownAll]; exact List.mem_cons_self ..)
    obtain ⟨bs, rb, rk⟩ := ReprK.of_reads (prog := X.prog) (w := X.w) rd sh'.1 hsm z1
    obtain ⟨as2, bs2, rd2, rb2, rk2⟩ := show_all I rs fs sh'.2 fun t ht => sz t (by simp only [PyData.shownAll]; exact List.mem_cons_of_mem _ ht)
    have m1 : d.depth ≤ PyData.depthAll (d :: ds) := by
      simp only [PyData.depthAll]
      omega
    have m2 : PyData.depthAll ds ≤ PyData.depthAll (d :: ds) := by
      simp only [PyData.depthAll]
      omega
    refine ⟨as ++ as2, bs ++ bs2, .cons rd rd2, fun b hb => ?_, ?_⟩
    · rcases List.mem_append.mp hb with h | h
      · obtain ⟨d', q, e, le⟩ := rb b h
        exact ⟨d', q, e, Nat.le_trans le m1⟩
      · obtain ⟨d', q, e, le⟩ := rb2 b h
        exact ⟨d', q, e, Nat.le_trans le m2⟩
    · simp only [PyData.shownAll]
      exact .cons ((rk.more fun b hb => List.mem_append_left _ hb).level_le m1) (rk2.more_le (fun b hb => List.mem_append_right _ hb) m2)
/-- repr(a list of such data) -/
theorem call_reprL (calm : Calm X.A) (hu : X.A.units + 64 < cLine) : CallR X (.builtin "repr") (fun xs H Q => ∃ (a : Addr) (ys : List V) (ds : List PyData), xs = [.ref a] ∧ SqL X.K H a ys ∧ Paired (ShowAt X.K H) ys ds ∧ PyData.showableAll ds = true ∧ PyData.depthAll ds ≤ 50 ∧
    (PyData.shown (.list ds)).length ≤ sizeLine ∧ Q (.str (PyData.shown (.list ds))) H) := by
  intro pins s σ H xs us Q I r h
  obtain ⟨a, ys, ds, rfl, sq, f, sh, dp, sz, q⟩ := h
  cases r with
  | cons ra rr =>
    cases rr
    cases ra
    obtain ⟨its, rv, ⟨o, n, h1, h2, _, h3⟩, _⟩ := I.list sq
    have sz' : (listText (PyData.shownAll ds)).length ≤ sizeLine := by simpa only [PyData.shown] using sz
    obtain ⟨as, bs, ra, rb, rk⟩ := show_all I rv f sh fun t ht => Nat.le_trans (listText_mem_le ht) sz'
    have rd : Reads s.heap (.ref a) (.list ds) (a :: as) := .list h1 h2 h3 ra
    have apart : a ∉ bs := not_mem_of_deeper rd (by simp only [PyData.depth]; omega) rb
    have done : ∀ (h' : Heap) (t : Tok) (tk : Nat), (∀ b o, s.heap.get? b = some o → h'.get? b = some o) → EP X pins σ Q (.str (PyData.shown (.list ds)) t) { s with heap := h', toks := tk } := fun h' t tk k => ⟨.str _, H, I.kept (t' := tk) k, ⟨_, rfl⟩, q⟩
    have ty : s.TypeIs (.ref a) "list" := ⟨o, h1, h2⟩
    refine call_repr_slot (by omega) ty F.slot_list_repr.toG ?_
    simp only [PyData.shown] at done
    cases its with
    | nil =>
      cases ra
      simp only [PyData.shownAll, listText_nil] at done
      exact call_list_repr_empty ty h1 h3 ⟨_, _, rfl, done s.heap _ _ fun _ _ e => e⟩
    | cons x l =>
      refine call_list_reprK h1 h2 h3 apart (by simpa using rk.length_eq) (fun i y e => rk.item i y (by simpa using e)) (show (X.A.in1).guards = some [] from calm) (fun b _ => Clear.nil b) ?_ (fun _ _ e => e) (fun h' u tk k => ⟨_, _, rfl, done h' u tk k⟩) sz'
      show X.A.units + 1 + (PyData.depthAll ds + 1) < cLine
      omega
end
end Lx
namespace Lx
open PySem PySem.Spec PyProof.Rows L2
/-! ### enumerate of a tuple -/
set_option maxHeartbeats 1000000 in
theorem meets_enum1 {v : Value} {o : Obj} {H : Heap → Prop} (B : Begins v o H) :
    Meets (Builtin.«enumerate.__new__» ⟨[.type "enumerate", v], []⟩) (fun _ R s => H s.heap ∧
      R (.ok (.ret (.ref (s.heap.push o).objs.size))) { s with heap := (s.heap.push o).push { cls := .type "enumerate", data := .fields #[.none, .bool false, .ref s.heap.objs.size, rawInt 0, .none, .none] } }) :=
  .of_wp fun prog w A R s h => by
    obtain ⟨hp, g, d, tk, os⟩ := s
    obtain ⟨h1, h⟩ := h
    have hsub := sub_enumerate
    have q1 : ∀ {A' : Around} {E : Value → Shared → Prop} {Q : Value → Shared → Prop}, Q (.ref hp.objs.size) ⟨hp.push o, g, d, tk, os⟩ → wpAny (model prog w) A' (pyIter v) Q E ⟨hp, g, d, tk, os⟩ :=
      fun q => B.iter prog w _ _ ⟨hp, g, d, tk, os⟩ _ h1 q
    wp_walk using q1
    refine wpAny_stack_any fun st => wpAny_pure ?_
    split
    · rename_i c _ _ _ _ _
      cases (c == Value.type "enumerate")
      · wp_walk using q1
        exact ⟨_, rfl, h⟩
      · wp_walk using q1
        exact ⟨_, rfl, h⟩
    · wp_walk using q1
      exact ⟨_, rfl, h⟩
theorem enum1_begins {prog : Program} {w : World} {A : Around} {E : Value → Shared → Prop} {s : Shared} {v : Value} {o : Obj} {H : Heap → Prop} {Q : Value → Shared → Prop} (B : Begins v o H) (h1 : H s.heap)
    (h : ∀ h', IsEnum h' (s.heap.objs.size + 1) s.heap.objs.size 0 .none → h'.get? s.heap.objs.size = some o → h'.objs.size = s.heap.objs.size + 2 →
      (∀ b o, s.heap.get? b = some o → h'.get? b = some o) → Q (.ref (s.heap.objs.size + 1)) { s with heap := h' }) :
    wpAny (model prog w) A (call (.type "enumerate") [v]) Q E s := by
  refine callType_new F.called_enumerate (by decide) (F.typeCall_enumerate_1 _) (F.newCall_enumerate_1 _) (fun obj => F.args_object_init_2 obj _) F.entry_enumerate_new
    (meets_enum1 B) ⟨h1, ?_⟩
  have hz : (s.heap.push o).objs.size = s.heap.objs.size + 1 := Heap.size_push ..
  show _ ∧ _
  rw [hz]
  have he : IsEnum ((s.heap.push o).push { cls := .type "enumerate", data := .fields #[.none, .bool false, .ref s.heap.objs.size, rawInt 0, .none, .none] }) (s.heap.objs.size + 1) s.heap.objs.size 0 .none := by
    have := Heap.get?_push_size (s.heap.push o) (o := { cls := .type "enumerate", data := .fields #[.none, .bool false, .ref s.heap.objs.size, rawInt 0, .none, .none] }) rfl
    rw [hz] at this
    exact this
  refine ⟨⟨_, he, rfl⟩, h _ he (Heap.get?_push_of_some _ (Heap.get?_push_size _ B.free)) (by rw [Heap.size_push, hz]) fun b o x => Heap.get?_push_of_some _ (Heap.get?_push_of_some _ x)⟩
/-- the tuple at a, each item in a new pair -/
def IteT (K : PySem.W.Frag) (a : Addr) (xs : List V) : It :=
  ⟨fun i H => SqT K H a xs ∧ i < xs.length, fun i H v H' => ∃ T x, v = .ref T ∧ H T = none ∧ H' = upd H T (.tup [.int (i : Nat), x]) ∧ xs[i]? = some x, fun i H => SqT K H a xs ∧ xs.length ≤ i⟩
theorem turn_enumT {P : Program} {w : World} {K : PySem.W.Frag} {elts : List Expr} {kk : Nat} {tpos : Pos} (a e it : Addr) (xs : List V) :
    Turn P w K (.Tuple elts kk tpos) (IteT K a xs) [e, it] e (fun i h => (∃ old, IsEnum h e it ((i : Nat) : Int) old) ∧ h.IsTupleIter it a i ∧ e ≠ it ∧ e ≠ a ∧ a ≠ it ∧ i ≤ xs.length) where
  mem := by simp
  obj := fun i h st b hb => by
    obtain ⟨⟨old, he⟩, ⟨o, ho, hc, hd⟩, _⟩ := st
    have e' : b = e ∨ b = it := by simpa using hb
    rcases e' with z | z
    · rw [z]
      exact ⟨_, he, fun v q => nomatch q⟩
    · rw [z]
      exact ⟨o, ho, fun v q => by rw [hd] at q; cases q⟩
  keep := fun i h h' st k => let ⟨⟨old, he⟩, hi, hne⟩ := st; ⟨⟨old, k e (by simp) _ he⟩, hi.at fun o q => k it (by simp) o q, hne⟩
  item := by
    intro X hP hw hK hc i pins s σ H E I hf st hg
    subst hP hw hK
    obtain ⟨⟨old, he⟩, hit, hne, hna, hai, hle⟩ := st
    obtain ⟨hq, hil⟩ := hg
    obtain ⟨x, hx⟩ : ∃ x, xs[i]? = some x := ⟨_, List.getElem?_eq_getElem hil⟩
    obtain ⟨its, rv, p, hz⟩ := I.tuple hq
    obtain ⟨u, hu, ru⟩ := rv.get hx
    have hel : e < s.heap.objs.size := Heap.lt_size he
    have hitl : it < s.heap.objs.size := by obtain ⟨_, q, _⟩ := hit; exact Heap.lt_size q
    have hlt : i < its.toArray.size := by
      rw [List.size_toArray]
      exact (List.getElem?_eq_some_iff.mp hu).1
    refine wpAny_pyNext_enum_itemD (Draws.tuple (A := X.A.in1) (I.ok.hd hc) it a hai its.toArray) he ⟨hit, p⟩ hlt hne (by simp [hne, hna]) fun y h' tk hy ho hst' hT hsz hk => ?_
    obtain rfl : y = u := by
      have : its[i]? = some y := by simpa using hy
      rw [hu] at this
      exact (Option.some.inj this).symm
    refine ⟨_, rfl, wpAny_letOwnedTupleGo_enum (s := { s with heap := h', toks := tk + 1 }) ho fun h'' he' sb => ?_⟩
    have hT2 : h''.get? s.heap.objs.size = some { cls := .type "tuple", data := .seq #[.int i tk, y] } := (sb.2 _ (Nat.ne_of_gt hel)).trans hT
    have new : ObjOk X.prog X.w (upd H s.heap.objs.size (.tup [.int (i : Nat), x])) h'' s.heap.objs.size (.tup [.int (i : Nat), x]) :=
      ⟨by show 2 ≤ sizeLine; decide, [.int i tk, y], .cons ⟨_, rfl⟩ (.cons ru .nil), ⟨_, hT2, rfl, _, rfl⟩⟩
    have I1 : Inv X pins σ (upd H s.heap.objs.size (.tup [.int (i : Nat), x])) { s with heap := h'', toks := tk + 1 } :=
      I.turnedNew (ch := [e, it]) (fun b ob hb q => (sb.2 b (fun z => hb (by simp [z]))).trans (hk b ob (fun z => hb (by simp [z])) (fun z => hb (by simp [z])) q)) hf (Nat.le_refl _) new
    refine ⟨.ref s.heap.objs.size, _, I1, rfl, ⟨_, x, rfl, I.hok.fresh (Nat.le_refl _), rfl, hx⟩, ⟨⟨y, ?_⟩, hst'.1.at fun o q => (sb.2 it (Ne.symm hne)).trans q, hne, hna, hai, hil⟩, fun b hb => ?_⟩
    · have e1 : ((i + 1 : Nat) : Int) = (i : Int) + 1 := by omega
      rw [e1]
      exact he'
    · have hb' : b < s.heap.objs.size := by
        have e' : b = e ∨ b = it := by simpa using hb
        rcases e' with z | z
        · rw [z]
          exact hel
        · rw [z]
          exact hitl
      rw [upd_ne (Nat.ne_of_lt hb')]
      exact (hf b hb).1
  done := by
    intro X hP hw hK hc i pins s σ H E I hf st hg
    subst hP hw hK
    obtain ⟨⟨old, he⟩, hit, hne, hna, hai, hle⟩ := st
    obtain ⟨hq, hx⟩ := hg
    obtain ⟨its, rv, p, hz⟩ := I.tuple hq
    obtain ⟨f0, f1, f2, f3, f4, f5⟩ := hf it (by simp)
    have hl := rv.length
    obtain rfl : i = its.toArray.size := by
      rw [List.size_toArray]
      omega
    exact wpAny_pyNext_enum_endD (Draws.tuple (A := X.A.in1) (I.ok.hd hc) it a hai its.toArray) he ⟨hit, p⟩ fun h' eb => ⟨rfl, I.turned (t' := s.toks) (fun b o hb e => eb b o hb e) f0 f1 f3 f4 f5⟩
  self := fun A i s Q E st h => let ⟨⟨_, he⟩, _⟩ := st; wpAny_pyIter_enum he h
theorem walk_enumT {K : PySem.W.Frag} {a : Addr} {xs : List V} : Walk (IteT K a xs) xs.length (fun H => SqT K H a xs) (YPair (fun i => some (.int (i : Nat))) (fun i => xs[i]?)) := by
  refine ⟨fun i _ hi q => ⟨q, hi⟩, fun _ q => ⟨q, Nat.le_refl _⟩, fun i H v H' _ q y => ?_⟩
  obtain ⟨T, x, h1, h2, h3, h4⟩ := y
  exact ⟨T, .int (i : Nat), x, h1, h2, h3, rfl, h4⟩
def iEnumT (K : PySem.W.Frag) (ta : TA) : TI := fun σ H R => ta σ H fun vs H1 => ∃ a xs, vs = [.ref a] ∧ SqT K H1 a xs ∧ R (IteT K a xs) H1
theorem pi_enumT {X : Cx} {e : Expr} {ta : TA} {p pos tpos : Pos} {elts : List Expr} {kk : Nat} (hg : Gl X "enumerate") (hm : X.mg "enumerate" = none) (ha : PA X [e] ta) (hs : starEach [e] X.env = [(false, eval e X.env)] := by rfl) :
    PI X (.Tuple elts kk tpos) (.Call (.Name "enumerate" p) [e] [] pos) (iEnumT X.K ta) := by
  refine ⟨fun pins s σ H R I h => ?_⟩
  refine Call_ (ld_blt I hg hm boot_enumerate (PyProof.Rows.callWith_type1 (thn (ha.run pos pins s σ H _ I h) fun us s1 ⟨vs, H1, I1, r1, q1⟩ => ?_) hs rfl))
  obtain ⟨a, xs, ex, hq, q⟩ := q1
  subst ex
  cases r1 with
  | cons r rr =>
    cases rr
    cases r
    obtain ⟨its, rv, p', hz⟩ := I1.tuple hq
    have hal : a < s1.heap.objs.size := by
      obtain ⟨o, ho, _⟩ := p'
      exact Heap.lt_size ho
    refine enum1_begins (begins_tuple a its.toArray) p' fun h' he hit hsz hk => wpAny_pyIter_enum he ?_
    have I2 : Inv X pins σ H1 { s1 with heap := h' } := I1.kept (t' := s1.toks) hk
    refine ⟨s1.heap.objs.size + 1, [s1.heap.objs.size + 1, s1.heap.objs.size], _, _, H1, rfl, I2, turn_enumT a (s1.heap.objs.size + 1) s1.heap.objs.size xs, ⟨⟨.none, he⟩, ⟨_, hit, rfl, rfl⟩, Nat.succ_ne_self _, Nat.ne_of_gt (Nat.lt_succ_of_lt hal), Nat.ne_of_lt hal, Nat.zero_le _⟩, fun b hb => ?_, q⟩
    have e' : b = s1.heap.objs.size + 1 ∨ b = s1.heap.objs.size := by simpa using hb
    have hle : s1.heap.objs.size ≤ b := by
      rcases e' with z | z
      · rw [z]
        exact Nat.le_add_right _ _
      · rw [z]
        exact Nat.le_refl _
    exact I1.fpOk hle (I1.hok.fresh hle)

/-! ### a class held in a local name, called (with starred arguments or without) -/
/-- x(..), x a local name that holds the class C -/
def tMakeV (C : Addr) (sp : Sp) (E : XK) (tv : TE) (t : TA) : TE := fun σ H Q => tv σ H fun y H0 => y = .ref C ∧ StX.tMakeR C sp E t σ H0 Q
section
variable {X : Cx} {CX : CXT} {k : Nat} {f C : Addr} {sp : Sp} {E : XK} {x : Str} {e : Expr} {es : List Expr} {tv : TE} {t : TA} {p pos : Pos}
theorem pe_makeV (M : Mk X.K C f) (F : FnR X.prog X.w X.K X.mg X.base CX k f sp) (hr : Room (k + 1) X.A) (hv : PE X (.Name x p) tv) (hx : Passes CX X E) (ha : PA X (e :: es) t)
    (he : starEach (e :: es) X.env = (false, eval e X.env) :: starEach es X.env := by rfl) (hpl : (backTo pos (starEach es X.env)).any (·.1) = false := by rfl) : PE X (.Call (.Name x p) (e :: es) [] pos) (tMakeV C sp E tv t) := by
  refine ⟨fun pins s σ H Q I h => ?_⟩
  refine wpAny_Call_Name_kw (thn (hv.run pins s σ H _ I h) fun u s0 ⟨y, H0, I0, r0, e0, q0⟩ => ?_)
  subst e0
  obtain rfl : u = Value.ref C := r0
  refine PySem.W.callWith_K (h₀ := X.base) I0.ok.mod.kin M.kp (thn (ha.run pos pins s0 σ H0 _ I0 q0) fun us s1 ⟨vs, H1, I1, r, q⟩ => ⟨I1.kIn, ?_⟩) he hpl
  exact StX.run_makeR M F hr hx I1 r q
/-- .. with a star behind the first argument -/
theorem pe_makeVS (M : Mk X.K C f) (F : FnR X.prog X.w X.K X.mg X.base CX k f sp) (hr : Room (k + 1) X.A) (hv : PE X (.Name x p) tv) (hx : Passes CX X E) (ha : PA X (e :: es) t)
    (he : starEach (e :: es) X.env = (false, eval e X.env) :: starEach es X.env := by rfl) (hst : (backTo pos (starEach es X.env)).any (·.1) = true := by rfl) : PE X (.Call (.Name x p) (e :: es) [] pos) (tMakeV C sp E tv t) := by
  refine ⟨fun pins s σ H Q I h => ?_⟩
  refine wpAny_Call_Name_kw (thn (hv.run pins s σ H _ I h) fun u s0 ⟨y, H0, I0, r0, e0, q0⟩ => ?_)
  subst e0
  obtain rfl : u = Value.ref C := r0
  refine PySem.W.callWith_S2 (h₀ := X.base) I0.ok.mod.kin M.kp (thn (ha.run pos pins s0 σ H0 _ I0 q0) fun us s1 ⟨vs, H1, I1, r, q⟩ => ⟨I1.kIn, ?_⟩) he hst
  exact StX.run_makeR M F hr hx I1 r q
end
end Lx
namespace Lx
open PySem PySem.Spec PyProof.Rows L2
open AutoSeq1 (wpAny_loadPart')
/-! ### == of a text and a dict; a text among things of any kind -/
theorem str_eq_declines_dict (b : Str) (u : Tok) (l : Addr) (c : Value) (es : Array DictEntry) (n : Nat) (dd : Option Addr) (sl : Array (Option Value)) :
    Meets (Builtin.«str.__eq__» ⟨[.str b u, .ref l], []⟩) (fun _ R s => s.heap.get? l = some { cls := c, dict := dd, data := .dict es n, slots := sl } ∧ R (.ok (.ret .notImplemented)) s) :=
  .of_wp fun prog w A R s h => by obtain ⟨hp, g, d, tk, os⟩ := s; obtain ⟨hl, h⟩ := h; wp_walk using wpAny_loadPart' hl, wpAny_load hl; exact ⟨_, rfl, h⟩
/-- a dict stands at a -/
def IsD (h : Heap) (a : Addr) : Prop := ∃ o es ep, h.get? a = some o ∧ o.cls = .type "dict" ∧ o.data = .dict es ep
section
variable {prog : Program} {w : World} {A : Around} {E : Value → Shared → Prop} {s : Shared} {Q : Value → Shared → Prop} {l : Addr}
theorem IsD.typeIs (h : IsD s.heap l) : s.TypeIs (.ref l) "dict" := by
  obtain ⟨o, es, ep, ho, hc, _⟩ := h
  exact ⟨o, ho, hc⟩
theorem dict_eq_str (b : Str) (u : Tok) (hl : IsD s.heap l) (h : Q .notImplemented s) : wpAny (model prog w) A (call (.builtin "dict.__eq__") [.ref l, .str b u]) Q E s := by
  refine wpAny_call_entry PySem.F.slot_dict_eq hl.typeIs PySem.F.entry_dict_eq ?_ (PySem.F.args_dict_eq_2 _ _)
  show wpAny _ _ (Builtin.Dict.dictSlotArgs "__eq__" ⟨[.ref l, .str b u], []⟩ >>= _) _ _ s
  refine wpAny_bind ?_
  unfold Builtin.Dict.dictSlotArgs
  refine wpAny_bind (wpAny_notOrdered_dict hl.typeIs ?_)
  show wpAny _ _ (pure (Value.ref l, Value.str b u)) _ _ s
  refine wpAny_pure ?_
  refine wpAny_bind (wpAny_isInstance (T := "str") (typeIs_str s b u) PySem.F.sub_str_dict ?_)
  simp only [Bool.not_false, if_true]
  exact wpAny_bind (wpAny_rule (wpAny_bind (wpAny_pure (wpAny_pure ⟨_, rfl, h⟩))))
theorem str_eq_dict (b : Str) (u : Tok) (hl : IsD s.heap l) (h : Q .notImplemented s) : wpAny (model prog w) A (call (.builtin "str.__eq__") [.str b u, .ref l]) Q E s := by
  obtain ⟨⟨cls, dd, data, sl⟩, es, ep, ho, hx, hd⟩ := hl
  simp only at hd
  subst hd
  exact call_meets F.slot_str_eq (typeIs_str s b u) F.entry_str_eq (F.args_str_eq_2 _ _) (str_eq_declines_dict b u l cls es ep dd sl) ⟨ho, h⟩
theorem eqAt_dict_str {A : Around} (b : Str) (u : Tok) (hl : IsD s.heap l) (hu : A.units < cLine) : SeqAt.EqAt A s (.ref l) (.str b u) false := fun prog w E Q h => by
  unfold eqBool
  refine wpAny_holding ?_
  refine wpAny_ite_split (fun hab => absurd (eq_of_beq hab) nofun) (fun _ => ?_)
  exact wpAny_bind (SeqAt.rc_eq_decline_or (k := false) hl.typeIs (typeIs_str s b u) (by decide) F.sub_str_dict F.slot_dict_eq F.slot_str_eq_refl
    (fun _ hq => dict_eq_str b u hl hq) (fun _ hq => str_eq_dict b u hl hq) (fun _ hq => wpAny_of_eq (rfl : isSame (.ref l) (.str b u) = pure false) hq) (.inr hu) (wpAny_truthy_bool h))
theorem eqAt_str_dict {A : Around} (b : Str) (u : Tok) (hl : IsD s.heap l) (hu : A.units < cLine) : SeqAt.EqAt A s (.str b u) (.ref l) false := fun prog w E Q h => by
  unfold eqBool
  refine wpAny_holding ?_
  refine wpAny_ite_split (fun hab => absurd (eq_of_beq hab) nofun) (fun _ => ?_)
  exact wpAny_bind (SeqAt.rc_eq_decline_or (k := false) (typeIs_str s b u) hl.typeIs (by decide) F.sub_dict_str F.slot_str_eq F.slot_dict_eq_refl
    (fun _ hq => str_eq_dict b u hl hq) (fun _ hq => dict_eq_str b u hl hq) (fun _ hq => wpAny_of_eq (rfl : isSame (.str b u) (.ref l) = pure false) hq) (.inr hu) (wpAny_truthy_bool h))
end
/-- a thing of the kinds that a text may be compared with, and whether it is that text -/
inductive Any (K : PySem.W.Frag) (H : Hp) : V → Prop
  | flat (v : V) (h : flatV v = true) : Any K H v
  | lst {a : Addr} {xs : List V} (h : SqL K H a xs) : Any K H (.ref a)
  | tup {a : Addr} {xs : List V} (h : SqT K H a xs) : Any K H (.ref a)
  | dK {a : Addr} {ks : List (Key × V)} (h : H a = some (.dK ks)) : Any K H (.ref a)
def isStr (z : Str) : V → Bool
  | .str y => y == z
  | _ => false
theorem isStr_eqV {v : V} (h : flatV v = true) (z : Str) : eqV v (.str z) = isStr z v := by
  cases v with
  | non => rfl
  | bl b => rfl
  | int i => rfl
  | str y => rfl
  | _ => exact absurd (show false = true from h) Bool.false_ne_true
theorem isStr_eqV' {v : V} (h : flatV v = true) (z : Str) : eqV (.str z) v = isStr z v := by
  cases v with
  | non => rfl
  | bl b => rfl
  | int i => rfl
  | str y =>
    show (z == y) = (y == z)
    exact Bool.eq_iff_iff.mpr ⟨fun h => by rw [eq_of_beq h]; exact beq_self_eq_true _, fun h => by rw [eq_of_beq h]; exact beq_self_eq_true _⟩
  | _ => exact absurd (show false = true from h) Bool.false_ne_true
section
variable {X : Cx} {pins : List (Addr × Obj)} {σ : L2.St} {H : Hp} {s : Shared}
theorem dict_at {a : Addr} {ks : List (Key × V)} (I : Inv X pins σ H s) (h : H a = some (.dK ks)) : IsD s.heap a := by
  obtain ⟨_, ya, va, ra, o, es, ep, ho, hx, hd, _⟩ := (show ObjOk X.prog X.w H s.heap a (.dK ks) from I.hok a _ h)
  exact ⟨o, es, ep, ho, hx.1, hd⟩
theorem Any.eqL (I : Inv X pins σ H s) {A : Around} (hu : A.units < cLine) {v : V} {u : Value} (z : Str) (t : Tok) (a : Any X.K H v) (r : RelV v u) : SeqAt.EqAt A s u (.str z t) (isStr z v) := by
  cases a with
  | flat _ h =>
    have q := eqAt_V (A := A) (s := s) r (show RelV (.str z) (.str z t) from ⟨t, rfl⟩) h rfl
    rw [isStr_eqV h] at q
    exact q
  | lst h =>
    cases r
    obtain ⟨its, _, p, _⟩ := I.list h
    exact SeqAt.EqAt.list_str z t p.isList hu
  | tup h =>
    cases r
    obtain ⟨its, _, p, _⟩ := I.tuple h
    exact SeqAt.EqAt.tuple_str z t p hu
  | dK h =>
    cases r
    exact eqAt_dict_str z t (dict_at I h) hu
theorem Any.eqR (I : Inv X pins σ H s) {A : Around} (hu : A.units < cLine) {v : V} {u : Value} (z : Str) (t : Tok) (a : Any X.K H v) (r : RelV v u) : SeqAt.EqAt A s (.str z t) u (isStr z v) := by
  cases a with
  | flat _ h =>
    have q := eqAt_V (A := A) (s := s) (show RelV (.str z) (.str z t) from ⟨t, rfl⟩) r rfl h
    rw [isStr_eqV' h] at q
    exact q
  | lst h =>
    cases r
    obtain ⟨its, _, p, _⟩ := I.list h
    exact SeqAt.EqAt.str_list z t p.isList hu
  | tup h =>
    cases r
    obtain ⟨its, _, p, _⟩ := I.tuple h
    exact SeqAt.EqAt.str_tuple z t p hu
  | dK h =>
    cases r
    exact eqAt_str_dict z t (dict_at I h) hu
end
def strU (z : Str) : Value → Bool
  | .str y _ => y == z
  | _ => false
theorem strU_of {v : V} {u : Value} (z : Str) (r : RelV v u) (a : flatV v = true ∨ ∃ p, v = .ref p) : strU z u = isStr z v := by
  rcases a with a | ⟨p, rfl⟩
  · cases v with
    | non => cases r; rfl
    | bl b => cases r; rfl
    | int i => obtain ⟨t, rfl⟩ := r; rfl
    | str y => obtain ⟨t, rfl⟩ := r; rfl
    | _ => exact absurd (show false = true from a) Bool.false_ne_true
  · cases r
    rfl
theorem Any.two {K : PySem.W.Frag} {H : Hp} {v : V} (a : Any K H v) : flatV v = true ∨ ∃ p, v = .ref p := by
  cases a with
  | flat _ h => exact .inl h
  | lst h => exact .inr ⟨_, rfl⟩
  | tup h => exact .inr ⟨_, rfl⟩
  | dK h => exact .inr ⟨_, rfl⟩
theorem any_strU {K : PySem.W.Frag} {H : Hp} (z : Str) : ∀ {xs : List V} {us : List Value}, Vals xs us → (∀ v ∈ xs, Any K H v) → us.any (strU z) = xs.any (isStr z)
  | _, _, .nil, _ => rfl
  | x :: xs, u :: us, .cons r t, f => by
    rw [List.any_cons, List.any_cons, strU_of z r (f x List.mem_cons_self).two, any_strU z t fun v h => f v (List.mem_cons_of_mem _ h)]
/-- the text among them -/
def hasV (v : V) (xs : List V) : Bool := xs.any fun y => match y with
  | .str z => isStr z v
  | _ => false
def hasU (v : V) : Value → Bool
  | .str z _ => isStr z v
  | _ => false
theorem any_hasU (v : V) : ∀ {xs : List V} {us : List Value}, Vals xs us → (∀ y ∈ xs, ∃ z, y = .str z) → us.any (hasU v) = hasV v xs
  | _, _, .nil, _ => rfl
  | x :: xs, u :: us, .cons r t, f => by
    obtain ⟨z, rfl⟩ := f x List.mem_cons_self
    obtain ⟨tk, rfl⟩ := r
    have ih := any_hasU v t fun y h => f y (List.mem_cons_of_mem _ h)
    show (isStr z v || us.any (hasU v)) = (isStr z v || hasV v xs)
    rw [ih]
section
variable {X : Cx} {pins : List (Addr × Obj)} {σ : L2.St} {H : Hp} {s : Shared}
theorem mem_eqL (I : Inv X pins σ H s) {A : Around} (hu : A.units < cLine) (z : Str) (t : Tok) : ∀ {xs : List V} {us : List Value}, Vals xs us → (∀ v ∈ xs, Any X.K H v) → ∀ u ∈ us, SeqAt.EqAt A s u (.str z t) (strU z u)
  | _, _, .nil, _ => fun u hu => by cases hu
  | x :: xs, u :: us, .cons r tl, f => fun u' hm => by
    rcases List.mem_cons.mp hm with rfl | hm
    · rw [strU_of z r (f x List.mem_cons_self).two]
      exact (f x List.mem_cons_self).eqL I hu z t r
    · exact mem_eqL I hu z t tl (fun v h => f v (List.mem_cons_of_mem _ h)) u' hm
theorem mem_eqR (I : Inv X pins σ H s) {A : Around} (hu : A.units < cLine) {v : V} {w : Value} (a : Any X.K H v) (rv : RelV v w) : ∀ {xs : List V} {us : List Value}, Vals xs us → (∀ y ∈ xs, ∃ z, y = .str z) → ∀ u ∈ us, SeqAt.EqAt A s u w (hasU v u)
  | _, _, .nil, _ => fun u hu => by cases hu
  | x :: xs, u :: us, .cons r tl, f => fun u' hm => by
    rcases List.mem_cons.mp hm with rfl | hm
    · obtain ⟨z, rfl⟩ := f x List.mem_cons_self
      obtain ⟨tk, rfl⟩ := r
      exact a.eqR I hu z tk rv
    · exact mem_eqR I hu a rv tl (fun y h => f y (List.mem_cons_of_mem _ h)) u' hm
end
/-- a text in a list or tuple of things of any kind -/
def rInA (K : PySem.W.Frag) (neg : Bool) : R2 := fun x y H Q => ∃ z p xs, x = .str z ∧ y = .ref p ∧ (SqL K H p xs ∨ SqT K H p xs) ∧ (∀ v ∈ xs, Any K H v) ∧ Q (.bl (if neg then !xs.any (isStr z) else xs.any (isStr z))) H
/-- a thing of any kind in a list or tuple of texts -/
def rInT (K : PySem.W.Frag) (neg : Bool) : R2 := fun x y H Q => ∃ p xs, y = .ref p ∧ (SqL K H p xs ∨ SqT K H p xs) ∧ Any K H x ∧ (∀ v ∈ xs, ∃ z, v = .str z) ∧ Q (.bl (if neg then !hasV x xs else hasV x xs)) H
section
variable {X : Cx}
theorem op_inA (hu : X.A.units + 64 < cLine) : OpR X (compareOp .In) (rInA X.K false) := by
  intro pins s σ H x y v u Q I rx ry h
  obtain ⟨z, p, xs, rfl, rfl, hq, f, q⟩ := h
  obtain ⟨t, rfl⟩ := rx
  cases ry
  have hu' : X.A.in1.units < cLine := by show X.A.units + 1 < cLine; omega
  rcases hq with hq | hq
  · obtain ⟨its, r, pl, hz⟩ := I.list hq
    refine SeqAt.in_listAt (strU z) pl.isList (fun w hw => mem_eqL I hu' z t r f w (by simpa using hw)) ⟨.bl _, H, I, rfl, ?_⟩
    rw [show its.toArray.any (strU z) = its.any (strU z) by simp, any_strU z r f]
    exact q
  · obtain ⟨its, r, pl, hz⟩ := I.tuple hq
    refine SeqAt.in_tupleAt (strU z) pl (fun w hw => mem_eqL I hu' z t r f w (by simpa using hw)) ⟨.bl _, H, I, rfl, ?_⟩
    rw [show its.toArray.any (strU z) = its.any (strU z) by simp, any_strU z r f]
    exact q
theorem op_inT (hu : X.A.units + 64 < cLine) : OpR X (compareOp .In) (rInT X.K false) := by
  intro pins s σ H x y v u Q I rx ry h
  obtain ⟨p, xs, rfl, hq, a, f, q⟩ := h
  cases ry
  have hu' : X.A.in1.units < cLine := by show X.A.units + 1 < cLine; omega
  rcases hq with hq | hq
  · obtain ⟨its, r, pl, hz⟩ := I.list hq
    refine SeqAt.in_listAt (hasU x) pl.isList (fun w hw => mem_eqR I hu' a rx r f w (by simpa using hw)) ⟨.bl _, H, I, rfl, ?_⟩
    rw [show its.toArray.any (hasU x) = its.any (hasU x) by simp, any_hasU x r f]
    exact q
  · obtain ⟨its, r, pl, hz⟩ := I.tuple hq
    refine SeqAt.in_tupleAt (hasU x) pl (fun w hw => mem_eqR I hu' a rx r f w (by simpa using hw)) ⟨.bl _, H, I, rfl, ?_⟩
    rw [show its.toArray.any (hasU x) = its.any (hasU x) by simp, any_hasU x r f]
    exact q
theorem op_notInT (hu : X.A.units + 64 < cLine) : OpR X (compareOp .NotIn) (rInT X.K true) := by
  intro pins s σ H x y v u Q I rx ry h
  obtain ⟨p, xs, rfl, hq, a, f, q⟩ := h
  cases ry
  have hu' : X.A.in1.units < cLine := by show X.A.units + 1 < cLine; omega
  rcases hq with hq | hq
  · obtain ⟨its, r, pl, hz⟩ := I.list hq
    refine SeqAt.notIn_listAt (hasU x) pl.isList (fun w hw => mem_eqR I hu' a rx r f w (by simpa using hw)) ⟨.bl _, H, I, rfl, ?_⟩
    rw [show its.toArray.any (hasU x) = its.any (hasU x) by simp, any_hasU x r f]
    exact q
  · obtain ⟨its, r, pl, hz⟩ := I.tuple hq
    refine SeqAt.notIn_tupleAt (hasU x) pl (fun w hw => mem_eqR I hu' a rx r f w (by simpa using hw)) ⟨.bl _, H, I, rfl, ?_⟩
    rw [show its.toArray.any (hasU x) = its.any (hasU x) by simp, any_hasU x r f]
    exact q
end
end Lx
namespace Lx
open PySem PySem.Spec PyProof.Rows L2
/-! ### isinstance of the exception that a suite holds, with a dict of its own -/
/-- what a caught exception's dict must be -/
def XdAt (H : Hp) (d : Option Addr) : Prop := ∀ dd, d = some dd → ∃ fs, H dd = some (.xd fs)
def rIsS (K : PySem.W.Frag) (a : Addr) (cls : Value) (d : Option Addr) : List V → Hp → VK → Prop := fun xs H Q => ∃ (C g : Addr) (c : V) (cv : Value) (k : Bool), xs = [.ref a, c] ∧ cls = .ref C ∧ ExK K C g ∧ ClsK K ∧ XdAt H d ∧ ClsV c cv ∧ PySem.W.kitOne K (.ref C) cv = some k ∧ Q (.bl k) H
theorem call_isS {X : Cx} {a : Addr} {oe : Obj} {cls : Value} {d : Option Addr} {pn : List (Addr × Obj)} (hz : Zc cls d oe) (hf : ∃ vs, oe.data = .fields vs) : CallR (X.suite a ((a, oe) :: pn)) (.builtin "isinstance") (rIsS X.K a cls d) := by
  intro pins s σ H xs us Q I r h
  obtain ⟨C, g, c, cv, kk, rfl, rfl, T, Z, hd, hc, e, q⟩ := h
  cases r with
  | cons ra rr =>
    cases rr with
    | cons rc rr =>
      cases rr
      cases ra
      obtain rfl := hc.eq rc
      obtain ⟨ha, _⟩ := I.pin (a, oe) (List.mem_append_left _ List.mem_cons_self)
      obtain ⟨vs, hv⟩ := hf
      have J : ∃ od, PySem.W.InstAt s.heap a oe C od := by
        cases d with
        | none => exact ⟨none, ha, hz.1, by unfold PySem.W.notCls; rw [hv] <;> rfl, by rw [hz.2]; trivial⟩
        | some dd =>
          obtain ⟨fs, hdd⟩ := hd dd rfl
          have hx : ObjOk X.prog X.w H s.heap dd (.xd fs) := I.hok dd _ hdd
          obtain ⟨mA, hns, _⟩ := hx
          obtain ⟨od, ho, _⟩ := lookIn_ns hns
          exact ⟨some od, ha, hz.1, by unfold PySem.W.notCls; rw [hv] <;> rfl, by rw [hz.2]; exact ho⟩
      obtain ⟨od, J⟩ := J
      exact PySem.W.kia_one (PySem.W.kitx_exc T.is T.ga T.gg T.oex.exC T.cls Z.get Z.takes T.ob) I.kIn J e (fun z => nomatch z) fun tk => ⟨.bl kk, H, I.kept (t' := tk) fun _ _ z => z, rfl, q⟩
end Lx
namespace Lx
open PySem PySem.Spec PyProof.Rows L2
/-! ### set(..) of a tuple of texts that are all different -/
/-- the first i of the texts -/
def metS (xs : List Str) (i : Nat) : Str → Bool := fun k => decide (k ∈ xs.take i)
theorem metS_add {xs : List Str} {i : Nat} {x : Str} (hx : xs[i]? = some x) (k : Str) : (metS xs i k || decide (k = x)) = metS xs (i + 1) k := by
  unfold metS
  rw [List.take_add_one, hx]
  by_cases h : k ∈ xs.take i
  · simp [h]
  · by_cases h' : k = x <;> simp [h, h']
theorem metS_new {xs : List Str} {i : Nat} {x : Str} (nd : xs.Nodup) (hx : xs[i]? = some x) : metS xs i x = false := by
  refine decide_eq_false fun h => ?_
  obtain ⟨j, hj⟩ := List.mem_iff_getElem?.mp h
  rw [List.getElem?_take] at hj
  split at hj
  · rename_i hji
    have hi := (List.getElem?_eq_some_iff.mp hx).1
    have e : j = i := (List.getElem?_inj (by omega) nd).mp (hj.trans hx.symm)
    omega
  · cases hj
section
variable {prog : Program} {w : World} {A : Around} {R : Result → Shared → Prop} {I : Addr} {fp wr : List Addr} {G : Array GenState → Array GenState → Prop} {n : Nat} {P : Nat → Value → Prop} {St : Nat → Shared → Prop}
theorem set_loop (W : WalksS prog w A.in1 I fp wr G n P St) {S : Addr} (far : S ∉ fp) {xs : List Str} (hl : xs.length = n) (nd : xs.Nodup) (few : n < 4000) (val : ∀ i v, P i v → ∃ x t, xs[i]? = some x ∧ v = .str x t) :
    ∀ (k i : Nat) (s : Shared), i + k = n → St i s → s.heap.SetOf (PySem.strKind prog w) S (metS xs i) i →
      (∀ s', Moved (S :: wr) G s s' → s'.heap.SetOf (PySem.strKind prog w) S (metS xs n) n → R (.ok (.ret .none)) s') →
      codeAny (model prog w) A (.builtin "set.update.loop" ⟨[.ref S, .ref I], []⟩) R s := by
  have out : S ∉ wr := fun h => far (W.sub _ h)
  have more : ∀ b ∈ wr, b ∈ S :: wr := fun b hb => List.mem_cons_of_mem _ hb
  have stays : ∀ {s s' : Shared} {T : Str → Bool} {m : Nat}, Moved wr G s s' → s.heap.SetOf (PySem.strKind prog w) S T m → s'.heap.SetOf (PySem.strKind prog w) S T m := fun hm ⟨o, es, ep, tb, ho, rest⟩ => ⟨o, es, ep, tb, hm.heap S _ out ho, rest⟩
  intro k
  induction k with
  | zero =>
    intro i s hk st hS hR
    obtain rfl : i = n := hk
    refine codeAny_builtin PyProof.Rows.F.entry_set_update_loop ?_
    rw [Around.under_plainId PyProof.Rows.F.plain_set_update_loop _]
    show wpAny _ A.in1 (pyNext (.ref I) >>= _) _ _ s
    exact wpAny_bind (W.done s _ _ st fun s' hm => wpAny_pure (hR s' (hm.mono more) (stays hm hS)))
  | succ k ih =>
    intro i s hk st hS hR
    have lt : i < n := by omega
    refine codeAny_builtin PyProof.Rows.F.entry_set_update_loop ?_
    rw [Around.under_plainId PyProof.Rows.F.plain_set_update_loop _]
    show wpAny _ A.in1 (pyNext (.ref I) >>= _) _ _ s
    refine wpAny_bind (W.item i s _ _ lt st fun v s' hP st' hm => ?_)
    obtain ⟨x, t, hx, rfl⟩ := val i v hP
    have hS1 := stays hm hS
    show wpAny _ A.in1 (holding [Value.str x t] (setAdd S (.str x t)) >>= _) _ _ s'
    refine wpAny_bind (wpAny_holding ?_)
    unfold setAdd
    refine wpAny_holding (wpAny_bind ((PySem.strKind prog w).pyHash (k := x) (strKind_is _ _ _ _) ?_))
    refine wpAny_setAddHashed_of (knd := PySem.strKind prog w) (s := { s' with toks := s'.toks + 1 }) (strKind_is _ _ _ _) rfl hS1 (by unfold scanBound; omega) fun h' sb hS2 => ?_
    rw [metS_new nd hx] at hS2
    have hS3 : h'.SetOf (PySem.strKind prog w) S (metS xs (i + 1)) (i + 1) := PyProof.Rows.SetOf_congr hS2 (fun k' => metS_add hx k') (by simp)
    refine wpAny_pure ⟨plainId_quiet PyProof.Rows.F.plain_set_update_loop _, ih (i + 1) _ (by omega) (W.frame _ s' _ _ st' (Nat.le_succ _) fun b hb o e => ?_) hS3 fun s'' hm2 hS4 => ?_⟩
    · rw [sb.2 b (fun q : b = S => far (by rw [← q]; exact hb))]
      exact e
    · refine hR s'' (Moved.trans W.gtrans ((hm.mono more).then_heap (Nat.le_succ _) fun b o hb e => ?_) hm2) hS4
      rw [sb.2 b (fun q : b = S => hb (by rw [q]; exact List.mem_cons_self))]
      exact e
end
/-- the tuple's length: how many there are -/
abbrev freshSet (led : Bool) : Obj := { cls := .type "set", dict := none, data := .set #[] 0 (.fresh 0 0 led) }
section
variable {prog : Program} {w : World} {A : Around} {E : Value → Shared → Prop} {s : Shared}
theorem strs_val {its : List Value} {xs : List Str} (r : Vals (xs.map V.str) its) (i : Nat) (v : Value) (h : its[i]? = some v) : ∃ x t, xs[i]? = some x ∧ v = .str x t := by
  have hl := r.length
  have hi := (List.getElem?_eq_some_iff.mp h).1
  have hx : i < xs.length := by
    rw [List.length_map] at hl
    omega
  obtain ⟨u, hu, ru⟩ := r.get (i := i) (x := .str xs[i]) (by rw [List.getElem?_map, List.getElem?_eq_getElem hx]; rfl)
  rw [h] at hu
  obtain ⟨t, e⟩ := ru
  exact ⟨_, t, List.getElem?_eq_getElem hx, (Option.some.inj hu).trans e⟩
theorem set_init {l : Addr} {items : Array Value} {xs : List Str} {led : Bool} {Q : Fin → Shared → Prop} (hh : A.handled = none) (hl : s.heap.IsTuple l items) (r : Vals (xs.map V.str) items.toList) (nd : xs.Nodup) (few : xs.length < 4000)
    (h : ∀ (h' : Heap) (tk : Nat), h'.SetOf (PySem.strKind prog w) s.heap.objs.size (metS xs xs.length) xs.length → (∀ b o, b < s.heap.objs.size → s.heap.get? b = some o → h'.get? b = some o) → Q (.done (.ret .none)) { s with heap := h', toks := tk }) :
    wpAny (model prog w) A (Builtin.«set.__init__» ⟨[.ref s.heap.objs.size, .ref l], []⟩) Q E { s with heap := s.heap.push (freshSet led) } := by
  obtain ⟨⟨c, dd, dt, sl⟩, hol, hc, nl, hd⟩ := hl
  dsimp only at hc hd
  subst hc hd
  have ls : l < s.heap.objs.size := Heap.lt_size hol
  have at_ : (s.heap.push (freshSet led)).get? l = some { cls := .type "tuple", dict := dd, data := .seq items nl, slots := sl } := Heap.get?_push_of_some _ hol
  have tup : (s.heap.push (freshSet led)).IsTuple l items := ⟨_, at_, rfl, nl, rfl⟩
  have no1 := PySem.F.sub_tuple_set
  have no2 := PySem.F.sub_tuple_frozenset
  have no3 : (Value.type "tuple" == Value.type "dict") = false := by decide
  have sz : (s.heap.push (freshSet led)).objs.size = s.heap.objs.size + 1 := Heap.size_push ..
  have len : items.size = xs.length := by
    have := r.length
    rw [List.length_map, Array.length_toList] at this
    exact this.symm
  unfold Builtin.«set.__init__» noKeywords Builtin.Frozenset.updateFrom
  generalize hPI : pyIter = PI
  wp_walk
  subst hPI
  refine wpAny_pyIter_tuple tup (wpAny_bind (wpAny_runValue ?_))
  have apart : l ≠ (s.heap.push (freshSet led)).objs.size := by
    rw [sz]
    exact Nat.ne_of_lt (Nat.lt_succ_of_lt ls)
  refine set_loop ((Walks.tuple (A := A.in1) (by simp [hh]) _ l apart items).toS) (S := s.heap.objs.size) ?far (xs := xs) len.symm nd (by omega) (fun i v hv => strs_val r i v (by rw [Array.getElem?_toList]; exact hv)) items.size 0 _ (by omega) ?st ?start ?fin
  case st => exact ⟨⟨_, Heap.get?_push_size _ rfl, rfl, rfl⟩, tup.push _⟩
  case far =>
    rw [sz]
    simp only [List.mem_cons, List.not_mem_nil, or_false, not_or]
    exact ⟨Nat.ne_of_lt (Nat.lt_succ_self _), Nat.ne_of_gt ls⟩
  case start =>
    have g0 : ((s.heap.push (freshSet led)).push { cls := .type "tuple_iterator", data := .fields #[.ref l, .int 0 0] }).get? s.heap.objs.size = some (freshSet led) := Heap.get?_push_of_some _ (Heap.get?_push_size _ rfl)
    exact PyProof.Rows.SetOf_congr ((PyProof.Rows.setObjOf_fresh (knd := PySem.strKind prog w) led).setOf g0 (by unfold scanBound; omega)) (fun _ => by simp [metS]) rfl
  case fin =>
    intro s' hm hS
    obtain ⟨h', g', d', tk', os'⟩ := s'
    obtain rfl : g' = s.gens := hm.gens
    obtain rfl : d' = s.drawn := hm.drawn
    obtain rfl : os' = s.os := hm.os
    refine wpAny_pure (wpAny_pure ?_)
    rw [len] at hS
    have z := h h' tk' hS fun b o hb e => hm.heap b o (by rw [sz]; simp only [List.mem_cons, List.not_mem_nil, or_false, not_or]; exact ⟨Nat.ne_of_lt hb, Nat.ne_of_lt (Nat.lt_succ_of_lt hb)⟩) (Heap.get?_push_of_some _ (Heap.get?_push_of_some _ e))
    exact z
set_option maxHeartbeats 3200000 in
theorem set_texts {l : Addr} {items : Array Value} {xs : List Str} {Q : Value → Shared → Prop} (hh : A.handled = none) (hl : s.heap.IsTuple l items) (r : Vals (xs.map V.str) items.toList) (nd : xs.Nodup) (few : xs.length < 4000)
    (h : ∀ (h' : Heap) (tk : Nat), h'.SetOf (PySem.strKind prog w) s.heap.objs.size (metS xs xs.length) xs.length → (∀ b o, b < s.heap.objs.size → s.heap.get? b = some o → h'.get? b = some o) → Q (.ref s.heap.objs.size) { s with heap := h', toks := tk }) :
    wpAny (model prog w) A (call (.type "set") [.ref l]) Q E s := by
  have ft := PySem.F.called_set
  obtain ⟨c, tl, mro⟩ := ft.mro
  have made := ft.made
  have sub := ft.sub
  have nt := ft.notType
  have cc := ft.canCreate
  have tc := PySem.F.typeCall_set_1 (.ref l)
  refine wpAny_call (codeAny_of_tree ?_)
  show wpAny _ _ (callAny (.type "set") _) _ _ _
  refine wpAny_pure ⟨Code.quiet_builtin _ (by decide +kernel), codeAny_builtin PySem.F.entry_type_call ?_⟩
  rw [Around.under_plain (weight_type_call_type "set" [.ref l] []) rfl]
  repeat (any_goals (first | assumption | wp_step))
  refine codeAny_mono (PySem.code_set_new_1 (.ref l) (E := E) (Q₁ := fun o s₁ => ∃ led : Bool, o = .ref s.heap.objs.size ∧ s₁ = { s with heap := s.heap.push (freshSet led) }) fun led => ⟨led, rfl, rfl⟩) fun q s₁ hq => ?_
  cases q with
  | error e => exact hq
  | ok fl =>
    cases fl with
    | ret o =>
      obtain ⟨led, rfl, rfl⟩ := hq
      have ty : Shared.TypeIs { s with heap := s.heap.push (freshSet led) } (.ref s.heap.objs.size) "set" := ⟨_, Heap.get?_push_size _ rfl, rfl⟩
      have il := ft.init.lookup
      have ib := ft.init.bind (.ref s.heap.objs.size)
      repeat (any_goals (first | assumption | wp_step))
      refine codeAny_mono (codeAny_call_builtin (R := wants (fun v s₂ => v = .none ∧ Q (.ref s.heap.objs.size) s₂) E) ft.init.plain PySem.F.entry_set_init (PySem.check_set_init_1 ty ?_)) fun q₂ s₂ hq₂ => ?_
      · refine wpAny_mono (set_init (E := E) (Q := fun fin s' => fin = .done (.ret .none) ∧ Q (.ref s.heap.objs.size) s') (by simp [hh]) hl r nd few fun h' tk hS hk => ⟨rfl, h h' tk hS hk⟩) (fun fin s' hf => ?_) fun e s' he => he
        obtain ⟨rfl, q⟩ := hf
        exact ⟨rfl, q⟩
      · cases q₂ with
        | error e => exact hq₂
        | ok fl₂ =>
          cases fl₂ with
          | ret v =>
            obtain ⟨rfl, q⟩ := hq₂
            repeat (any_goals (first | assumption | wp_step))
          | _ => exact hq₂.elim
    | _ => exact hq.elim
end
/-- len(set(t)) of a tuple of texts that are all different -/
def tLenSetT (K : PySem.W.Frag) (ta : TE) : TE := fun σ H Q => ta σ H fun x H1 => ∃ (l : Addr) (xs : List Str), x = .ref l ∧ SqT K H1 l (xs.map V.str) ∧ xs.Nodup ∧ xs.length < 4000 ∧ Q (.int xs.length) H1
theorem pe_lenSetT {X : Cx} {a : Expr} {ta : TE} {p p2 q pos : Pos} (hc : X.calm = true) (hg : Gl X "len") (hm : X.mg "len" = none) (hg2 : Gl X "set") (hm2 : X.mg "set" = none) (ha : PE X a ta)
    (na : starEach [a] X.env = (false, eval a X.env) :: starEach [] X.env := by rfl) : PE X (.Call (.Name "len" p) [.Call (.Name "set" p2) [a] [] q] [] pos) (tLenSetT X.K ta) := by
  refine ⟨fun pins s σ H Q I h => ?_⟩
  refine Call_ (ld_blt I hg hm boot_len (PyProof.Rows.callWith_builtin1 (PyProof.Rows.args_cons ?_ rfl) rfl rfl))
  refine Call_ (ld_blt I hg2 hm2 boot_set (PyProof.Rows.callWith_type1 (PyProof.Rows.args_cons (thn (ha.run pins s σ H _ I h) fun v s1 ⟨x, H1, I1, r1, q1⟩ => PyProof.Rows.args_nil ?_) na) na rfl))
  obtain ⟨l, xs, rfl, hq, nd, few, q1⟩ := q1
  cases r1
  obtain ⟨its, r, pl, hz⟩ := I1.tuple hq
  refine set_texts (I1.ok.hd hc) pl (by simpa using r) nd few fun h' tk hS hk => PyProof.Rows.args_nil ?_
  obtain ⟨o, es, ep, t, ho, hex, hd, _, _, _, hf, hn⟩ := hS
  have I2 : Inv X pins σ H1 { s1 with heap := h', toks := tk } := I1.kept fun b o e => hk b o (Heap.lt_size e) e
  exact call_len_set ho hex hd hf (by rw [hn]; omega) ⟨.int xs.length, H1, I2.tok _, ⟨_, by rw [hn]⟩, q1⟩
end Lx
namespace Lx
open PySem PySem.Spec PyProof.Rows L2
/-! ### o.m() by a positional promise -/
theorem pe_methR0 {X : Cx} {CX : CXT} {k : Nat} {C f : Addr} {m : Str} {sp : Sp} {E : XK} {o : Expr} {ta : TE} {apos pos : Pos} {pl : Sem Bool} (he : PE X o ta) (c : Cls X.K C) (hm : Meth X.K C m f)
    (F : FnR X.prog X.w X.K X.mg X.base CX k f sp) (hr : Room k X.A) (hx : Passes CX X E)
    (ht : eval (.Call (.Attribute o m apos) [] [] pos) X.env = (do
      let ov ← eval o X.env
      standAt apos.atName
      let (f, first) ← holding [ov] (getMethod ov m pl)
      callWith pos f first (backTo pos (starEach [] X.env)) (backToKw pos (keywordEach [] X.env))) := by rfl) :
    PE X (.Call (.Attribute o m apos) [] [] pos) (tMethR C m sp E ta tNil) := by
  refine ⟨fun pins s σ H Q I h => PySem.W.methodCall_KW (pl := pl) (thn (he.run pins s σ H _ I h) fun u s1 ⟨x, H1, I1, rx, a, dx, fs, ex, ea, l, q⟩ => ?_) ht⟩
  subst ex
  obtain rfl : u = Value.ref a := rx
  exact getmeth_ok I1 ea c hm l (PySem.W.callWith_K0 (first := [.ref a]) I1.kIn hm.kp (wpAny_call (run_fnR (us := [.ref a]) (vs := [.ref a]) F hr hx I1 (.cons rfl .nil) q)))
/-! ### o.m(e, ..) in a try: what it lets out is told at the slots that stand -/
def tMethA (C : Addr) (m : Str) (sp : Sp) (E : L2.St → XK) (ta : TE) (t : TA) : TE := fun σ H Q => ta σ H fun x H1 => ∃ a dx fs, x = .ref a ∧ H1 a = some (.ins C dx fs) ∧ fs.lookup m = none ∧ t σ H1 fun vs H2 => sp (x :: vs) H2 Q (E σ)
theorem pe_methA {X : Cx} {CX : CXT} {k : Nat} {C f : Addr} {m : Str} {sp : Sp} {E : L2.St → XK} {o e : Expr} {es : List Expr} {ta : TE} {t : TA} {apos pos : Pos} {pl : Sem Bool} (he : PE X o ta) (c : Cls X.K C) (hm : Meth X.K C m f)
    (F : FnR X.prog X.w X.K X.mg X.base CX k f sp) (hr : Room k X.A) (hx : ∀ σ, PassesAt CX X σ (E σ)) (ha : PA X (e :: es) t)
    (hst : starEach (e :: es) X.env = (false, eval e X.env) :: starEach es X.env := by rfl) (hpl : (backTo pos (starEach es X.env)).any (·.1) = false := by rfl)
    (ht : eval (.Call (.Attribute o m apos) (e :: es) [] pos) X.env = (do
      let ov ← eval o X.env
      standAt apos.atName
      let (f, first) ← holding [ov] (getMethod ov m pl)
      callWith pos f first (backTo pos (starEach (e :: es) X.env)) (backToKw pos (keywordEach [] X.env))) := by rfl) :
    PE X (.Call (.Attribute o m apos) (e :: es) [] pos) (tMethA C m sp E ta t) := by
  refine ⟨fun pins s σ H Q I h => PySem.W.methodCall_KW (pl := pl) (thn (he.run pins s σ H _ I h) fun u s1 ⟨x, H1, I1, rx, a, dx, fs, ex, ea, l, q⟩ => ?_) ht⟩
  subst ex
  obtain rfl : u = Value.ref a := rx
  refine getmeth_ok I1 ea c hm l (PySem.W.callWith_K (first := [.ref a]) (h₀ := X.base) I.ok.mod.kin hm.kp (thn (ha.run pos pins s1 σ H1 _ I1 q) fun us s2 ⟨vs, H2, I2, r, q2⟩ => ⟨I2.kIn, ?_⟩) hst hpl)
  refine wpAny_call (codeAny_mono (F X.A X.stack s2 H2 (.ref a :: us) (.ref a :: vs) Q (E σ) hr I2.env0 (.cons rfl r) q2) fun r s' hq => ?_)
  cases r with
  | error e => exact hx σ pins H2 s2 e s' I2 hq
  | ok fl =>
    cases fl with
    | ret u => exact I2.after hq
    | next => exact False.elim hq
    | brk => exact False.elim hq
    | cont => exact False.elim hq
end Lx
namespace Lx
open PySem PySem.Spec PyProof.Rows L2
/-! ### a thing among texts, None and itself -/
section
variable {prog : Program} {w : World} {E : Value → Shared → Prop} {s : Shared} {Q : Value → Shared → Prop} {l : Addr}
theorem dict_eq_none {A : Around} (hl : Lx.IsD s.heap l) (h : Q .notImplemented s) : wpAny (model prog w) A (call (.builtin "dict.__eq__") [.ref l, .none]) Q E s := by
  refine wpAny_call_entry PySem.F.slot_dict_eq hl.typeIs PySem.F.entry_dict_eq ?_ (PySem.F.args_dict_eq_2 _ _)
  show wpAny _ _ (Builtin.Dict.dictSlotArgs "__eq__" ⟨[.ref l, .none], []⟩ >>= _) _ _ s
  refine wpAny_bind ?_
  unfold Builtin.Dict.dictSlotArgs
  refine wpAny_bind (wpAny_notOrdered_dict hl.typeIs ?_)
  show wpAny _ _ (pure (Value.ref l, Value.none)) _ _ s
  refine wpAny_pure (wpAny_bind (wpAny_isInstance (T := "NoneType") rfl PySem.F.sub_NoneType_dict ?_))
  simp only [Bool.not_false, if_true]
  exact wpAny_bind (wpAny_rule (wpAny_bind (wpAny_pure (wpAny_pure ⟨_, rfl, h⟩))))
theorem eqAt_none_dict {A : Around} (hl : Lx.IsD s.heap l) (hu : A.units < cLine) : SeqAt.EqAt A s .none (.ref l) false := fun prog w E Q h => by
  unfold eqBool
  refine wpAny_holding (wpAny_ite_split (fun hab => absurd (eq_of_beq hab) nofun) (fun _ => ?_))
  exact wpAny_bind (SeqAt.rc_eq_decline_or (k := false) rfl hl.typeIs (by decide) PySem.F.sub_dict_NoneType PySem.F.slot_NoneType_eq PySem.F.slot_dict_eq_refl
    (fun _ hq => call_gives PySem.F.slot_NoneType_eq rfl PySem.F.entry_NoneType_eq (PySem.F.args_NoneType_eq_2 _ _) (SeqAt.NoneType___eq___none_ref_0 l) hq) (fun _ hq => dict_eq_none hl hq)
    (fun _ hq => wpAny_of_eq (rfl : isSame .none (.ref l) = pure false) hq) (.inr hu) (wpAny_truthy_bool h))
end
/-- y == x, y a text, None or x itself -/
def eqG (x y : V) : Bool := match y with
  | .str z => isStr z x
  | .non => (match x with | .non => true | _ => false)
  | _ => true
def eqGU (x : V) (u : Value) : Bool := match u with
  | .str z _ => isStr z x
  | .none => (match x with | .non => true | _ => false)
  | _ => true
def Near (x y : V) : Prop := (∃ z, y = .str z) ∨ y = .non ∨ y = x
section
variable {X : Cx} {pins : List (Addr × Obj)} {σ : L2.St} {H : Hp} {s : Shared}
theorem near_eqU {x y : V} {u : Value} (a : Any X.K H x) (n : Near x y) (r : RelV y u) : eqGU x u = eqG x y := by
  rcases n with ⟨z, rfl⟩ | rfl | rfl
  · obtain ⟨t, rfl⟩ := r
    rfl
  · cases r
    rfl
  · cases a with
    | flat _ h =>
      cases y with
      | non => cases r; rfl
      | bl b => cases r; rfl
      | int i => obtain ⟨t, rfl⟩ := r; rfl
      | str z => obtain ⟨t, rfl⟩ := r; rfl
      | _ => exact absurd (show false = true from h) Bool.false_ne_true
    | lst h => cases r; rfl
    | tup h => cases r; rfl
    | dK h => cases r; rfl
theorem near_eqAt (I : Inv X pins σ H s) {A : Around} (hu : A.units < cLine) {x y : V} {u w : Value} (a : Any X.K H x) (n : Near x y) (r : RelV y u) (rx : RelV x w) : SeqAt.EqAt A s u w (eqG x y) := by
  rcases n with ⟨z, rfl⟩ | rfl | rfl
  · obtain ⟨t, rfl⟩ := r
    exact a.eqR I hu z t rx
  · cases a with
    | flat _ h =>
      have q := eqAt_V (A := A) (s := s) r rx rfl h
      cases x with
      | non => exact q
      | bl b => exact q
      | int i => exact q
      | str z => exact q
      | _ => exact absurd (show false = true from h) Bool.false_ne_true
    | lst h =>
      cases r
      cases rx
      obtain ⟨its, _, p, _⟩ := I.list h
      exact SeqAt.EqAt.none_list p.isList hu
    | tup h =>
      cases r
      cases rx
      obtain ⟨its, _, p, _⟩ := I.tuple h
      exact SeqAt.EqAt.none_tuple p hu
    | dK h =>
      cases r
      cases rx
      exact eqAt_none_dict (dict_at I h) hu
  · cases a with
    | flat _ h =>
      have q := eqAt_V (A := A) (s := s) r rx h h
      have e : eqV y y = eqG y y := by
        cases y with
        | non => rfl
        | bl b => exact beq_self_eq_true _
        | int i => exact beq_self_eq_true _
        | str z => rfl
        | _ => exact absurd (show false = true from h) Bool.false_ne_true
      rw [e] at q
      exact q
    | lst h =>
      cases r
      cases rx
      exact SeqAt.EqAt.same _
    | tup h =>
      cases r
      cases rx
      exact SeqAt.EqAt.same _
    | dK h =>
      cases r
      cases rx
      exact SeqAt.EqAt.same _
theorem mem_near (I : Inv X pins σ H s) {A : Around} (hu : A.units < cLine) {x : V} {w : Value} (a : Any X.K H x) (rx : RelV x w) : ∀ {xs : List V} {us : List Value}, Vals xs us → (∀ y ∈ xs, Near x y) → ∀ u ∈ us, SeqAt.EqAt A s u w (eqGU x u)
  | _, _, .nil, _ => fun u hu => by cases hu
  | y :: xs, u :: us, .cons r tl, f => fun u' hm => by
    rcases List.mem_cons.mp hm with rfl | hm
    · rw [near_eqU a (f y List.mem_cons_self) r]
      exact near_eqAt I hu a (f y List.mem_cons_self) r rx
    · exact mem_near I hu a rx tl (fun z h => f z (List.mem_cons_of_mem _ h)) u' hm
theorem any_near {x : V} (a : Any X.K H x) : ∀ {xs : List V} {us : List Value}, Vals xs us → (∀ y ∈ xs, Near x y) → us.any (eqGU x) = xs.any (eqG x)
  | _, _, .nil, _ => rfl
  | y :: xs, u :: us, .cons r tl, f => by
    rw [List.any_cons, List.any_cons, near_eqU a (f y List.mem_cons_self) r, any_near a tl fun z h => f z (List.mem_cons_of_mem _ h)]
end
/-- a thing not in a list of texts, None and itself -/
def rNear (K : PySem.W.Frag) : R2 := fun x y H Q => ∃ p xs, y = .ref p ∧ SqL K H p xs ∧ Any K H x ∧ (∀ v ∈ xs, Near x v) ∧ Q (.bl (!xs.any (eqG x))) H
theorem op_notNear {X : Cx} (hu : X.A.units + 64 < cLine) : OpR X (compareOp .NotIn) (rNear X.K) := by
  intro pins s σ H x y v u Q I rx ry h
  obtain ⟨p, xs, rfl, hq, a, f, q⟩ := h
  cases ry
  have hu' : X.A.in1.units < cLine := by show X.A.units + 1 < cLine; omega
  obtain ⟨its, r, pl, hz⟩ := I.list hq
  refine SeqAt.notIn_listAt (eqGU x) pl.isList (fun w hw => mem_near I hu' a rx r f w (by simpa using hw)) ⟨.bl _, H, I, rfl, ?_⟩
  rw [show its.toArray.any (eqGU x) = its.any (eqGU x) by simp, any_near a r f]
  exact q
end Lx
namespace Lx
open PySem PySem.Spec PyProof.Rows L2
/-! ### t[::-1], t a tuple of two or more -/
section
variable {prog : Program} {w : World} {A : Around} {E : Value → Shared → Prop} {s : Shared}
theorem rev_places (n : Nat) : Builtin.Slice.slicePlaces ((n : Int) - 1) (-1) (-1) = n := by
  unfold Builtin.Slice.slicePlaces
  have h1 : ¬ ((-1 : Int) > 0) := by decide
  simp only [h1, if_false, Int.neg_neg, Int.ediv_one]
  split <;> omega
theorem fm_congr {α β : Type} {f g : α → Option β} : ∀ {l : List α}, (∀ x ∈ l, f x = g x) → l.filterMap f = l.filterMap g
  | [], _ => rfl
  | x :: l, h => by
    rw [List.filterMap_cons, List.filterMap_cons, h x List.mem_cons_self, fm_congr fun y hy => h y (List.mem_cons_of_mem _ hy)]
theorem rev_pick (xs : Array Value) : ((List.range xs.size).filterMap fun (m : Nat) => xs[(((xs.size : Int) - 1) + (m : Int) * (-1)).toNat]?).toArray = xs.toList.reverse.toArray := by
  have e : ((List.range xs.size).filterMap fun (m : Nat) => xs[(((xs.size : Int) - 1) + (m : Int) * (-1)).toNat]?) = ((List.range xs.size).map fun k => xs.size - 1 - k).filterMap (xs[·]?) := by
    rw [List.filterMap_map]
    refine fm_congr fun m hm => ?_
    have := List.mem_range.mp hm
    have : (((xs.size : Int) - 1) + (m : Int) * (-1)).toNat = xs.size - 1 - m := by omega
    rw [this]
    rfl
  rw [e, PySem.W.krv_range, List.filterMap_reverse, PySem.W.krv_all]
theorem getItem_tuple_rev {t sl : Addr} {items : Array Value} {vl vu vs : Value} {Q : Value → Shared → Prop} (ht : IsTup s.heap t items) (hs : s.heap.IsSliceOf sl vl vu vs) (pl : IsPart vl none) (pu : IsPart vu none) (ps : IsPart vs (some (-1))) (h1 : 1 ≤ items.size)
    (h : Q (.ref s.heap.objs.size) { s with heap := s.heap.push { cls := .type "tuple", data := .seq items.toList.reverse.toArray } })
    (hsz : items.size ≤ sizeLine) : wpAny (model prog w) A (getItem (.ref t) (.ref sl)) Q E s := by
  have htake : sizeOk (.seq items.toList.reverse.toArray) := by
    show (items.toList.reverse.toArray).size ≤ sizeLine
    rw [List.size_toArray, List.length_reverse, Array.length_toList]
    exact hsz
  obtain ⟨os, hos, hcs, hds⟩ := id hs
  have hTs : s.TypeIs (.ref sl) "slice" := ⟨os, hos, hcs⟩
  unfold getItem
  try with_reducible refine wpAny_holding ?_
  first | refine wpAny_bind (wpAny_pure ?_) | skip
  refine wpAny_bind (wpAny_sequenceKey ht.typeIs (by decide) ?_)
  refine wpAny_bind (wpAny_callSpecial?_slot (name := Str.ofString "__getitem__") ht.typeIs PyProof.Rows.slot_tuple_getitem
    (wpAny_call_entry PyProof.Rows.slot_tuple_getitem ht.typeIs entry_tuple_getitem ?_ (args_tuple_getitem _ _)))
  show wpAny _ _ (Builtin.Tuple.tupleItemsOf (.ref t) >>= _) _ _ s
  refine wpAny_bind (tupleItemsOf_ ht ?_)
  refine wpAny_bind (wpAny_typeOf hTs ?_)
  rw [if_pos (by decide)]
  refine wpAny_bind (m := Builtin.Slice.sliceApplied (.ref sl) (pure (items.size : Int))) ?_
  unfold Builtin.Slice.sliceApplied Builtin.Slice.sliceFields
  refine wpAny_bind (wpAny_bind (wpAny_field hos hds (x := vl) rfl (wpAny_bind (wpAny_field hos hds (x := vu) rfl (wpAny_bind (wpAny_field hos hds (x := vs) rfl (wpAny_pure ?_)))))))
  refine wpAny_bind (HT.slicePart_ ps ?_)
  show wpAny _ _ (if ((-1 : Int) == 0) = true then _ else _) _ _ s
  rw [if_neg (by decide)]
  refine wpAny_bind (HT.slicePart_ pl (wpAny_bind (HT.slicePart_ pu (wpAny_bind (wpAny_pure ?_)))))
  show wpAny _ _ (pure (((items.size : Int) - 1), (-1 : Int), Builtin.Slice.slicePlaces ((items.size : Int) - 1) (-1) (-1))) _ _ s
  rw [rev_places]
  refine wpAny_pure ?_
  have hno : ¬ ((((items.size : Int) - 1) == 0 && (-1 : Int) == 1 && items.size == items.size) = true) := by simp
  show wpAny _ _ (if (((items.size : Int) - 1) == 0 && (-1 : Int) == 1 && items.size == items.size) = true then _ else _) _ _ s
  rw [if_neg hno, rev_pick]
  first
    | exact wpAny_bind (m := Builtin.Tuple.tupleExact _) (wpAny_newObj_type (wpAny_pure ⟨_, rfl, wpAny_pure h⟩) htake)
    | exact wpAny_bind (m := Builtin.Tuple.tupleExact _) (wpAny_newObj_type (wpAny_bind (wpAny_pure (wpAny_pure ⟨_, rfl, wpAny_pure h⟩))) htake)
    | exact wpAny_bind (wpAny_bind (m := Builtin.Tuple.tupleExact _) (wpAny_newObj_type (wpAny_pure (wpAny_pure ⟨_, rfl, wpAny_pure h⟩)) htake))
    | exact wpAny_bind (wpAny_bind (m := Builtin.Tuple.tupleExact _) (wpAny_newObj_type (wpAny_pure ⟨_, rfl, wpAny_pure h⟩) htake))
end
def tRevT (K : PySem.W.Frag) (te : TE) : TE := fun σ H Q => te σ H fun x H1 => ∃ a xs, x = .ref a ∧ SqT K H1 a xs ∧ 1 ≤ xs.length ∧ ∀ p, H1 p = none → Q (.ref p) (upd H1 p (.tup xs.reverse))
theorem pe_revT {X : Cx} {e : Expr} {te : TE} {k : Nat} {p1 p2 p3 pos : Pos} (he : PE X e te) : PE X (.Subscript e (.Slice none none (some (.UnaryOp .USub (.Constant (.int 1) k p1) p2)) p3) pos) (tRevT X.K te) := by
  refine ⟨fun pins s σ H Q I h => ?_⟩
  refine Subscript_ (thn (he.run pins s σ H _ I h) fun v s1 ⟨x, H1, I1, r1, q1⟩ => ?_)
  obtain ⟨a, xs, ex, hx, l1, q⟩ := q1
  subst ex
  cases r1
  have hst : PO X (some (.UnaryOp .USub (.Constant (.int 1) k p1) p2)) (tPart (tUn (rU fun i => .int (-i)) (tC (.int 1)))) := po_some (pe_un un_neg pe_int)
  refine wpAny_Slice (thn (po_none.run pins s1 σ H1 (fun o H2 => o = none ∧ H2 = H1) I1 ⟨rfl, rfl⟩) fun vl s2 ⟨l, H2, I2, pl, el, e2⟩ => ?_)
  subst el e2
  refine thn (po_none.run pins s2 σ H2 (fun o H3 => o = none ∧ H3 = H2) I2 ⟨rfl, rfl⟩) fun vu s3 ⟨u, H3, I3, pu, eu, e3⟩ => ?_
  subst eu e3
  refine thn (hst.run pins s3 σ H3 (fun o H4 => o = some (-1) ∧ H4 = H3) I3 ⟨1, rfl, -1, rfl, rfl, rfl⟩) fun vs s4 ⟨o, H4, I4, ps, eo, e4⟩ => ?_
  subst eo e4
  have I5 : Inv X pins σ H4 { s4 with heap := s4.heap.push { cls := .type "slice", data := .fields #[vl, vu, vs] } } := I4.kept (t' := s4.toks) fun b ob q => Heap.get?_push_of_some _ q
  obtain ⟨its, r, ht, hz⟩ := I5.tuple hx
  have hlen := r.length
  show wpAny (model X.prog X.w) X.A (subscriptTail e (.Slice none none (some (.UnaryOp .USub (.Constant (.int 1) k p1) p2)) p3) (.ref a) (.ref s4.heap.objs.size)) (EP X pins σ Q) X.xe { s4 with heap := s4.heap.push { cls := .type "slice", data := .fields #[vl, vu, vs] } }
  refine tail_any (ops := [.ref a, .ref s4.heap.objs.size]) ht.typeIs (PyProof.Rows.slot_tuple_getitem.lookup) ?_ (by with_unfolding_all rfl)
  refine getItem_tuple_rev ht (Heap.IsSliceOf.new _ vl vu vs) pl pu ps (by rw [List.size_toArray]; omega) ?_ (by rw [List.size_toArray]; omega)
  refine ⟨.ref _, _, I5.laid (t' := s4.toks) (o := .tup xs.reverse) (fun b ob q => Heap.get?_push_of_some _ q) (Nat.le_refl _) ?_, rfl, q _ (I5.hok.fresh (Nat.le_refl _))⟩
  exact ⟨by rw [List.length_reverse]; exact hz, _, r.reverse, IsTup.new _ _⟩
end Lx
namespace Lx
open PySem PySem.Spec PyProof.Rows L2
theorem loop_pure {σ α : Type} {f : α → σ → Sem (ForInStep σ)} {g : σ → α → σ} : ∀ (l : List α) (s : σ), (∀ x ∈ l, ∀ s, f x s = pure (ForInStep.yield (g s x))) → forIn l s f = (pure (l.foldl g s) : Sem σ)
  | [], s, _ => by rw [List.forIn_nil]; rfl
  | x :: r, s, h => by
    rw [List.forIn_cons, h x List.mem_cons_self s]
    show forIn r (g s x) f = _
    rw [loop_pure r (g s x) fun y hy => h y (List.mem_cons_of_mem _ hy)]
    rfl
theorem foldl_ext {β γ : Type} (k : β) : ∀ (kw e : List γ), kw.foldl (fun (s : β × List γ) x => (s.1, s.2 ++ [x])) (k, e) = (k, e ++ kw)
  | [], e => by simp
  | x :: r, e => by
    rw [List.foldl_cons, foldl_ext k r (e ++ [x]), List.append_assoc]
    rfl
theorem bind_kw1 {x qual : Str} {body : List Stmt} {scope : Scope} {kV doc pm : Value} {an : Option Addr} {cdv ct : Value} {ar1 ar2 : Arg} {a : Value} {kw : List (Str × Value)} (hne : ∀ y ∈ kw, y.1 ≠ ar1.arg) (hsz : kw.length ≤ sizeLine) :
    bindArgs (PySem.W.fnOf x qual ⟨[], [ar1], none, [], [], some ar2, []⟩ body scope .none kV doc pm an cdv ct) ⟨[a], kw⟩ = ((alloc ({ cls := .type "dict", data := .dict #[] } : Obj) : Sem Addr) >>= fun d =>
      (forIn kw PUnit.unit fun x _ => (nsSet d x.1 x.2 >>= fun _ => pure (ForInStep.yield PUnit.unit))) >>= fun _ => pure [(ar1.arg, a), (ar2.arg, Value.ref d)]) := by
  unfold bindArgs
  simp only [PySem.W.fnOf]
  have hl : ∀ (f : (Str × Value) → (List (Str × Value) × List (Str × Value)) → Sem (ForInStep (List (Str × Value) × List (Str × Value)))) (s0 : List (Str × Value)), (∀ y ∈ kw, ∀ s, f y s = pure (ForInStep.yield (s.1, s.2 ++ [y]))) → forIn kw (s0, []) f = (pure (s0, kw) : Sem _) := fun f s0 h => by
    rw [loop_pure (g := fun s x => (s.1, s.2 ++ [x])) kw (s0, []) h, foldl_ext s0 kw []]
    rfl
  rw [hl _ _ (fun y hy s => ?_)]
  · have hz : ¬ (kw.length > sizeLine + 1) := by omega
    simp [hz, List.lookup, show seqItems? Value.none = (pure Option.none : Sem _) from rfl]
    trace_state
  · simp [hne y hy]

/-! ### def f(self, **d) -/
section
variable {prog : Program} {w : World} {A : Around} {E : Value → Shared → Prop} {h0 : Heap} {d : Addr}
/-- a heap behind h0 with a dict at d -/
def At (h0 : Heap) (d : Addr) (es : List DictEntry) (n : Nat) (h : Heap) : Prop := (∀ b u, h0.get? b = some u → h.get? b = some u) ∧ h0.objs.size < h.objs.size ∧ h.get? d = some (PySem.W.dictOf es n)
theorem kw_nsSet {s : Shared} {es : List DictEntry} {n : Nat} {k : Str} {v : Value} {Q : Unit → Shared → Prop} (hd : d = h0.objs.size) (at_ : At h0 d es n s.heap) (hs : ∀ e ∈ es, e.key.isStr k = false) (hr : ∀ e ∈ es, e.refKey = false)
    (h : ∀ h', At h0 d (es ++ [⟨PyData.keyHash w.params k, .str k s.toks, v⟩]) (n + 1) h' → Q () { s with heap := h', toks := s.toks + 1 }) :
    wpAny (model prog w) A (nsSet d k v) Q E s := by
  obtain ⟨a1, a2, D⟩ := at_
  have e1 : es.any (·.key.isStr k) = false := by
    cases q : es.any (·.key.isStr k) with
    | false => rfl
    | true => obtain ⟨e, he, z⟩ := List.any_eq_true.mp q; rw [hs e he] at z; cases z
  have e2 : es.any (·.refKey) = false := by
    cases q : es.any (·.refKey) with
    | false => rfl
    | true => obtain ⟨e, he, z⟩ := List.any_eq_true.mp q; rw [hr e he] at z; cases z
  have e : Obj.putName k (PyData.keyHash w.params k) (.str k s.toks) v (PySem.W.dictOf es n) = PySem.W.dictOf (es ++ [⟨PyData.keyHash w.params k, .str k s.toks, v⟩]) (n + 1) := by
    rw [PySem.W.putName_dict, PySem.W.putL_new hs]
    show PySem.W.dictOf _ (if es.any (·.key.isStr k) then n else n + 1) = _
    rw [e1, if_neg Bool.false_ne_true]
  have c : aRefKeyMayBeTheName k es.toArray = false := by
    rw [aRefKeyMayBeTheName_at, ← Array.any_toList, ← Array.any_toList]
    show (!es.any (·.key.isStr k) && es.any (·.refKey)) = false
    rw [e2, Bool.and_false]
  unfold nsSet
  refine wpAny_bind (wpAny_bind (wpAny_askSetting (wpAny_pure (wpAny_bind (wpAny_mkText (wpAny_bind (wpAny_loadPart D ?_)))))))
  dsimp only
  rw [c]
  refine wpAny_updatePart D (h _ ⟨fun b u q => ?_, ?_, ?_⟩)
  · have nb : d ≠ b := fun x => absurd (Heap.lt_size q) (by rw [← x, hd]; exact Nat.lt_irrefl _)
    rw [Heap.get?_update_other _ _ nb]
    exact a1 b u q
  · rw [Heap.size_update]
    exact a2
  · rw [← e]
    exact Heap.get?_update_self _ D (by show (Obj.putName k (PyData.keyHash w.params k) (.str k s.toks) v (PySem.W.dictOf es n)).isFreed = false; rw [e]; rfl)
theorem kw_fill {Q : PUnit → Shared → Prop} (hd : d = h0.objs.size) : ∀ (ex : List (Str × Value)) (s : Shared) (es : List DictEntry) (n : Nat), At h0 d es n s.heap →
    (∀ e ∈ es, ∀ x ∈ ex, e.key.isStr x.1 = false) → (∀ e ∈ es, e.refKey = false) → (ex.map (·.1)).Nodup →
    (∀ h', At h0 d (es ++ PySem.W.kwEs w.params s.toks ex) (n + ex.length) h' → Q ⟨⟩ { s with heap := h', toks := s.toks + ex.length }) →
    wpAny (model prog w) A (forIn ex PUnit.unit fun x _ => (nsSet d x.1 x.2 >>= fun _ => pure (ForInStep.yield PUnit.unit))) Q E s
  | [], s, es, n, at_, _, _, _, h => by
    rw [List.forIn_nil]
    refine wpAny_pure (h s.heap ?_)
    show At h0 d (es ++ []) n s.heap
    rw [List.append_nil]
    exact at_
  | x :: r, s, es, n, at_, hs, hr, hn, h => by
    obtain ⟨hn1, hn2⟩ := List.nodup_cons.mp (show (x.1 :: r.map (·.1)).Nodup from hn)
    rw [List.forIn_cons]
    refine wpAny_bind (wpAny_bind (kw_nsSet hd at_ (fun e he => hs e he x (.head _)) hr fun h' at2 => wpAny_pure ?_))
    show wpAny (model prog w) A (forIn r PUnit.unit fun x _ => (nsSet d x.1 x.2 >>= fun _ => pure (ForInStep.yield PUnit.unit))) Q E { s with heap := h', toks := s.toks + 1 }
    refine kw_fill hd r { s with heap := h', toks := s.toks + 1 } _ _ at2 (fun e he y hy => ?_) (fun e he => ?_) hn2 fun h'' at3 => ?_
    · rcases List.mem_append.mp he with he | he
      · exact hs e he y (.tail _ hy)
      · obtain rfl := List.mem_singleton.mp he
        show (x.1 == y.1) = false
        exact beq_eq_false_iff_ne.mpr fun q => hn1 (by rw [q]; exact List.mem_map_of_mem hy)
    · rcases List.mem_append.mp he with he | he
      · exact hr e he
      · obtain rfl := List.mem_singleton.mp he
        rfl
    · have t1 : s.toks + 1 + r.length = s.toks + (r.length + 1) := by omega
      have t2 : n + 1 + r.length = n + (r.length + 1) := by omega
      show Q ⟨⟩ { s with heap := h'', toks := s.toks + 1 + r.length }
      rw [t1]
      refine h h'' ?_
      rw [t2, List.append_assoc] at at3
      exact at3
/-- the keys as keys of the mixed kind -/
theorem kwEs_mix : ∀ (ex : List (Str × Value)) (t : Tok), Pairs (mixKind prog w) (PySem.W.kwEs w.params t ex) (ex.map fun x => ((Sum.inr x.1 : Key), x.2))
  | [], _ => .nil
  | x :: r, t => .cons (mixKind_str prog w x.1 t) rfl (kwEs_mix r (t + 1))
theorem kwEs_keys (ex : List (Str × Value)) (t : Tok) : KeysOf (mixKind prog w) (PySem.W.kwEs w.params t ex).toArray := fun e he => by
  obtain ⟨k, u, e1, e2⟩ := PySem.W.kwEs_key ex t e (by simpa using he)
  exact ⟨Sum.inr k, by rw [e1]; exact mixKind_str prog w k u, e2⟩
end
section
variable {P : Program} {w : World} {K : PySem.W.Frag} {mg : Str → Option Value} {base : Heap} {A : Around} {outer : List Env} {s : Shared} {H : Hp}
theorem env0_laidG {h' : Heap} {u : HO} {t' : Nat} (e0 : Env0 P w K mg base A outer s H) (kp : ∀ b x, s.heap.get? b = some x → h'.get? b = some x) (sz : s.heap.objs.size ≤ h'.objs.size) (new : ObjOk P w (upd H s.heap.objs.size u) h' s.heap.objs.size u) :
    Env0 P w K mg base A outer { s with heap := h', toks := t' } (upd H s.heap.objs.size u) := by
  refine ⟨e0.frames, e0.mod, fun b x e => ⟨kp b x (e0.bs b x e).1, ?_⟩, ?_, Heap.FunFrames.of_keeps (fun b x e _ => ⟨x, kp b x e, rfl⟩) e0.funs, fun b hb => ?_, e0.hok.laid kp (Nat.le_refl _) new, e0.bare⟩
  · rw [upd_ne (Nat.ne_of_lt (Heap.lt_size (e0.bs b x e).1))]
    exact (e0.bs b x e).2
  · exact Nat.le_trans e0.bsz sz
  · obtain ⟨_, x, hx, _⟩ := e0.funs.mem hb
    rw [upd_ne (Nat.ne_of_lt (Heap.lt_size hx))]
    exact e0.frf b hb
end
/-- a def's promise, called with keywords -/
def FnW (P : Program) (w : World) (K : PySem.W.Frag) (mg : Str → Option Value) (base : Heap) (CX : CXT) (k : Nat) (f : Addr) (sp : List (Str × V) → Sp) : Prop :=
  ∀ (A : Around) (outer : List Env) (s : Shared) (H : Hp) (us ws : List Value) (vs zs : List V) (ks : List Str) (Q : VK) (E : XK), Room k A → Env0 P w K mg base A outer s H → Vals vs us → Vals zs ws → ks.length = zs.length → sp (ks.zip zs) vs H Q E →
    codeAny (model P w) A (.call (.ref f) ⟨us, ks.zip ws⟩) (CR CX outer P w H s Q E) s
/-- what a def f(self, **d) is told: its object, the names (all different, none self's) and their values; a new dict is made of them -/
def spKw (p1 : Str) (sp : Sp) : List (Str × V) → Sp := fun kws vs H Q E => ∃ v, vs = [v] ∧ (kws.map (·.1)).Nodup ∧ (∀ y ∈ kws, y.1 ≠ p1) ∧ kws.length ≤ 1000 ∧ ∀ d, H d = none → sp [v, .ref d] (upd H d (.dK (kws.map fun y => ((Sum.inr y.1 : Key), y.2)))) Q E
section
variable {CX : CXT} {P : Program} {w : World} {K : PySem.W.Frag} {mg : Str → Option Value} {base : Heap} {k : Nat} {f : Addr} {name qual : Str} {body : List Stmt} {scope : Scope} {kV doc pm cdv ct oc : Value} {an od : Option Addr}
  {osl : Array (Option Value)} {N : List Str} {sp : Sp} {ar1 ar2 : Arg}
theorem zip_fst : ∀ {ks : List Str} {zs : List V}, ks.length = zs.length → (ks.zip zs).map (·.1) = ks
  | [], [], _ => rfl
  | x :: r, z :: t, h => by
    rw [List.zip_cons_cons, List.map_cons, zip_fst (by simpa using h)]
theorem zip_fst' : ∀ {ks : List Str} {zs : List Value}, ks.length = zs.length → (ks.zip zs).map (·.1) = ks
  | [], [], _ => rfl
  | x :: r, z :: t, h => by
    rw [List.zip_cons_cons, List.map_cons, zip_fst' (by simpa using h)]
theorem kv_zip : ∀ {ks : List Str} {zs : List V} {ws : List Value}, Vals zs ws → KV ((ks.zip zs).map fun y => ((Sum.inr y.1 : Key), y.2)) ((ks.zip ws).map fun y => ((Sum.inr y.1 : Key), y.2))
  | [], _, _, _ => .nil
  | x :: r, _, _, .nil => .nil
  | x :: r, _, _, .cons a t => .cons ⟨rfl, a⟩ (kv_zip t)
theorem fn_kw (lk : K.lookup f = some ⟨oc, od, .func (PySem.W.fnOf name qual ⟨[], [ar1], none, [], [], some ar2, []⟩ body scope .none kV doc pm an cdv ct), osl⟩) (hcd : PySem.W.codeIn K cdv qual = true) (S : FnScope N [ar1.arg, ar2.arg] scope) (hCX : StX.CXUp CX)
    (hbody : ∀ (A : Around) (outer : List Env) (s : Shared) (H : Hp) (vs : List V) (Q : VK) (E : XK), Room k (A.deeper (envOfC qual scope s.heap.objs.size f cdv)) → sp vs H Q E →
      ∃ t, PSs (cxOf CX P w K mg base N qual scope f cdv A outer s H E) body t ∧ t { nx := fun _ H' => Q .non H', rt := Q } (start N vs) H) :
    FnW P w K mg base CX (k + 1) f (spKw ar1.arg sp) := by
  intro A outer s H us ws vs zs ks Q E hr e0 r rz hlen hsp
  obtain ⟨v, rfl, hnd, hne, hsz, hq⟩ := hsp
  cases r with
  | @cons _ u _ us' r1 r2 =>
  cases r2
  have hwl : ks.length = ws.length := hlen.trans rz.length
  rw [zip_fst hlen] at hnd
  have hne' : ∀ y ∈ ks.zip ws, y.1 ≠ ar1.arg := fun y hy => by
    have h1 : y.1 ∈ (ks.zip ws).map (·.1) := List.mem_map_of_mem hy
    rw [zip_fst' hwl, ← zip_fst hlen] at h1
    obtain ⟨y', h2, h3⟩ := List.mem_map.mp h1
    rw [← h3]
    exact hne y' h2
  have lz : (ks.zip zs).length = (ks.zip ws).length := by
    rw [List.length_zip, List.length_zip, ← hlen, ← hwl]
  have hz : (ks.zip ws).length ≤ sizeLine := by
    have : sizeLine = 16777216 := by decide +kernel
    omega
  refine StX.run_bnd lk hcd S hr e0 (G := fun xs H2 => ∃ d, H d = Option.none ∧ xs = [v, V.ref d] ∧ H2 = upd H d (.dK ((ks.zip zs).map fun y => ((Sum.inr y.1 : Key), y.2)))) (fun A' Ex Q' h => ?_) fun s2 H2 xs ⟨d, hd, ex, eH⟩ hr' => ?_
  · rw [bind_kw1 hne' hz]
    refine wpAny_bind (wpAny_alloc (wpAny_bind ?_))
    have kp0 : ∀ b x, s.heap.get? b = some x → (s.heap.push ({ cls := .type "dict", data := .dict #[] } : Obj)).get? b = some x := fun b x e => Heap.get?_push_of_some _ e
    refine kw_fill (h0 := s.heap) rfl (ks.zip ws) { s with heap := s.heap.push ({ cls := .type "dict", data := .dict #[] } : Obj) } [] 0 ⟨kp0, by show _ < (s.heap.push _).objs.size; rw [Heap.size_push]; exact Nat.lt_succ_self _, Heap.get?_push_size _ rfl⟩ (fun e he => by cases he) (fun e he => by cases he) (by rw [zip_fst' hwl]; exact hnd) fun h' at_ => ?_
    refine wpAny_pure ?_
    obtain ⟨kp, sz, get⟩ := at_
    rw [List.nil_append] at get
    have new : ObjOk P w (upd H s.heap.objs.size (.dK ((ks.zip zs).map fun y => ((Sum.inr y.1 : Key), y.2)))) h' s.heap.objs.size (.dK ((ks.zip zs).map fun y => ((Sum.inr y.1 : Key), y.2))) :=
      dk_new (by rw [List.length_map, lz]; exact hz) (beq_eq_false_iff_ne.mpr (Ne.symm (Nat.ne_of_lt (StX.env0_big e0)))) (kv_zip rz) ⟨_, _, _, get, ⟨rfl, rfl, rfl⟩, rfl, kwEs_keys _ _, by simpa using kwEs_mix (ks.zip ws) _, by
        rw [List.map_map, show ((fun x : Key × Value => x.1) ∘ fun y : Str × Value => ((Sum.inr y.1 : Key), y.2)) = (fun x : Str => (Sum.inr x : Key)) ∘ (fun y : Str × Value => y.1) from rfl, ← List.map_map, zip_fst' hwl]
        exact List.pairwise_map.mpr (List.Pairwise.imp (fun h e => h (Sum.inr.inj e)) hnd)⟩
    have hn : H s.heap.objs.size = Option.none := e0.hok.fresh (Nat.le_refl _)
    have un : Un (frs outer) [] H (upd H s.heap.objs.size (.dK ((ks.zip zs).map fun y => ((Sum.inr y.1 : Key), y.2)))) s.heap h' := Un.laid kp (Nat.le_refl _) hn
    exact h { s with heap := h', toks := s.toks + (ks.zip ws).length } _ [v, V.ref s.heap.objs.size] [u, Value.ref s.heap.objs.size] (env0_laidG e0 kp (Nat.le_of_lt sz) new) un rfl (fun e s' => hCX outer s H _ _ E e s' un kp rfl) (.cons r1 (.cons rfl .nil)) rfl ⟨_, hn, rfl, rfl⟩
  · subst ex eH
    exact hbody A outer s2 _ _ Q E hr' (hq d hd)
end
end Lx
namespace Lx
open PySem PySem.Spec PyProof.Rows L2
/-! ### x(**d), d a dict with texts as keys -/
section
variable {prog : Program} {w : World} {A : Around} {E : Value → Shared → Prop} {s : Shared} {d a : Addr}
/-- a dict with these texts as keys -/
def StrsAt (prog : Program) (w : World) (h : Heap) (a : Addr) (kws : List (Str × Value)) : Prop := h.DictOf (mixKind prog w) a (kws.map fun x => ((Sum.inr x.1 : Key), x.2))
def strOf : Value → Str
  | .str x _ => x
  | _ => Str.empty
theorem pairs_str : ∀ {es : List DictEntry} {kws : List (Str × Value)}, Pairs (mixKind prog w) es (kws.map fun x => ((Sum.inr x.1 : Key), x.2)) → (es.map fun e => (strOf e.key, e.val)) = kws ∧ ∀ e ∈ es, ∃ x t, e.key = .str x t
  | [], [], _ => ⟨rfl, fun e h => by cases h⟩
  | e :: es, x :: kws, .cons h1 h2 h3 => by
    obtain ⟨h4, h5⟩ := pairs_str h3
    have hk : ∃ t, e.key = .str x.1 t := by
      rcases keyIs_shape (show keyIs (Sum.inr x.1) e.key = true from h1) with ⟨j, t, ek, _⟩ | ⟨y, t, ek, ev⟩
      · exact absurd ek (by simp)
      · exact ⟨t, by rw [Sum.inr.inj ek]; exact ev⟩
    obtain ⟨t, hk⟩ := hk
    refine ⟨?_, fun e' he => ?_⟩
    · rw [List.map_cons, h4, hk]
      show (x.1, e.val) :: kws = x :: kws
      rw [h2]
    · rcases List.mem_cons.mp he with rfl | he
      · exact ⟨x.1, t, hk⟩
      · exact h5 e' he
theorem foldl_app {α β : Type} (g : α → β) : ∀ (l : List α) (s : List β), l.foldl (fun s e => s ++ [g e]) s = s ++ l.map g
  | [], s => by simp
  | x :: r, s => by
    rw [List.foldl_cons, foldl_app g r, List.append_assoc]
    rfl
theorem keywordsIn_strs {f : Value} {kws : List (Str × Value)} {Q : List (Str × Value) → Shared → Prop} (h : StrsAt prog w s.heap d kws) (hq : Q kws s) : wpAny (model prog w) A (keywordsIn f d) Q E s := by
  obtain ⟨o, es, ep, ho, hc, hd, hk, hp, hn⟩ := h
  obtain ⟨hm, hks⟩ := pairs_str hp
  unfold keywordsIn
  refine wpAny_bind (wpAny_dictEntries ho hd ?_)
  rw [← Array.forIn_toList, loop_pure (g := fun s e => s ++ [(strOf e.key, e.val)]) es.toList [] (fun e he s => ?_), foldl_app]
  · rw [List.nil_append, hm]
    exact wpAny_bind (wpAny_pure (wpAny_pure hq))
  · obtain ⟨x, t, ek⟩ := hks e he
    rw [ek]
    rfl
theorem pairs_app {K : Type} [DecidableEq K] {knd : KeyKind prog w K} : ∀ {es fs : List DictEntry} {xs ys : List (K × Value)}, Pairs knd es xs → Pairs knd fs ys → Pairs knd (es ++ fs) (xs ++ ys)
  | _, _, _, _, .nil, h => h
  | _, _, _, _, .cons a b c, h => .cons a b (pairs_app c h)
/-- the old objects stay, but the dict at d -/
def But (h0 : Heap) (d : Addr) (h : Heap) : Prop := (∀ b u, h0.get? b = some u → b ≠ d → h.get? b = some u) ∧ h0.objs.size ≤ h.objs.size
theorem nodup_inr {kws : List (Str × Value)} {x : Str × Value} (hn : ((kws ++ [x]).map fun y => (Sum.inr y.1 : Key)).Nodup) : (Sum.inr x.1 : Key) ∉ kws.map fun y => (Sum.inr y.1 : Key) := by
  rw [List.map_append, List.nodup_append] at hn
  exact fun h => hn.2.2 _ h _ (List.mem_singleton.mpr rfl) rfl
theorem merge_strs {kws : List (Str × Value)} {Q : Unit → Shared → Prop} (hda : d ≠ a) (hsm : (a == sysModules) = false) (hd : StrsAt prog w s.heap d []) (ha : StrsAt prog w s.heap a kws) (hz : kws.length ≤ 1000000)
    (hq : ∀ h', But s.heap d h' → StrsAt prog w h' d kws → Q () { s with heap := h' }) : wpAny (model prog w) A (mergeMapping d (.ref a) true) Q E s := by
  have hTa : s.TypeIs (.ref a) "dict" := ha.typeIs
  obtain ⟨oa, ea, epa, hoa, hca, hda', hka, hpa, hna⟩ := ha
  have hd0 := hd
  obtain ⟨od, ed, epd, hod, hcd, hdd, hkd, hpd, hnd⟩ := hd
  obtain ⟨hm, hks⟩ := pairs_str hpa
  have hes : ∀ e ∈ ea.toList, ∃ x t, e.key = .str x t := hks
  have e0 : ed = #[] := by
    have := hpd.length
    have h1 : ed.toList.length = 0 := by simpa using this
    exact Array.toList_eq_nil_iff.mp (List.length_eq_zero_iff.mp h1)
  have lea : ea.size = kws.length := by
    have := congrArg List.length hm
    simpa using this
  unfold mergeMapping
  refine wpAny_bind (wpAny_isInstance hTa PySem.F.sub_dict_dict ?_)
  simp only [if_true]
  refine wpAny_bind (wpAny_specialOf hTa PySem.F.slot_dict_iter.lookup ?_)
  refine wpAny_bind (wpAny_pure ?_)
  simp only [beq_self_eq_true]
  rw [if_neg (by rw [hsm]; exact Bool.false_ne_true)]
  refine wpAny_bind (wpAny_dictEntries hod hdd ?_)
  rw [if_pos (by rw [e0]; rfl)]
  refine wpAny_bind (wpAny_dictEntries hoa hda' ?_)
  rw [← Array.forIn_toList, loop_pure (g := fun s _ => s) ea.toList PUnit.unit (fun e he s => ?_)]
  · refine wpAny_bind (wpAny_pure ?_)
    refine wpAny_bind (wpAny_dictEntries hoa hda' ?_)
    refine wpAny_bind (wpAny_dictEpoch hoa hda' ?_)
    refine wpAny_bind ?_
    refine wpAny_forIn_list _ (fun rest b s' => ∃ i, rest = List.range' i (ea.size - i) ∧ i ≤ ea.size ∧ ∃ h', s' = { s with heap := h' } ∧ But s.heap d h' ∧ StrsAt prog w h' d (kws.take i)) _ ?_ ?_ _ _ ⟨0, by rw [List.range_eq_range', Nat.sub_zero], Nat.zero_le _, s.heap, rfl, ⟨fun _ _ h _ => h, Nat.le_refl _⟩, hd0⟩
    · rintro x rest b s' ⟨i, hr, hi, h', rfl, bt, st⟩
      obtain ⟨k, hk⟩ : ∃ k, ea.size - i = k + 1 := by
        cases h : ea.size - i with
        | zero => rw [h] at hr; cases hr
        | succ k => exact ⟨k, rfl⟩
      rw [hk, List.range'_succ] at hr
      injection hr with hx hrest
      subst hx
      have lt : x < ea.size := by omega
      have hoa' := bt.1 a oa hoa (Ne.symm hda)
      refine wpAny_bind (wpAny_dictEntries (s := { s with heap := h' }) hoa' hda' ?_)
      obtain ⟨y, t, ek⟩ := hes ea[x] (by simp)
      have ex : (y, ea[x].val) = kws[x]'(by omega) := by
        have h1 : (ea.toList.map fun e => (strOf e.key, e.val))[x]? = kws[x]? := by rw [hm]
        rw [List.getElem?_map, Array.getElem?_toList, Array.getElem?_eq_getElem lt, List.getElem?_eq_getElem (by omega)] at h1
        have h2 : (strOf ea[x].key, ea[x].val) = kws[x]'(by omega) := Option.some.inj h1
        rw [ek] at h2
        exact h2
      rw [Array.getElem?_eq_getElem lt]
      have hkey : (mixKind prog w).is (Sum.inr y) ea[x].key = true := by
        rw [ek]
        exact mixKind_str prog w y t
      have hh : ea[x].hash = (mixKind prog w).hash (Sum.inr y) := by
        obtain ⟨k0, hk0, hh0⟩ := hka ea[x] (Array.getElem_mem lt)
        rw [hh0, (mixKind prog w).inj _ _ _ hk0 hkey]
      have tk : kws.take (x + 1) = kws.take x ++ [(y, ea[x].val)] := by
        rw [List.take_add_one, List.getElem?_eq_getElem (by omega), ex]
        rfl
      have hnn : (Sum.inr y : Key) ∉ (kws.take x).map fun z => (Sum.inr z.1 : Key) := by
        refine nodup_inr (x := (y, ea[x].val)) ?_
        rw [← tk]
        rw [List.map_map] at hna
        exact hna.sublist ((List.take_sublist (x + 1) kws).map _)
      have st0 := st
      obtain ⟨o', es', ep', ho', hc', hd', hk', hp', hn'⟩ := st
      obtain ⟨hm', hks'⟩ := pairs_str hp'
      have hno : (es'.findIdx? fun e => (mixKind prog w).is (Sum.inr y) e.key) = none := by
        refine Array.findIdx?_eq_none_iff.mpr fun e he => ?_
        obtain ⟨z, t', ez⟩ := hks' e (by simpa using he)
        cases hb : (mixKind prog w).is (Sum.inr y) e.key with
        | false => rfl
        | true =>
          exfalso
          refine hnn ?_
          have hz1 : (strOf e.key, e.val) ∈ kws.take x := by
            rw [← hm']
            exact List.mem_map_of_mem (by simpa using he)
          have e2 := (mixKind prog w).inj _ _ _ hb (show (mixKind prog w).is (Sum.inr z) e.key = true by rw [ez]; exact mixKind_str prog w z t')
          rw [e2]
          refine List.mem_map.mpr ⟨_, hz1, ?_⟩
          rw [ez]
          rfl
      have hsz : es'.size ≤ 1000000 := by
        have := congrArg List.length hm'
        rw [List.length_map, Array.length_toList, List.length_take] at this
        omega
      have bs : sizeLine = 16777216 := by decide +kernel
      refine wpAny_bind (wpAny_holding ?_)
      try simp only [if_true]
      rw [hh]
      refine wpAny_bind (wpAny_dictFind_of (s := { s with heap := h' }) hkey ho' hd' hk' ?_)
      rw [hno]
      simp only [Option.isSome_none, Bool.false_eq_true, if_false]
      unfold dictPut
      refine wpAny_bind (wpAny_dictFind_of (s := { s with heap := h' }) hkey ho' hd' hk' ?_)
      rw [hno]
      refine wpAny_updateDictKeys (hz := by omega) (s := { s with heap := h' }) ho' hd' ?_
      have hb2 : ∀ b u, h'.get? b = some u → b ≠ d → (h'.update d (Obj.mapDictKeys fun x_1 => x_1.push ⟨(mixKind prog w).hash (Sum.inr y), ea[x].key, ea[x].val⟩)).get? b = some u := fun b u e nb => by
        rw [Heap.get?_update_other _ _ (Ne.symm nb)]
        exact e
      have hsz2 : (h'.update d (Obj.mapDictKeys fun x_1 => x_1.push ⟨(mixKind prog w).hash (Sum.inr y), ea[x].key, ea[x].val⟩)).objs.size = h'.objs.size := Heap.size_update _ _ _
      refine wpAny_bind (wpAny_dictEpoch (s := { s with heap := _ }) (hb2 a oa hoa' (Ne.symm hda)) hda' ?_)
      rw [if_neg (by simp)]
      refine wpAny_pure ⟨x + 1, by rw [hrest]; congr 1; omega, by omega, _, rfl, ⟨fun b u e nb => hb2 b u (bt.1 b u e nb) nb, by rw [hsz2]; exact bt.2⟩, ?_⟩
      unfold StrsAt
      rw [tk]
      refine ⟨_, _, ep' + 1, Heap.get?_update_self _ ho' (Obj.isFreed_of_dict (Obj.data_mapDictKeys hd' _)), hc'.mapDictKeys _, Obj.data_mapDictKeys hd' _, hk'.push hkey _, ?_, ?_⟩
      · rw [Array.toList_push, List.map_append]
        exact pairs_app hp' (.cons hkey rfl .nil)
      · rw [← tk]
        rw [List.map_map] at hna ⊢
        exact hna.sublist ((List.take_sublist (x + 1) kws).map _)
    · rintro b s' ⟨i, hr, hi, h', rfl, bt, st⟩
      have : ea.size - i = 0 := by
        cases h : ea.size - i with
        | zero => rfl
        | succ k => rw [h] at hr; cases hr
      have e1 : kws.take i = kws := List.take_of_length_le (by omega)
      rw [e1] at st
      exact wpAny_pure (hq h' bt st)
  · obtain ⟨x, t, ek⟩ := hes e he
    rw [ek]
theorem ks_callW {M : Model} {f : Value} {first : List Value} {pos : Pos} {Q : Value → Shared → Prop} {P : Heap → Prop} {args : List (Bool × Sem Value)} {kws : List (Option Str × Sem Value)} (hst : (args.any (·.1) || kws.any (·.1.isNone)) = true)
    (hk : ∀ h, P h → ∃ k, (k = Keeper.frame ∨ k = Keeper.machine ∨ k = Keeper.boundFrame) ∧ PySem.W.Looks M h (keeperOf f) k)
    (h : wpAny M A (evalArgs f true args kws) (fun a s₁ => P s₁.heap ∧ wpAny M A (call f (first ++ a.pos) a.kw) Q E s₁) E s) : wpAny M A (callWith pos f first args kws) Q E s := by
  unfold callWith
  refine wpAny_bind (wpAny_holding (wpAny_mono h (fun a s₁ h₁ => wpAny_bind (wpAny_standAt ?_)) fun _ _ x => x))
  obtain ⟨k, hk', L⟩ := hk _ h₁.1
  simp only [hst]
  refine wpAny_bind (L.here ?_)
  have tail : ∀ {t : Sem Value}, wpAny M A t Q E s₁ → wpAny M A (t >>= fun r => holding [r] point >>= fun _ => pure r) Q E s₁ :=
    fun ht => wpAny_bind (wpAny_mono ht (fun r s₂ hr => wpAny_bind (wpAny_holding (wpAny_point (wpAny_pure hr)))) fun _ _ x => x)
  have marked (mk : Value) : wpAny M A (callMarked mk f (first ++ a.pos) a.kw) Q E s₁ := by unfold callMarked; exact Calls.wpAny_keep h₁.2
  rcases hk' with rfl | rfl | rfl <;> dsimp only <;> first | exact tail (marked _) | exact tail (wpAny_operating h₁.2)
theorem evalArgs_W {f : Value} {x : Sem Value} {pos : Pos} {Q : Args → Shared → Prop}
    (h : wpAny (model prog w) A x (fun v s1 => ∃ a kws, v = .ref a ∧ s.heap.objs.size ≠ a ∧ (a == sysModules) = false ∧ StrsAt prog w s1.heap s.heap.objs.size [] ∧ StrsAt prog w s1.heap a kws ∧ kws.length ≤ 1000000 ∧ ∀ h', But s1.heap s.heap.objs.size h' → Q ⟨[], kws⟩ { s1 with heap := h' }) E { s with heap := s.heap.push { cls := .type "dict", data := .dict #[] } }) :
    wpAny (model prog w) A (evalArgs f true [] [(none, (do let v ← x; standAt pos; pure v))]) Q E s := by
  unfold evalArgs
  refine wpAny_bind (wpAny_bind (wpAny_pure (wpAny_pure ?_)))
  refine wpAny_bind (wpAny_pure ?_)
  refine wpAny_holding ?_
  rw [if_neg (by simp)]
  refine wpAny_bind ?_
  unfold mergedKeywords
  refine wpAny_bind (wpAny_alloc ?_)
  refine wpAny_bind (wpAny_holding ?_)
  dsimp only
  refine wpAny_bind ?_
  rw [List.forIn_cons]
  refine wpAny_bind ?_
  dsimp only
  rw [if_pos (show ([] : List (Str × Sem Value)).isEmpty = true from rfl)]
  refine wpAny_bind (wpAny_pure ?_)
  refine wpAny_bind (wpAny_bind (wpAny_mono h (fun v s1 h1 => ?_) fun _ _ z => z))
  refine wpAny_bind (wpAny_standAt (wpAny_pure ?_))
  obtain ⟨a, kws, rfl, hda, hsm, hd, ha, hz, hq⟩ := h1
  refine wpAny_bind (wpAny_onRaise (wpAny_holding (wpAny_tryCatch (wpAny_onRaise (merge_strs (s := s1) hda hsm hd ha hz fun h' bt st => ?_)))))
  refine wpAny_pure ?_
  dsimp only
  rw [List.forIn_nil]
  refine wpAny_pure ?_
  rw [if_pos (show ([] : List (Str × Sem Value)).isEmpty = true from rfl)]
  refine wpAny_bind (wpAny_pure (wpAny_pure ?_))
  refine wpAny_pure ?_
  refine wpAny_bind (wpAny_pure ?_)
  refine wpAny_bind (wpAny_holding (keywordsIn_strs (s := { s1 with heap := h' }) st ?_))
  exact wpAny_pure (hq h' bt)
end
theorem kv_inr : ∀ {kws : List (Str × V)} {vs : List (Key × Value)}, KV (kws.map fun y => ((Sum.inr y.1 : Key), y.2)) vs → ∃ ws, Vals (kws.map (·.2)) ws ∧ vs = (((kws.map (·.1)).zip ws).map fun y => ((Sum.inr y.1 : Key), y.2)) ∧ ws.length = kws.length
  | [], [], _ => ⟨[], .nil, rfl, rfl⟩
  | x :: r, v :: vs, .cons ⟨h1, h2⟩ t => by
    obtain ⟨ws, h3, h4, h5⟩ := kv_inr t
    refine ⟨v.2 :: ws, .cons h2 h3, ?_, by rw [List.length_cons, h5]; rfl⟩
    rw [List.map_cons, List.zip_cons_cons, List.map_cons, ← h4]
    have : v.1 = Sum.inr x.1 := h1.symm
    rw [← this]
section
variable {X : Cx} {CX : CXT} {k : Nat} {f C : Addr} {sp : List (Str × V) → Sp} {E : XK} {x : Str} {e : Expr} {tv te : TE} {p pos kp : Pos}
/-- C(k = v, ..), no positional ones: a new instance and its dict, then __init__ with the keywords -/
theorem run_makeW {pins : List (Addr × Obj)} {σ : L2.St} {H : Hp} {s : Shared} {Q : VK} {ws : List Value} {zs : List V} {ks : List Str} (M : Mk X.K C f) (F : FnW X.prog X.w X.K X.mg X.base CX k f sp) (hr : Room (k + 1) X.A)
    (hx : Passes CX X E) (I : Inv X pins σ H s) (rz : Vals zs ws) (l2 : ks.length = zs.length)
    (h : ∀ x dx, H x = none → H dx = none → dx ≠ x → sp (ks.zip zs) [.ref x] (upd (upd H dx (.own x)) x (.ins C dx [])) (fun v H2 => v = .non ∧ Q (.ref x) H2) E) :
    wpAny (model X.prog X.w) X.A (call (.ref C) [] (ks.zip ws)) (EP X pins σ Q) X.xe s := by
  have hq := h (s.heap.objs.size + 1) s.heap.objs.size (I.hok.fresh (Nat.le_succ _)) (I.hok.fresh (Nat.le_refl _)) (Nat.ne_of_lt (Nat.lt_succ_self _))
  have I2 := Inv.made (C := C) I
  refine wpAny_call (make_map (f := f) I.kIn M.makes M.init (beq_iff_eq.mp M.fn) (codeAny_mono (F _ X.stack _ _ [Value.ref (s.heap.objs.size + 1)] ws [V.ref (s.heap.objs.size + 1)] zs ks _ E (hr.make C [] (ks.zip ws))
    (I2.env0.make C [] (ks.zip ws)) (.cons rfl .nil) rz l2 hq) fun r s' hq' => ?_))
  cases r with
  | error e => exact hx pins σ _ _ e s' I2 hq'
  | ok fl =>
    cases fl with
    | ret u =>
      obtain ⟨v, H', I3, rv, ev, q3⟩ := I2.after hq'
      subst ev
      exact ⟨rv, ⟨V.ref (s.heap.objs.size + 1), H', I3, rfl, q3⟩⟩
    | next => exact False.elim hq'
    | brk => exact False.elim hq'
    | cont => exact False.elim hq'
/-- x(**e), x a local name that holds the class C -/
def tMakeW (C : Addr) (sp : List (Str × V) → Sp) (E : XK) (tv te : TE) : TE := fun σ H Q => tv σ H fun y H0 => y = .ref C ∧ te σ H0 fun z H1 => ∃ a kws, z = .ref a ∧ H1 a = some (.dK (kws.map fun y => ((Sum.inr y.1 : Key), y.2))) ∧ kws.length ≤ 1000000 ∧
  ∀ x dx, H1 x = none → H1 dx = none → dx ≠ x → sp kws [.ref x] (upd (upd H1 dx (.own x)) x (.ins C dx [])) (fun v H2 => v = .non ∧ Q (.ref x) H2) E
theorem pe_makeW (M : Mk X.K C f) (F : FnW X.prog X.w X.K X.mg X.base CX k f sp) (hr : Room (k + 1) X.A) (hv : PE X (.Name x p) tv) (hx : Passes CX X E) (he : PE X e te) : PE X (.Call (.Name x p) [] [⟨none, e, kp⟩] pos) (tMakeW C sp E tv te) := by
  refine ⟨fun pins s σ H Q I h => ?_⟩
  refine wpAny_Call_Name_kw (thn (hv.run pins s σ H _ I h) fun u s0 ⟨y, H0, I0, r0, e0, q0⟩ => ?_)
  subst e0
  obtain rfl : u = Value.ref C := r0
  have fp := I0.fpOk (b := s0.heap.objs.size) (Nat.le_refl _) (I0.hok.fresh (Nat.le_refl _))
  have I1 : Inv X ((s0.heap.objs.size, ({ cls := .type "dict", data := .dict #[] } : Obj)) :: pins) σ H0 { s0 with heap := s0.heap.push ({ cls := .type "dict", data := .dict #[] } : Obj) } :=
    ClX.pin_new (t' := s0.toks) I0 (fun _ _ z => Heap.get?_push_of_some _ z) (Nat.le_refl _) (Heap.get?_push_size s0.heap rfl) (fun v z => nomatch z)
  refine ks_callW (P := fun h => X.K.In h) (by rfl) (PySem.W.keeps_K M.kp) (evalArgs_W (thn (he.run _ _ σ H0 _ I1 q0) fun v s1 ⟨z, H1, I2, rz, a, kws, ez, ea, hl, q⟩ => ?_))
  subst ez
  obtain rfl : v = Value.ref a := rz
  obtain ⟨hz, hsm, vs, rel, dd⟩ := dk_of I2.hok ea
  obtain ⟨ws, r1, rfl, lw⟩ := kv_inr rel
  have hd := ClX.pin_at I2
  have hdn := ClX.pin_un I2
  have lz : ((kws.map (·.1)).zip ws).length = kws.length := by
    rw [List.length_zip, List.length_map, lw, Nat.min_self]
  refine ⟨a, (kws.map fun y : Str × V => y.1).zip ws, rfl, fun z => ?_, hsm, ⟨_, _, _, hd, ⟨rfl, rfl, rfl⟩, rfl, (fun e he => by cases (by simpa using he : e ∈ ([] : List DictEntry))), .nil, List.nodup_nil⟩, dd, by rw [lz]; exact hl, fun h' bt => ?_⟩
  · rw [← z, hdn] at ea
    cases ea
  · have I3 : Inv X pins σ H1 { s1 with heap := h' } := by
      have J := ClX.unpin I2
      exact J.turned (t' := s1.toks) (it := s0.heap.objs.size) (fun b o nb e => bt.1 b o e nb) hdn fp.2.1 fp.2.2.2.1 fp.2.2.2.2.1 fp.2.2.2.2.2
    refine ⟨I3.kIn, ?_⟩
    have ezip : (kws.map (·.1)).zip (kws.map (·.2)) = kws := by
      rw [List.zip_map']
      simp
    refine run_makeW (zs := kws.map (·.2)) M F hr hx I3 r1 (by rw [List.length_map, List.length_map]) ?_
    rw [ezip]
    exact q
end
end Lx
namespace Lx
open PySem PySem.Spec PyProof.Rows L2
/-! ### try: .. except A as n: .. except B as m: .. -/
def wManyAs (K : PySem.W.Frag) (Wout : WX) (D : Ends) : List (Value × Nat × (Addr → Value → Option Addr → TS)) → WX
  | [] => Wout
  | (c, i, ts) :: l => fun cls d σ H => ∃ b, PySem.W.exmOne K cls c = some b ∧ (b = true → ∀ a, H a = none → ts a cls d { nx := fun σ' H' => D.nx (σ'.set i none) H', rt := D.rt, bk := fun σ' H' => D.bk (σ'.set i none) H', ct := fun σ' H' => D.ct (σ'.set i none) H' } (σ.set i (some (.ref a))) H) ∧
      (b = false → wManyAs K Wout D l cls d σ H)
inductive HdsAs (X : Cx) : List ExceptHandler → List (Value × Nat × (Addr → Value → Option Addr → TS)) → Prop
  | nil : HdsAs X [] []
  | cons {x n : Str} {c : Value} {i : Nat} {ts : Addr → Value → Option Addr → TS} {b₀ : Stmt} {suite : List Stmt} {np pos' : Pos} {hds : List ExceptHandler} {l : List (Value × Nat × (Addr → Value → Option Addr → TS))} (hN : X.N.Nodup) (hi : X.N[i]? = some n) (hln : X.env.kindOf n = some .local) (hc : Names X x c)
      (hsu : ∀ (a : Addr) (oe : Obj) (cls : Value) (d : Option Addr) (pn : List (Addr × Obj)), Zc cls d oe → (∃ vs, oe.data = .fields vs) → PSs (X.suite a ((a, oe) :: pn)) (b₀ :: suite) (ts a cls d)) (r : HdsAs X hds l) :
      HdsAs X (.ExceptHandler (some (.Name x np)) (some n) (b₀ :: suite) pos' :: hds) ((c, i, ts) :: l)
section
variable {X : Cx} {body : List Stmt} {h₀ : ExceptHandler} {hds : List ExceptHandler} {l : List (Value × Nat × (Addr → Value → Option Addr → TS))} {pos : Pos} {tb : WX → TS} {Wout : WX}
theorem ps_try_manyAs (hs : X.stack = X.env :: X.outer) (hf : X.env.frame = some X.env.locals) (tk : Takes X Wout)
    (hb : ∀ (W : WX) (pn : List (Addr × Obj)) (xe : Value → Shared → Prop), Takes (X.tr pn xe) W → PassesOwn (model X.prog X.w) X.A X.env xe → PSs (X.tr pn xe) body (tb W))
    (hh : HdsAs X (h₀ :: hds) l) : PS X (.Try body (h₀ :: hds) [] [] pos) (fun D σ H => tb (wManyAs X.K Wout D l) D σ H) := by
  refine ⟨fun pins s σ H D I h => ?_⟩
  have ok := I.ok
  have hfr : X.A.frames = some (X.env :: X.outer) := by rw [ok.frames, hs]
  refine wpAny_Try_except ?_
  refine wpAny_mono ((hb (wManyAs X.K Wout D l) (X.pn ++ pins) (fun e s₁ => wpAny (model X.prog X.w) X.A (noteFrame e X.env) (fun _ s₂ => wpAny (model X.prog X.w) X.A (setFlight e none) (fun _ s₃ =>
    wpAny (model X.prog X.w) X.A (handleBy e X.env (h₀ :: hds)) (SP X pins D) X.xe s₃) X.xe s₂) X.xe s₁) (fun u s' xx => ?_) PassesOwn.looking).run [] s σ H D (I.toTry _) h) (fun f s1 hsp => ?_) (fun e s1 he => he)
  · -- the catch
    obtain ⟨a, B, sI, pins', σ', H', cls, d, rfl, J', nb, up, sky, na, os, ag, w⟩ := xx
    have J : Inv X pins σ' H' sI := J'.ofTry ok
    have sky' : Sky B (X.env :: X.outer) a (Zc cls d) X.env.locals s'.heap := by rw [← hs]; exact sky
    show wpAny (model X.prog X.w) X.A (noteFrame (.ref a) X.env) _ _ _
    refine Sky.land Zc.steady hfr hf sky' fun h3 fl3 up3 => ?_
    have J3 : Inv X pins σ' H' { s' with heap := h3 } := J.landed nb fl3.1 (up.trans up3) os ag
    obtain ⟨oe3, vs3, he3, hz3, hd3⟩ := fl3.there
    have notFr : ∀ {h : Heap} {o : Obj} {vs : Array Value}, h.FunFrames B (X.env :: X.outer) → h.get? a = some o → o.data = .fields vs → a ∉ frs (X.env :: X.outer) := fun {h o vs} ff e dd hm => by
      obtain ⟨_, o', e', hnf⟩ := ff.mem hm
      rw [e] at e'; cases e'
      exact hnf _ dd
    have nfr := notFr fl3.2.2.1 he3 hd3
    have nL : a ≠ X.env.locals := fun z => nfr (List.mem_filterMap.mpr ⟨X.env, List.mem_cons_self, by rw [hf, z]⟩)
    have nF : a ∉ X.fs := fun hm => by
      obtain ⟨e, he, q⟩ := List.mem_filterMap.mp hm
      exact nfr (List.mem_filterMap.mpr ⟨e, List.mem_cons_of_mem _ he, q⟩)
    have S3 := J3.suite he3 hd3 na nL nF
    have go : ∀ {hds' : List ExceptHandler} {l' : List (Value × Nat × (Addr → Value → Option Addr → TS))}, HdsAs X hds' l' → wManyAs X.K Wout D l' cls d σ' H' →
        wpAny (model X.prog X.w) X.A (handleBy (.ref a) X.env hds') (SP X pins D) X.xe { s' with heap := h3 } := by
      intro hds' l' hk
      induction hk with
      | nil =>
        intro w
        refine wpAny_handleBy_nil ?_
        obtain ⟨k1, k2, k3, oe, vs, T, oT, ts', he, hz, hd, h1, hr⟩ := id fl3
        unfold PySem.passOn
        refine wpAny_bind (wpAny_field he hd h1 ?_)
        rw [if_neg (show ¬ ((Value.ref T == Value.none) = true) from by simp)]
        have fin : wpAny (model X.prog X.w) X.A (setFlight (.ref a) X.env.frame) (fun _ s4 => wpAny (model X.prog X.w) X.A (throw (.ref a) : Sem Flow) (SP X pins D) X.xe s4) X.xe { s' with heap := h3 } := by
          rw [hf]
          refine HandSPX.setFlight_upZ fl3 fun h4 hh4 up4 => wpAny_throw (tk _ _ ?_)
          exact ⟨a, B, sI, pins, σ', H', cls, d, rfl, J, nb, (up.trans up3).trans up4, .inr (.inr (by rw [hs]; exact hh4)), na, os, ag, w⟩
        first
          | exact wpAny_bind (wpAny_pure (wpAny_bind fin))
          | exact wpAny_bind fin
      | @cons x n c i ts b₀ suite np pos' hds2 l2 hN hi hln hc hsu r ih =>
        intro w
        obtain ⟨b, hb1, hyes, hno⟩ := w
        have hloc : Loc X.env.scope n := .inl hln
        refine wpAny_handleBy_cons (codeAny_handlers_test ?_) (by intro q; cases q)
        have LT : PySem.W.Looks (model X.prog X.w) h3 (typeOf (.ref a)) cls := fun A Q E s k q => wpAny_typeOf_ref (k _ _ he3) (by rw [hz3.1]; exact q)
        have LM := PySem.W.exm_one (M := model X.prog X.w) (J3.kIn) LT hb1
        have test : ∀ {Q : Value → Shared → Prop} {E : Value → Shared → Prop}, Q c { s' with heap := h3 } → wpAny (model X.prog X.w) (X.A.mark (some (.ref a))) (eval (.Name x np) X.env) Q E { s' with heap := h3 } := fun {Q E} q => by
          obtain ⟨hg, hdbg, hm | ⟨hm, hv, hnn⟩⟩ := hc
          · exact ld_glob (X := X.suite a ((a, oe3) :: (X.pn ++ pins))) S3 hg hm q hdbg
          · exact ld_blt (X := X.suite a ((a, oe3) :: (X.pn ++ pins))) S3 hg hm hv q hnn hdbg
        refine test (LM.here ?_)
        cases b with
        | true =>
          refine codeAny_handlers_suite_as ?_
          refine HandSPX.lands_againZ fl3 fun h4 fl4 up4 => ?_
          have J4 : Inv X pins σ' H' { s' with heap := h4 } := J.landed nb fl4.1 ((up.trans up3).trans up4) os ag
          obtain ⟨oe4, vs4, he4, hz4, hd4⟩ := fl4.there
          have S4 := J4.suite he4 hd4 na nL nF
          refine store_ok (X := X.suite a ((a, oe4) :: (X.pn ++ pins))) (v := .ref a) S4 hN hi hloc rfl (fun s5 S5 => ?_) (.inr hln)
          refine wpAny_mono ((hsu a oe4 cls d (X.pn ++ pins) hz4 ⟨_, hd4⟩).run [] s5 _ H' _ S5 (hyes rfl a na)) (fun f s6 hsp => ?_) (fun _ _ z => False.elim z)
          have end_ : ∀ {σ6 : L2.St} {H6 : Hp} {Q : Shared → Prop}, Inv (X.suite a ((a, oe4) :: (X.pn ++ pins))) [] σ6 H6 s6 → (∀ s7, Inv X pins (σ6.set i none) H6 s7 → Q s7) →
              wpAny (model X.prog X.w) X.A (do bindName X.env n .none; unbindBehindTheSuite X.env n pos') (fun _ s7 => Q s7) X.xe s6 := fun {σ6 H6 Q} S6 hq => gone_ok (S6.unsuite ok) hN hi hln hq
          cases f with
          | next =>
            obtain ⟨σ6, H6, S6, q6⟩ := hsp
            exact end_ S6 fun s7 J7 => ⟨_, _, J7, q6⟩
          | brk =>
            obtain ⟨σ6, H6, S6, q6⟩ := hsp
            exact end_ S6 fun s7 J7 => ⟨_, _, J7, q6⟩
          | cont =>
            obtain ⟨σ6, H6, S6, q6⟩ := hsp
            exact end_ S6 fun s7 J7 => ⟨_, _, J7, q6⟩
          | ret u =>
            obtain ⟨v6, σ6, H6, S6, r6, q6⟩ := hsp
            exact end_ S6 fun s7 J7 => ⟨_, _, _, J7, r6, q6⟩
        | false =>
          show wpAny _ X.A (handleBy (.ref a) X.env hds2) _ _ _
          exact ih (hno rfl)
    exact go hh w
  · cases f with
    | next =>
      obtain ⟨σ', H', J', q⟩ := hsp
      exact wpAny_execs_nil ⟨σ', H', J'.ofTry ok, q⟩
    | brk =>
      obtain ⟨σ', H', J', q⟩ := hsp
      exact ⟨σ', H', J'.ofTry ok, q⟩
    | cont =>
      obtain ⟨σ', H', J', q⟩ := hsp
      exact ⟨σ', H', J'.ofTry ok, q⟩
    | ret u =>
      obtain ⟨v, σ', H', J', r, q⟩ := hsp
      exact ⟨v, σ', H', J'.ofTry ok, r, q⟩
end
/-! ### C(k = v, ..) and C.m(..) in a try: what they let out is told at the slots that stand -/
section
variable {X : Cx} {CX : CXT} {k : Nat} {f C g q0 : Addr} {mc : Value} {spW : List (Str × V) → Sp} {sp : Sp} {x m : Str} {e o : Expr} {es : List Expr} {ta : TE} {t tk : TA} {p pos apos kp : Pos} {kws : List Keyword} {ks : List Str} {pl : Sem Bool} {E : L2.St → XK}
theorem run_makeWA {pins : List (Addr × Obj)} {σ : L2.St} {H : Hp} {s : Shared} {Q : VK} {ws : List Value} {zs : List V} {ks : List Str} {E : XK} (M : Mk X.K C f) (F : FnW X.prog X.w X.K X.mg X.base CX k f spW) (hr : Room (k + 1) X.A)
    (hx : PassesAt CX X σ E) (I : Inv X pins σ H s) (rz : Vals zs ws) (l2 : ks.length = zs.length)
    (h : ∀ x dx, H x = none → H dx = none → dx ≠ x → spW (ks.zip zs) [.ref x] (upd (upd H dx (.own x)) x (.ins C dx [])) (fun v H2 => v = .non ∧ Q (.ref x) H2) E) :
    wpAny (model X.prog X.w) X.A (call (.ref C) [] (ks.zip ws)) (EP X pins σ Q) X.xe s := by
  have hq := h (s.heap.objs.size + 1) s.heap.objs.size (I.hok.fresh (Nat.le_succ _)) (I.hok.fresh (Nat.le_refl _)) (Nat.ne_of_lt (Nat.lt_succ_self _))
  have I2 := Inv.made (C := C) I
  refine wpAny_call (make_map (f := f) I.kIn M.makes M.init (beq_iff_eq.mp M.fn) (codeAny_mono (F _ X.stack _ _ [Value.ref (s.heap.objs.size + 1)] ws [V.ref (s.heap.objs.size + 1)] zs ks _ E (hr.make C [] (ks.zip ws))
    (I2.env0.make C [] (ks.zip ws)) (.cons rfl .nil) rz l2 hq) fun r s' hq' => ?_))
  cases r with
  | error e => exact hx pins _ _ e s' I2 hq'
  | ok fl =>
    cases fl with
    | ret u =>
      obtain ⟨v, H', I3, rv, ev, q3⟩ := I2.after hq'
      subst ev
      exact ⟨rv, ⟨V.ref (s.heap.objs.size + 1), H', I3, rfl, q3⟩⟩
    | next => exact False.elim hq'
    | brk => exact False.elim hq'
    | cont => exact False.elim hq'
/-- C(k = v, ..), C a global name -/
def tMakeWA (C : Addr) (ks : List Str) (sp : List (Str × V) → Sp) (E : L2.St → XK) (tk : TA) : TE := fun σ H Q => tk σ H fun zs H1 => ks.length = zs.length ∧
  ∀ x dx, H1 x = none → H1 dx = none → dx ≠ x → sp (ks.zip zs) [.ref x] (upd (upd H1 dx (.own x)) x (.ins C dx [])) (fun v H2 => v = .non ∧ Q (.ref x) H2) (E σ)
theorem pe_makeWA (M : Mk X.K C f) (F : FnW X.prog X.w X.K X.mg X.base CX k f spW) (hr : Room (k + 1) X.A) (hg : Gl X x) (hm : X.mg x = some (.ref C)) (hx : ∀ σ, PassesAt CX X σ (E σ)) (hkw : PK X kws tk)
    (hall : (backToKw pos (keywordEach kws X.env)).all (·.1.isSome) = true := by rfl) (hks : (backToKw pos (keywordEach kws X.env)).filterMap (·.1) = ks := by rfl)
    (hdb : (x == ("__debug__" : Str)) = false := by decide) (hpl : ((backTo pos (starEach [] X.env)).any (·.1) || (backToKw pos (keywordEach kws X.env)).any (·.1.isNone)) = false := by rfl) :
    PE X (.Call (.Name x p) [] kws pos) (tMakeWA C ks spW E tk) := by
  refine ⟨fun pins s σ H Q I h => ?_⟩
  refine wpAny_Call_Name_kw (ld_glob I hg hm ?_ hdb)
  refine PySem.W.callWith_KW0 (h₀ := X.base) I.ok.mod.kin M.kp hall (thn (hkw.run pos pins s σ H _ I h) fun ws s1 ⟨zs, H1, I1, r, l2, q⟩ => ⟨I1.kIn, ?_⟩) hpl
  rw [hks]
  exact run_makeWA M F hr (hx σ) I1 r l2 q
/-- C.m(..), m a classmethod -/
def tCMethA (C : Addr) (sp : Sp) (E : L2.St → XK) (ta : TE) (t : TA) : TE := fun σ H Q => ta σ H fun x H1 => x = .ref C ∧ t σ H1 fun vs H2 => sp (.ref C :: vs) H2 Q (E σ)
theorem pe_cmethA (he : PE X o ta) (r : ClX.CRead X.K C mc) (c : ClX.CMet X.K C mc m q0 g) (F : FnR X.prog X.w X.K X.mg X.base CX k g sp) (hr : Room k X.A) (hx : ∀ σ, PassesAt CX X σ (E σ)) (ha : PA X (e :: es) t)
    (hst : starEach (e :: es) X.env = (false, eval e X.env) :: starEach es X.env := by rfl) (hpl : (backTo pos (starEach es X.env)).any (·.1) = false := by rfl)
    (ht : eval (.Call (.Attribute o m apos) (e :: es) [] pos) X.env = (do
      let ov ← eval o X.env
      standAt apos.atName
      let (f, first) ← holding [ov] (getMethod ov m pl)
      callWith pos f first (backTo pos (starEach (e :: es) X.env)) (backToKw pos (keywordEach [] X.env))) := by rfl) :
    PE X (.Call (.Attribute o m apos) (e :: es) [] pos) (tCMethA C sp E ta t) := by
  refine ⟨fun pins s σ H Q I h => ?_⟩
  refine PySem.W.methodCall_KW (pl := pl) (thn (he.run pins s σ H _ I h) fun u s1 ⟨x, H1, I1, rx, ex, q⟩ => ?_) ht
  subst ex
  obtain rfl : u = Value.ref C := rx
  refine ClX.getmethcm_ok I1 r c fun s2 I2 => ?_
  refine ClX.callwith_cm I2 (ClX.base_none I1 (Nat.le_refl _)) c.fi (thn (ha.run pos _ s2 σ H1 _ I2 q) fun us s3 ⟨vs, H2, I3, rv, q2⟩ => ⟨⟨ClX.pin_at I3, I3.kIn⟩, ?_⟩) hst hpl
  have z : wpAny (model X.prog X.w) X.A (call (.ref s1.heap.objs.size) us) (EP X ((s1.heap.objs.size, PySem.W.methodObj (.ref g) (.ref C)) :: pins) σ Q) X.xe s3 :=
    wpAny_call (PySem.W.method_call (ClX.pin_at I3) (codeAny_mono (F X.A X.stack s3 H2 (.ref C :: us) (.ref C :: vs) Q (E σ) hr I3.env0 (.cons rfl rv) q2) fun r s' hq => by
      cases r with
      | error e => exact hx σ _ H2 s3 e s' I3 hq
      | ok fl =>
        cases fl with
        | ret u => exact I3.after hq
        | next => exact False.elim hq
        | brk => exact False.elim hq
        | cont => exact False.elim hq))
  exact thn z fun _ _ y => ClX.unpinE y
end
end Lx
namespace Lx
open PySem PySem.Spec PyProof.Rows L2
/-! ### dict(t) of a tuple of pairs -/
section
variable {X : Cx} {pins : List (Addr × Obj)} {σ : L2.St} {H : Hp} {s : Shared}
/-- tuple(list), the new tuple's object told -/
theorem cr_tupF : CallR X (.type "tuple") (fun xs H Q => ∃ p ys, xs = [.ref p] ∧ SqL X.K H p ys ∧ ∀ l (o : Obj), H l = none → o.dict = none → Q (.ref l) (upd H l (.frz o (.tup ys)))) := by
  intro pins s σ H xs us Q I r h
  obtain ⟨p, ys, rfl, hq, q⟩ := h
  obtain ⟨u, rfl, rx⟩ := vals1 r
  cases rx
  obtain ⟨its, r', pl, hz⟩ := I.list hq
  have hlen := r'.length
  refine call_tuple_list pl.isList (fun h' kp => ?_) (by simp only [List.size_toArray] <;> omega)
  have I1 : Inv X pins σ H { s with heap := h' } := I.kept (t' := s.toks) kp
  have I2 : Inv X pins σ (upd H h'.objs.size (.frz ({ cls := .type "tuple", data := .seq its.toArray } : Obj) (.tup ys))) { s with heap := h'.push { cls := .type "tuple", data := .seq its.toArray } } :=
    I1.laid (t' := s.toks) (fun b o e => Heap.get?_push_of_some _ e) (Nat.le_refl _) (show ObjOk X.prog X.w _ _ _ (.frz _ (.tup ys)) from ⟨Heap.get?_push_size _ rfl, hz, its, r', IsTup.new _ _⟩)
  exact ⟨.ref h'.objs.size, _, I2, rfl, q _ _ (I1.hok.fresh (Nat.le_refl _)) rfl⟩
theorem pairs_of2 (I : Inv X pins σ H s) : ∀ {ps : List Addr} {kvs : List (Key × V)}, Paired (fun p kv => SqT X.K H p [kV kv.1, kv.2]) ps kvs →
    ∃ (prs : List (Key × Value)) (qs : List (Value × Value)), KV kvs prs ∧ prs.length = ps.length ∧ qs.length = ps.length ∧ ∀ (j : Nat) (k v : Value), qs[j]? = some (k, v) → ∃ (b : Addr) (y : Key), ps[j]? = some b ∧ prs[j]? = some (y, v) ∧ IsTup s.heap b #[k, v] ∧ keyIs y k = true
  | _, _, .nil => ⟨[], [], .nil, rfl, rfl, fun j k v e => by simp at e⟩
  | _, _, .cons (a := p) (b := kv) h t => by
    obtain ⟨prs, qs, r, hl, hl2, hp⟩ := pairs_of2 I t
    obtain ⟨its, rv, ht, _⟩ := I.tuple h
    obtain ⟨u, y, ei, ru, ry⟩ := vals2 rv
    subst ei
    refine ⟨(kv.1, y) :: prs, (u, y) :: qs, .cons ⟨rfl, ry⟩ r, by rw [List.length_cons, List.length_cons, hl], by rw [List.length_cons, List.length_cons, hl2], fun j k v e => ?_⟩
    cases j with
    | zero =>
      have e : (u, y) = (k, v) := by simpa using e
      cases e
      exact ⟨p, kv.1, rfl, rfl, ht, kV_is (P := X.prog) (w := X.w) ru⟩
    | succ j => exact hp j k v (by simpa using e)
theorem cr_dictT (hcalm : X.calm = true) : CallR X (.type "dict") (fun xs H Q => ∃ (a : Addr) (fo : Obj) (ps : List Addr) (kvs : List (Key × V)), xs = [.ref a] ∧ H a = some (.frz fo (.tup (ps.map V.ref))) ∧ fo.dict = none ∧ Paired (fun p kv => SqT X.K H p [kV kv.1, kv.2]) ps kvs ∧
    ∀ p, H p = none → Q (.ref p) (upd H p (.dK (mergeK [] kvs)))) := by
  intro pins s σ H xs us Q I r q
  obtain ⟨a, fo, ps, kvs, ex, hfz, hfd, hp, q⟩ := q
  have hq : SqT X.K H a (ps.map V.ref) := .inl (.inr ⟨fo, hfz⟩)
  subst ex
  obtain ⟨u, eu, rx⟩ := vals1 r
  subst eu
  cases rx
  obtain ⟨its, rv, pl, hz⟩ := I.tuple hq
  have ei := refs_at rv
  subst ei
  rw [List.length_map] at hz
  obtain ⟨prs, qs, rel, hl, hl2, hpr⟩ := pairs_of2 I hp
  obtain ⟨o, ho, hc, n, hdat⟩ := pl
  have hd : o.dict = none := by
    have h1 := (I.hok a _ hfz).1
    rw [ho] at h1
    rw [Option.some.inj h1]
    exact hfd
  have hm : (s.heap.objs.size == sysModules) = false := beq_eq_false_iff_ne.mpr (Nat.ne_of_gt I.big)
  refine PySem.call_dict_pairs (knd := mixKind X.prog X.w) (kvs := prs) (PairArg.tuple a (ps.map Value.ref).toArray (fun j => ps.getD j 0) qs) (I.ok.hd hcalm) ⟨⟨o, n, ho, hc, hd, hdat⟩, by simp [hl2], fun j k v e => ?_⟩ ⟨by rw [hl, hl2], fun j k v e => ?_⟩ (by rw [hl2]; exact hz) fun h' tk hd' k => ?_
  · obtain ⟨b, y, e1, e2, e3, e4⟩ := hpr j k v e
    refine ⟨by simp [e1, List.getD_eq_getElem?_getD], .inl ?_⟩
    show IsTup s.heap (ps.getD j 0) #[k, v]
    rw [List.getD_eq_getElem?_getD, e1]
    exact e3
  · obtain ⟨b, y, e1, e2, e3, e4⟩ := hpr j k v e
    exact ⟨y, e2, e4⟩
  · have hlen : (mergeK [] kvs).length ≤ sizeLine := by
      refine Nat.le_trans (length_mergeK kvs []) ?_
      rw [List.length_nil, Nat.zero_add, rel.length, hl]
      exact hz
    exact ⟨.ref s.heap.objs.size, upd H s.heap.objs.size (.dK (mergeK [] kvs)), I.laid (t' := tk) (fun b o e => k b o (by simp) e) (Nat.le_refl _) (show ObjOk X.prog X.w _ _ _ (.dK (mergeK [] kvs)) from ⟨hlen, hm, merged [] prs, KV.merge rel .nil, hd'⟩), rfl, q _ (I.hok.fresh (Nat.le_refl _))⟩
end
end Lx
namespace Lx
open PySem PySem.Spec PyProof.Rows L2
/-! ### own len, bool, repr, str, [ ], in, == and | of plain classes -/
section
variable {X : Cx} {CX : CXT} {k : Nat} {C f : Addr} {sp : Sp} {E : XK}
/-- a def that is called somewhere below the running body -/
theorem callO {A : Around} {pins : List (Addr × Obj)} {σ : L2.St} {H : Hp} {s : Shared} {us : List Value} {vs : List V} {Q : VK} (F : FnR X.prog X.w X.K X.mg X.base CX k f sp) (sb : Sub X k A) (hx : Passes CX X E) (I : Inv X pins σ H s) (r : Vals vs us) (h : sp vs H Q E) :
    wpAny (model X.prog X.w) A (call (.ref f) us) (EP X pins σ Q) X.xe s := by
  have e0 : Env0 X.prog X.w X.K X.mg X.base A X.stack s H := by
    have e := I.env0
    exact ⟨by rw [sb.fr]; exact e.frames, e.mod, e.bs, e.bsz, e.funs, e.frf, e.hok, e.bare⟩
  refine wpAny_call (codeAny_mono (F A X.stack s H us vs Q E sb.room e0 r h) fun r s' hq => ?_)
  cases r with
  | error e => exact hx pins σ H s e s' I hq
  | ok fl =>
    cases fl with
    | ret u => exact I.after hq
    | next => exact False.elim hq
    | brk => exact False.elim hq
    | cont => exact False.elim hq
/-- the own def n of C's instances is f -/
structure Own (K : PySem.W.Frag) (C : Addr) (n : String) (f : Addr) : Prop where
  at_ : PySem.W.findIn K (.ref C) (Str.ofString n) = some (some (.ref f))
  fn : PySem.W.isFn K (.ref f) = true
/-- x is an instance of C, and the own def gives what Q takes -/
def rOwn (C : Addr) (sp : Sp) (E : XK) (more : List V) (x : V) (H : Hp) (Q : VK) : Prop := ∃ a dx fs, x = .ref a ∧ H a = some (.ins C dx fs) ∧ sp (.ref a :: more) H Q E
def kInt (Q : VK) : VK := fun v H' => ∃ n : Nat, v = .int (n : Int) ∧ n < 2 ^ 62 ∧ Q (.int (n : Int)) H'
def kStr (Q : VK) : VK := fun v H' => ∃ z, v = .str z ∧ Q (.str z) H'
def kBl (Q : Bool → Hp → Prop) : VK := fun v H' => ∃ b, v = .bl b ∧ Q b H'
def rOwn1 (C : Addr) (sp : Sp) (E : XK) (w : VK → VK) : List V → Hp → VK → Prop := fun xs H Q => ∃ x, xs = [x] ∧ rOwn C sp E [] x H (w Q)
theorem call_lenO (F : FnR X.prog X.w X.K X.mg X.base CX k f sp) (o : Own X.K C "__len__" f) (hr : Room (k + 1) X.A) (hx : Passes CX X E) : CallR X (.builtin "len") (rOwn1 C sp E kInt) := by
  intro pins s σ H xs us Q I r ⟨x, ex, a, dx, fs, ea, e, h⟩
  subst ex
  subst ea
  cases r with
  | cons r1 r2 =>
    cases r2
    obtain rfl := r1
    obtain ⟨mA, J, _⟩ := ins_get I.hok e
    obtain ⟨od, J, _⟩ := J.look
    obtain ⟨m, hF⟩ := I.fr
    refine PySem.W.len_K hF I.ok.mod.kin J o.at_ o.fn (wpAny_mono (callO (vs := [.ref a]) F ⟨hr.in1, rfl⟩ hx I (.cons rfl .nil) h) (fun v s' z => ?_) fun _ _ y => y)
    obtain ⟨z, H', I', rz, n, ez, hn, q⟩ := z
    subst ez
    obtain ⟨t, rfl⟩ := rz
    exact ⟨⟨by omega, by omega⟩, .int (n : Int), H', I'.tok _, ⟨_, rfl⟩, q⟩
theorem call_reprO (F : FnR X.prog X.w X.K X.mg X.base CX k f sp) (o : Own X.K C "__repr__" f) (hr : Room (k + 1) X.A) (hx : Passes CX X E) : CallR X (.builtin "repr") (rOwn1 C sp E kStr) := by
  intro pins s σ H xs us Q I r ⟨x, ex, a, dx, fs, ea, e, h⟩
  subst ex
  subst ea
  cases r with
  | cons r1 r2 =>
    cases r2
    obtain rfl := r1
    obtain ⟨mA, J, _⟩ := ins_get I.hok e
    obtain ⟨od, J, _⟩ := J.look
    obtain ⟨m, hF⟩ := I.fr
    refine PySem.W.repr_K hr.in1.units0 hF I.ok.mod.kin J o.at_ o.fn (wpAny_mono (callO (vs := [.ref a]) F ⟨hr.in1, rfl⟩ hx I (.cons rfl .nil) h) (fun v s' z => ?_) fun _ _ y => y)
    obtain ⟨z, H', I', rz, n, ez, q⟩ := z
    subst ez
    obtain ⟨t, rfl⟩ := rz
    exact ⟨.str n, H', I', ⟨_, rfl⟩, q⟩
theorem tru_O (F : FnR X.prog X.w X.K X.mg X.base CX k f sp) (o : Own X.K C "__bool__" f) (hr : Room k X.A) (hx : Passes CX X E) : TruR X (fun x H Q => rOwn C sp E [] x H (kBl Q)) := by
  intro pins s σ H x v Q I rx ⟨a, dx, fs, ea, e, h⟩
  subst ea
  obtain rfl := rx
  obtain ⟨mA, J, _⟩ := ins_get I.hok e
  obtain ⟨od, J, _⟩ := J.look
  obtain ⟨m, hF⟩ := I.fr
  refine PySem.W.truthy_K hF I.ok.mod.kin J o.at_ o.fn (wpAny_mono (callO (vs := [.ref a]) F ⟨hr, rfl⟩ hx I (.cons rfl .nil) h) (fun v s' z => ?_) fun _ _ y => y)
  obtain ⟨z, H', I', rz, b, ez, q⟩ := z
  subst ez
  obtain rfl := rz
  exact ⟨H', I', q⟩
theorem op_getO (F : FnR X.prog X.w X.K X.mg X.base CX k f sp) (o : Own X.K C "__getitem__" f) (ns : PySem.W.noSeq X.K C = true) (hr : Room k X.A) (hx : Passes CX X E) : OpR X getItem (fun x y H Q => rOwn C sp E [y] x H Q) := by
  intro pins s σ H x y v u Q I rx ry ⟨a, dx, fs, ea, e, h⟩
  subst ea
  obtain rfl := rx
  obtain ⟨mA, J, _⟩ := ins_get I.hok e
  obtain ⟨od, J, _⟩ := J.look
  obtain ⟨m, hF⟩ := I.fr
  exact PySem.W.getItem_K hF I.ok.mod.kin J ns o.at_ o.fn (callO (vs := [.ref a, y]) F ⟨hr, rfl⟩ hx I (.cons rfl (.cons ry .nil)) h)
theorem op_inO (F : FnR X.prog X.w X.K X.mg X.base CX k f sp) (o : Own X.K C "__contains__" f) (hr : Room k X.A) (hx : Passes CX X E) : OpR X (compareOp .In) (fun y x H Q => rOwn C sp E [y] x H (kBl fun b H' => Q (.bl b) H')) := by
  intro pins s σ H y x u v Q I ry rx ⟨a, dx, fs, ea, e, h⟩
  subst ea
  obtain rfl := rx
  obtain ⟨mA, J, _⟩ := ins_get I.hok e
  obtain ⟨od, J, _⟩ := J.look
  obtain ⟨m, hF⟩ := I.fr
  refine PySem.W.in_K hF I.ok.mod.kin J o.at_ o.fn (wpAny_mono (callO (vs := [.ref a, y]) F ⟨hr, rfl⟩ hx I (.cons rfl (.cons ry .nil)) h) (fun v s' z => ?_) fun _ _ y => y)
  obtain ⟨z, H', I', rz, b, ez, q⟩ := z
  subst ez
  obtain rfl := rz
  exact wpAny_truthy_bool ⟨.bl _, H', I', rfl, q⟩
theorem op_notInO (F : FnR X.prog X.w X.K X.mg X.base CX k f sp) (o : Own X.K C "__contains__" f) (hr : Room k X.A) (hx : Passes CX X E) : OpR X (compareOp .NotIn) (fun y x H Q => rOwn C sp E [y] x H (kBl fun b H' => Q (.bl (!b)) H')) := by
  intro pins s σ H y x u v Q I ry rx ⟨a, dx, fs, ea, e, h⟩
  subst ea
  obtain rfl := rx
  obtain ⟨mA, J, _⟩ := ins_get I.hok e
  obtain ⟨od, J, _⟩ := J.look
  obtain ⟨m, hF⟩ := I.fr
  refine PySem.W.notIn_K hF I.ok.mod.kin J o.at_ o.fn (wpAny_mono (callO (vs := [.ref a, y]) F ⟨hr, rfl⟩ hx I (.cons rfl (.cons ry .nil)) h) (fun v s' z => ?_) fun _ _ y => y)
  obtain ⟨z, H', I', rz, b, ez, q⟩ := z
  subst ez
  obtain rfl := rz
  exact wpAny_truthy_bool ⟨.bl _, H', I', rfl, q⟩
theorem cmp_back {Q : Value → Shared → Prop} {z : V} {v : Value} {s' : Shared} (r : RelV z v) (q : Q v s') : PySem.W.CmpBack Q v s' := by
  cases z with
  | non => obtain rfl := r; exact q
  | bl b => obtain rfl := r; exact q
  | int i => obtain ⟨t, rfl⟩ := r; exact q
  | str x => obtain ⟨t, rfl⟩ := r; exact q
  | byt b => obtain ⟨t, rfl⟩ := r; exact q
  | flt b => obtain ⟨t, rfl⟩ := r; exact q
  | ref a => obtain rfl := r; exact q
  | ty n => obtain rfl := r; exact q
/-- two instances of C by its own == -/
theorem op_eqO (F : FnR X.prog X.w X.K X.mg X.base CX k f sp) (o : Own X.K C "__eq__" f) (hr : Room k X.A) (hx : Passes CX X E) : OpR X (compareOp .Eq) (fun x y H Q => (∃ b dy gs, y = .ref b ∧ H b = some (.ins C dy gs)) ∧ rOwn C sp E [y] x H Q) := by
  intro pins s σ H x y v u Q I rx ry ⟨⟨b, dy, gs, eb, e2⟩, a, dx, fs, ea, e, h⟩
  subst ea
  subst eb
  obtain rfl := rx
  obtain rfl := ry
  obtain ⟨mA, J, _⟩ := ins_get I.hok e
  obtain ⟨od, J, _⟩ := J.look
  obtain ⟨mB, J', _⟩ := ins_get I.hok e2
  obtain ⟨od', J', _⟩ := J'.look
  obtain ⟨m, hF⟩ := I.fr
  show wpAny (model X.prog X.w) X.A (richCompare .Eq _ _) (EP X pins σ Q) X.xe s
  refine PySem.W.cmp_K (op := .Eq) (tb := .ref C) hr.units0 hF I.ok.mod.kin J J'.type (by simp [PySem.W.notFirst]) o.at_ o.fn (wpAny_mono (callO (vs := [.ref a, .ref b]) F ⟨hr, rfl⟩ hx I (.cons rfl (.cons rfl .nil)) h) (fun v s' z => ?_) fun _ _ y => y)
  obtain ⟨z, H', I', rz, q⟩ := z
  exact cmp_back rz ⟨z, H', I', rz, q⟩
/-- two instances of C by its own | -/
theorem op_orO (F : FnR X.prog X.w X.K X.mg X.base CX k f sp) (o : Own X.K C "__or__" f) (sf : PySem.W.selfFirst X.K C = true) (hr : Room k X.A) (hx : Passes CX X E) : OpR X (binaryOp .BitOr) (fun x y H Q => (∃ b dy gs, y = .ref b ∧ H b = some (.ins C dy gs)) ∧ rOwn C sp E [y] x H Q) := by
  intro pins s σ H x y v u Q I rx ry ⟨⟨b, dy, gs, eb, e2⟩, a, dx, fs, ea, e, h⟩
  subst ea
  subst eb
  obtain rfl := rx
  obtain rfl := ry
  obtain ⟨mA, J, _⟩ := ins_get I.hok e
  obtain ⟨od, J, _⟩ := J.look
  obtain ⟨mB, J', _⟩ := ins_get I.hok e2
  obtain ⟨od', J', _⟩ := J'.look
  obtain ⟨m, hF⟩ := I.fr
  refine PySem.W.binop_K (op := .BitOr) hF I.ok.mod.kin J J'.type sf o.at_ o.fn (wpAny_mono (callO (vs := [.ref a, .ref b]) F ⟨hr, rfl⟩ hx I (.cons rfl (.cons rfl .nil)) h) (fun v s' z => ?_) fun _ _ y => y)
  obtain ⟨z, H', I', rz, q⟩ := z
  exact cmp_back rz ⟨z, H', I', rz, q⟩
end
end Lx
namespace Lx
open PySem PySem.Calls PyProof.Rows Builtin PySem.W
/-! ### != of plain classes with an own == -/
section
variable {prog : Program} {w : World} {A : Around} {E : Value → Shared → Prop} {s : Shared} {K : PySem.W.Frag} {x C L f : Addr} {h₀ : Heap} {m : Str → Option Value} {ox : Obj} {od : Option Obj} {name : Str} {b tb : Value}
theorem ifBoundB {M : Model} {id : String} {args : List Value} {Q : Option Value → Shared → Prop} (X : K.In s.heap) (I : InstAt s.heap x ox C od) (hs : findIn K (.ref C) name = some (some (.builtin id)))
    (hb : ∀ self, bindSpecial (.builtin id) self = pure (.builtin id, [self])) (h : wpAny M A (call (.builtin id) (.ref x :: args)) (fun v => Q (some v)) E s) : wpAny M A (callSpecialIfBound? (.ref x) name args) Q E s := by
  simp only [callSpecialIfBound?, bindSpecialIfBound?]
  refine wpAny_holding (wpAny_bind (wpAny_bind (wpAny_bind (I.type.here ((looks_findIn X hs).here ?_)))))
  refine wpAny_bind (wpAny_askSetting (wpAny_ite ?_))
  have fin : wpAny M A (call (.builtin id) ([.ref x] ++ args) >>= fun v => pure (some v)) Q E s := wpAny_bind (wpAny_mono h (fun v s' h' => wpAny_pure h') fun _ _ h' => h')
  split
  · exact wpAny_bind ((Looks.of_pure (hb _)).here (wpAny_pure (by exact fin)))
  · exact wpAny_tryCatch (wpAny_bind ((Looks.of_pure (hb _)).here (wpAny_pure (by exact fin))))
theorem ne_own {Q : Value → Shared → Prop} (hu : A.units < cLine) (hu1 : A.in1.units < cLine) (F : Fr h₀ L s.heap m) (X₀ : K.In h₀) (I : InstAt s.heap x ox C od) (hb : Looks (model prog w) s.heap (typeOf b) tb) (hn : notFirst K C tb = true)
    (hne : findIn K (.ref C) "__ne__" = some (some (.builtin "object.__ne__"))) (hm : mroIn K C (.type "object") = some true) (hs : findIn K (.ref C) "__eq__" = some (some (.ref f))) (hf : isFn K (.ref f) = true)
    (h : wpAny (model prog w) A.in1 (call (.ref f) [.ref x, b]) (fun v s' => ∃ r, v = .bool r ∧ Q (.bool (!r)) s') E s) : wpAny (model prog w) A (richCompare .NotEq (.ref x) b) Q E s := by
  have X := X₀.keeps F.keep
  have one : wpAny (model prog w) A (tryCompare (.ref x) "__ne__" b) (fun r s' => ∃ v, r = some v ∧ Q v s') E s := by
    unfold tryCompare
    refine wpAny_bind (ifBoundB X I hne PySem.F.cmp_object.ne.bind (wpAny_call (codeAny_call_builtin PySem.F.cmp_object.ne.plain PySem.F.cmpEntry_ne (check_slot (i := "object.__ne__") (owner := "object") (n := "__ne__") (by decide +kernel) (by decide +kernel) (I.type.andThen (looks_mroIn X hm)) (PySem.F.cmpArgs_ne _ _) ?_))))
    unfold Builtin.«object.__ne__»
    refine wpAny_bind (m := slotArgs "__ne__" 1 _) (wpAny_pure ?_)
    refine wpAny_bind (m := cRoomFor _ _) (wpAny_cRoomFor hu1 ?_)
    refine wpAny_bind (m := callSpecialIfBound? (.ref x) (Str.ofString "__eq__") _) (ifBound_K X I hs hf (wpAny_mono h (fun r s' hq => ?_) fun _ _ y => y))
    obtain ⟨r, rfl, q⟩ := hq
    exact wpAny_bind (wpAny_truthy_bool (wpAny_pure (wpAny_pure ⟨_, rfl, q⟩)))
  unfold richCompare
  simp only [oneThing_ref, cmpInfo_NotEq]
  refine wpAny_holding (wpAny_bind (wpAny_cRoomFor hu ?_))
  refine wpAny_bind (I.type.here (wpAny_bind (hb.here ?_)))
  split
  · rename_i q
    have e : subIn K tb (.ref C) = some false := by
      rcases Bool.or_eq_true_iff.mp hn with e | e
      · rw [beq_iff_eq.mp e] at q; simp at q
      · exact beq_iff_eq.mp e
    refine wpAny_bind ((looks_subIn X e).here ?_)
    simp only [Bool.false_eq_true, if_false]
    refine wpAny_bind (wpAny_mono one (fun r s' z => ?_) fun _ _ e => e)
    obtain ⟨v, rfl, hq⟩ := z
    exact wpAny_pure hq
  · refine wpAny_bind (wpAny_pure ?_)
    simp only [Bool.false_eq_true, if_false]
    refine wpAny_bind (wpAny_mono one (fun r s' z => ?_) fun _ _ e => e)
    obtain ⟨v, rfl, hq⟩ := z
    exact wpAny_pure hq
end
end Lx
namespace Lx
open PySem PySem.Spec PyProof.Rows L2
section
variable {X : Cx} {CX : CXT} {k : Nat} {C f : Addr} {sp : Sp} {E : XK}
theorem looks_type {M : Model} {s : Shared} {a : Addr} {T : String} (h : s.TypeIs (.ref a) T) : PySem.W.Looks M s.heap (typeOf (.ref a)) (.type T) := by
  obtain ⟨o, ho, hc⟩ := h
  exact hc ▸ (PySem.W.Looks.ld ho).andThen .now
/-- what stands to the right of an own ==, and its type -/
def Rgt (K : PySem.W.Frag) (C : Addr) (y : V) (H : Hp) : Prop := (∃ b dy gs, y = .ref b ∧ H b = some (.ins C dy gs)) ∨ (∃ b ys, y = .ref b ∧ SqT K H b ys ∧ PySem.W.subIn K (.type "tuple") (.ref C) = some false) ∨ (y = .non ∧ PySem.W.subIn K (.type "NoneType") (.ref C) = some false)
theorem Rgt.looks {pins : List (Addr × Obj)} {σ : L2.St} {H : Hp} {s : Shared} {y : V} {u : Value} (I : Inv X pins σ H s) (r : RelV y u) (h : Rgt X.K C y H) : ∃ tb, PySem.W.Looks (model X.prog X.w) s.heap (typeOf u) tb ∧ PySem.W.notFirst X.K C tb = true := by
  rcases h with ⟨b, dy, gs, rfl, e⟩ | ⟨b, ys, rfl, e, n⟩ | ⟨rfl, n⟩
  · obtain rfl := r
    obtain ⟨mB, J, _⟩ := ins_get I.hok e
    obtain ⟨od, J, _⟩ := J.look
    exact ⟨_, J.type, by simp [PySem.W.notFirst]⟩
  · obtain rfl := r
    obtain ⟨its, r2, ⟨o, ho, hc, _⟩, z⟩ := I.tuple e
    exact ⟨_, looks_type ⟨o, ho, hc⟩, by unfold PySem.W.notFirst; rw [n]; simp⟩
  · obtain rfl := r
    exact ⟨.type "NoneType", .now, by unfold PySem.W.notFirst; rw [n]; simp⟩
theorem op_eqV (F : FnR X.prog X.w X.K X.mg X.base CX k f sp) (o : Own X.K C "__eq__" f) (hr : Room k X.A) (hx : Passes CX X E) : OpR X (compareOp .Eq) (fun x y H Q => Rgt X.K C y H ∧ rOwn C sp E [y] x H Q) := by
  intro pins s σ H x y v u Q I rx ry ⟨g, a, dx, fs, ea, e, h⟩
  subst ea
  obtain rfl := rx
  obtain ⟨mA, J, _⟩ := ins_get I.hok e
  obtain ⟨od, J, _⟩ := J.look
  obtain ⟨m, hF⟩ := I.fr
  obtain ⟨tb, hb, hn⟩ := g.looks I ry
  show wpAny (model X.prog X.w) X.A (richCompare .Eq _ _) (EP X pins σ Q) X.xe s
  refine PySem.W.cmp_K (op := .Eq) (tb := tb) hr.units0 hF I.ok.mod.kin J hb hn o.at_ o.fn (wpAny_mono (callO (vs := [.ref a, y]) F ⟨hr, rfl⟩ hx I (.cons rfl (.cons ry .nil)) h) (fun v s' z => ?_) fun _ _ y => y)
  obtain ⟨z, H', I', rz, q⟩ := z
  exact cmp_back rz ⟨z, H', I', rz, q⟩
structure OwnNe (K : PySem.W.Frag) (C : Addr) : Prop where
  ne : PySem.W.findIn K (.ref C) "__ne__" = some (some (.builtin "object.__ne__"))
  ob : PySem.W.mroIn K C (.type "object") = some true
theorem op_neV (F : FnR X.prog X.w X.K X.mg X.base CX k f sp) (o : Own X.K C "__eq__" f) (on : OwnNe X.K C) (hr : Room (k + 1) X.A) (hx : Passes CX X E) : OpR X (compareOp .NotEq) (fun x y H Q => Rgt X.K C y H ∧ rOwn C sp E [y] x H (kBl fun b H' => Q (.bl (!b)) H')) := by
  intro pins s σ H x y v u Q I rx ry ⟨g, a, dx, fs, ea, e, h⟩
  subst ea
  obtain rfl := rx
  obtain ⟨mA, J, _⟩ := ins_get I.hok e
  obtain ⟨od, J, _⟩ := J.look
  obtain ⟨m, hF⟩ := I.fr
  obtain ⟨tb, hb, hn⟩ := g.looks I ry
  show wpAny (model X.prog X.w) X.A (richCompare .NotEq _ _) (EP X pins σ Q) X.xe s
  refine ne_own hr.units0 hr.in1.units0 hF I.ok.mod.kin J hb hn on.ne on.ob o.at_ o.fn (wpAny_mono (callO (vs := [.ref a, y]) F ⟨hr.in1, rfl⟩ hx I (.cons rfl (.cons ry .nil)) h) (fun v s' z => ?_) fun _ _ y => y)
  obtain ⟨z, H', I', rz, b, ez, q⟩ := z
  subst ez
  obtain rfl := rz
  exact ⟨b, rfl, .bl (!b), H', I', rfl, q⟩
/-- str(x) by an own __str__ -/
theorem cr_strO (F : FnR X.prog X.w X.K X.mg X.base CX k f sp) (o : Own X.K C "__str__" f) (hr : Room (k + 2) X.A) (hx : Passes CX X E) : CallR X (.type "str") (rOwn1 C sp E kStr) := by
  intro pins s σ H xs us Q I r ⟨x, ex, a, dx, fs, ea, e, h⟩
  subst ex
  subst ea
  cases r with
  | cons r1 r2 =>
    cases r2
    obtain rfl := r1
    obtain ⟨mA, J, _⟩ := ins_get I.hok e
    obtain ⟨od, J, _⟩ := J.look
    refine PySem.W.kso_call hr.in1.in1.units0 I.kIn J o.at_ o.fn (wpAny_mono (callO (vs := [.ref a]) F ⟨hr.in1.in1, rfl⟩ hx I (.cons rfl .nil) h) (fun v s' z => ?_) fun _ _ y => y)
    obtain ⟨z, H', I', rz, n, ez, q⟩ := z
    subst ez
    obtain ⟨t, rfl⟩ := rz
    exact ⟨.str n, H', I', ⟨_, rfl⟩, q⟩
end
end Lx
/-! ### sorted of a list of pairs of a text and an int -/
namespace SrtO
open PySem PyProof.Rows Srt
section
variable {prog : Program} {w : World} {A : Around} {E : Value → Shared → Prop} {s : Shared}
def ltSt (a b : PySem.Str) : Bool := decide (a.cps.toList < b.cps.toList)
def lexS (p q : PySem.Str × Int) : Bool := if p.1 = q.1 then decide (p.2 < q.2) else ltSt p.1 q.1
theorem str_eq_of {a b : PySem.Str} (h1 : ltSt a b = false) (h2 : ltSt b a = false) : a = b := by
  have e : a.cps.toList = b.cps.toList := List.le_antisymm (List.not_lt.mp (of_decide_eq_false h2)) (List.not_lt.mp (of_decide_eq_false h1))
  cases a; cases b
  congr 1
  exact Array.toList_inj.mp e
theorem ltSt_refl (a : PySem.Str) : ltSt a a = false := decide_eq_false (List.lt_irrefl _)
theorem ltSt_asym {a b : PySem.Str} (h : ltSt a b = true) : ltSt b a = false := decide_eq_false (List.lt_asymm (of_decide_eq_true h))
theorem ltSt_tr {a b c : PySem.Str} (h1 : ltSt b a = false) (h2 : ltSt c b = false) : ltSt c a = false :=
  decide_eq_false (List.not_lt.mpr (List.le_trans (List.not_lt.mp (of_decide_eq_false h1)) (List.not_lt.mp (of_decide_eq_false h2))))
theorem lexS_eq {p q : PySem.Str × Int} (h : p.1 = q.1) : lexS p q = decide (p.2 < q.2) := if_pos h
theorem lexS_ne {p q : PySem.Str × Int} (h : p.1 ≠ q.1) : lexS p q = ltSt p.1 q.1 := if_neg h
theorem swo_lexS {α : Type} (k : α → PySem.Str × Int) : Swo fun v u => lexS (k v) (k u) := by
  refine ⟨fun x y h => ?_, fun x y z h1 h2 => ?_⟩
  · by_cases e : (k x).1 = (k y).1
    · rw [lexS_eq e] at h
      rw [lexS_eq e.symm]
      have := of_decide_eq_true h
      exact decide_eq_false (by omega)
    · rw [lexS_ne e] at h
      rw [lexS_ne (Ne.symm e)]
      exact ltSt_asym h
  · by_cases e1 : (k y).1 = (k x).1
    · rw [lexS_eq e1] at h1
      by_cases e2 : (k z).1 = (k y).1
      · rw [lexS_eq e2] at h2
        rw [lexS_eq (e2.trans e1)]
        have a := of_decide_eq_false h1
        have b := of_decide_eq_false h2
        exact decide_eq_false (by omega)
      · rw [lexS_ne e2] at h2
        rw [lexS_ne (by rw [← e1]; exact e2), ← e1]
        exact h2
    · rw [lexS_ne e1] at h1
      by_cases e2 : (k z).1 = (k y).1
      · rw [lexS_ne (by rw [e2]; exact e1), e2]
        exact h1
      · rw [lexS_ne e2] at h2
        have h3 := ltSt_tr h1 h2
        by_cases e3 : (k z).1 = (k x).1
        · rw [e3] at h2
          exact absurd (str_eq_of h1 h2) e1
        · rw [lexS_ne e3]
          exact h3
/-- v is a tuple of a text and an int -/
def IsPairS (h : Heap) (v : Value) (x : PySem.Str) (y : Int) : Prop := ∃ a o t u n, v = .ref a ∧ h.get? a = some o ∧ o.cls = .type "tuple" ∧ o.data = .seq #[.str x t, .int y u] n
theorem IsPairS.keeps {h h' : Heap} {v : Value} {x : PySem.Str} {y : Int} (p : IsPairS h v x y) (k : ∀ b o, h.get? b = some o → o.cls = .type "tuple" → h'.get? b = some o) : IsPairS h' v x y := by
  obtain ⟨a, o, t, u, n, e, ho, hc, hd⟩ := p
  exact ⟨a, o, t, u, n, e, k _ _ ho hc, hc, hd⟩
theorem firstsS {h : Heap} : ∀ {vs : List Value}, (∀ v ∈ vs, ∃ x y, IsPairS h v x y) → ∃ fs : List Value, PySem.W.KatTups h vs fs ∧ fs.length = vs.length ∧ ∀ f ∈ fs, ∃ x t, f = Value.str x t
  | [], _ => ⟨[], PySem.W.KatTups.nil, rfl, fun _ hm => by simp at hm⟩
  | v :: vs, hp => by
    obtain ⟨fs, h1, h2, h3⟩ := firstsS (vs := vs) fun v' hm => hp v' (List.mem_cons_of_mem _ hm)
    obtain ⟨x, y, a, o, t, u, n, e, ho, hc, hd⟩ := hp v (List.mem_cons_self ..)
    subst e
    refine ⟨.str x t :: fs, PySem.W.KatTups.cons ho hc hd rfl h1, by rw [List.length_cons, List.length_cons, h2], fun f hm => ?_⟩
    rcases List.mem_cons.mp hm with rfl | hm
    · exact ⟨x, t, rfl⟩
    · exact h3 f hm
theorem pairS_cmp {vs : List Value} {k : Value → PySem.Str × Int} (hp : ∀ v ∈ vs, IsPairS s.heap v (k v).1 (k v).2) : Cmp prog w A s (tuples' true) (fun p => p.1 ∈ vs) (lt2 fun v u => lexS (k v) (k u)) := by
  intro p q hm hm'
  have h1 := hp _ hm
  have h2 := hp _ hm'
  show wpAny (model prog w) A (keyLt' (tuples' true) p.1 q.1) (fun r s' => s' = s ∧ r = lexS (k p.1) (k q.1)) (fun _ _ => False) s
  generalize ek : k p.1 = kp at h1 ⊢
  generalize ek' : k q.1 = kq at h2 ⊢
  obtain ⟨x, y⟩ := kp
  obtain ⟨x', y'⟩ := kq
  obtain ⟨a, o, t, u, n, e, ho, hc, hd⟩ := h1
  obtain ⟨a', o', t', u', n', e', ho', hc', hd'⟩ := h2
  rw [e, e']
  refine PySem.W.kat_lt ho hd ho' hd' ?_
  show PySem.W.KatLex prog w A true (decide (2 < 2)) _ [(.str x t, .str x' t'), (.int y u, .int y' u')] 0 s
  refine PySem.W.kat_cons (SeqAt.EqAt.str_str x t x' t' prog w _ _ ?_)
  refine PySem.W.kat_go (fun e1 => ?_) (fun e1 => ?_)
  · have ex : x = x' := by simpa using e1
    refine PySem.W.kat_yes (PySem.W.kat_cons (SeqAt.EqAt.int_int y u y' u' prog w _ _ ?_))
    refine PySem.W.kat_go (fun e2 => ?_) (fun e2 => ?_)
    · have ey : y = y' := by simpa using e2
      have e3 : lexS (x, y) (x', y') = false := by
        rw [lexS_eq ex]
        exact decide_eq_false (by show ¬ y < y'; omega)
      exact PySem.W.kat_yes (PySem.W.kat_nil ⟨rfl, e3.symm⟩)
    · have e3 : lexS (x, y) (x', y') = decide (y < y') := lexS_eq ex
      refine PySem.W.kat_no (PySem.W.kat_one _ _ (PyProof.Rows.lt_int ?_))
      exact (show s = s ∧ decide (y < y') = lexS (x, y) (x', y') from ⟨rfl, e3.symm⟩)
  · have ex : ¬ x = x' := by simpa using e1
    have e3 : lexS (x, y) (x', y') = decide (x.cps.toList < x'.cps.toList) := lexS_ne ex
    exact PySem.W.kat_no (oneLt_str ⟨rfl, e3.symm⟩)
theorem pairsS_sortable {a : Addr} {vs : List Value} {k : Value → PySem.Str × Int} (h0 : 0 < vs.length) (hp : ∀ v ∈ vs, IsPairS s.heap v (k v).1 (k v).2) (ha : ∀ o, s.heap.get? a = some o → o.cls ≠ .type "tuple") : SortableO prog w A s a vs fun v u => lexS (k v) (k u) := by
  intro h' keep
  have hp' : ∀ v ∈ vs, IsPairS h' v (k v).1 (k v).2 := fun v hm => (hp v hm).keeps fun b o e c => keep b o (fun z => by subst z; exact ha o e c) e
  obtain ⟨fs, h1, h2, h3⟩ := firstsS fun v hm => ⟨_, _, hp' v hm⟩
  refine ⟨tuples' true, fun Q E hq => ?_, pairS_cmp hp'⟩
  refine PySem.W.kat_kind (T := .type "str") h1 (by omega) (fun f hm => ?_) (by rfl) ?_
  · obtain ⟨x, t, rfl⟩ := h3 f hm
    exact PySem.W.Looks.now
  · have e : (Value.type "str" != Value.type "tuple") = true := by first | decide +kernel | rfl | decide
    rw [e]
    exact hq
theorem sorted_pairsS {l : Addr} {vs : List Value} {k : Value → PySem.Str × Int} {Q : Value → Shared → Prop} (hl : s.heap.IsList l vs.toArray) (hz : vs.length ≤ sizeLine) (hp : ∀ v ∈ vs, IsPairS s.heap v (k v).1 (k v).2)
    (h : ∀ (h' : Heap) (d : Addr) (out : List Value), Srtd (fun v u => lexS (k v) (k u)) out → Stb (fun v u => lexS (k v) (k u)) out vs → (∀ b o, s.heap.get? b = some o → h'.get? b = some o) → s.heap.objs.size ≤ d → (∃ n, h'.get? d = some (seqObj "list" out.toArray n)) → Q (.ref d) { s with heap := h' }) :
    wpAny (model prog w) A (call (.builtin "sorted") [.ref l]) Q E s := by
  refine sorted_ord (swo_lexS k) hl hz (fun h2 h₁ a ha kk => ?_) fun out hs hb => ?_
  · refine pairsS_sortable (s := { s with heap := h₁ }) (by omega) (fun v hm => (hp v hm).keeps fun b o e _ => (kk b o e).2) fun o e => ?_
    have e' : some o = some (seqObj "list" vs.toArray 0) := e.symm.trans ha
    cases e'
    intro c
    exact absurd (Value.type.inj c) (by decide)
  · exact h _ _ out hs hb (fun b o e => sortedAll_old e) (Nat.le_succ _) (sortedAll_at s.heap vs out.toArray)
end
end SrtO
namespace Lx
open PySem PySem.Spec PyProof.Rows L2
abbrev ltPS (k : V → Str × Int) (x y : V) : Bool := SrtO.lexS (k x) (k y)
/-- sorted(xs), xs a list of pairs of a text and an int (k says which): a new list, sorted, equal ones in their order -/
def rSortedPS (K : PySem.W.Frag) : List V → Hp → VK → Prop := fun vs H Q => ∃ (a : Addr) (xs : List V) (k : V → Str × Int), vs = [V.ref a] ∧ SqL K H a xs ∧ (∀ x ∈ xs, ∃ t, x = V.ref t ∧ H t = some (.tup [.str (k x).1, .int (k x).2])) ∧
  ∀ ys p, SrtO.Srtd (ltPS k) ys → SrtO.Stb (ltPS k) ys xs → H p = none → Q (.ref p) (upd H p (.lst ys))
section
variable {X : Cx}
theorem cr_sortedPS : CallR X (.builtin "sorted") (rSortedPS X.K) := by
  intro pins s σ H vs us Q I r h
  obtain ⟨a, xs, k, rfl, hs, hx, q⟩ := h
  obtain ⟨its, rv, hl, hz⟩ := I.list hs
  obtain ⟨u, rfl, ru⟩ := vals1 r
  obtain rfl : u = Value.ref a := ru
  obtain ⟨e1, e2⟩ := refs_back rv fun x m => by
    obtain ⟨t, e, _⟩ := hx x m
    exact ⟨t, e⟩
  refine SrtO.sorted_pairsS (k := fun u => k (backV u)) hl.isList (by rw [← rv.length]; exact hz) (fun v hv => ?_) fun h' d out h1 h2 kp hd hn => ?_
  · obtain ⟨t, rfl⟩ := e2 v hv
    have hm : V.ref t ∈ xs := by rw [e1]; exact List.mem_map.mpr ⟨_, hv, rfl⟩
    obtain ⟨t', e, ht⟩ := hx _ hm
    cases e
    obtain ⟨_, its2, r2, o, ho, hc, n, hd⟩ := I.hok _ _ ht
    obtain ⟨u1, u2, rfl, ri, rj⟩ := vals2 r2
    obtain ⟨t1, rfl⟩ := ri
    obtain ⟨t2, rfl⟩ := rj
    exact ⟨t, o, t1, t2, n, rfl, ho, hc, hd⟩
  · have h3 : ∀ u ∈ out, ∃ a, u = Value.ref a := fun u hu => e2 u (h2.perm.mem_iff.mp hu)
    obtain ⟨n, hn⟩ := hn
    have hb : SrtO.Stb (ltPS k) (out.map backV) xs := by
      rw [e1]
      exact SrtO.Stb.map (SrtO.swo_lexS k) backV h2
    refine ⟨.ref d, upd H d (.lst (out.map backV)), I.laid (t' := s.toks) kp hd ⟨?_, out, n, vals_back h3, hn⟩, rfl, q _ d (SrtO.srtd_map h1) hb (I.hok.fresh hd)⟩
    rw [hb.len]
    exact hz
end
end Lx
/-! ### bool(x) by the thing's own truth -/
namespace PySem.W
open PySem PySem.Calls PyProof.Rows Builtin
section
variable {prog : Program} {w : World} {A : Around} {E : Value → Shared → Prop} {s : Shared} {v : Value}
theorem bool_any {Q : Value → Shared → Prop} (h : wpAny (model prog w) A.in1.in1 (truthy v) (fun b s' => Q (.bool b) s') E s) : wpAny (model prog w) A (call (.type "bool") [v]) Q E s := by
  refine callType_codes (T := "bool") (Bi := Builtin.«object.__init__») (Q₁ := fun r s₁ => ∃ b, r = .bool b ∧ Q r s₁) PySem.F.called_bool (PySem.F.typeCall_bool_1 _) PySem.F.entry_object_init ?_ ?_
  · refine codeAny_of_tree ?_
    show wpAny _ A.in1.in1 (do checkBuiltinCall "bool.__new__" ⟨[.type "bool", v], []⟩; again (.builtin "bool.__new__" ⟨[.type "bool", v], []⟩)) _ _ s
    refine wpAny_bind (wpAny_of_eq (PySem.F.newCall_bool_1 _) (wpAny_pure ⟨plainId_quiet (by decide +kernel) _, codeAny_builtin PySem.F.entry_bool_new ?_⟩))
    rw [Around.under_plainId (by decide +kernel) _]
    have f1 := PySem.F.conv_sub_bool
    obtain ⟨hp, g, d, tk, os⟩ := s
    unfold Builtin.«bool.__new__»
    repeat (any_goals (first | assumption | (with_reducible refine wpAny_mono h (fun b s' q => ?_) (fun _ _ e => e)) | wp_step))
    exact ⟨_, rfl, q⟩
  · rintro obj s₁ ⟨b, rfl, hq⟩
    exact ⟨rfl, PySem.F.args_object_init_2 _ _, object_init_meets PySem.F.called_bool.init.lookup PySem.F.called_bool.made (by decide) prog w A.in1 _ s₁ ⟨rfl, rfl, hq⟩⟩
end
end PySem.W
namespace L2
open PySem PySem.Spec PyProof.Rows
end L2
namespace Lx
open PySem PySem.Spec PyProof.Rows L2
section
variable {X : Cx} {CX : CXT} {k : Nat} {C f : Addr} {sp : Sp} {E : XK}
/-- bool(t) of a tuple -/
theorem call_boolT : CallR X (.type "bool") (fun xs H Q => ∃ (a : Addr) (zs : List V), xs = [.ref a] ∧ SqT X.K H a zs ∧ Q (.bl (!zs.isEmpty)) H) := by
  intro pins s σ H xs us Q I r h
  obtain ⟨a, zs, rfl, hx, q⟩ := h
  obtain rfl := Vals.ref1 r
  obtain ⟨its, r2, pl, hz⟩ := I.tuple hx
  have hl := line63
  have hlen := r2.length
  refine PySem.W.bool_any (truthy_tuple pl (by simp only [List.size_toArray]; omega) ?_)
  exact ⟨.bl (!zs.isEmpty), H, I.tok _, by rw [isEmpty_of r2]; rfl, q⟩
/-- bool(x) by an own __bool__ -/
theorem call_boolO (F : FnR X.prog X.w X.K X.mg X.base CX k f sp) (o : Own X.K C "__bool__" f) (hr : Room (k + 2) X.A) (hx : Passes CX X E) : CallR X (.type "bool") (rOwn1 C sp E fun Q => kBl fun b H' => Q (.bl b) H') := by
  intro pins s σ H xs us Q I r ⟨x, ex, a, dx, fs, ea, e, h⟩
  subst ex
  subst ea
  obtain rfl := Vals.ref1 r
  obtain ⟨mA, J, _⟩ := ins_get I.hok e
  obtain ⟨od, J, _⟩ := J.look
  obtain ⟨m, hF⟩ := I.fr
  refine PySem.W.bool_any (PySem.W.truthy_K hF I.ok.mod.kin J o.at_ o.fn (wpAny_mono (callO (vs := [.ref a]) F ⟨hr.in1.in1, rfl⟩ hx I (.cons rfl .nil) h) (fun v s' z => ?_) fun _ _ y => y))
  obtain ⟨z, H', I', rz, b, ez, q⟩ := z
  subst ez
  obtain rfl := rz
  exact ⟨.bl b, H', I', rfl, q⟩
end
end Lx
namespace Lx
open PySem PySem.Spec PyProof.Rows L2
/-! ### o[x] by an own __getitem__, in a try and elsewhere -/
section
variable {X : Cx} {CX : CXT} {k : Nat} {C f : Addr} {sp : Sp}
theorem callOA {A : Around} {pins : List (Addr × Obj)} {σ : L2.St} {H : Hp} {s : Shared} {us : List Value} {vs : List V} {Q : VK} {E : XK} (F : FnR X.prog X.w X.K X.mg X.base CX k f sp) (sb : Sub X k A) (hx : PassesAt CX X σ E) (I : Inv X pins σ H s) (r : Vals vs us) (h : sp vs H Q E) :
    wpAny (model X.prog X.w) A (call (.ref f) us) (EP X pins σ Q) X.xe s := by
  have e0 : Env0 X.prog X.w X.K X.mg X.base A X.stack s H := by
    have e := I.env0
    exact ⟨by rw [sb.fr]; exact e.frames, e.mod, e.bs, e.bsz, e.funs, e.frf, e.hok, e.bare⟩
  refine wpAny_call (codeAny_mono (F A X.stack s H us vs Q E sb.room e0 r h) fun r s' hq => ?_)
  cases r with
  | error e => exact hx pins H s e s' I hq
  | ok fl =>
    cases fl with
    | ret u => exact I.after hq
    | next => exact False.elim hq
    | brk => exact False.elim hq
    | cont => exact False.elim hq
def tIxO (C : Addr) (sp : Sp) (E : L2.St → XK) (ta tb : TE) : TE := fun σ H Q => tOp (fun x y H Q => rOwn C sp (E σ) [y] x H Q) ta tb σ H Q
theorem pe_ixOA {E : L2.St → XK} {o e : Expr} {ta tb : TE} {pos : Pos} (he : PE X o ta) (hb : PE X e tb) (F : FnR X.prog X.w X.K X.mg X.base CX k f sp) (ow : Own X.K C "__getitem__" f) (fi : PySem.W.fnIn X.K f = true) (hr : Room (k + 1) X.A) (hx : ∀ σ, PassesAt CX X σ (E σ))
    (hsl : ∀ a i, subscripted e true (.ref a) i = runValue (.builtin "lifetime.subscript" ⟨[.ref a, i], []⟩) := by intro _ _; with_unfolding_all rfl) : PE X (.Subscript o e pos) (tIxO C sp E ta tb) := by
  refine ⟨fun pins s σ H Q I h => ?_⟩
  refine Subscript_ (binT he hb I h fun v u s2 x y H2 I2 rx ry q => ?_)
  obtain ⟨a, dx, fs, ea, e2, h2⟩ := q
  subst ea
  obtain rfl := rx
  obtain ⟨mA, J, _⟩ := ins_get I2.hok e2
  obtain ⟨od, J, _⟩ := J.look
  obtain ⟨m, hF⟩ := I2.fr
  exact PySem.W.sub_K hF I2.ok.mod.kin J ow.at_ fi ow.fn (callOA (vs := [.ref a, y]) F ⟨hr.in1, rfl⟩ (hx σ) I2 (.cons rfl (.cons ry .nil)) h2) (hsl _ _)
end
end Lx
namespace Lx
open PySem PySem.Spec PyProof.Rows L2
/-! ### dict(l) of a list of pairs -/
section
variable {X : Cx}
theorem cr_dictL (hcalm : X.calm = true) : CallR X (.type "dict") (fun xs H Q => ∃ (a : Addr) (ps : List Addr) (kvs : List (Key × V)), xs = [.ref a] ∧ SqL X.K H a (ps.map V.ref) ∧ Paired (fun p kv => SqT X.K H p [kV kv.1, kv.2]) ps kvs ∧
    ∀ p, H p = none → Q (.ref p) (upd H p (.dK (mergeK [] kvs)))) := by
  intro pins s σ H xs us Q I r q
  obtain ⟨a, ps, kvs, ex, hq, hp, q⟩ := q
  subst ex
  obtain ⟨u, eu, rx⟩ := vals1 r
  subst eu
  cases rx
  obtain ⟨its, rv, pl, hz⟩ := I.list hq
  have ei := refs_at rv
  subst ei
  rw [List.length_map] at hz
  obtain ⟨prs, qs, rel, hl, hl2, hpr⟩ := pairs_of2 I hp
  have hm : (s.heap.objs.size == sysModules) = false := beq_eq_false_iff_ne.mpr (Nat.ne_of_gt I.big)
  refine PySem.call_dict_pairs (knd := mixKind X.prog X.w) (kvs := prs) (PairArg.list a (ps.map Value.ref).toArray (fun j => ps.getD j 0) qs) (I.ok.hd hcalm) ⟨pl, by simp [hl2], fun j k v e => ?_⟩ ⟨by rw [hl, hl2], fun j k v e => ?_⟩ (by rw [hl2]; exact hz) fun h' tk hd' k => ?_
  · obtain ⟨b, y, e1, e2, e3, e4⟩ := hpr j k v e
    refine ⟨by simp [e1, List.getD_eq_getElem?_getD], .inl ?_⟩
    show IsTup s.heap (ps.getD j 0) #[k, v]
    rw [List.getD_eq_getElem?_getD, e1]
    exact e3
  · obtain ⟨b, y, e1, e2, e3, e4⟩ := hpr j k v e
    exact ⟨y, e2, e4⟩
  · have hlen : (mergeK [] kvs).length ≤ sizeLine := by
      refine Nat.le_trans (length_mergeK kvs []) ?_
      rw [List.length_nil, Nat.zero_add, rel.length, hl]
      exact hz
    exact ⟨.ref s.heap.objs.size, upd H s.heap.objs.size (.dK (mergeK [] kvs)), I.laid (t' := tk) (fun b o e => k b o (by simp) e) (Nat.le_refl _) (show ObjOk X.prog X.w _ _ _ (.dK (mergeK [] kvs)) from ⟨hlen, hm, merged [] prs, KV.merge rel .nil, hd'⟩), rfl, q _ (I.hok.fresh (Nat.le_refl _))⟩
end
end Lx
namespace Lx
open PySem PySem.Calls PyProof.Rows Builtin
/-! ### {**a, **b} of dicts with int and text keys -/
section
variable {prog : Program} {w : World} {K : Type} [DecidableEq K] {knd : KeyKind prog w K} {A : Around} {E : Value → Shared → Prop} {s : Shared}
theorem wpAny_dictPut_pairs {d : Addr} {kvs : List (K × Value)} {k : K} {key v : Value} {Q : Unit → Shared → Prop} (hkey : knd.is k key = true) (hm : s.heap.DictOf knd d kvs)
    (hQ : ∀ h', h'.DictOf knd d (stored kvs k v) → Heap.SameBut d s.heap h' → Q () { s with heap := h' })
    (hsz : kvs.length ≤ sizeLine) :
    wpAny (model prog w) A (dictPut d (knd.hash k) key v) Q E s := by
  obtain ⟨o, es, ep, ho, hc, hd, hk, hp, hn⟩ := hm
  have hes : es.size ≤ sizeLine := by
    have e1 := hp.length
    have e2 : es.toList.length = es.size := by simp
    omega
  unfold dictPut
  refine wpAny_bind (wpAny_dictFind_of hkey ho hd hk ?_)
  have hidx : (es.findIdx? fun e => knd.is k e.key) = kvs.findIdx? fun kv => decide (kv.1 = k) := by
    rw [← hp.findIdx k]; obtain ⟨l⟩ := es; simp
  cases hi : es.findIdx? fun e => knd.is k e.key with
  | some i =>
    refine wpAny_updateDict ho hd (hQ _ ⟨_, _, ep, Heap.get?_update_self _ ho (Obj.isFreed_of_dict (Obj.data_mapDict hd _)),
      hc.mapDict _, Obj.data_mapDict hd _, hk.modify _ _, ?_, ?_⟩ (Heap.SameBut.update ..))
    · rw [stored, if_pos (any_of_findIdx_some (hidx ▸ hi))]
      have hl : (es.toList.findIdx? fun e => knd.is k e.key) = some i := by rw [← hi]; obtain ⟨l⟩ := es; simp
      have := hp.modify hn hl v
      obtain ⟨l⟩ := es
      simpa using this
    · rw [stored, if_pos (any_of_findIdx_some (hidx ▸ hi)), keys_map_store]; exact hn
  | none =>
    have hnot : k ∉ kvs.map (·.1) := not_mem_of_findIdx_none (hidx ▸ hi)
    have hany : ¬ (kvs.any fun kv => decide (kv.1 = k)) = true := by
      rw [List.any_eq_true]; rintro ⟨kv, hkv, he⟩
      exact hnot (List.mem_map.mpr ⟨kv, hkv, of_decide_eq_true he⟩)
    refine wpAny_updateDictKeys (hz := hes) ho hd (hQ _ ⟨_, _, ep + 1, Heap.get?_update_self _ ho (Obj.isFreed_of_dict (Obj.data_mapDictKeys hd _)),
      hc.mapDictKeys _, Obj.data_mapDictKeys hd _, hk.push hkey _, ?_, ?_⟩ (Heap.SameBut.update ..))
    · rw [stored, if_neg hany]
      have := hp.append hkey (knd.hash k) v
      obtain ⟨l⟩ := es
      simpa using this
    · rw [stored, if_neg hany, List.map_append, List.nodup_append]
      refine ⟨hn, by simp, ?_⟩
      intro a ha b hb
      simp only [List.map_cons, List.map_nil, List.mem_singleton] at hb
      subst hb
      exact fun e => hnot (e ▸ ha)
theorem wpAny_mergeMapping {d o : Addr} {kvs more : List (K × Value)} {Q : Unit → Shared → Prop} (hdo : d ≠ o) (hoS : (o == sysModules) = false) (hkey : ∀ k v, knd.is k v = true → ∀ a, v ≠ .ref a)
    (hd : s.heap.DictOf knd d kvs) (ho : s.heap.DictOf knd o more)
    (hQ : ∀ h', h'.DictOf knd d (merged kvs more) → h'.DictOf knd o more → Heap.SameBut d s.heap h' → Q () { s with heap := h' })
    (hsz : kvs.length + more.length ≤ sizeLine) :
    wpAny (model prog w) A (mergeMapping d (.ref o) false) Q E s := by
  obtain ⟨od, esd, epd, hod, hcd, hdd, hkd, hpd, hnd⟩ := id hd
  obtain ⟨oo, eso, epo, hoo, hco, hdo', hko, hpo, hno⟩ := id ho
  unfold mergeMapping
  refine wpAny_bind (wpAny_isInstance ho.typeIs isSubtype_dict_dict ?_)
  rw [if_pos rfl]
  refine wpAny_bind (wpAny_specialOf ho.typeIs F.slot_dict_iter.lookup ?_)
  refine wpAny_bind (wpAny_pure ?_)
  rw [beq_self_eq_true]
  dsimp only
  rw [if_neg (by rw [hoS]; exact Bool.false_ne_true)]
  refine wpAny_bind (wpAny_dictEntries hod hdd ?_)
  have hlen : more.length = eso.size := by rw [← hpo.length]; simp
  have loop : wpAny (model prog w) A (do
      let l ← dictEntries o
      let size := l.size
      let epoch ← dictEpoch o
      forIn (List.range size) PUnit.unit fun i (_ : PUnit) => (do
          let l' ← dictEntries o
          match l'[i]? with
            | some e => do
              holding [e.key, e.val] (dictPut d e.hash e.key e.val)
              let ep' ← dictEpoch o
              if (ep' != epoch) = true then do
                  (unsupported "dict.changed-during-merge" : Sem PUnit)
                  pure (ForInStep.yield PUnit.unit)
                else pure (ForInStep.yield PUnit.unit)
            | _ => do
              (unsupported "dict.changed-during-merge" : Sem PUnit)
              pure (ForInStep.yield PUnit.unit) : Sem (ForInStep PUnit))
      pure ()) Q E s := by
    refine wpAny_bind (wpAny_dictEntries hoo hdo' ?_)
    refine wpAny_bind (wpAny_dictEpoch hoo hdo' ?_)
    refine wpAny_bind ?_
    refine wpAny_forIn_list _
      (fun rest _ s' => ∃ h' i, s' = { s with heap := h' } ∧ rest = List.range' i (eso.size - i) ∧ i ≤ eso.size ∧ h'.DictOf knd d (merged kvs (more.take i)) ∧ h'.get? o = some oo ∧ Heap.SameBut d s.heap h')
      _ ?_ ?_ _ _ ⟨s.heap, 0, rfl, by rw [Nat.sub_zero]; exact List.range_eq_range', Nat.zero_le _, by simpa [merged] using hd, hoo, Heap.SameBut.refl _ _⟩
    · rintro x rest b s' ⟨h', i, rfl, hr, hi, hd', hoo', hs'⟩
      have hlt : i < eso.size := by
        rcases Nat.lt_or_ge i eso.size with h | h
        · exact h
        · rw [Nat.sub_eq_zero_of_le h] at hr; simp at hr
      obtain ⟨rfl, hrest⟩ : x = i ∧ rest = List.range' (i + 1) (eso.size - (i + 1)) := by
        have e : eso.size - i = (eso.size - (i + 1)) + 1 := by omega
        rw [e, List.range'_succ] at hr
        injection hr with h1 h2
        exact ⟨h1, h2⟩
      refine wpAny_bind (wpAny_dictEntries hoo' hdo' ?_)
      rw [Array.getElem?_eq_getElem hlt]
      obtain ⟨kv, hkv⟩ : ∃ kv, more[x]? = some kv := ⟨more[x]'(by rw [hlen]; exact hlt), List.getElem?_eq_getElem _⟩
      obtain ⟨k, v⟩ := kv
      obtain ⟨hkey1, hval⟩ := hpo.get? (e := eso[x]) (by simp [hlt]) hkv
      obtain ⟨k', hkey', hhash⟩ := hko eso[x] (Array.getElem_mem hlt)
      obtain rfl : k' = k := knd.inj _ _ _ hkey' hkey1
      show wpAny _ _ (holding [eso[x].key, eso[x].val] (dictPut d eso[x].hash eso[x].key eso[x].val) >>= _) _ _ _
      rw [hhash, hval]
      have hmx : (merged kvs (more.take x)).length ≤ sizeLine := by
        have e1 := merged_length_le kvs (more.take x)
        have e2 : (more.take x).length ≤ more.length := by rw [List.length_take]; omega
        omega
      refine wpAny_bind (wpAny_holding (wpAny_dictPut_pairs (hsz := hmx) hkey1 hd' fun h'' hd'' hs'' => ?_))
      have hoo'' : h''.get? o = some oo := (hs''.2 o (Ne.symm hdo)).trans hoo'
      refine wpAny_bind (wpAny_dictEpoch hoo'' hdo' ?_)
      rw [if_neg (by simp)]
      exact wpAny_pure ⟨h'', x + 1, rfl, hrest, hlt, by rw [merged_take_succ kvs more x (k', v) hkv]; exact hd'', hoo'', hs'.trans hs''⟩
    · rintro b s' ⟨h', i, rfl, hr, hi, hd', hoo', hs'⟩
      have hin : i = eso.size := by
        rcases Nat.lt_or_ge i eso.size with h | h
        · have e : eso.size - i = (eso.size - (i + 1)) + 1 := by omega
          rw [e, List.range'_succ] at hr; exact nomatch hr
        · exact Nat.le_antisymm hi h
      refine wpAny_pure (hQ h' ?_ ⟨oo, eso, epo, hoo', hco, hdo', hko, hpo, hno⟩ hs')
      rw [hin, ← hlen, List.take_length] at hd'; exact hd'
  by_cases hem : esd.isEmpty = true
  · rw [if_pos hem]
    refine wpAny_bind (wpAny_dictEntries hoo hdo' ?_)
    refine wpAny_bind ?_
    rw [← Array.forIn_toList]
    refine wpAny_forIn_list _ (fun rest _ s' => s' = s ∧ ∀ e ∈ rest, e ∈ eso.toList) _ ?_ ?_ _ _ ⟨rfl, fun e h => h⟩
    · rintro x rest b s' ⟨rfl, hm⟩
      obtain ⟨k', hkey', _⟩ := hko x (by simpa using hm x List.mem_cons_self)
      have h2 : s' = s' ∧ ∀ e ∈ rest, e ∈ eso.toList := ⟨rfl, fun e h => hm e (List.mem_cons_of_mem _ h)⟩
      have hr := hkey _ _ hkey'
      cases hx : x.key with
      | ref a => exact absurd hx (hr a)
      | _ => exact wpAny_pure h2
    · rintro b s' ⟨rfl, _⟩
      exact loop
  · rw [if_neg hem]
    exact loop
end
end Lx
namespace Lx
open PySem PySem.Spec PyProof.Rows L2
/-- {**a, **b} -/
def tStar2 (ta tb : TE) : TE := fun σ H Q => ∀ p, H p = none → ta σ (upd H p (.dK [])) fun x H1 => H1 p = some (.dK []) ∧ ∃ (a : Addr) (kvs : List (Key × V)), x = .ref a ∧ a ≠ p ∧ H1 a = some (.dK kvs) ∧
  tb σ (upd H1 p (.dK (mergeK [] kvs))) fun y H2 => H2 p = some (.dK (mergeK [] kvs)) ∧ ∃ (b : Addr) (more : List (Key × V)), y = .ref b ∧ b ≠ p ∧ H2 b = some (.dK more) ∧ kvs.length + more.length ≤ sizeLine ∧
  Q (.ref p) (upd H2 p (.dK (mergeK (mergeK [] kvs) more)))
section
variable {X : Cx} {pos : Pos}
theorem pe_star2 {ea eb : Expr} {ta tb : TE} (ha : PE X ea ta) (hb : PE X eb tb) : PE X (.Dict [none, none] [ea, eb] pos) (tStar2 ta tb) := by
  refine ⟨fun pins s σ H Q I q => ?_⟩
  rw [arm_eval_Dict]
  refine wpAny_bind (wpAny_standAt ?_)
  show wpAny _ _ (dictDisplay [(none, do let x ← eval ea X.env; standAt pos; pure x), (none, do let x ← eval eb X.env; standAt pos; pure x)]) _ _ _
  unfold dictDisplay
  simp only [List.forIn_cons, List.forIn_nil, List.isEmpty_nil, if_true]
  refine wpAny_bind ?_
  refine wpAny_bind ?_
  refine wpAny_bind (wpAny_pure ?_)
  refine wpAny_bind (wpAny_alloc ?_)
  have hn := I.hok.fresh (Nat.le_refl s.heap.objs.size)
  have I1 := I.laid (a := s.heap.objs.size) (o := .dK []) (h' := s.heap.push { cls := .type "dict", data := .dict #[] }) (t' := s.toks) (fun _ _ q => Heap.get?_push_of_some _ q) (Nat.le_refl _) (dk_empty s.heap I.big)
  have q0 := q _ hn
  refine wpAny_bind (wpAny_holding (wpAny_bind (thn (ha.run pins _ σ _ _ I1 q0) fun v s1 ⟨x, H1, I1', rx, ep, a, kvs, ex, ne, e1, q1⟩ => wpAny_bind (wpAny_standAt (wpAny_pure ?_)))))
  subst ex
  obtain rfl : v = Value.ref a := rx
  obtain ⟨z1, hs1, vs1, r1, d1⟩ := dk_of I1'.hok e1
  obtain ⟨_, hsp, vs0, r0, d0⟩ := dk_of I1'.hok ep
  cases r0
  have kn : ∀ (k : Key) (v : Value), (mixKind X.prog X.w).is k v = true → ∀ a, v ≠ .ref a := fun k v h a e => by
    subst e
    cases k <;> cases h
  have l1 : vs1.length = kvs.length := r1.length.symm
  refine wpAny_bind (wpAny_onRaise (wpAny_tryCatch (wpAny_onRaise (wpAny_holding (wpAny_mergeMapping (knd := mixKind X.prog X.w) (Ne.symm ne) hs1 kn d0 d1 (fun h' dd' ho' hs => ?_) (by rw [l1, List.length_nil]; omega))))))
  have hz : (mergeK [] kvs).length ≤ sizeLine := by
    have h1 := length_mergeK kvs []
    rw [List.length_nil] at h1
    omega
  have he : ∃ q, h'.get? s.heap.objs.size = some q := let ⟨q, _, _, hq, _⟩ := dd'; ⟨q, hq⟩
  have I2 := d_write (t' := s1.toks) (ob := .dK (mergeK [] kvs)) I1' (by rw [ep]; exact True.intro) hs he (dk_new hz hsp (r1.merge .nil) dd')
  refine wpAny_pure ?_
  refine wpAny_bind ?_
  simp only [List.isEmpty_nil, if_true]
  refine wpAny_bind (wpAny_pure ?_)
  refine wpAny_bind (wpAny_pure ?_)
  refine wpAny_bind (wpAny_holding (wpAny_bind (thn (hb.run pins _ σ _ _ I2 q1) fun v s2 ⟨y, H2, I2', ry, ep2, b, more, ey, nb, e2, lm, q2⟩ => wpAny_bind (wpAny_standAt (wpAny_pure ?_)))))
  subst ey
  obtain rfl : v = Value.ref b := ry
  obtain ⟨z2, hs2, vs2, r2, d2⟩ := dk_of I2'.hok e2
  obtain ⟨_, hsp2, vs3, r3, d3⟩ := dk_of I2'.hok ep2
  have l2 : vs2.length = more.length := r2.length.symm
  have l3 : vs3.length = (mergeK [] kvs).length := r3.length.symm
  have l4 := length_mergeK kvs []
  rw [List.length_nil] at l4
  refine wpAny_bind (wpAny_onRaise (wpAny_tryCatch (wpAny_onRaise (wpAny_holding (wpAny_mergeMapping (knd := mixKind X.prog X.w) (Ne.symm nb) hs2 kn d3 d2 (fun h'' dd'' ho'' hs'' => ?_) (by rw [l2, l3]; omega))))))
  have hz2 : (mergeK (mergeK [] kvs) more).length ≤ sizeLine := by
    have h1 := length_mergeK more (mergeK [] kvs)
    omega
  have he2 : ∃ q, h''.get? s.heap.objs.size = some q := let ⟨q, _, _, hq, _⟩ := dd''; ⟨q, hq⟩
  have I3 := d_write (t' := s2.toks) (ob := .dK (mergeK (mergeK [] kvs) more)) I2' (by rw [ep2]; exact True.intro) hs'' he2 (dk_new hz2 hsp2 (r2.merge r3) dd'')
  refine wpAny_pure ?_
  dsimp only
  refine wpAny_pure ?_
  dsimp only
  refine wpAny_bind ?_
  rw [if_pos (show ([] : List (Sem Value × Sem Value)).isEmpty = true from rfl)]
  refine wpAny_pure ?_
  exact wpAny_pure ⟨.ref s.heap.objs.size, _, I3, rfl, q2⟩
end
end Lx
namespace Lx
open PySem PySem.Calls PyProof.Rows Builtin PySem.W
/-! ### a |= b of plain classes without an own |= ; a | b in a try -/
section
variable {prog : Program} {w : World} {A : Around} {E : Value → Shared → Prop} {s : Shared} {K : PySem.W.Frag} {x C L f : Addr} {h₀ : Heap} {m : Str → Option Value} {ox : Obj} {od : Option Obj}
/-- no class of C's order has this name -/
def noneAll (K : PySem.W.Frag) (C : Addr) (i : Str) : Bool := (clsIn K C).any fun cd => cd.mro.all fun c => findIn K c i == some none
theorem fills_not {M : Model} {h : Heap} {nm : String} {add : Bool} (X : K.In h) (hn : noneAll K C (dunderI nm) = true) : Looks M h (fillsInplaceSlot (.ref C) nm add) false := by
  obtain ⟨cd, hcd, hm⟩ := any_some hn
  have Lm : Looks M h (mroOf (.ref C)) cd.mro := (looks_clsIn X hcd).andThen (f := fun cd => pure cd.mro) .now
  unfold fillsInplaceSlot
  refine Lm.andThen ?_
  have key : ∀ l : List Value, (l.all fun c => findIn K c (dunderI nm) == some none) = true → ∀ p : Value → Sem Bool, (∀ c, Looks M h (typeLookup c (dunderI nm)) none → Looks M h (p c) false) → Looks M h (l.anyM p) false := by
    intro l
    induction l with
    | nil => intro _ p _; exact .now
    | cons c r ih =>
      intro e p hp
      obtain ⟨a, b⟩ := Bool.and_eq_true_iff.mp (List.all_cons ▸ e)
      rw [List.anyM_cons]
      exact (hp c (looks_findIn X (beq_iff_eq.mp a))).andThen (ih b p hp)
  refine key _ hm _ fun c hc => ?_
  exact hc.andThen .now
theorem inplace_K {op : Operator} {b : Value} {Q : Value → Shared → Prop} (F : Fr h₀ L s.heap m) (X₀ : K.In h₀) (I : InstAt s.heap x ox C od) (hb : Looks (model prog w) s.heap (typeOf b) (.ref C)) (hc : selfFirst K C = true)
    (hn : noneAll K C (dunderI op.info.2) = true) (hs : findIn K (.ref C) (PySem.dunder op.info.2) = some (some (.ref f))) (hf : isFn K (.ref f) = true)
    (h : wpAny (model prog w) A (call (.ref f) [.ref x, b]) (PySem.W.CmpBack Q) E s) : wpAny (model prog w) A (inplaceOp op (.ref x) b) Q E s := by
  have X := X₀.keeps F.keep
  obtain ⟨cd, hcd, hm⟩ := any_some hc
  obtain ⟨rest, hm⟩ : ∃ rest, cd.mro = .ref C :: rest := by
    cases q : cd.mro with
    | nil => rw [q] at hm; cases hm
    | cons a r => rw [q] at hm; exact ⟨r, by rw [List.head?_cons] at hm; cases (beq_iff_eq.mp hm); rfl⟩
  unfold inplaceOp
  refine wpAny_holding (wpAny_bind (I.type.here ?_))
  refine wpAny_bind ((fills_not X hn).here ?_)
  simp only [Bool.false_eq_true, if_false]
  refine wpAny_bind ?_
  unfold binaryOp1
  refine wpAny_bind (I.type.here (wpAny_bind (hb.here (wpAny_bind ((fills_K X hcd hm hs).here ?_)))))
  simp only [beq_self_eq_true, if_true]
  refine wpAny_bind (wpAny_pure ?_)
  simp only [Bool.and_false, Bool.false_eq_true, if_false, Bool.false_and]
  refine wpAny_bind (wpAny_pure ?_)
  simp only [Bool.false_eq_true, if_false]
  refine wpAny_bind (m := tryMethod (.ref x) _ b) ?_
  unfold tryMethod
  refine wpAny_bind (special_fn X I hs (beq_iff_eq.mp hf) (wpAny_mono h (fun v s' hv => ?_) fun _ _ e => e))
  cases v <;> first | exact hv.elim | exact wpAny_pure (wpAny_pure (wpAny_pure hv))
end
end Lx
namespace Lx
open PySem PySem.Spec PyProof.Rows L2
section
variable {X : Cx} {CX : CXT} {k : Nat} {C f : Addr} {sp : Sp} {E : XK}
theorem iop_orO (F : FnR X.prog X.w X.K X.mg X.base CX k f sp) (o : Own X.K C "__or__" f) (sf : PySem.W.selfFirst X.K C = true) (nn : noneAll X.K C "__ior__" = true) (hr : Room k X.A) (hx : Passes CX X E) : OpR X (inplaceOp .BitOr) (fun x y H Q => (∃ b dy gs, y = .ref b ∧ H b = some (.ins C dy gs)) ∧ rOwn C sp E [y] x H Q) := by
  intro pins s σ H x y v u Q I rx ry ⟨⟨b, dy, gs, eb, e2⟩, a, dx, fs, ea, e, h⟩
  subst ea
  subst eb
  obtain rfl := rx
  obtain rfl := ry
  obtain ⟨mA, J, _⟩ := ins_get I.hok e
  obtain ⟨od, J, _⟩ := J.look
  obtain ⟨mB, J', _⟩ := ins_get I.hok e2
  obtain ⟨od', J', _⟩ := J'.look
  obtain ⟨m, hF⟩ := I.fr
  refine inplace_K (op := .BitOr) hF I.ok.mod.kin J J'.type sf nn o.at_ o.fn (wpAny_mono (callO (vs := [.ref a, .ref b]) F ⟨hr, rfl⟩ hx I (.cons rfl (.cons rfl .nil)) h) (fun v s' z => ?_) fun _ _ y => y)
  obtain ⟨z, H', I', rz, q⟩ := z
  exact cmp_back rz ⟨z, H', I', rz, q⟩
/-- a | b where what is raised is told at the slots -/
theorem pe_orOA {E : L2.St → XK} {a b : Expr} {ta tb : TE} {pos : Pos} (ha : PE X a ta) (hb : PE X b tb) (F : FnR X.prog X.w X.K X.mg X.base CX k f sp) (o : Own X.K C "__or__" f) (sf : PySem.W.selfFirst X.K C = true) (hr : Room k X.A) (hx : ∀ σ, PassesAt CX X σ (E σ)) :
    PE X (.BinOp a .BitOr b pos) (fun σ H Q => tOp (fun x y H Q => (∃ b dy gs, y = .ref b ∧ H b = some (.ins C dy gs)) ∧ rOwn C sp (E σ) [y] x H Q) ta tb σ H Q) := by
  refine ⟨fun pins s σ H Q I h => ?_⟩
  refine wpAny_BinOp (binT ha hb I h fun v u s2 x y H2 I2 rx ry q => ?_)
  obtain ⟨⟨b, dy, gs, eb, e2⟩, a, dx, fs, ea, e, h⟩ := q
  subst ea
  subst eb
  obtain rfl := rx
  obtain rfl := ry
  obtain ⟨mA, J, _⟩ := ins_get I2.hok e
  obtain ⟨od, J, _⟩ := J.look
  obtain ⟨mB, J', _⟩ := ins_get I2.hok e2
  obtain ⟨od', J', _⟩ := J'.look
  obtain ⟨m, hF⟩ := I2.fr
  refine PySem.W.binop_K (op := .BitOr) hF I2.ok.mod.kin J J'.type sf o.at_ o.fn (wpAny_mono (callOA (vs := [.ref a, .ref b]) F ⟨hr, rfl⟩ (hx σ) I2 (.cons rfl (.cons rfl .nil)) h) (fun v s' z => ?_) fun _ _ y => y)
  obtain ⟨z, H', I', rz, q⟩ := z
  exact cmp_back rz ⟨z, H', I', rz, q⟩
/-- o.f, the reading said over K -/
theorem pe_fldK {K0 : PySem.W.Frag} {o : Expr} {f : Str} {ta : TE} {pos : Pos} (hk : X.K = K0) (he : PE X o ta) (hb : attributeBase o f X.env (eval o X.env) = eval o X.env) : PE X (.Attribute o f pos) (tFld K0 ta f) := by
  subst hk
  exact pe_fld he hb
end
end Lx
namespace Lx
open PySem PySem.Spec PyProof.Rows L2
/-! ### o[i] = v by an own __setitem__, a |= b by an own __ior__, what is raised told at the slots -/
section
variable {X : Cx} {CX : CXT} {k : Nat} {C f : Addr} {sp : Sp}
def sSetO (C : Addr) (sp : Sp) (E : L2.St → XK) (to ti tv : TE) : TS := fun D σ H => tv σ H fun v H1 => to σ H1 fun x H2 => ti σ H2 fun y H3 => rOwn C sp (E σ) [y, v] x H3 fun _ H4 => D.nx σ H4
theorem ps_setOA {E : L2.St → XK} {o i value : Expr} {to ti tv : TE} {pos' pos : Pos} (ho : PE X o to) (hi : PE X i ti) (hv : PE X value tv) (F : FnR X.prog X.w X.K X.mg X.base CX k f sp) (ow : Own X.K C "__setitem__" f) (ns : PySem.W.noSeq X.K C = true) (hr : Room k X.A)
    (hx : ∀ σ, PassesAt CX X σ (E σ)) (hs : swapsWith value (some (.Subscript o i pos')) pos.line X.env = pure false) : PS X (.Assign [.Subscript o i pos'] value pos) (sSetO C sp E to ti tv) := by
  refine ⟨fun pins s σ H D I h => ?_⟩
  refine wpAny_Assign_Subscript (thn (hv.run pins s σ H _ I h) fun r s1 ⟨v, H1, I1, rv, q1⟩ => thn (ho.run pins s1 σ H1 _ I1 q1) fun u s2 ⟨x, H2, I2, rx, q2⟩ => thn (hi.run pins s2 σ H2 _ I2 q2) fun iv s3 ⟨y, H3, I3, ry, a, dx, fs, ea, e, h3⟩ => ?_) hs
  subst ea
  obtain rfl : u = Value.ref a := rx
  obtain ⟨mA, J, _⟩ := ins_get I3.hok e
  obtain ⟨od, J, _⟩ := J.look
  obtain ⟨m, hF⟩ := I3.fr
  refine PySem.W.ksp_setItem hF I3.ok.mod.kin J ns ow.at_ ow.fn (wpAny_mono (callOA (vs := [.ref a, y, v]) F ⟨hr, rfl⟩ (hx σ) I3 (.cons rfl (.cons ry (.cons rv .nil))) h3) (fun w s' z => ?_) fun _ _ y => y)
  obtain ⟨z, H', I', rz, q⟩ := z
  exact ⟨σ, H', I', q⟩
def tAugO (i : Nat) (C : Addr) (sp : Sp) (E : L2.St → XK) (te : TE) : TS := fun D σ H => ∃ x, σ[i]? = some (some x) ∧ te σ H fun y H1 => rOwn C sp (E σ) [y] x H1 fun z H2 => D.nx (σ.set i (some z)) H2
theorem ps_augOA {E : L2.St → XK} {i : Nat} {x : Str} {e : Expr} {te : TE} {pos' pos : Pos} (hN : X.N.Nodup) (hi : X.N[i]? = some x) (hx : Loc X.env.scope x) (he : PE X e te) (F : FnR X.prog X.w X.K X.mg X.base CX k f sp) (ow : Own X.K C "__ior__" f)
    (sf : PySem.W.selfFirst X.K C = true) (hr : Room k X.A) (hx2 : ∀ σ, PassesAt CX X σ (E σ)) (hf : X.fn x = true ∨ X.env.scope.names.lookup x = some .local := by first | exact .inl rfl | exact .inr rfl | assumption) :
    PS X (.AugAssign (.Name x pos') .BitOr e pos) (tAugO i C sp E te) := by
  refine ⟨fun pins s σ H D I h => ?_⟩
  obtain ⟨v, e1, h⟩ := h
  obtain ⟨m, hn, hl⟩ := I.loc
  have vis : Vis X.env.scope x := by rcases hx with k | k; exact .inl k; exact .inr (.inl k)
  obtain ⟨u, r, l⟩ := hl i x v hi e1 vis
  refine wpAny_AugAssign_Name ?_
  have go : wpAny (model X.prog X.w) X.A (eval e X.env) (fun w s₂ => wpAny (model X.prog X.w) X.A (inplaceOp .BitOr u w) (fun r s₃ => wpAny (model X.prog X.w) X.A (storeName X.env x r) (fun _ => SP X pins D .next) X.xe s₃) X.xe s₂) X.xe s := by
    refine thn (he.run pins s σ H _ I h) fun w s1 ⟨y, H1, I1, r1, a, dx, fs, ea, e2, h2⟩ => ?_
    subst ea
    obtain rfl : u = Value.ref a := r
    obtain ⟨mA, J, _⟩ := ins_get I1.hok e2
    obtain ⟨od, J, _⟩ := J.look
    obtain ⟨m, hF⟩ := I1.fr
    refine PySem.W.ksp_inplace (op := .BitOr) hF I1.ok.mod.kin J sf ow.at_ ow.fn (wpAny_mono (callOA (vs := [.ref a, y]) F ⟨hr, rfl⟩ (hx2 σ) I1 (.cons rfl (.cons r1 .nil)) h2) (fun v s' z => ?_) fun _ _ y => y)
    obtain ⟨zv, H2, I2, r2, q2⟩ := z
    exact cmp_back r2 (store_ok I2 hN hi hx r2 (fun s3 I3 => ⟨_, H2, I3, q2⟩) hf)
  rcases l with ⟨hk, hm⟩ | ⟨hk, c, hc, hcell⟩
  · exact wpAny_loadName_local I.ok.kind hk hn hm go
  · rcases hk with hk | hk
    · exact wpAny_loadName_cell I.ok.kind hk hc hcell go
    · rcases hx with k | k
      · have : X.env.scope.names.lookup x = some .free := hk
        rw [k] at this; cases this
      · have : X.env.scope.names.lookup x = some .free := hk
        rw [k] at this; cases this
end
end Lx
namespace Lx
open PySem PySem.Spec PyProof.Rows L2
/-! ### an own == with an object of another plain class to the right -/
section
variable {X : Cx} {CX : CXT} {k : Nat} {C f : Addr} {sp : Sp} {E : XK}
def RgtX (K : PySem.W.Frag) (C : Addr) (y : V) (H : Hp) : Prop := ∃ b C' dy gs, y = .ref b ∧ H b = some (.ins C' dy gs) ∧ PySem.W.subIn K (.ref C') (.ref C) = some false
theorem op_eqX (F : FnR X.prog X.w X.K X.mg X.base CX k f sp) (o : Own X.K C "__eq__" f) (hr : Room k X.A) (hx : Passes CX X E) : OpR X (compareOp .Eq) (fun x y H Q => RgtX X.K C y H ∧ rOwn C sp E [y] x H Q) := by
  intro pins s σ H x y v u Q I rx ry ⟨⟨b, C', dy, gs, eb, e2, n⟩, a, dx, fs, ea, e, h⟩
  subst ea
  subst eb
  obtain rfl := rx
  obtain rfl := ry
  obtain ⟨mA, J, _⟩ := ins_get I.hok e
  obtain ⟨od, J, _⟩ := J.look
  obtain ⟨mB, J2, _⟩ := ins_get I.hok e2
  obtain ⟨od2, J2, _⟩ := J2.look
  obtain ⟨m, hF⟩ := I.fr
  show wpAny (model X.prog X.w) X.A (richCompare .Eq _ _) (EP X pins σ Q) X.xe s
  refine PySem.W.cmp_K (op := .Eq) (tb := .ref C') hr.units0 hF I.ok.mod.kin J J2.type (by unfold PySem.W.notFirst; rw [n]; simp) o.at_ o.fn (wpAny_mono (callO (vs := [.ref a, .ref b]) F ⟨hr, rfl⟩ hx I (.cons rfl (.cons rfl .nil)) h) (fun v s' z => ?_) fun _ _ y => y)
  obtain ⟨z, H', I', rz, q⟩ := z
  exact cmp_back rz ⟨z, H', I', rz, q⟩
end
end Lx
namespace Toy
open PySem L2 Lx
def top (i : Nat) : Stmt := PySem.Challenge.pw_orplaces_k10_drafts.main.body.getD i (.Pass ⟨0, 0, 0, 0⟩)
abbrev s_is_name : Stmt := top 14
abbrev N_is_name : List Str := ["value", "sign"]
theorem sc_is_name : FnScope N_is_name ["value"] (defScope s_is_name) := ⟨rfl, rfl, rfl, by decide +kernel, rfl, by decide +kernel, by decide +kernel⟩
abbrev s_is_integer : Stmt := top 8
abbrev N_is_integer : List Str := ["value", "least", "most"]
theorem sc_is_integer : FnScope N_is_integer ["value", "least", "most"] (defScope s_is_integer) := ⟨rfl, rfl, rfl, by decide +kernel, rfl, by decide +kernel, by decide +kernel⟩
abbrev s_check_field : Stmt := top 20
abbrev N_check_field : List Str := ["field"]
theorem sc_check_field : FnScope N_check_field ["field"] (defScope s_check_field) := ⟨rfl, rfl, rfl, by decide +kernel, rfl, by decide +kernel, by decide +kernel⟩
abbrev s_check_number : Stmt := top 21
abbrev N_check_number : List Str := ["number"]
theorem sc_check_number : FnScope N_check_number ["number"] (defScope s_check_number) := ⟨rfl, rfl, rfl, by decide +kernel, rfl, by decide +kernel, by decide +kernel⟩
abbrev s_Signals_init : Stmt := inClass (top 16) 1
abbrev N_Signals_init : List Str := ["this_object", "fields", "field"]
theorem sc_Signals_init : FnScope N_Signals_init ["this_object", "fields"] (defScope s_Signals_init) := ⟨rfl, rfl, rfl, by decide +kernel, rfl, by decide +kernel, by decide +kernel⟩
abbrev s_Signals_of : Stmt := inClass (top 16) 2
abbrev N_Signals_of : List Str := ["cls", "pairs", "fields", "field", "number"]
theorem sc_Signals_of : FnScope N_Signals_of ["cls", "pairs"] (defScope s_Signals_of) := ⟨rfl, rfl, rfl, by decide +kernel, rfl, by decide +kernel, by decide +kernel⟩
abbrev s_Signals___getitem__ : Stmt := inClass (top 16) 4
abbrev N_Signals___getitem__ : List Str := ["self", "at"]
theorem sc_Signals___getitem__ : FnScope N_Signals___getitem__ ["self", "at"] (defScope s_Signals___getitem__) := ⟨rfl, rfl, rfl, by decide +kernel, rfl, by decide +kernel, by decide +kernel⟩
abbrev s_Signals___eq__ : Stmt := inClass (top 16) 9
abbrev N_Signals___eq__ : List Str := ["self", "other"]
theorem sc_Signals___eq__ : FnScope N_Signals___eq__ ["self", "other"] (defScope s_Signals___eq__) := ⟨rfl, rfl, rfl, by decide +kernel, rfl, by decide +kernel, by decide +kernel⟩
abbrev s_clash_of : Stmt := top 19
abbrev N_clash_of : List Str := ["one", "other", "field", "number"]
theorem sc_clash_of : FnScope N_clash_of ["one", "other"] (defScope s_clash_of) := ⟨rfl, rfl, rfl, by decide +kernel, rfl, by decide +kernel, by decide +kernel⟩
abbrev s_check_union : Stmt := top 18
abbrev N_check_union : List Str := ["one", "other", "field"]
theorem sc_check_union : FnScope N_check_union ["one", "other"] (defScope s_check_union) := ⟨rfl, rfl, rfl, by decide +kernel, rfl, by decide +kernel, by decide +kernel⟩
abbrev s_told_text : Stmt := top 22
abbrev N_told_text : List Str := ["signals", "field", "number"]
theorem sc_told_text : FnScope N_told_text ["signals"] (defScope s_told_text) := ⟨rfl, rfl, rfl, by decide +kernel, rfl, by decide +kernel, by decide +kernel⟩
abbrev s_Draft_init : Stmt := inClass (top 17) 0
abbrev N_Draft_init : List Str := ["self", "signals"]
theorem sc_Draft_init : FnScope N_Draft_init ["self", "signals"] (defScope s_Draft_init) := ⟨rfl, rfl, rfl, by decide +kernel, rfl, by decide +kernel, by decide +kernel⟩
abbrev s_Draft_put : Stmt := inClass (top 17) 1
abbrev N_Draft_put : List Str := ["self", "signals", "field", "number"]
theorem sc_Draft_put : FnScope N_Draft_put ["self", "signals"] (defScope s_Draft_put) := ⟨rfl, rfl, rfl, by decide +kernel, rfl, by decide +kernel, by decide +kernel⟩
abbrev s_Draft_present : Stmt := inClass (top 17) 2
abbrev N_Draft_present : List Str := ["self"]
theorem sc_Draft_present : FnScope N_Draft_present ["self"] (defScope s_Draft_present) := ⟨rfl, rfl, rfl, by decide +kernel, rfl, by decide +kernel, by decide +kernel⟩
abbrev s_Draft___getitem__ : Stmt := inClass (top 17) 3
abbrev N_Draft___getitem__ : List Str := ["self", "at"]
theorem sc_Draft___getitem__ : FnScope N_Draft___getitem__ ["self", "at"] (defScope s_Draft___getitem__) := ⟨rfl, rfl, rfl, by decide +kernel, rfl, by decide +kernel, by decide +kernel⟩
abbrev s_Draft___setitem__ : Stmt := inClass (top 17) 4
abbrev N_Draft___setitem__ : List Str := ["self", "at", "worth"]
theorem sc_Draft___setitem__ : FnScope N_Draft___setitem__ ["self", "at", "worth"] (defScope s_Draft___setitem__) := ⟨rfl, rfl, rfl, by decide +kernel, rfl, by decide +kernel, by decide +kernel⟩
abbrev s_Draft___ior__ : Stmt := inClass (top 17) 6
abbrev N_Draft___ior__ : List Str := ["self", "other"]
theorem sc_Draft___ior__ : FnScope N_Draft___ior__ ["self", "other"] (defScope s_Draft___ior__) := ⟨rfl, rfl, rfl, by decide +kernel, rfl, by decide +kernel, by decide +kernel⟩
abbrev s_Draft___eq__ : Stmt := inClass (top 17) 7
abbrev N_Draft___eq__ : List Str := ["self", "other"]
theorem sc_Draft___eq__ : FnScope N_Draft___eq__ ["self", "other"] (defScope s_Draft___eq__) := ⟨rfl, rfl, rfl, by decide +kernel, rfl, by decide +kernel, by decide +kernel⟩
abbrev s_Draft___repr__ : Stmt := inClass (top 17) 8
abbrev N_Draft___repr__ : List Str := ["self"]
theorem sc_Draft___repr__ : FnScope N_Draft___repr__ ["self"] (defScope s_Draft___repr__) := ⟨rfl, rfl, rfl, by decide +kernel, rfl, by decide +kernel, by decide +kernel⟩
abbrev s__law_pen : Stmt := top 24
abbrev N__law_pen : List Str := ["_law_script"]
theorem sc__law_pen : FnScope N__law_pen ["_law_script"] (defScope s__law_pen) := ⟨rfl, rfl, rfl, by decide +kernel, rfl, by decide +kernel, by decide +kernel⟩
abbrev s__law_draw : Stmt := top 25
abbrev N__law_draw : List Str := ["_law_pen_here", "_law_many", "_law_digit", "_law_at", "_law_cell", "_law_great", "_law_mixed"]
theorem sc__law_draw : FnScope N__law_draw ["_law_pen_here", "_law_many"] (defScope s__law_draw) := ⟨rfl, rfl, rfl, by decide +kernel, rfl, by decide +kernel, by decide +kernel⟩
abbrev s__law_pick : Stmt := top 26
abbrev N__law_pick : List Str := ["_law_pen_here", "_law_some"]
theorem sc__law_pick : FnScope N__law_pick ["_law_pen_here", "_law_some"] (defScope s__law_pick) := ⟨rfl, rfl, rfl, by decide +kernel, rfl, by decide +kernel, by decide +kernel⟩
abbrev s__law_pairs : Stmt := top 27
abbrev N__law_pairs : List Str := ["_law_pen_here", "_law_most", "_law_names", "_law_found", "_law_k", "_law_taken", "_law_name", "_law_some", "_law_pair"]
theorem sc__law_pairs : FnScope N__law_pairs ["_law_pen_here", "_law_most"] (defScope s__law_pairs) := ⟨rfl, rfl, rfl, by decide +kernel, rfl, by decide +kernel, by decide +kernel⟩
abbrev s__law_due_of : Stmt := top 28
abbrev N__law_due_of : List Str := ["_law_pairs_here", "_law_pair"]
theorem sc__law_due_of : FnScope N__law_due_of ["_law_pairs_here"] (defScope s__law_due_of) := ⟨rfl, rfl, rfl, by decide +kernel, rfl, by decide +kernel, by decide +kernel⟩
abbrev s__law_refusal : Stmt := top 29
abbrev N__law_refusal : List Str := ["_law_draft", "_law_name", "_law_number", "e"]
theorem sc__law_refusal : FnScope N__law_refusal ["_law_draft", "_law_name", "_law_number"] (defScope s__law_refusal) := ⟨rfl, rfl, rfl, by decide +kernel, rfl, by decide +kernel, by decide +kernel⟩
abbrev s__law_united : Stmt := top 30
abbrev N__law_united : List Str := ["_law_draft", "_law_signals", "e"]
theorem sc__law_united : FnScope N__law_united ["_law_draft", "_law_signals"] (defScope s__law_united) := ⟨rfl, rfl, rfl, by decide +kernel, rfl, by decide +kernel, by decide +kernel⟩
abbrev s__law_tells : Stmt := top 31
abbrev N__law_tells : List Str := ["_law_draft", "_law_numbers", "_law_name", "_law_told", "_law_number"]
theorem sc__law_tells : FnScope N__law_tells ["_law_draft", "_law_numbers"] (defScope s__law_tells) := ⟨rfl, rfl, rfl, by decide +kernel, rfl, by decide +kernel, by decide +kernel⟩
abbrev s__law_read_refusal : Stmt := top 32
abbrev N__law_read_refusal : List Str := ["_law_draft", "_law_field", "e"]
theorem sc__law_read_refusal : FnScope N__law_read_refusal ["_law_draft", "_law_field"] (defScope s__law_read_refusal) := ⟨rfl, rfl, rfl, by decide +kernel, rfl, by decide +kernel, by decide +kernel⟩
abbrev s__law_set_wrongly : Stmt := top 33
abbrev N__law_set_wrongly : List Str := ["_law_pen_here", "_law_draft", "_law_odd", "_law_wrong"]
theorem sc__law_set_wrongly : FnScope N__law_set_wrongly ["_law_pen_here", "_law_draft"] (defScope s__law_set_wrongly) := ⟨rfl, rfl, rfl, by decide +kernel, rfl, by decide +kernel, by decide +kernel⟩
abbrev s__law_deed : Stmt := top 34
abbrev N__law_deed : List Str := ["_law_pen_here", "_law_draft", "_law_numbers", "_law_way", "_law_pairs_here", "_law_name", "_law_number", "_law_clash", "_law_old", "_law_found"]
theorem sc__law_deed : FnScope N__law_deed ["_law_pen_here", "_law_draft", "_law_numbers"] (defScope s__law_deed) := ⟨rfl, rfl, rfl, by decide +kernel, rfl, by decide +kernel, by decide +kernel⟩
abbrev s_law : Stmt := top 35
abbrev N_law : List Str := ["_law_script", "_law_pen_here", "_law_first", "_law_signals", "_law_draft", "_law_empty", "_law_again", "_law_numbers", "_law_turn", "_law_ahead", "_law_told"]
theorem sc_law : FnScope N_law ["_law_script"] (defScope s_law) := ⟨rfl, rfl, rfl, by decide +kernel, rfl, by decide +kernel, by decide +kernel⟩
abbrev s_InvalidName_init : Stmt := inClass (top 3) 0
abbrev N_InvalidName_init : List Str := ["self", "value"]
theorem sc_InvalidName_init : FnScope N_InvalidName_init ["self", "value"] (defScope s_InvalidName_init) := ⟨rfl, rfl, rfl, by decide +kernel, rfl, by decide +kernel, by decide +kernel⟩
abbrev s_InvalidNumber_init : Stmt := inClass (top 4) 0
abbrev N_InvalidNumber_init : List Str := ["self", "value"]
theorem sc_InvalidNumber_init : FnScope N_InvalidNumber_init ["self", "value"] (defScope s_InvalidNumber_init) := ⟨rfl, rfl, rfl, by decide +kernel, rfl, by decide +kernel, by decide +kernel⟩
abbrev s_FieldClash_init : Stmt := inClass (top 5) 0
abbrev N_FieldClash_init : List Str := ["self", "field", "one", "other"]
theorem sc_FieldClash_init : FnScope N_FieldClash_init ["self", "field", "one", "other"] (defScope s_FieldClash_init) := ⟨rfl, rfl, rfl, by decide +kernel, rfl, by decide +kernel, by decide +kernel⟩
/-! ### the pen, a draw, a pick -/
/-- the pen at p: its cells at c, its place i, its rest g -/
def Pen (H : Hp) (p c : Addr) (n : Nat) : Prop := ∃ (ns : List Int) (i : Nat) (g : Int), H p = some (.lst [.ref c, .int (i : Int), .int g]) ∧ H c = some (.lst (ns.map V.int)) ∧ ns.length ≤ 60 ∧ i ≤ n
/-- all but the pen is as it was -/
def Keep (p : Addr) (H H' : Hp) : Prop := ∀ b o, H b = some o → b ≠ p → H' b = some o
theorem Keep.refl (p : Addr) (H : Hp) : Keep p H H := fun _ _ h _ => h
theorem Keep.trans {p : Addr} {H H1 H2 : Hp} (a : Keep p H H1) (b : Keep p H1 H2) : Keep p H H2 := fun c o h n => b c o (a c o h n) n
theorem same_keep {p : Addr} {H H' : Hp} (s : Same H H') : Keep p H H' := fun b o h _ => s b o h
theorem same_upd {H : Hp} {p : Addr} {o : HO} (h : H p = none) : Same H (upd H p o) := fun b x e => by
  rw [upd_ne (ne_of_none e h)]
  exact e
theorem keep_upd {H : Hp} {p : Addr} {o : HO} : Keep p H (upd H p o) := fun b x e n => by
  rw [upd_ne n]
  exact e
theorem cells_ne {H : Hp} {p c : Addr} {ns : List Int} {r : List V} (hc : H c = some (.lst (ns.map V.int))) (hp : H p = some (.lst (.ref c :: r))) : c ≠ p := by
  intro e
  subst e
  rw [hc] at hp
  cases ns with
  | nil => cases hp
  | cons x l => cases hp
theorem Pen.same {H H' : Hp} {p c : Addr} {n : Nat} (P : Pen H p c n) (s : Same H H') : Pen H' p c n := by
  obtain ⟨ns, i, g, hp, hc, hl, hi⟩ := P
  exact ⟨ns, i, g, s _ _ hp, s _ _ hc, hl, hi⟩
theorem Pen.mono {H : Hp} {p c : Addr} {n m : Nat} (P : Pen H p c n) (h : n ≤ m) : Pen H p c m := by
  obtain ⟨ns, i, g, hp, hc, hl, hi⟩ := P
  exact ⟨ns, i, g, hp, hc, hl, Nat.le_trans hi h⟩
theorem Pen.put {H : Hp} {p c : Addr} {ns : List Int} {i : Nat} {g : Int} {n : Nat} {r : List V} (hp : H p = some (.lst (.ref c :: r))) (hc : H c = some (.lst (ns.map V.int))) (hl : ns.length ≤ 60) (hi : i ≤ n) : Pen (upd H p (.lst [.ref c, .int (i : Int), .int g])) p c n :=
  ⟨ns, i, g, upd_same, by rw [upd_ne (cells_ne hc hp)]; exact hc, hl, hi⟩
theorem Pen.ob {H : Hp} {p c : Addr} {n : Nat} (P : Pen H p c n) : ∃ xs, H p = some (.lst xs) := by
  obtain ⟨ns, i, g, hp, _⟩ := P
  exact ⟨_, hp⟩
def spPen (K : PySem.W.Frag) : Sp := fun vs H Q _ => ∃ (a : Addr) (ns : List Int), vs = [.ref a] ∧ SqL K H a (ns.map V.int) ∧ ns.length ≤ 63 ∧ ∀ (p c : Addr) (H' : Hp), H p = none → Same H H' → Pen H' p c 0 → Q (.ref p) H'
def spDraw : Sp := fun vs H Q _ => ∃ (p c : Addr) (m : Int) (n : Nat), vs = [.ref p, .int m] ∧ Pen H p c n ∧ n ≤ 100000 ∧ 1 ≤ m ∧ m < 1073741824 ∧ ∀ (r : Int) (H' : Hp), 0 ≤ r → r < m → Pen H' p c (n + 1) → Keep p H H' → Q (.int r) H'
def spPick (K : PySem.W.Frag) : Sp := fun vs H Q _ => ∃ (p c a : Addr) (xs : List V) (n : Nat), vs = [.ref p, .ref a] ∧ a ≠ p ∧ Pen H p c n ∧ n ≤ 100000 ∧ SqL K H a xs ∧ 1 ≤ xs.length ∧ xs.length ≤ 1000 ∧ ∀ (v : V) (H' : Hp), v ∈ xs → Pen H' p c (n + 1) → Keep p H H' → Q v H'
theorem SqL.keep {K : PySem.W.Frag} {H H' : Hp} {a p : Addr} {xs : List V} (s : Keep p H H') (ne : a ≠ p) (h : SqL K H a xs) : SqL K H' a xs := by
  rcases h with (h | ⟨o, h⟩) | h
  · exact .inl (.inl (s _ _ h ne))
  · exact .inl (.inr ⟨o, s _ _ h ne⟩)
  · exact .inr h
theorem modN {i m : Int} (h : 1 ≤ m) : 0 ≤ i.fmod m ∧ i.fmod m < m := by
  rw [Int.fmod_eq_emod_of_nonneg _ (by omega)]
  exact ⟨Int.emod_nonneg _ (by omega), Int.emod_lt_of_pos _ (by omega)⟩
theorem map_int_at {ns : List Int} {j : Nat} (h : j < ns.length) : ∃ z, (ns.map V.int)[j]? = some (.int z) := by
  refine ⟨ns[j], ?_⟩
  rw [List.getElem?_map, List.getElem?_eq_getElem h]
  rfl
theorem dp_ints {K : PySem.W.Frag} {H : Hp} : ∀ ns : List Int, DpAll K H (ns.map V.int) (ns.map PyData.int)
  | [] => .nil
  | n :: r => .cons (.int n) (dp_ints r)
theorem canLay_ints : ∀ ns : List Int, PyData.canLayAll0 (ns.map PyData.int) = true
  | [] => by simp [PyData.canLayAll0]
  | n :: r => by
    have := canLay_ints r
    simp [PyData.canLayAll0, PyData.canLay0, this]
theorem depth_ints : ∀ ns : List Int, PyData.depthAll (ns.map PyData.int) ≤ 1
  | [] => by simp [PyData.depthAll]
  | n :: r => by
    have := depth_ints r
    simp only [List.map_cons, PyData.depthAll, PyData.depth]
    omega
theorem shaped_ints (ns : List Int) : SeqAt.shaped (.list (ns.map PyData.int)) = true := by
  have h1 := canLay_ints ns
  have h2 := depth_ints ns
  unfold SeqAt.shaped
  have h3 : PyData.depth (.list (ns.map PyData.int)) ≤ 64 := by
    simp only [PyData.depth]
    omega
  simp only [PyData.canLay0, h1, h3, decide_true, Bool.and_self]
theorem eqv_ints_nil (ns : List Int) : PyData.eqv (.list (ns.map PyData.int)) (.list []) = ns.isEmpty := by
  cases ns with
  | nil => simp [PyData.eqv, PyData.eqvAll]
  | cons x r => simp [PyData.eqv, PyData.eqvAll]
theorem cut60 (ns : List Int) : ∃ ms : List Int, cutV (ns.map V.int) none (some 60) = ms.map V.int ∧ ms.length ≤ 60 := by
  refine ⟨ns.take 60, ?_, by rw [List.length_take]; omega⟩
  unfold cutV
  rw [HT.sIx_none, show HT.sIx (ns.map V.int).length (ns.map V.int).length (some 60) = min 60 (ns.map V.int).length from HT.sIx_nat _ _ 60, List.drop_zero, Nat.sub_zero, List.map_take]
  by_cases h : 60 ≤ (ns.map V.int).length
  · rw [Nat.min_eq_left h]
  · rw [Nat.min_eq_right (by omega), List.take_of_length_le (Nat.le_refl _), List.take_of_length_le (by omega)]
theorem abs_nat (x : Int) : 0 ≤ (if x < 0 then -x else x) := by
  split <;> omega
theorem bnd1 {a i b c : Int} (h0 : 0 ≤ a) (h1 : a < 2147483648) (h2 : 0 ≤ i) (h3 : i ≤ 100000) (hb0 : 0 ≤ b) (hb : b ≤ 1000000) (hc0 : 0 ≤ c) (hc : c ≤ 1000000) : (a + b * i + c).natAbs < 2 ^ 64 := by
  have e1 : 0 ≤ b * i := Int.mul_nonneg hb0 h2
  have e2 : b * i ≤ 1000000 * 100000 := Int.mul_le_mul hb h3 h2 (by omega)
  omega
theorem bnd2 {a i b c d : Int} (h0 : 0 ≤ a) (h1 : a < 2147483648) (h2 : 0 ≤ i) (h3 : i ≤ 100000) (hb0 : 0 ≤ b) (hb : b ≤ 1000000) (hc0 : 0 ≤ c) (hc : c ≤ 1000000) (hd0 : 0 ≤ d) (hd : d ≤ 1000000) :
    (a * (2 * i + d) + b * i * i + c).natAbs < 2 ^ 64 := by
  have e1 : 0 ≤ b * i := Int.mul_nonneg hb0 h2
  have e2 : b * i ≤ 1000000 * 100000 := Int.mul_le_mul hb h3 h2 (by omega)
  have e3 : 0 ≤ b * i * i := Int.mul_nonneg e1 h2
  have e4 : b * i * i ≤ 1000000 * 100000 * 100000 := Int.mul_le_mul e2 h3 h2 (by omega)
  have e5 : 0 ≤ a * (2 * i + d) := Int.mul_nonneg h0 (by omega)
  have e6 : a * (2 * i + d) ≤ 2147483648 * 1200000 := Int.mul_le_mul (by omega) (by omega) (by omega) (by omega)
  omega
theorem Pen.upd {H : Hp} {p c f : Addr} {n : Nat} {o : HO} (P : Pen H p c n) (h1 : f ≠ p) (h2 : f ≠ c) : Pen (upd H f o) p c n := by
  obtain ⟨ns, i, g, hp, hc, hl, hi⟩ := P
  exact ⟨ns, i, g, by rw [upd_ne h1.symm]; exact hp, by rw [upd_ne h2.symm]; exact hc, hl, hi⟩
theorem Pen.nec {H : Hp} {p c f : Addr} {n : Nat} (P : Pen H p c n) (h : H f = none) : f ≠ c := by
  obtain ⟨ns, i, g, hp, hc, hl, hi⟩ := P
  exact (ne_of_none hc h).symm
/-! ### the mathematics: what a name is -/
def LET : Str := "abcdefghijklmnopqrstuvwxyz"
def SIG : Str := "abcdefghijklmnopqrstuvwxyz0123456789"
def RES : List V := [.str "to", .str "if", .str "tag", .str "all", .str "none"]
def inS (z : Str) (c : Nat) : Bool := decide (c ∈ z.cps.toList)
def isName (z : Str) : Bool := decide (1 ≤ z.length) && decide (z.length ≤ 8) && (z.cps.toList.head?.any (inS LET)) && !(inV (.str z) RES) && (z.cps.toList.all (inS SIG))
/-- a text of at most n signs -/
structure Tx (n : Nat) (z : Str) : Prop where
  len : z.length ≤ n
  ok : ∀ c ∈ z.cps.toList, c < 1114112
theorem app_list (x y : Str) : (x ++ y).cps.toList = x.cps.toList ++ y.cps.toList := by
  show (x.cps ++ y.cps).toList = _
  simp
theorem str_len (z : Str) : z.cps.toList.length = z.length := by
  rw [Array.length_toList]
  rfl
theorem app_len (x y : Str) : (x ++ y).length = x.length + y.length := by
  rw [← str_len, ← str_len, ← str_len, app_list, List.length_append]
theorem Tx.app {n m : Nat} {x y : Str} (a : Tx n x) (b : Tx m y) : Tx (n + m) (x ++ y) := by
  refine ⟨?_, fun c h => ?_⟩
  · have := app_len x y
    have := a.len
    have := b.len
    omega
  · rw [app_list] at h
    rcases List.mem_append.mp h with h | h
    · exact a.ok c h
    · exact b.ok c h
theorem Tx.mono {n m : Nat} {x : Str} (a : Tx n x) (h : n ≤ m) : Tx m x := ⟨Nat.le_trans a.len h, a.ok⟩
theorem Tx.cut {n : Nat} {x : Str} (a : Tx n x) (lo hi : Option Int) : Tx n (cutS x lo hi) := by
  have e : (cutS x lo hi).cps.toList = (x.cps.toList.drop (HT.sIx x.length 0 lo)).take (HT.sIx x.length x.length hi - HT.sIx x.length 0 lo) := by
    unfold cutS
    simp
  refine ⟨?_, fun c h => ?_⟩
  · rw [← str_len, e, List.length_take, List.length_drop, str_len]
    have := a.len
    omega
  · rw [e] at h
    exact a.ok c (List.mem_of_mem_drop (List.mem_of_mem_take h))
theorem Tx.sign {n : Nat} {z : Str} {c : Nat} (a : Tx n z) (h : c ∈ z.cps.toList) : Tx 1 ⟨#[c]⟩ := by
  refine ⟨Nat.le_refl 1, fun d hd => ?_⟩
  have e : d = c := by simpa using hd
  rw [e]
  exact a.ok c h
theorem Tx.at {n : Nat} {z : Str} (a : Tx n z) {j : Nat} (h : j < z.length) : ∃ c, atI z.cps.toList (j : Int) = some c ∧ Tx 1 ⟨#[c]⟩ := by
  have h' : j < z.cps.toList.length := by rw [str_len]; exact h
  exact ⟨z.cps.toList[j], atI_nat (List.getElem?_eq_getElem h'), a.sign (List.getElem_mem h')⟩
theorem Tx.line {n : Nat} {z : Str} (a : Tx n z) (h : n ≤ 1000000) : z.length ≤ sizeLine := Nat.le_trans a.len (Nat.le_trans h (by decide))
/-- a text or not -/
def isS : V → Bool
  | .str _ => true
  | _ => false
def nameV : V → Bool
  | .str z => isName z
  | _ => false
/-- what may be asked: a text that is not too long, or a thing of another kind (that is not the pen) -/
inductive Tv (p : Addr) (H : Hp) : V → Prop
  | non : Tv p H .non
  | bl (b : Bool) : Tv p H (.bl b)
  | int (i : Int) : Tv p H (.int i)
  | str (z : Str) (h : Tx 20000 z) : Tv p H (.str z)
  | lst {a : Addr} {xs : List V} (e : H a = some (.lst xs)) (n : a ≠ p) : Tv p H (.ref a)
  | tup {a : Addr} {xs : List V} (e : H a = some (.tup xs)) (n : a ≠ p) : Tv p H (.ref a)
  | dK {a : Addr} {xs : List (Key × V)} (e : H a = some (.dK xs)) (n : a ≠ p) : Tv p H (.ref a)
theorem Tv.keep {p : Addr} {H H' : Hp} {v : V} (t : Tv p H v) (k : Keep p H H') : Tv p H' v := by
  cases t with
  | non => exact .non
  | bl b => exact .bl b
  | int i => exact .int i
  | str z h => exact .str z h
  | lst e n => exact .lst (k _ _ e n) n
  | tup e n => exact .tup (k _ _ e n) n
  | dK e n => exact .dK (k _ _ e n) n
theorem Tv.ty {K : PySem.W.Frag} {p : Addr} {H : Hp} {v : V} (t : Tv p H v) : ∃ u, TyX K H v u ∧ PySem.W.kitOne K u (.type "str") = some (isS v) := by
  cases t with
  | non => exact ⟨_, .base .non, kit_ty (r := false) (by decide +kernel)⟩
  | bl b => exact ⟨_, .base (.bl b), kit_ty (r := false) (by decide +kernel)⟩
  | int i => exact ⟨_, .base (.int i), kit_ty (r := false) (by decide +kernel)⟩
  | str z h => exact ⟨_, .base (.str z), kit_ty (r := true) (by decide +kernel)⟩
  | lst e n => exact ⟨_, .base (.lst e), kit_ty (r := false) (by decide +kernel)⟩
  | tup e n => exact ⟨_, .base (.tup e), kit_ty (r := false) (by decide +kernel)⟩
  | dK e n => exact ⟨_, .base (.dK e), kit_ty (r := false) (by decide +kernel)⟩
theorem Tv.cases {p : Addr} {H : Hp} {v : V} (t : Tv p H v) : (∃ z, v = .str z ∧ Tx 20000 z) ∨ (isS v = false ∧ nameV v = false) := by
  cases t with
  | str z h => exact .inl ⟨z, rfl, h⟩
  | non => exact .inr ⟨rfl, rfl⟩
  | bl b => exact .inr ⟨rfl, rfl⟩
  | int i => exact .inr ⟨rfl, rfl⟩
  | lst e n => exact .inr ⟨rfl, rfl⟩
  | tup e n => exact .inr ⟨rfl, rfl⟩
  | dK e n => exact .inr ⟨rfl, rfl⟩
theorem len_line {z : Str} (h : z.length ≤ 20000) : z.length ≤ sizeLine := Nat.le_trans h (by decide)
theorem head_at {z : Str} (h : 1 ≤ z.length) : ∃ c, atI z.cps.toList 0 = some c ∧ z.cps.toList.head? = some c := by
  cases e : z.cps.toList with
  | nil =>
    have := str_len z
    rw [e] at this
    simp at this
    omega
  | cons c r => exact ⟨c, atI_nat (j := 0) rfl, rfl⟩
theorem take_bl {z : Str} {i c : Nat} {f : Nat → V} (h : z.cps[i]? = some c) : (z.cps.toList.take (i + 1)).map f = (z.cps.toList.take i).map f ++ [f c] := by
  rw [List.take_add_one]
  have e : z.cps.toList[i]? = some c := by rw [Array.getElem?_toList]; exact h
  rw [e, List.map_append]
  rfl
def spName : Sp := fun vs H Q _ => ∃ (v : V) (p : Addr), vs = [v] ∧ Tv p H v ∧ ∀ H', Same H H' → Q (.bl (nameV v)) H'
theorem if_pos_of {c : Bool} {A B : Prop} (hc : c = true) (h : A) : if c = true then A else B := by
  rw [if_pos hc]
  exact h
theorem if_neg_of {c : Bool} {A B : Prop} (hc : c = false) (h : B) : if c = true then A else B := by
  rw [hc]
  exact iteF h

theorem foldl_app (x : Array Nat) : ∀ (n : Nat) (a : Array Nat), ((List.replicate n x).foldl (· ++ ·) a).toList = a.toList ++ (List.replicate n x.toList).flatten
  | 0, a => by simp
  | n + 1, a => by
    rw [List.replicate_succ, List.foldl_cons, foldl_app x n, List.replicate_succ, List.flatten_cons, Array.toList_append, List.append_assoc]
/-- one sign, so many times -/
theorem op_mul_strB {X : Cx} : OpR X (binaryOp .Mult) (fun x y H Q => ∃ (i : Str) (k : Int), x = .str i ∧ y = .int k ∧ 0 ≤ k ∧ k ≤ 10000 ∧ i.length = 1 ∧ Tx 1 i ∧ ∀ z : Str, Tx 10000 z → Q (.str z) H) := by
  intro pins s σ H x y v u Q I rx ry h
  obtain ⟨i, k, rfl, rfl, h0, h1, hl, ti, q⟩ := h
  obtain ⟨t, rfl⟩ := rx
  obtain ⟨t', rfl⟩ := ry
  have hs : sizeLine = 16777216 := by decide +kernel
  have flen : ((List.replicate k.toNat i.cps.toList).flatten).length = k.toNat := by
    rw [List.length_flatten, List.map_replicate, List.sum_replicate_nat, str_len, hl, Nat.mul_one]
  refine PySem.P.mul_str (by rw [decide_eq_false (by omega), decide_eq_false (by omega)]; rfl) (fun c1 c2 => ?_) (fun c1 c2 => ?_) ?_
  · rw [hl]
    have e : (1 : Int) ≤ (2 ^ 63 - 1) / k := by
      rw [Int.le_ediv_iff_mul_le (by omega)]
      omega
    have e1 : ((1 : Nat) : Int) = 1 := rfl
    omega
  · unfold Builtin.Str.tooLong
    exact decide_eq_false (by rw [hl, hs]; omega)
  · by_cases c1 : k < 1
    · rw [if_pos c1]
      exact ⟨by decide, ⟨.str Str.empty, H, I.tok _, ⟨_, rfl⟩, q _ ⟨by decide, fun c hc => by simp [Str.empty] at hc⟩⟩⟩
    · rw [if_neg c1]
      by_cases c2 : (k == 1 || i.length == 0) = true
      · rw [if_pos c2]
        exact ⟨.str i, H, I.tok _, ⟨_, rfl⟩, q _ (ti.mono (by decide))⟩
      · rw [if_neg c2]
        have e : ((List.replicate k.toNat i.cps).foldl (· ++ ·) #[]).toList = (List.replicate k.toNat i.cps.toList).flatten := by
          rw [foldl_app]
          rfl
        have l : (⟨(List.replicate k.toNat i.cps).foldl (· ++ ·) #[]⟩ : Str).length = k.toNat := by
          rw [← str_len]
          show (((List.replicate k.toNat i.cps).foldl (· ++ ·) #[]).toList).length = k.toNat
          rw [e, flen]
        refine ⟨by show _ ≤ sizeLine; rw [l, hs]; omega, ⟨.str _, H, I.tok _, ⟨_, rfl⟩, q _ ⟨by rw [l]; omega, fun c hc => ?_⟩⟩⟩
        have hc' : c ∈ (List.replicate k.toNat i.cps.toList).flatten := by
          rw [← e]
          exact hc
        obtain ⟨l', hl', hcl⟩ := List.mem_flatten.mp hc'
        rw [List.eq_of_mem_replicate hl'] at hcl
        exact ti.ok c hcl
/-! ### == of a list of signs and the empty one -/
theorem dp_signs {K : PySem.W.Frag} {H : Hp} : ∀ cs : List Nat, DpAll K H (cs.map fun c => V.str ⟨#[c]⟩) (cs.map fun c => PyData.str ⟨#[c]⟩)
  | [] => .nil
  | c :: r => .cons (.str _) (dp_signs r)
theorem canLay_signs : ∀ cs : List Nat, (∀ c ∈ cs, c < 1114112) → PyData.canLayAll0 (cs.map fun c => PyData.str ⟨#[c]⟩) = true
  | [], _ => by simp [PyData.canLayAll0]
  | c :: r, h => by
    have ih := canLay_signs r fun d hd => h d (List.mem_cons_of_mem _ hd)
    have hc := h c List.mem_cons_self
    simp [PyData.canLayAll0, PyData.canLay0, PyData.strOk, ih, hc]
theorem depth_signs : ∀ cs : List Nat, PyData.depthAll (cs.map fun c => PyData.str ⟨#[c]⟩) ≤ 1
  | [] => by simp [PyData.depthAll]
  | n :: r => by
    have := depth_signs r
    simp only [List.map_cons, PyData.depthAll, PyData.depth]
    omega
theorem shaped_signs (cs : List Nat) (h : ∀ c ∈ cs, c < 1114112) : SeqAt.shaped (.list (cs.map fun c => PyData.str ⟨#[c]⟩)) = true := by
  have h1 := canLay_signs cs h
  have h2 := depth_signs cs
  unfold SeqAt.shaped
  have h3 : PyData.depth (.list (cs.map fun c => PyData.str ⟨#[c]⟩)) ≤ 64 := by
    simp only [PyData.depth]
    omega
  simp only [PyData.canLay0, h1, h3, decide_true, Bool.and_self]
theorem eqv_signs_nil (cs : List Nat) : PyData.eqv (.list (cs.map fun c => PyData.str ⟨#[c]⟩)) (.list []) = cs.isEmpty := by
  cases cs with
  | nil => simp [PyData.eqv, PyData.eqvAll]
  | cons x r => simp [PyData.eqv, PyData.eqvAll]
theorem take_flt {z : Str} {i c : Nat} {p : Nat → Bool} (h : z.cps[i]? = some c) : (z.cps.toList.take (i + 1)).filter p = if p c = true then (z.cps.toList.take i).filter p ++ [c] else (z.cps.toList.take i).filter p := by
  rw [List.take_add_one]
  have e : z.cps.toList[i]? = some c := by rw [Array.getElem?_toList]; exact h
  rw [e, List.filter_append]
  cases q : p c with
  | true => simp [q]
  | false => simp [q]
theorem res_due (z : Str) : inV (.str z) ([.str "", .str "to", .str "if", .str "tag", .str "all", .str "none"] : List V) = ((z == "") || inV (.str z) RES) := by
  show (eqV (.str "") (.str z) || inV (.str z) RES) = _
  congr 1
  show (("" : Str) == z) = (z == ("" : Str))
  exact Bool.eq_iff_iff.mpr ⟨fun h => by rw [eq_of_beq h]; exact beq_self_eq_true _, fun h => by rw [eq_of_beq h]; exact beq_self_eq_true _⟩
theorem empty_len {z : Str} : (z == ("" : Str)) = decide (z.length = 0) := by
  by_cases h : z.length = 0
  · have e : z = ("" : Str) := by
      cases z with
      | mk a =>
        have : a.size = 0 := h
        have : a = #[] := Array.size_eq_zero_iff.mp this
        subst this
        decide +kernel
    rw [e]
    decide +kernel
  · rw [decide_eq_false h]
    refine beq_eq_false_iff_ne.mpr fun e => h ?_
    rw [e]
    decide +kernel
theorem filter_all (f : Nat → Bool) : ∀ l : List Nat, (l.filter fun c => !f c).isEmpty = l.all f
  | [] => rfl
  | c :: r => by
    have ih := filter_all f r
    cases q : f c with
    | true => simp [q, ih]
    | false => simp [q]
def TxV (v : V) : Prop := ∃ z, v = .str z ∧ Tx 100 z
theorem allT_nil : ∀ v ∈ ([] : List V), TxV v := fun v h => by cases h
theorem allT_cons {x : V} {l : List V} (h : TxV x) (t : ∀ v ∈ l, TxV v) : ∀ v ∈ x :: l, TxV v := fun v hv => by
  rcases List.mem_cons.mp hv with e | hv
  · rw [e]; exact h
  · exact t v hv
theorem allV_nil {p : Addr} {H : Hp} : ∀ v ∈ ([] : List V), Tv p H v := fun v h => by cases h
theorem allV_cons {p : Addr} {H : Hp} {x : V} {l : List V} (h : Tv p H x) (t : ∀ v ∈ l, Tv p H v) : ∀ v ∈ x :: l, Tv p H v := fun v hv => by
  rcases List.mem_cons.mp hv with e | hv
  · rw [e]; exact h
  · exact t v hv
theorem allV_app {P : V → Prop} {l m : List V} (h : ∀ v ∈ l, P v) (t : ∀ v ∈ m, P v) : ∀ v ∈ l ++ m, P v := fun v hv => by
  rcases List.mem_append.mp hv with hv | hv
  · exact h v hv
  · exact t v hv
theorem near_word {v : V} (h : v ∈ RES) : ∃ z, v = .str z ∧ Tx 4 z ∧ 2 ≤ z.length := by
  have h' : v = .str "to" ∨ v = .str "if" ∨ v = .str "tag" ∨ v = .str "all" ∨ v = .str "none" := by simpa [RES] using h
  rcases h' with rfl | rfl | rfl | rfl | rfl
  all_goals exact ⟨_, rfl, ⟨by decide +kernel, by decide +kernel⟩, by decide +kernel⟩
theorem Pen.ne {H : Hp} {p c a : Addr} {n : Nat} (P : Pen H p c n) (h : H a = none) : a ≠ p := by
  obtain ⟨xs, e⟩ := P.ob
  exact (ne_of_none e h).symm
theorem line_of {n : Nat} (h : n ≤ 1000000) : n ≤ sizeLine := Nat.le_trans h (by decide)
/-- an exception's own __init__: its fields are the arguments -/
def spIni (C : Addr) (fs : List Str) : Sp := fun xs H Q _ => ∃ (a : Addr) (vs : List V), xs = .ref a :: vs ∧ vs.length = fs.length ∧ H a = some (exo a C none) ∧
  ∀ (d : Addr) (H' : Hp), H d = none → d ≠ a → H' a = some (exo a C (some d)) → H' d = some (exd d (fs.zip vs).reverse) → (∀ b, b ≠ a → b ≠ d → H' b = H b) → Q .non H'
def spIni0 (C : Addr) : Sp := fun xs H Q _ => ∃ a : Addr, xs = [.ref a] ∧ H a = some (exo a C none) ∧ Q .non H
theorem mk_same {a d : Addr} {o : HO} {H H' : Hp} (na : H a = none) (nd : upd H a o d = none) (ne : d ≠ a) (oth : ∀ b, b ≠ a → b ≠ d → H' b = upd H a o b) : Same H H' := fun b u e => by
  have nd' : H d = none := by
    rw [upd_ne ne] at nd
    exact nd
  rw [oth b (ne_of_none e na) (ne_of_none e nd'), upd_ne (ne_of_none e na)]
  exact e
theorem knew {H Hk : Hp} {l : Addr} {o : HO} (S : Same H Hk) (n : Hk l = none) : ∃ H', upd Hk l o = H' ∧ Same H H' ∧ Same Hk H' ∧ H' l = some o := ⟨_, rfl, S.trans (same_upd n), same_upd n, upd_same⟩
theorem takesF {X : Cx} : Takes X (fun _ _ _ _ => False) := fun u s' h => by
  obtain ⟨_, _, _, _, _, _, _, _, _, _, _, _, _, _, _, _, w⟩ := h
  exact w.elim
theorem iteT' {c A B : Prop} [Decidable c] (hc : c) (h : A) : if c then A else B := by
  rw [if_pos hc]
  exact h
theorem iteN' {c A B : Prop} [Decidable c] (hc : ¬ c) (h : B) : if c then A else B := by
  rw [if_neg hc]
  exact h
theorem raised {H H2 : Hp} {a d : Addr} {o u : HO} (na : H a = none) (nd : H d = none) (hb : ∀ b, b ≠ a → b ≠ d → H2 b = upd H a o b) : Same H (upd (del H2 a) d u) := fun b z e => by
  have n1 := ne_of_none e na
  have n2 := ne_of_none e nd
  rw [upd_ne n2, del_ne n1, hb b n1 n2, upd_ne n1]
  exact e
/-- a def f(self, **d) -/
theorem kwX {P : Program} {w : World} {K : PySem.W.Frag} {mg : Str → Option Value} {base : Heap} {x qual : Str} {st : Stmt} {f : Addr} {fd : FuncData} {N : List Str} {k : Nat} {sp : Sp} {ar1 ar2 : Arg} (F : Fun K x qual st f fd) (ha : defArgs st = ⟨[], [ar1], none, [], [], some ar2, []⟩) (S : FnScope N [ar1.arg, ar2.arg] (defScope st))
    (hbody : ∀ (cdv : Value) (A : Around) (outer : List Env) (s : Shared) (H : Hp) (vs : List V) (Q : VK) (E : XK), Room k (A.deeper (PyProof.Rows.envOfC qual (defScope st) s.heap.objs.size f cdv)) → sp vs H Q E →
      ∃ t, PSs (cxOf (L2.CX P w) P w K mg base N qual (defScope st) f cdv A outer s H E) (defBody st) t ∧ t { nx := fun _ H' => Q .non H', rt := Q } (L2.start N vs) H) :
    FnW P w K mg base (L2.CX P w) (k + 1) f (spKw ar1.arg sp) := by
  obtain ⟨oc, od, kV, doc, pm, an, cdv, ct, osl, rfl, lk, hcd⟩ := F.ex
  rw [ha] at lk
  exact fn_kw lk hcd S StX.cxUp fun A outer s H vs Q E hr hsp => hbody cdv A outer s H vs Q E hr hsp
theorem Same.seqT {K : PySem.W.Frag} {H H' : Hp} {a : Addr} {xs : List V} (e : Same H H') (h : SqT K H a xs) : SqT K H' a xs := by
  rcases h with (h | ⟨o, h⟩) | h
  · exact .inl (.inl (e _ _ h))
  · exact .inl (.inr ⟨o, e _ _ h⟩)
  · exact .inr h
/-! ### whole numbers, names, fields -/
def intIn (v : V) (lo hi : Int) : Bool := match v with
  | .int i => decide (lo ≤ i) && decide (i ≤ hi)
  | _ => false
def okN (v : V) : Bool := intIn v 0 1000000000
def spInt : Sp := fun vs H Q _ => ∃ (v : V) (p : Addr) (lo hi : Int), vs = [v, .int lo, .int hi] ∧ Tv p H v ∧ ∀ H', Same H H' → Q (.bl (intIn v lo hi)) H'
/-- raises CE of the thing unless g says yes -/
def spChk (CE : Addr) (g : V → Bool) : Sp := fun vs H Q E => ∃ (v : V) (p : Addr), vs = [v] ∧ Tv p H v ∧ (g v = true → ∀ H', Same H H' → Q .non H') ∧
  (g v = false → ∀ (d : Addr) (H' : Hp), H d = none → Same H H' → H' d = some (.xd [(("value" : Str), v)]) → E (.ref CE) (some d) H')
theorem Same.tv {p : Addr} {H H' : Hp} {v : V} (t : Tv p H v) (s : Same H H') : Tv p H' v := t.keep (same_keep s)
def inrs (kws : List (Str × V)) : List (Key × V) := kws.map fun y => ((Sum.inr y.1 : Key), y.2)
theorem valV_inr : ∀ {kws : List (Str × V)} {k : Str} {v : V}, (kws.map (·.1)).Nodup → (k, v) ∈ kws → valV (inrs kws) (Sum.inr k) = some v
  | y :: r, k, v, nd, h => by
    obtain ⟨n1, n2⟩ := List.nodup_cons.mp (show (y.1 :: r.map (·.1)).Nodup from nd)
    by_cases e : y.1 = k
    · have : y.2 = v := by
        rcases List.mem_cons.mp h with h | h
        · rw [← h]
        · exact absurd (List.mem_map_of_mem (f := (·.1)) h) (by rw [← e]; exact n1)
      rw [← this]
      exact valV_pos (show (Sum.inr y.1 : Key) = Sum.inr k by rw [e])
    · rcases List.mem_cons.mp h with h | h
      · exact absurd (by rw [← h]) e
      · have ih := valV_inr n2 h
        refine (valV_neg (fun q => e (Sum.inr.inj q))).trans ih
theorem mem_val {kws : List (Str × V)} {k : Str} (h : k ∈ kws.map (·.1)) : ∃ v, (k, v) ∈ kws := by
  obtain ⟨y, hy, rfl⟩ := List.mem_map.mp h
  exact ⟨y.2, hy⟩
/-- Signals' own __init__: what all fields are right for, and the first, ascending, that is not -/
def spSInit (C CN CE : Addr) : Sp := fun vs H Q E => ∃ (x d dx p : Addr) (kws : List (Str × V)), vs = [.ref x, .ref d] ∧ H x = some (.ins C dx []) ∧ H d = some (.dK (inrs kws)) ∧ (kws.map (·.1)).Nodup ∧ (∀ y ∈ kws, Tv p H y.2 ∧ Tx 20000 y.1) ∧ kws.length ≤ 60 ∧
  ((∀ y ∈ kws, isName y.1 = true ∧ okN y.2 = true) → ∀ fs H', Keep x H H' → H' x = some (.ins C dx fs) → Q .non H') ∧
  (∀ (ys : List Str) (i : Nat) (k : Str) (v : V), ys.Perm (kws.map (·.1)) → PyProof.Rows.sortedS ys = true → ys[i]? = some k → (k, v) ∈ kws → (∀ k' ∈ ys.take i, ∀ v', (k', v') ∈ kws → isName k' = true ∧ okN v' = true) →
    (isName k = false → ∀ e H', H e = none → Same H H' → H' e = some (.xd [(("value" : Str), .str k)]) → E (.ref CN) (some e) H') ∧
    (isName k = true → okN v = false → ∀ e H', H e = none → Same H H' → H' e = some (.xd [(("value" : Str), v)]) → E (.ref CE) (some e) H'))
theorem okN_int {v : V} (h : okN v = true) : ∃ n : Int, v = .int n := by
  cases v with
  | int n => exact ⟨n, rfl⟩
  | _ => cases h
theorem map_str_at2 {bs : List Str} {i : Nat} {v : V} (h : (bs.map V.str)[i]? = some v) : ∃ b, bs[i]? = some b ∧ v = .str b := by
  rw [List.getElem?_map] at h
  cases e : bs[i]? with
  | none => rw [e] at h; cases h
  | some z =>
    rw [e] at h
    exact ⟨z, rfl, (Option.some.inj h).symm⟩
theorem take_mem_succ {ys : List Str} {i : Nat} {k : Str} (h : ys[i]? = some k) {P : Str → Prop} (a : ∀ y ∈ ys.take i, P y) (hk : P k) : ∀ y ∈ ys.take (i + 1), P y := fun y hy => by
  rw [List.take_add_one, h] at hy
  rcases List.mem_append.mp hy with hy | hy
  · exact a y hy
  · rw [show y = k by simpa using hy]
    exact hk
theorem paired_app {α β : Type} {F : α → β → Prop} : ∀ {a : List α} {b : List β} {c : List α} {d : List β}, Paired F a b → Paired F c d → Paired F (a ++ c) (b ++ d)
  | _, _, _, _, .nil, h => h
  | _, _, _, _, .cons x y, h => .cons x (paired_app y h)
def vk (oks : List (Str × V)) : List (V × V) := oks.map fun y => (V.str y.1, y.2)
/-- Signals.of: pairs that are right one behind the other, then none, or one that is not -/
def spOf (K : PySem.W.Frag) (C CN CE : Addr) : Sp := fun vs H Q E => ∃ (l p : Addr) (ps : List Addr) (qs rest : List (V × V)) (oks : List (Str × V)), vs = [.ref C, .ref l] ∧ (SqL K H l (ps.map V.ref) ∨ SqT K H l (ps.map V.ref)) ∧ Paired (fun a q => H a = some (.tup [q.1, q.2])) ps qs ∧ qs = vk oks ++ rest ∧ qs.length ≤ 60 ∧
  (∀ q ∈ qs, Tv p H q.1 ∧ Tv p H q.2) ∧ (oks.map (·.1)).Nodup ∧ (∀ y ∈ oks, isName y.1 = true ∧ okN y.2 = true) ∧
  (rest = [] → ∀ (x dx : Addr) (fs : List (Str × V)) (H' : Hp), H x = none → Same H H' → H' x = some (.ins C dx fs) → Q (.ref x) H') ∧
  (∀ (f n : V) (more : List (V × V)), rest = (f, n) :: more →
    ((nameV f = false ∨ ∃ z, f = .str z ∧ z ∈ oks.map (·.1)) → ∀ e H', H e = none → Same H H' → H' e = some (.xd [(("value" : Str), f)]) → E (.ref CN) (some e) H') ∧
    (∀ z, f = .str z → isName z = true → z ∉ oks.map (·.1) → okN n = false → ∀ e H', H e = none → Same H H' → H' e = some (.xd [(("value" : Str), n)]) → E (.ref CE) (some e) H') ∧
    (nameV f = false ∨ (∃ z, f = .str z ∧ z ∈ oks.map (·.1)) ∨ okN n = false))
theorem paired_at {α β : Type} {F : α → β → Prop} : ∀ {a : List α} {b : List β} {i : Nat} {x : α}, Paired F a b → a[i]? = some x → ∃ y, b[i]? = some y ∧ F x y
  | _, _, i, x, .nil, h => by simp at h
  | _, _, 0, x, .cons h t, e => by
    simp only [List.getElem?_cons_zero, Option.some.injEq] at e
    subst e
    exact ⟨_, rfl, h⟩
  | _, _, i + 1, x, .cons h t, e => by
    obtain ⟨y, h1, h2⟩ := paired_at t (show _ = some x by simpa using e)
    exact ⟨y, by simpa using h1, h2⟩
theorem map_ref_at7 {bs : List Addr} {i : Nat} {v : V} (h : (bs.map V.ref)[i]? = some v) : ∃ b, bs[i]? = some b ∧ v = .ref b := by
  rw [List.getElem?_map] at h
  cases e : bs[i]? with
  | none => rw [e] at h; cases h
  | some z =>
    rw [e] at h
    exact ⟨z, rfl, (Option.some.inj h).symm⟩
theorem valV_inr_none {kws : List (Str × V)} {k : Str} (h : k ∉ kws.map (·.1)) : valV (inrs kws) (Sum.inr k) = none := by
  unfold valV inrs
  rw [List.find?_eq_none.mpr fun y hy => ?_]
  · rfl
  · obtain ⟨z, hz, rfl⟩ := List.mem_map.mp hy
    intro e
    have e1 : (Sum.inr z.1 : Key) = Sum.inr k := of_decide_eq_true e
    exact h (by rw [← Sum.inr.inj e1]; exact List.mem_map_of_mem hz)
theorem putK_new {kws : List (Str × V)} {k : Str} {v : V} (h : k ∉ kws.map (·.1)) : putK (inrs kws) (Sum.inr k) v = inrs (kws ++ [(k, v)]) := by
  have e : ((inrs kws).any fun kv => decide (kv.1 = Sum.inr k)) = false := by
    refine List.any_eq_false.mpr fun y hy => ?_
    obtain ⟨z, hz, rfl⟩ := List.mem_map.mp hy
    intro e
    have e1 : (Sum.inr z.1 : Key) = Sum.inr k := of_decide_eq_true e
    exact h (by rw [← Sum.inr.inj e1]; exact List.mem_map_of_mem hz)
  unfold putK
  rw [if_neg (by rw [e]; exact Bool.false_ne_true)]
  unfold inrs
  rw [List.map_append]
  rfl
theorem inrs_len (kws : List (Str × V)) : (inrs kws).length = kws.length := List.length_map _
theorem vk_at {oks : List (Str × V)} {rest : List (V × V)} {i : Nat} {f n : V} (h : (vk oks ++ rest)[i]? = some (f, n)) (hi : i < oks.length) : ∃ y, oks[i]? = some y ∧ f = .str y.1 ∧ n = y.2 := by
  rw [List.getElem?_append_left (by unfold vk; rw [List.length_map]; exact hi)] at h
  unfold vk at h
  rw [List.getElem?_map] at h
  cases e : oks[i]? with
  | none => rw [e] at h; cases h
  | some y =>
    rw [e] at h
    have h2 := Option.some.inj h
    injection h2 with h3 h4
    exact ⟨y, rfl, h3.symm, h4.symm⟩
theorem vk_end {oks : List (Str × V)} {rest : List (V × V)} {f n : V} (h : (vk oks ++ rest)[oks.length]? = some (f, n)) : ∃ more, rest = (f, n) :: more := by
  rw [List.getElem?_append_right (by unfold vk; rw [List.length_map]; exact Nat.le_refl _)] at h
  have e : oks.length - (vk oks).length = 0 := by unfold vk; rw [List.length_map, Nat.sub_self]
  rw [e] at h
  cases rest with
  | nil => cases h
  | cons r more =>
    have : r = (f, n) := by simpa using h
    exact ⟨more, by rw [this]⟩
theorem nodup_take {oks : List (Str × V)} {i : Nat} {y : Str × V} (nd : (oks.map (·.1)).Nodup) (h : oks[i]? = some y) : y.1 ∉ (oks.take i).map (·.1) := by
  have e : oks.take (i + 1) = oks.take i ++ [y] := by rw [List.take_add_one, h]; rfl
  have nd2 : ((oks.take (i + 1)).map (·.1)).Nodup := nd.sublist ((List.take_sublist _ _).map _)
  rw [e, List.map_append, List.nodup_append] at nd2
  exact fun hm => nd2.2.2 _ hm _ (List.mem_singleton.mpr rfl) rfl
theorem nameV_str {f : V} (h : nameV f = true) : ∃ z, f = .str z ∧ isName z = true := by
  cases f with
  | str z => exact ⟨z, rfl, h⟩
  | _ => cases h
/-- the pairs that are told: of the names in this order, those that are not 0 -/
def toldOf (kws : List (Str × V)) : List Str → List (Str × Int)
  | [] => []
  | k :: r => match kws.lookup k with
    | some (.int n) => if n = 0 then toldOf kws r else (k, n) :: toldOf kws r
    | _ => toldOf kws r
theorem toldOf_cons (kws : List (Str × V)) (k : Str) (r : List Str) : toldOf kws (k :: r) = match kws.lookup k with
    | some (.int n) => if n = 0 then toldOf kws r else (k, n) :: toldOf kws r
    | _ => toldOf kws r := rfl
theorem toldOf_app (kws : List (Str × V)) : ∀ (a b : List Str), toldOf kws (a ++ b) = toldOf kws a ++ toldOf kws b
  | [], _ => rfl
  | k :: r, b => by
    have ih := toldOf_app kws r b
    rw [List.cons_append, toldOf_cons, toldOf_cons]
    split
    · split
      · exact ih
      · rw [ih]; rfl
    · exact ih
theorem lookup_mem : ∀ {kws : List (Str × V)} {k : Str} {v : V}, (kws.map (·.1)).Nodup → (k, v) ∈ kws → kws.lookup k = some v
  | y :: r, k, v, nd, h => by
    obtain ⟨n1, n2⟩ := List.nodup_cons.mp (show (y.1 :: r.map (·.1)).Nodup from nd)
    rcases List.mem_cons.mp h with h | h
    · subst h
      simp [List.lookup]
    · have : k ≠ y.1 := fun q => n1 (q ▸ List.mem_map_of_mem (f := (·.1)) h)
      have e : (k == y.1) = false := beq_eq_false_iff_ne.mpr this
      rw [show y :: r = (y.1, y.2) :: r from rfl, List.lookup_cons, e]
      exact lookup_mem n2 h
theorem toldOf_succ {kws : List (Str × V)} {zs : List Str} {i : Nat} {k : Str} {n : Int} (h : zs[i]? = some k) (l : kws.lookup k = some (.int n)) : toldOf kws (zs.take (i + 1)) = toldOf kws (zs.take i) ++ (if n = 0 then [] else [(k, n)]) := by
  rw [List.take_add_one, h, toldOf_app]
  congr 1
  show toldOf kws [k] = _
  rw [toldOf_cons, l]
  show (if n = 0 then toldOf kws [] else (k, n) :: toldOf kws []) = _
  rfl
theorem toldOf_len (kws : List (Str × V)) : ∀ zs : List Str, (toldOf kws zs).length ≤ zs.length
  | [] => Nat.le_refl _
  | k :: r => by
    have ih := toldOf_len kws r
    rw [toldOf_cons]
    split
    · split
      · simp only [List.length_cons]; omega
      · simp only [List.length_cons]; omega
    · simp only [List.length_cons]; omega
def kvsOf (ts : List (Str × Int)) : List (Key × V) := ts.map fun y => ((Sum.inr y.1 : Key), .int y.2)
theorem paired_unmap {α β γ : Type} {F : α → β → Prop} {g : γ → β} : ∀ {a : List α} {b : List γ}, Paired F a (b.map g) → Paired (fun x y => F x (g y)) a b
  | [], [], _ => .nil
  | _ :: _, _ :: _, .cons h t => .cons h (paired_unmap t)
/-- no attributes but the two -/
def NoAt (fs : List (Str × V)) : Prop := ∀ z : Str, z ≠ "told" → z ≠ "_numbers" → fs.lookup z = none
theorem noat_two {a b : V} : NoAt (putF "_numbers" a [(("told" : Str), b)]) := fun z h1 h2 => by
  show List.lookup z [(("told" : Str), b), (("_numbers" : Str), a)] = none
  rw [List.lookup_cons, beq_eq_false_iff_ne.mpr h1, List.lookup_cons, beq_eq_false_iff_ne.mpr h2]
  rfl
/-- signals that stand at x and tell ts -/
def SigAt (K : PySem.W.Frag) (C : Addr) (H : Hp) (x : Addr) (ts : List (Str × Int)) : Prop := ∃ (dx t m : Addr) (fo : Obj) (fs : List (Str × V)) (qs : List Addr), H x = some (.ins C dx fs) ∧ fs.lookup ("told" : Str) = some (.ref t) ∧ fs.lookup ("_numbers" : Str) = some (.ref m) ∧ H t = some (.frz fo (.tup (qs.map V.ref))) ∧
  Paired (fun p y => SqT K H p [.str y.1, .int y.2]) qs ts ∧ H m = some (.dK (mergeK [] (kvsOf ts))) ∧ NoAt fs
theorem SigAt.same {K : PySem.W.Frag} {C : Addr} {H H' : Hp} {x : Addr} {ts : List (Str × Int)} (s : SigAt K C H x ts) (e : Same H H') : SigAt K C H' x ts := by
  obtain ⟨dx, t, m, fo, fs, qs, h1, h2, h3, h4, h5, h6⟩ := s
  exact ⟨dx, t, m, fo, fs, qs, e _ _ h1, h2, h3, e _ _ h4, L2.Paired.mapP h5 fun p y h => Same.seqT e h, e _ _ h6.1, h6.2⟩
/-- Signals' own __init__: what is told, and the first, ascending, that is not right -/
def spSInit2 (K : PySem.W.Frag) (C CN CE : Addr) : Sp := fun vs H Q E => ∃ (x d dx p : Addr) (kws : List (Str × V)), vs = [.ref x, .ref d] ∧ H x = some (.ins C dx []) ∧ H d = some (.dK (inrs kws)) ∧ (kws.map (·.1)).Nodup ∧ (∀ y ∈ kws, Tv p H y.2 ∧ Tx 20000 y.1) ∧ kws.length ≤ 60 ∧
  ((∀ y ∈ kws, isName y.1 = true ∧ okN y.2 = true) → ∀ (zs : List Str) H', zs.Perm (kws.map (·.1)) → PyProof.Rows.sortedS zs = true → SigAt K C H' x (toldOf kws zs) → Keep x H H' → Q .non H') ∧
  (∀ (ys : List Str) (i : Nat) (k : Str) (v : V), ys.Perm (kws.map (·.1)) → PyProof.Rows.sortedS ys = true → ys[i]? = some k → (k, v) ∈ kws → (∀ k' ∈ ys.take i, ∀ v', (k', v') ∈ kws → isName k' = true ∧ okN v' = true) →
    (isName k = false → ∀ e H', H e = none → Same H H' → H' e = some (.xd [(("value" : Str), .str k)]) → E (.ref CN) (some e) H') ∧
    (isName k = true → okN v = false → ∀ e H', H e = none → Same H H' → H' e = some (.xd [(("value" : Str), v)]) → E (.ref CE) (some e) H'))
/-- Signals.of: pairs that are right one behind the other, then none, or one that is not -/
def spOf2 (K : PySem.W.Frag) (C CN CE : Addr) : Sp := fun vs H Q E => ∃ (l p : Addr) (ps : List Addr) (qs rest : List (V × V)) (oks : List (Str × V)), vs = [.ref C, .ref l] ∧ (SqL K H l (ps.map V.ref) ∨ SqT K H l (ps.map V.ref)) ∧ Paired (fun a q => H a = some (.tup [q.1, q.2])) ps qs ∧ qs = vk oks ++ rest ∧ qs.length ≤ 60 ∧
  (∀ q ∈ qs, Tv p H q.1 ∧ Tv p H q.2) ∧ (oks.map (·.1)).Nodup ∧ (∀ y ∈ oks, isName y.1 = true ∧ okN y.2 = true) ∧
  (rest = [] → ∀ (x : Addr) (zs : List Str) (H' : Hp), zs.Perm (oks.map (·.1)) → PyProof.Rows.sortedS zs = true → SigAt K C H' x (toldOf oks zs) → H x = none → Same H H' → Q (.ref x) H') ∧
  (∀ (f n : V) (more : List (V × V)), rest = (f, n) :: more →
    ((nameV f = false ∨ ∃ z, f = .str z ∧ z ∈ oks.map (·.1)) → ∀ e H', H e = none → Same H H' → H' e = some (.xd [(("value" : Str), f)]) → E (.ref CN) (some e) H') ∧
    (∀ z, f = .str z → isName z = true → z ∉ oks.map (·.1) → okN n = false → ∀ e H', H e = none → Same H H' → H' e = some (.xd [(("value" : Str), n)]) → E (.ref CE) (some e) H') ∧
    (nameV f = false ∨ (∃ z, f = .str z ∧ z ∈ oks.map (·.1)) ∨ okN n = false))
def tx1 (y : Str × Int) : Str := ((Str.empty ++ y.1) ++ "=") ++ (toString y.2 : Str)
def Fit (ts : List (Str × Int)) : Prop := ts.length ≤ 60 ∧ ∀ y ∈ ts, y.1.length ≤ 100 ∧ y.2.natAbs.log2 < 1920 ∧ (tx1 y).length ≤ 1000 ∧ (Str.empty ++ y.1).length ≤ 1000 ∧ ((Str.empty ++ y.1) ++ "=").length ≤ 1000
theorem fit_sum : ∀ {ts : List (Str × Int)}, (∀ y ∈ ts, (tx1 y).length ≤ 1000) → (((ts.map tx1).map (·.length))).sum ≤ 1000 * ts.length
  | [], _ => Nat.zero_le _
  | y :: r, h => by
    have ih := fit_sum (ts := r) fun z hz => h z (List.mem_cons_of_mem _ hz)
    have h1 := h y List.mem_cons_self
    simp only [List.map_cons, List.sum_cons, List.length_cons] at ih ⊢
    omega
def spText7 (K : PySem.W.Frag) (C : Addr) (g : List (Str × Int) → Str) : Sp := fun vs H Q _ => ∃ (x : Addr) (ts : List (Str × Int)), vs = [.ref x] ∧ SigAt K C H x ts ∧ Fit ts ∧ ∀ H', Same H H' → Q (.str (g ts)) H'
def toldTx (ts : List (Str × Int)) : Str := Txt.join ", " (ts.map tx1)
def spSLen (K : PySem.W.Frag) (C : Addr) : Sp := fun vs H Q _ => ∃ (x : Addr) (ts : List (Str × Int)), vs = [.ref x] ∧ SigAt K C H x ts ∧ Q (.int (ts.length : Int)) H
def spSBool (K : PySem.W.Frag) (C : Addr) : Sp := fun vs H Q _ => ∃ (x : Addr) (ts : List (Str × Int)), vs = [.ref x] ∧ SigAt K C H x ts ∧ Q (.bl (!ts.isEmpty)) H
def reprTx (ts : List (Str × Int)) : Str := ((Str.empty ++ "Signals(") ++ toldTx ts) ++ ")"
def spSRepr (K : PySem.W.Frag) (C : Addr) : Sp := fun vs H Q _ => ∃ (x : Addr) (ts : List (Str × Int)), vs = [.ref x] ∧ SigAt K C H x ts ∧ Fit ts ∧ ((toldTx ts).length ≤ 100000 ∧ ((Str.empty ++ "Signals(") ++ toldTx ts).length ≤ 100010 ∧ (reprTx ts).length ≤ 100020) ∧ ∀ H', Same H H' → Q (.str (reprTx ts)) H'
def spSGet (K : PySem.W.Frag) (C CN : Addr) : Sp := fun vs H Q E => ∃ (x : Addr) (ts : List (Str × Int)) (v : V) (p : Addr), vs = [.ref x, v] ∧ SigAt K C H x ts ∧ Tv p H v ∧ (∀ z, v = .str z → isName z = true → ∀ H', Same H H' → Q ((valV (mergeK [] (kvsOf ts)) (Sum.inr z)).getD (.int 0)) H') ∧
  (nameV v = false → ∀ e H', H e = none → Same H H' → H' e = some (.xd [(("value" : Str), v)]) → E (.ref CN) (some e) H')
def strTx (ts : List (Str × Int)) : Str := if ts = [] then "none" else Txt.join " " (ts.map tx1)
def prD (ts : List (Str × Int)) : List PyData := ts.map fun y => .tuple [.str y.1, .int y.2]
theorem dp_told {K : PySem.W.Frag} {H : Hp} : ∀ {qs : List Addr} {ts : List (Str × Int)}, Paired (fun p y => SqT K H p [.str y.1, .int y.2]) qs ts → DpAll K H (qs.map V.ref) (prD ts)
  | _, _, .nil => .nil
  | _, _, .cons h t => .cons (.tup h (.cons (.str _) (.cons (.int _) .nil))) (dp_told t)
/-- an own == : with signals, a tuple, None -/
def spSEq (K : PySem.W.Frag) (C : Addr) : Sp := fun vs H Q _ => ∃ (x : Addr) (ts : List (Str × Int)) (y : V), vs = [.ref x, y] ∧ SigAt K C H x ts ∧
  ((∃ (y2 : Addr) (us : List (Str × Int)), y = .ref y2 ∧ SigAt K C H y2 us ∧ SeqAt.shaped (.tuple (prD ts)) = true ∧ SeqAt.shaped (.tuple (prD us)) = true ∧ Q (.bl (PyData.eqv (.tuple (prD ts)) (.tuple (prD us)))) H) ∨
   (∃ (y2 : Addr) (ys : List V), y = .ref y2 ∧ (H y2 = some (.tup ys) ∨ ∃ o, H y2 = some (.frz o (.tup ys))) ∧ Q (.bl false) H) ∨ (y = .non ∧ Q (.bl false) H))
def rShow (K : PySem.W.Frag) : List V → Hp → VK → Prop := fun xs H Q => ∃ v d, xs = [v] ∧ ShowAt K H v d ∧ d.showable = true ∧ d.depth ≤ 60 ∧ d.shown.length ≤ sizeLine ∧ Q (.str d.shown) H
theorem cr_show {X : Cx} (c : Calm X.A) (hu : X.A.units + 64 < cLine) : CallR X (.builtin "repr") (rShow X.K) := call_reprS c hu

theorem flt_succ {zs : List Str} {g : Str → Bool} {i : Nat} {z : Str} (h : zs[i]? = some z) : (zs.take (i + 1)).filter g = if g z then (zs.take i).filter g ++ [z] else (zs.take i).filter g := by
  rw [List.take_add_one, h, List.filter_append]
  cases q : g z <;> simp [q]
theorem flt_ne (z : Str) : ∀ B : List Str, B.Nodup → B.length ≤ (B.filter fun a => decide (a ≠ z)).length + 1
  | [], _ => Nat.zero_le _
  | b :: t, nd => by
    have nd' := List.nodup_cons.mp nd
    by_cases e : b = z
    · subst e
      have ef : (t.filter fun a => decide (a ≠ b)) = t := List.filter_eq_self.mpr fun a ha => decide_eq_true fun q => nd'.1 (q ▸ ha)
      rw [List.filter_cons_of_neg (by simp), ef]
      simp
    · have ih := flt_ne z t nd'.2
      rw [List.filter_cons_of_pos (by simpa using e)]
      simp only [List.length_cons]
      omega
theorem flt_out : ∀ (zs B : List Str), B.Nodup → B.length ≤ (B.filter fun a => decide (a ∉ zs)).length + zs.length
  | [], B, _ => by
    have e : (B.filter fun a => decide (a ∉ ([] : List Str))) = B := List.filter_eq_self.mpr fun a _ => decide_eq_true (by simp)
    rw [e]
    exact Nat.le_add_right _ _
  | z :: r, B, nd => by
    have ih := flt_out r B nd
    have h1 := flt_ne z (B.filter fun a => decide (a ∉ r)) (nd.filter _)
    rw [List.filter_filter] at h1
    have e : (B.filter fun a => decide (a ≠ z) && decide (a ∉ r)) = B.filter fun a => decide (a ∉ z :: r) := by
      refine List.filter_congr fun a _ => ?_
      by_cases h2 : a = z <;> by_cases h3 : a ∈ r <;> simp [h2, h3]
    rw [e] at h1
    rw [List.length_cons]
    omega
theorem inV_strs {z : Str} : ∀ zs : List Str, inV (.str z) (zs.map V.str) = decide (z ∈ zs)
  | [] => by simp [inV]
  | y :: r => by
    have ih := inV_strs (z := z) r
    unfold inV at ih ⊢
    rw [List.map_cons, List.any_cons, ih]
    show ((y == z) || _) = _
    by_cases e : y = z
    · subst e
      simp
    · have e' : (y == z) = false := beq_eq_false_iff_ne.mpr e
      have e2 : ¬ z = y := fun q => e q.symm
      simp [e', e2]
theorem flat_strs (zs : List Str) : (zs.map V.str).all flatV = true := by
  rw [List.all_map]
  exact List.all_eq_true.mpr fun _ _ => rfl
def NM7 : List Str := ["alu", "bus", "c", "d7", "shift", "longname", "z0"]
/-- a field's number that is drawn -/
def Num7 (v : V) : Prop := ∃ i : Nat, v = .int (i : Int) ∧ i ≤ 1000000000
def spPairs (K : PySem.W.Frag) : Sp := fun vs H Q _ => ∃ (p c : Addr) (m n : Nat), vs = [.ref p, .int (m : Int)] ∧ m ≤ 6 ∧ Pen H p c n ∧ n ≤ 90000 ∧
  ∀ (l : Addr) (ps : List Addr) (oks : List (Str × V)) (H' : Hp), H l = none → l ≠ p → H' l = some (.lst (ps.map V.ref)) → Paired (fun a q => H' a = some (.tup [q.1, q.2]) ∧ a ≠ p) ps (vk oks) → (oks.map (·.1)).Nodup → (∀ y ∈ oks, y.1 ∈ NM7 ∧ Num7 y.2) → oks.length ≤ m → Pen H' p c (n + 30) → Keep p H H' → Q (.ref l) H'
theorem cpow7 {i j : Int} (h : 0 ≤ j ∧ j ≤ 1000000) (h2 : i.natAbs < 2 ^ 64) : CPow i j := ⟨h.1, h.2, h2⟩
theorem knewK {H Hk : Hp} {p l : Addr} {o : HO} (S : Keep p H Hk) (n : Hk l = none) : ∃ H', upd Hk l o = H' ∧ Keep p H H' ∧ Same Hk H' ∧ H' l = some o := ⟨_, rfl, S.trans (same_keep (same_upd n)), same_upd n, upd_same⟩
theorem num7_of {x1 x2 : Int} {u : V} (a1 : 0 ≤ x1) (b1 : x1 ≤ 1000000000) (a2 : 0 ≤ x2) (b2 : x2 ≤ 1000000000) (mem : u ∈ [V.int 0, .int 1, .int 2, .int 3, .int ((10 : Int) ^ (9 : Int).toNat), .int x1, .int x2]) : Num7 u := by
  simp only [List.mem_cons, List.not_mem_nil, or_false] at mem
  have e9 : (10 : Int) ^ (9 : Int).toNat = ((1000000000 : Nat) : Int) := by decide +kernel
  rcases mem with rfl | rfl | rfl | rfl | rfl | rfl | rfl
  · exact ⟨0, rfl, by decide⟩
  · exact ⟨1, rfl, by decide⟩
  · exact ⟨2, rfl, by decide⟩
  · exact ⟨3, rfl, by decide⟩
  · exact ⟨1000000000, by rw [e9], by decide⟩
  · exact ⟨x1.toNat, by rw [Int.toNat_of_nonneg a1], by omega⟩
  · exact ⟨x2.toNat, by rw [Int.toNat_of_nonneg a2], by omega⟩
def fineS (d : PyData) : Bool := d.showable && decide (d.depth ≤ 60) && decide (d.shown.length ≤ 1000) && PyData.strOk d.shown
theorem fineS_ok {d : PyData} (h : fineS d = true) : d.showable = true ∧ d.depth ≤ 60 ∧ d.shown.length ≤ sizeLine ∧ PyData.strOk d.shown = true := by
  have hs : sizeLine = 16777216 := by decide +kernel
  simp only [fineS, Bool.and_eq_true, decide_eq_true_eq] at h
  exact ⟨h.1.1.1, h.1.1.2, by omega, h.2⟩
/-- a thing that g says no of, and what repr tells of it -/
def Th7 (K : PySem.W.Frag) (p : Addr) (H : Hp) (g : V → Bool) (v : V) (d : PyData) : Prop := fineS d = true ∧ (∀ H', Keep p H H' → ShowAt K H' v d ∧ Tv p H' v) ∧ g v = false
theorem Th7.keep {K : PySem.W.Frag} {p : Addr} {H H' : Hp} {g : V → Bool} {v : V} {d : PyData} (t : Th7 K p H g v d) (k : Keep p H H') : Th7 K p H' g v d := ⟨t.1, fun H2 k2 => t.2.1 H2 (k.trans k2), t.2.2⟩
def spOdd7 (K : PySem.W.Frag) (g : V → Bool) : Sp := fun vs H Q _ => ∃ (p c : Addr) (n : Nat), vs = [.ref p] ∧ Pen H p c n ∧ n ≤ 90000 ∧ ∀ (v : V) (d : PyData) (H' : Hp), Th7 K p H' g v d → Pen H' p c (n + 2) → Keep p H H' → Q v H'
theorem odd_names {K : PySem.W.Frag} {p t1 t2 : Addr} {H : Hp} {v : V} (n1 : t1 ≠ p) (n2 : t2 ≠ p) (e1 : H t1 = some (.tup [])) (e2 : H t2 = some (.dK []))
    (mem : v ∈ [V.non, .int 0, .bl true, .str "", .str "to", .str "if", .str "tag", .str "all", .str "none", .str "9a", .str "Alu", .str "toolongname", .str "a b", .ref t1, .ref t2]) : ∃ d, Th7 K p H nameV v d := by
  have S : ∀ z : Str, fineS (.str z) = true → isName z = false → Tx 20000 z → ∃ d, Th7 K p H nameV (.str z) d := fun z h1 h2 h3 => ⟨.str z, h1, fun H' _ => ⟨.inl (.str _), .str z h3⟩, h2⟩
  simp only [List.mem_cons, List.not_mem_nil, or_false] at mem
  rcases mem with rfl | rfl | rfl | rfl | rfl | rfl | rfl | rfl | rfl | rfl | rfl | rfl | rfl | rfl | rfl
  · exact ⟨.none, by decide +kernel, fun H' _ => ⟨.inl .non, .non⟩, rfl⟩
  · exact ⟨.int 0, by decide +kernel, fun H' _ => ⟨.inl (.int _), .int _⟩, rfl⟩
  · exact ⟨.bool true, by decide +kernel, fun H' _ => ⟨.inl (.bl _), .bl _⟩, rfl⟩
  iterate 10 exact S _ (by decide +kernel) (by decide +kernel) ⟨by decide +kernel, by decide +kernel⟩
  · exact ⟨.tuple [], by decide +kernel, fun H' k => ⟨.inl (.tup (SqT.of (k _ _ e1 n1)) .nil), .tup (k _ _ e1 n1) n1⟩, rfl⟩
  · exact ⟨.dict [], by decide +kernel, fun H' k => ⟨.inr ⟨_, _, _, rfl, k _ _ e2 n2, rfl, .nil⟩, .dK (k _ _ e2 n2) n2⟩, rfl⟩
theorem odd_numbers {K : PySem.W.Frag} {p t1 t2 t3 : Addr} {H : Hp} {v : V} (n1 : t1 ≠ p) (n2 : t2 ≠ p) (n3 : t3 ≠ p) (e1 : H t1 = some (.tup [.int 1])) (e2 : H t2 = some (.lst [.int 1])) (e3 : H t3 = some (.dK []))
    (mem : v ∈ [V.non, .bl true, .bl false, .int (0 - 1), .int ((10 : Int) ^ (9 : Int).toNat + 1), .str "1", .ref t1, .ref t2, .ref t3, .int ((10 : Int) ^ (59 : Int).toNat), .int (0 - (10 : Int) ^ (59 : Int).toNat)]) : ∃ d, Th7 K p H okN v d := by
  have I : ∀ i : Int, fineS (.int i) = true → okN (.int i) = false → ∃ d, Th7 K p H okN (.int i) d := fun i h1 h2 => ⟨.int i, h1, fun H' _ => ⟨.inl (.int _), .int _⟩, h2⟩
  simp only [List.mem_cons, List.not_mem_nil, or_false] at mem
  rcases mem with rfl | rfl | rfl | rfl | rfl | rfl | rfl | rfl | rfl | rfl | rfl
  · exact ⟨.none, by decide +kernel, fun H' _ => ⟨.inl .non, .non⟩, rfl⟩
  · exact ⟨.bool true, by decide +kernel, fun H' _ => ⟨.inl (.bl _), .bl _⟩, rfl⟩
  · exact ⟨.bool false, by decide +kernel, fun H' _ => ⟨.inl (.bl _), .bl _⟩, rfl⟩
  · exact I _ (by decide +kernel) (by decide +kernel)
  · exact I _ (by decide +kernel) (by decide +kernel)
  · exact ⟨.str "1", by decide +kernel, fun H' _ => ⟨.inl (.str _), .str _ ⟨by decide +kernel, by decide +kernel⟩⟩, rfl⟩
  · exact ⟨.tuple [.int 1], by decide +kernel, fun H' k => ⟨.inl (.tup (SqT.of (k _ _ e1 n1)) (.cons (.int _) .nil)), .tup (k _ _ e1 n1) n1⟩, rfl⟩
  · exact ⟨.list [.int 1], by decide +kernel, fun H' k => ⟨.inl (.lst (SqL.of (k _ _ e2 n2)) (.cons (.int _) .nil)), .lst (k _ _ e2 n2) n2⟩, rfl⟩
  · exact ⟨.dict [], by decide +kernel, fun H' k => ⟨.inr ⟨_, _, _, rfl, k _ _ e3 n3, rfl, .nil⟩, .dK (k _ _ e3 n3) n3⟩, rfl⟩
  · exact I _ (by decide +kernel) (by decide +kernel)
  · exact I _ (by decide +kernel) (by decide +kernel)
/-- what is told of an error -/
def Told (H : Hp) (Q : VK) (x y : Str) : Prop := ∀ (t : Addr) (H' : Hp), H t = none → Same H H' → H' t = some (.tup [.str x, .str y]) → Q (.ref t) H'
def Dup (f : V) (oks : List (Str × V)) : Prop := ∃ z, f = .str z ∧ z ∈ oks.map (·.1)
def spOfL (K : PySem.W.Frag) : Sp := fun vs H Q _ => ∃ (l p : Addr) (ps : List Addr) (qs rest : List (V × V)) (oks : List (Str × V)), vs = [.ref l] ∧ (SqL K H l (ps.map V.ref) ∨ SqT K H l (ps.map V.ref)) ∧ Paired (fun a q => H a = some (.tup [q.1, q.2])) ps qs ∧ qs = vk oks ++ rest ∧ qs.length ≤ 60 ∧
  (∀ q ∈ qs, Tv p H q.1 ∧ Tv p H q.2) ∧ (oks.map (·.1)).Nodup ∧ (∀ y ∈ oks, isName y.1 = true ∧ okN y.2 = true) ∧
  (rest = [] → ∀ (t x : Addr) (H' : Hp), H t = none → Same H H' → H' t = some (.tup [.str "made", .ref x]) → Q (.ref t) H') ∧
  (∀ (f n : V) (more : List (V × V)), rest = (f, n) :: more → ∃ df dn : PyData, fineS df = true ∧ fineS dn = true ∧ (∀ H', Same H H' → ShowAt K H' f df ∧ ShowAt K H' n dn) ∧
    ((nameV f = false ∨ Dup f oks) → Told H Q "name" df.shown) ∧ (nameV f = true → ¬ Dup f oks → okN n = false → Told H Q "number" dn.shown) ∧ (nameV f = false ∨ Dup f oks ∨ okN n = false))
theorem perm2 {a b : Str} {ys : List Str} (h : ys.Perm [b, a]) : ys = [b, a] ∨ ys = [a, b] := by
  have hl := h.length_eq
  match ys, hl, h with
  | [x, y], _, h =>
    have hx : x ∈ [b, a] := h.subset (by simp)
    simp only [List.mem_cons, List.not_mem_nil, or_false] at hx
    rcases hx with e | e
    · left
      rw [e] at h ⊢
      have h2 := (List.perm_cons b).mp h
      rw [List.perm_singleton] at h2
      rw [h2]
    · right
      rw [e] at h ⊢
      have h2 := (List.perm_cons a).mp (h.trans (List.Perm.swap a b []))
      rw [List.perm_singleton] at h2
      rw [h2]
def spBN (K : PySem.W.Frag) : Sp := fun vs H Q _ => ∃ (f s : V) (p : Addr) (df ds : PyData), vs = [f, s] ∧ Tv p H f ∧ Tv p H s ∧ fineS df = true ∧ fineS ds = true ∧ (∀ H', Same H H' → ShowAt K H' f df ∧ ShowAt K H' s ds) ∧
  ((okN f = false ∧ Told H Q "number" df.shown) ∨ (okN f = true ∧ okN s = false ∧ Told H Q "number" ds.shown))
def spBON (K : PySem.W.Frag) : Sp := fun vs H Q _ => ∃ (f s : V) (w : Int) (p : Addr) (df : PyData), vs = [f, s, .int w] ∧ Tv p H f ∧ Tv p H s ∧ fineS df = true ∧ (∀ H', Same H H' → ShowAt K H' f df) ∧
  ((w = 0 ∧ okN f = false ∧ Told H Q "number" df.shown) ∨ (w = 1 ∧ Told H Q "name" (PyData.str "B").shown))
theorem made_same {H : Hp} {x dx d C : Addr} {o : HO} (nx : H x = none) (ndx : H dx = none) (ne : dx ≠ x) (nd : (upd (upd H dx (.own x)) x (.ins C dx [])) d = none) : Same H (upd (upd (upd H dx (.own x)) x (.ins C dx [])) d o) ∧ (upd (upd (upd H dx (.own x)) x (.ins C dx [])) d o) x = some (.ins C dx []) := by
  have sx : Same H (upd (upd H dx (.own x)) x (.ins C dx [])) := (same_upd ndx).trans (same_upd (by rw [upd_ne ne.symm]; exact nx))
  exact ⟨sx.trans (same_upd nd), same_upd nd _ _ upd_same⟩
theorem tx_bus : Tx 20000 "bus" := ⟨by decide +kernel, by decide +kernel⟩
theorem tx_alu : Tx 20000 "alu" := ⟨by decide +kernel, by decide +kernel⟩
theorem tx_to : Tx 20000 "to" := ⟨by decide +kernel, by decide +kernel⟩
theorem tx_B : Tx 20000 "B" := ⟨by decide +kernel, by decide +kernel⟩
theorem ns_bus : ("bus" : Str) ≠ "this_object" := by decide +kernel
theorem ns_alu : ("alu" : Str) ≠ "this_object" := by decide +kernel
theorem ns_to : ("to" : Str) ≠ "this_object" := by decide +kernel
theorem ns_B : ("B" : Str) ≠ "this_object" := by decide +kernel
def rLst (K : PySem.W.Frag) : List V → Hp → VK → Prop := fun xs H Q => ∃ p ys, xs = [.ref p] ∧ (SqL K H p ys ∨ SqT K H p ys) ∧ ∀ l, H l = none → Q (.ref l) (upd H l (.lst ys))
theorem cr_lst {X : Cx} : CallR X (.type "list") (rLst X.K) := by
  intro pins s σ H xs us Q I r h
  obtain ⟨p, ys, e, hq, q⟩ := h
  exact call_list_of pins s σ H xs us Q I r ⟨p, ys, e, hq, q⟩
theorem len_app (a b : Str) : (a ++ b).length = a.length + b.length := by
  show (a.cps ++ b.cps).size = a.cps.size + b.cps.size
  exact Array.size_append
def tx2 (y : Str × Int) : Str := (y.1 ++ "=") ++ (toString y.2 : Str)
theorem tx12 : ∀ y : Str × Int, tx1 y = tx2 y := fun y => by
  unfold tx1 tx2
  have : Str.empty ++ y.1 = y.1 := by
    cases h : y.1 with
    | mk a =>
      show Str.mk (#[] ++ a) = Str.mk a
      simp
  rw [this]
def spLText (K : PySem.W.Frag) : Sp := fun vs H Q _ => ∃ (t : Addr) (qs : List Addr) (ts : List (Str × Int)), vs = [.ref t] ∧ SqT K H t (qs.map V.ref) ∧ Paired (fun p y => SqT K H p [.str y.1, .int y.2]) qs ts ∧ Fit ts ∧ SeqAt.shaped (.tuple (prD ts)) = true ∧ ∀ H', Same H H' → Q (.str (strTx ts)) H'
theorem eqv_nil : ∀ ts : List (Str × Int), PyData.eqv (.tuple (prD ts)) (.tuple []) = ts.isEmpty
  | [] => by simp [prD, PyData.eqv, PyData.eqvAll]
  | y :: r => by simp [prD, PyData.eqv, PyData.eqvAll]
def nz (y : Str × Int) : Bool := decide (y.2 ≠ 0)
/-- the pair that stands at a reference -/
def kfS (H : Hp) (v : V) : Str × Int := match v with
  | .ref a => match H a with
    | some (.tup [.str s, .int n]) => (s, n)
    | _ => ("", 0)
  | _ => ("", 0)
theorem kfS_at {H : Hp} {a : Addr} {y : Str × Int} (h : H a = some (.tup [.str y.1, .int y.2])) : kfS H (.ref a) = y := by
  simp only [kfS, h]
theorem kfS_map {H : Hp} : ∀ {sel : List Addr} {ks : List (Str × Int)}, Paired (fun a y => H a = some (.tup [.str y.1, .int y.2])) sel ks → sel.map (fun a => kfS H (.ref a)) = ks
  | _, _, .nil => rfl
  | _, _, .cons h t => by rw [List.map_cons, kfS_at h, kfS_map t]
def spDueOf (K : PySem.W.Frag) : Sp := fun vs H Q _ => ∃ (l : Addr) (ps : List Addr) (ks : List (Str × Int)), vs = [.ref l] ∧ SqL K H l (ps.map V.ref) ∧ Paired (fun a y => H a = some (.tup [.str y.1, .int y.2])) ps ks ∧ ks.length ≤ 60 ∧
  ∀ (t : Addr) (qs : List Addr) (ts : List (Str × Int)) (H' : Hp), ts.Perm (ks.filter nz) → ts.Pairwise (fun a b => SrtO.lexS b a = false) → H t = none → Same H H' → H' t = some (.tup (qs.map V.ref)) → Paired (fun a y => H' a = some (.tup [.str y.1, .int y.2])) qs ts → Q (.ref t) H'
theorem refs_of {H : Hp} : ∀ {ys : List V}, (∀ u ∈ ys, ∃ a, u = V.ref a ∧ H a = some (.tup [.str (kfS H u).1, .int (kfS H u).2])) → ∃ qs : List Addr, ys = qs.map V.ref ∧ Paired (fun a y => H a = some (.tup [.str y.1, .int y.2])) qs (ys.map (kfS H))
  | [], _ => ⟨[], rfl, .nil⟩
  | u :: r, h => by
    obtain ⟨qs, e, p⟩ := refs_of (ys := r) fun v hv => h v (List.mem_cons_of_mem _ hv)
    obtain ⟨a, eu, ha⟩ := h u List.mem_cons_self
    exact ⟨a :: qs, by rw [eu, e]; rfl, .cons ha p⟩
def spRef6 (K : PySem.W.Frag) (C : Addr) : Sp := fun vs H Q _ => ∃ (x : Addr) (ts : List (Str × Int)) (v : V) (p : Addr) (d : PyData), vs = [.ref x, v] ∧ SigAt K C H x ts ∧ Tv p H v ∧ nameV v = false ∧ fineS d = true ∧ (∀ H', Same H H' → ShowAt K H' v d) ∧ ∀ H', Same H H' → Q (.bl true) H'
/-- signals that tell ts, and a tuple of the same pairs -/
def spIsR (K : PySem.W.Frag) (C : Addr) : Sp := fun vs H Q _ => ∃ (x t : Addr) (qs : List Addr) (ts : List (Str × Int)), vs = [.ref x, .ref t] ∧ SigAt K C H x ts ∧ SqT K H t (qs.map V.ref) ∧ Paired (fun p y => SqT K H p [.str y.1, .int y.2]) qs ts ∧ Fit ts ∧ SeqAt.shaped (.tuple (prD ts)) = true ∧ (ts.map (·.1)).Nodup ∧ ∀ H', Same H H' → Q (.bl true) H'
theorem inj_of : ∀ {l : List (Str × Int)} {a b : Str × Int}, (l.map (·.1)).Nodup → a ∈ l → b ∈ l → a.1 = b.1 → a = b
  | y :: r, a, b, nd, ha, hb, e => by
    obtain ⟨n1, n2⟩ := List.nodup_cons.mp (show (y.1 :: r.map (·.1)).Nodup from nd)
    rcases List.mem_cons.mp ha with ha | ha <;> rcases List.mem_cons.mp hb with hb | hb
    · rw [ha, hb]
    · exact absurd (by rw [← ha, e]; exact List.mem_map_of_mem hb) n1
    · exact absurd (by rw [← hb, ← e]; exact List.mem_map_of_mem ha) n1
    · exact inj_of n2 ha hb e
theorem eqv_pr : ∀ ts us : List (Str × Int), PyData.eqvAll (prD ts) (prD us) = decide (ts = us)
  | [], [] => by simp [prD, PyData.eqvAll]
  | [], _ :: _ => by simp [prD, PyData.eqvAll]
  | _ :: _, [] => by simp [prD, PyData.eqvAll]
  | (a, i) :: r, (b, j) :: t => by
    have ih := eqv_pr r t
    unfold prD at ih
    simp only [prD, List.map_cons, PyData.eqvAll, PyData.eqv, ih]
    by_cases h1 : a = b <;> by_cases h2 : i = j <;> by_cases h3 : r = t <;> simp [h1, h2, h3]
theorem eqv_prT (ts us : List (Str × Int)) : PyData.eqv (.tuple (prD ts)) (.tuple (prD us)) = decide (ts = us) := by
  rw [← eqv_pr]
  simp [PyData.eqv]
theorem rising_all : ∀ (r : List Str) (p : Str), PyProof.Rows.risingS p r = true → (∀ x ∈ r, SrtO.ltSt x p = false) ∧ r.Pairwise (fun a b => SrtO.ltSt b a = false)
  | [], _, _ => ⟨(fun _ h => by cases h), List.Pairwise.nil⟩
  | x :: r, p, h => by
    unfold PyProof.Rows.risingS at h
    obtain ⟨h1, h2⟩ := Bool.and_eq_true_iff.mp h
    obtain ⟨a, b⟩ := rising_all r x h2
    have hx : SrtO.ltSt x p = false := by
      unfold SrtO.ltSt
      rw [PyProof.Rows.lt_meets]
      simpa using h1
    refine ⟨fun y hy => ?_, List.pairwise_cons.mpr ⟨a, b⟩⟩
    rcases List.mem_cons.mp hy with rfl | hy
    · exact hx
    · exact SrtO.ltSt_tr hx (a y hy)
theorem sorted_all {zs : List Str} (h : PyProof.Rows.sortedS zs = true) : zs.Pairwise (fun a b => SrtO.ltSt b a = false) := by
  cases zs with
  | nil => exact .nil
  | cons x r =>
    obtain ⟨a, b⟩ := rising_all r x h
    exact List.pairwise_cons.mpr ⟨a, b⟩
def gT (kws : List (Str × V)) (k : Str) : Option (Str × Int) := match kws.lookup k with
  | some (.int n) => if n = 0 then none else some (k, n)
  | _ => none
theorem toldOf_fm (kws : List (Str × V)) : ∀ zs : List Str, toldOf kws zs = zs.filterMap (gT kws)
  | [] => rfl
  | k :: r => by
    have ih := toldOf_fm kws r
    rw [toldOf_cons, List.filterMap_cons, ← ih]
    cases e : kws.lookup k with
    | none =>
      have g : gT kws k = none := by unfold gT; rw [e]
      rw [g]
    | some v =>
      cases v with
      | int n =>
        by_cases h : n = 0
        · have g : gT kws k = none := by
            unfold gT
            rw [e]
            exact if_pos h
          rw [g]
          exact if_pos h
        · have g : gT kws k = some (k, n) := by
            unfold gT
            rw [e]
            exact if_neg h
          rw [g]
          exact if_neg h
      | _ =>
        have g : gT kws k = none := by unfold gT; rw [e]
        rw [g]
theorem gT_of {ks : List (Str × Int)} {y : Str × Int} (nd : (ks.map (·.1)).Nodup) (h : y ∈ ks) : gT (ks.map fun y => (y.1, V.int y.2)) y.1 = if nz y then some y else none := by
  have nd2 : ((ks.map fun y => (y.1, V.int y.2)).map (·.1)).Nodup := by rw [List.map_map]; exact nd
  have l := lookup_mem (v := V.int y.2) nd2 (List.mem_map.mpr ⟨y, h, rfl⟩)
  unfold gT nz
  rw [l]
  by_cases h0 : y.2 = 0 <;> simp [h0]
theorem fm_names {ks : List (Str × Int)} (nd : (ks.map (·.1)).Nodup) : (ks.map (·.1)).filterMap (gT (ks.map fun y => (y.1, V.int y.2))) = ks.filter nz := by
  have key : ∀ l : List (Str × Int), (∀ y ∈ l, y ∈ ks) → (l.map (·.1)).filterMap (gT (ks.map fun y => (y.1, V.int y.2))) = l.filter nz := by
    intro l
    induction l with
    | nil => intro _; rfl
    | cons y r ih =>
      intro hm
      rw [List.map_cons, List.filterMap_cons, gT_of nd (hm y List.mem_cons_self), ih fun z hz => hm z (List.mem_cons_of_mem _ hz)]
      by_cases h : nz y = true
      · rw [if_pos h, List.filter_cons_of_pos h]
      · rw [if_neg h, List.filter_cons_of_neg h]
  exact key ks fun y h => h
theorem gT_fst {kws : List (Str × V)} {k : Str} {y : Str × Int} (h : gT kws k = some y) : y.1 = k := by
  unfold gT at h
  split at h
  · split at h
    · cases h
    · injection h with h
      rw [← h]
  · cases h
theorem toldOf_sorted {kws : List (Str × V)} : ∀ {zs : List Str}, zs.Pairwise (fun a b => SrtO.ltSt b a = false) → (toldOf kws zs).Pairwise (fun a b => SrtO.ltSt b.1 a.1 = false)
  | zs, h => by
    rw [toldOf_fm]
    refine List.Pairwise.filterMap _ (fun a b hab x hx y hy => ?_) h
    rw [gT_fst hx, gT_fst hy]
    exact hab
/-- told is the sorted pairs that are not 0, whatever way they are sorted -/
theorem told_is {ks ts : List (Str × Int)} {zs : List Str} (nd : (ks.map (·.1)).Nodup) (hz : zs.Perm (ks.map (·.1))) (hs : PyProof.Rows.sortedS zs = true) (hp : ts.Perm (ks.filter nz)) (hl : ts.Pairwise (fun a b => SrtO.lexS b a = false)) : toldOf (ks.map fun y => (y.1, V.int y.2)) zs = ts := by
  have p1 : (toldOf (ks.map fun y => (y.1, V.int y.2)) zs).Perm (ks.filter nz) := by
    rw [toldOf_fm, ← fm_names nd]
    exact hz.filterMap _
  have s1 := toldOf_sorted (kws := ks.map fun y => (y.1, V.int y.2)) (sorted_all hs)
  have s2 : ts.Pairwise (fun a b => SrtO.ltSt b.1 a.1 = false) := hl.imp fun {a b} h => by
    by_cases e : b.1 = a.1
    · rw [e]; exact SrtO.ltSt_refl _
    · rw [SrtO.lexS_ne e] at h; exact h
  have nd2 : ((ks.filter nz).map (·.1)).Nodup := nd.sublist (List.filter_sublist.map _)
  refine List.Perm.eq_of_pairwise (fun a b ha hb h1 h2 => ?_) s1 s2 (p1.trans hp.symm)
  have e : a.1 = b.1 := SrtO.str_eq_of h2 h1
  have ha' := p1.mem_iff.mp ha
  have hb' := hp.mem_iff.mp hb
  exact inj_of nd2 ha' hb' e
theorem numtx_len {n : Int} (h0 : 0 ≤ n) (h1 : n ≤ 1000000000) : (toString n : Str).length ≤ 10 := PyProof.Rows.toString_length_le h0 (by decide) (by omega)
theorem emp_app (a : Str) : Str.empty ++ a = a := by
  cases a with
  | mk a =>
    show Str.mk (#[] ++ a) = Str.mk a
    simp
theorem fit_of {ts : List (Str × Int)} (hl : ts.length ≤ 60) (h : ∀ y ∈ ts, y.1.length ≤ 8 ∧ 0 ≤ y.2 ∧ y.2 ≤ 1000000000) : Fit ts := by
  refine ⟨hl, fun y hy => ?_⟩
  obtain ⟨h1, h2, h3⟩ := h y hy
  have e1 : ("=" : Str).length = 1 := by decide +kernel
  have s := numtx_len h2 h3
  refine ⟨by omega, ?_, ?_, ?_, ?_⟩
  · have : y.2.natAbs < 2 ^ 1920 := Nat.lt_of_lt_of_le (by omega : y.2.natAbs < 2 ^ 30) (Nat.pow_le_pow_right (by decide) (by decide))
    by_cases z : y.2.natAbs = 0
    · rw [z]; decide
    · exact (Nat.log2_lt z).mpr this
  · rw [tx12]
    unfold tx2
    rw [len_app, len_app]
    omega
  · rw [emp_app]; omega
  · rw [emp_app, len_app]; omega
theorem shaped_pr {ts : List (Str × Int)} (h : ∀ y ∈ ts, PyData.strOk y.1 = true) : SeqAt.shaped (.tuple (prD ts)) = true := by
  have k : ∀ ts : List (Str × Int), (∀ y ∈ ts, PyData.strOk y.1 = true) → PyData.canLayAll0 (prD ts) = true ∧ PyData.depthAll (prD ts) ≤ 3 := by
    intro ts
    induction ts with
    | nil => intro _; exact ⟨by simp [prD, PyData.canLayAll0], by simp [prD, PyData.depthAll]⟩
    | cons y r ih =>
      intro hh
      obtain ⟨a, b⟩ := ih fun z hz => hh z (List.mem_cons_of_mem _ hz)
      have hy := hh y List.mem_cons_self
      unfold prD at a b ⊢
      refine ⟨?_, ?_⟩
      · simp [PyData.canLayAll0, PyData.canLay0, a, hy, PyData.depth, PyData.depthAll]
      · simp only [List.map_cons, PyData.depthAll, PyData.depth] at b ⊢
        omega
  obtain ⟨a, b⟩ := k ts h
  unfold SeqAt.shaped
  have d : PyData.depth (.tuple (prD ts)) ≤ 64 := by
    simp only [PyData.depth]
    omega
  simp only [PyData.canLay0, a, d, decide_true, Bool.and_self]
theorem join_len (y : Str) : ∀ ps : List Str, (Str.join y ps).length ≤ (ps.map (·.length)).sum + ps.length * y.length
  | [] => by show (0 : Nat) ≤ _; exact Nat.zero_le _
  | [p] => by
    show p.length ≤ _
    simp only [List.map_cons, List.map_nil, List.sum_cons, List.sum_nil]
    omega
  | x :: z :: r => by
    have ih := join_len y (z :: r)
    show (x ++ y ++ Str.join y (z :: r)).length ≤ _
    rw [len_app, len_app]
    simp only [List.map_cons, List.sum_cons, List.length_cons, Nat.add_mul, Nat.one_mul] at ih ⊢
    omega
theorem told_len {ts : List (Str × Int)} (h : Fit ts) : (toldTx ts).length ≤ 100000 ∧ ((Str.empty ++ "Signals(") ++ toldTx ts).length ≤ 100010 ∧ (reprTx ts).length ≤ 100020 := by
  have e : (toldTx ts).length ≤ 100000 := by
    unfold toldTx
    rw [TL.join_eq]
    have h1 := join_len ", " (ts.map tx1)
    have h2 := fit_sum fun y hy => (h.2 y hy).2.2.1
    have h3 := h.1
    have h4 : (", " : Str).length = 2 := by decide +kernel
    rw [h4, List.length_map] at h1
    omega
  have e1 : (Str.empty ++ "Signals(" : Str).length = 8 := by decide +kernel
  have e2 : (")" : Str).length = 1 := by decide +kernel
  have e3 := len_app (Str.empty ++ "Signals(") (toldTx ts)
  have e4 : (reprTx ts).length = ((Str.empty ++ "Signals(") ++ toldTx ts).length + (")" : Str).length := len_app _ _
  rw [e1] at e3
  rw [e2] at e4
  omega
/-- the number of a name -/
def numOf (ts : List (Str × Int)) (z : Str) : Int := (ts.lookup z).getD 0
theorem merge_new : ∀ {more kvs : List (Key × V)}, ((kvs ++ more).map (·.1)).Nodup → mergeK kvs more = kvs ++ more
  | [], kvs, _ => by rw [List.append_nil]; rfl
  | y :: r, kvs, nd => by
    have e : putK kvs y.1 y.2 = kvs ++ [y] := by
      unfold putK
      have : (kvs.any fun kv => decide (kv.1 = y.1)) = false := by
        refine List.any_eq_false.mpr fun z hz e => ?_
        rw [List.map_append, List.nodup_append] at nd
        exact nd.2.2 _ (List.mem_map_of_mem hz) _ (by simp) (of_decide_eq_true e)
      rw [if_neg (by rw [this]; exact Bool.false_ne_true)]
    show mergeK (putK kvs y.1 y.2) r = _
    rw [e, merge_new (by rw [List.append_assoc]; exact nd), List.append_assoc]
    rfl
theorem kvs_nodup {ts : List (Str × Int)} (nd : (ts.map (·.1)).Nodup) : ((kvsOf ts).map (·.1)).Nodup := by
  unfold kvsOf
  rw [List.map_map]
  have := List.Pairwise.map (R := fun a b : Str => a ≠ b) (S := fun a b : Key => a ≠ b) (fun s => (Sum.inr s : Key)) (fun a b h e => h (Sum.inr.inj e)) nd
  rw [List.map_map] at this
  exact this
theorem merge_told {ts : List (Str × Int)} (nd : (ts.map (·.1)).Nodup) : mergeK [] (kvsOf ts) = kvsOf ts := merge_new (kvs := []) (by simpa using kvs_nodup nd)
theorem val_told : ∀ (ts : List (Str × Int)) (z : Str), valV (kvsOf ts) (Sum.inr z) = (ts.lookup z).map V.int
  | [], z => rfl
  | y :: r, z => by
    have ih := val_told r z
    by_cases e : y.1 = z
    · subst e
      have : List.lookup y.1 (y :: r) = some y.2 := by
        rw [show y :: r = (y.1, y.2) :: r from rfl, List.lookup_cons]
        simp
      rw [this]
      exact valV_pos rfl
    · have e2 : (z == y.1) = false := beq_eq_false_iff_ne.mpr fun q => e q.symm
      have : List.lookup z (y :: r) = r.lookup z := by
        rw [show y :: r = (y.1, y.2) :: r from rfl, List.lookup_cons, e2]
      rw [this, ← ih]
      exact valV_neg fun q => e (Sum.inr.inj q)
theorem got_told {ts : List (Str × Int)} (nd : (ts.map (·.1)).Nodup) (z : Str) : (valV (mergeK [] (kvsOf ts)) (Sum.inr z)).getD (.int 0) = .int (numOf ts z) := by
  rw [merge_told nd, val_told]
  unfold numOf
  cases ts.lookup z <;> rfl
theorem num_fit {ts : List (Str × Int)} (h : Fit ts) (z : Str) : (numOf ts z).natAbs.log2 < 1920 := by
  unfold numOf
  cases e : ts.lookup z with
  | none => decide
  | some n =>
    have : ∀ {l : List (Str × Int)}, l.lookup z = some n → (z, n) ∈ l := by
      intro l
      induction l with
      | nil => intro h; cases h
      | cons y r ih =>
        intro h
        rw [show y :: r = (y.1, y.2) :: r from rfl, List.lookup_cons] at h
        by_cases q : (z == y.1) = true
        · rw [q] at h
          have q2 : z = y.1 := eq_of_beq q
          have h2 : y.2 = n := Option.some.inj h
          rw [q2, ← h2]
          exact List.mem_cons_self
        · rw [Bool.not_eq_true] at q
          rw [q] at h
          exact List.mem_cons_of_mem _ (ih h)
    exact (h.2 _ (this e)).2.1
def NM9 : List Str := ["alu", "bus", "c", "d7", "shift", "longname", "z0", "y", "never"]
theorem nm9_ok : ∀ z ∈ NM9, isName z = true ∧ Tx 20000 z := by
  intro z hz
  unfold NM9 at hz
  simp only [List.mem_cons, List.not_mem_nil, or_false] at hz
  rcases hz with rfl | rfl | rfl | rfl | rfl | rfl | rfl | rfl | rfl <;> exact ⟨by decide +kernel, by decide +kernel, by decide +kernel⟩
theorem paired_map {α β γ : Type} {F : α → β → Prop} {g : γ → β} : ∀ {a : List α} {b : List γ}, Paired (fun x y => F x (g y)) a b → Paired F a (b.map g)
  | _, _, .nil => .nil
  | _, _, .cons h t => .cons h (paired_map t)
theorem shown_int_len {i : Int} (h : i.natAbs.log2 < 1920) : (PyData.shown (.int i)).length ≤ sizeLine := int_text_fits h
theorem shown_int (i : Int) : PyData.shown (.int i) = (toString i : Str) := by simp only [PyData.shown]
/-! ### what is known of a heap that only grows: D; the pen beside it -/
theorem Tv.same {p : Addr} {H H' : Hp} {v : V} (t : Tv p H v) (s : Same H H') : Tv p H' v := t.keep (same_keep s)
theorem mv_dp {K : PySem.W.Frag} {H H' : Hp} (S : Same H H') : ∀ {v : V} {d : PyData}, Dp K H v d → Dp K H' v d := by
  intro v d h
  exact Dp.rec (motive_1 := fun v d _ => Dp K H' v d) (motive_2 := fun vs ds _ => DpAll K H' vs ds) .non .bl .int .str (fun h _ ih => .lst (S.seq h) ih) (fun h _ ih => .tup (Same.seqT S h) ih) .nil (fun _ _ a b => .cons a b) h
theorem mv_dps {K : PySem.W.Frag} {H H' : Hp} (S : Same H H') {vs : List V} {ds : List PyData} (h : DpAll K H vs ds) : DpAll K H' vs ds :=
  DpAll.rec (motive_1 := fun v d _ => Dp K H' v d) (motive_2 := fun vs ds _ => DpAll K H' vs ds) .non .bl .int .str (fun h _ ih => .lst (S.seq h) ih) (fun h _ ih => .tup (Same.seqT S h) ih) .nil (fun _ _ a b => .cons a b) h
theorem _root_.Lx.ShowAt.same {K : PySem.W.Frag} {H H' : Hp} {v : V} {d : PyData} (h : ShowAt K H v d) (S : Same H H') : ShowAt K H' v d := by
  rcases h with h | ⟨a, kvs, ds, e, h, r⟩
  · exact .inl (mv_dp S h)
  · exact .inr ⟨a, kvs, ds, e, S _ _ h, r⟩
/-- D: what stays; the pen at p, its cells at c, its place at most n -/
structure G (D H : Hp) (p c : Addr) (n : Nat) : Prop where
  sub : Same D H
  np : D p = none
  pen : ∃ (ns : List Int) (i : Nat) (g : Int), H p = some (.lst [.ref c, .int (i : Int), .int g]) ∧ D c = some (.lst (ns.map V.int)) ∧ ns.length ≤ 60 ∧ i ≤ n
theorem G.toPen {D H : Hp} {p c : Addr} {n : Nat} (W : G D H p c n) : Pen H p c n := by
  obtain ⟨ns, i, g, h1, h2, h3, h4⟩ := W.pen
  exact ⟨ns, i, g, h1, W.sub _ _ h2, h3, h4⟩
theorem same_del {H : Hp} {p : Addr} : Same (del H p) H := fun b o e => by
  by_cases h : b = p
  · subst h; rw [del_same] at e; cases e
  · rw [del_ne h] at e; exact e
theorem G.of {H : Hp} {p c : Addr} {n : Nat} (P : Pen H p c n) : G (del H p) H p c n := by
  obtain ⟨ns, i, g, h1, h2, h3, h4⟩ := P
  exact ⟨same_del, del_same, ns, i, g, h1, by rw [del_ne (cells_ne h2 h1)]; exact h2, h3, h4⟩
theorem G.ne {D H : Hp} {p c a : Addr} {n : Nat} {o : HO} (W : G D H p c n) (h : D a = some o) : a ≠ p := fun e => by
  have := W.np
  rw [← e, h] at this
  cases this
theorem G.at {D H : Hp} {p c : Addr} {n : Nat} (W : G D H p c n) : ∃ xs, H p = some (.lst xs) := by
  obtain ⟨ns, i, g, h1, _⟩ := W.pen
  exact ⟨_, h1⟩
theorem G.nf {D H : Hp} {p c t : Addr} {n : Nat} (W : G D H p c n) (h : H t = none) : t ≠ p := fun e => by
  obtain ⟨xs, h1⟩ := W.at
  rw [← e, h] at h1
  cases h1
theorem G.nl {D H : Hp} {p c a : Addr} {n : Nat} {o : HO} (W : G D H p c n) (h : H a = some o) (no : ∀ xs, o ≠ .lst xs) : a ≠ p := fun e => by
  obtain ⟨xs, h1⟩ := W.at
  rw [← e, h] at h1
  exact no xs (Option.some.inj h1)
theorem G.free {D H : Hp} {p c t : Addr} {n : Nat} (W : G D H p c n) (h : H t = none) : D t = none := W.sub.free h
theorem G.mono {D H : Hp} {p c : Addr} {n m : Nat} (W : G D H p c n) (h : n ≤ m) : G D H p c m := by
  obtain ⟨ns, i, g, h1, h2, h3, h4⟩ := W.pen
  exact ⟨W.sub, W.np, ns, i, g, h1, h2, h3, Nat.le_trans h4 h⟩
theorem map_int_inj : ∀ {a b : List Int}, a.map V.int = b.map V.int → a = b
  | [], [], _ => rfl
  | [], _ :: _, h => by cases h
  | _ :: _, [], h => by cases h
  | x :: a, y :: b, h => by
    injection h with h1 h2
    injection h1 with h1
    rw [h1, map_int_inj h2]
theorem G.keep {D H H' : Hp} {p c : Addr} {n m : Nat} (W : G D H p c n) (k : Keep p H H') (P : Pen H' p c m) : G D H' p c m := by
  obtain ⟨ns, i, g, h1, h2, h3, h4⟩ := W.pen
  obtain ⟨ms, j, f, g1, g2, g3, g4⟩ := P
  have S : Same D H' := fun b o e => k b o (W.sub b o e) (W.ne e)
  refine ⟨S, W.np, ms, j, f, g1, ?_, g3, g4⟩
  have := (S _ _ h2).symm.trans g2
  rw [h2]
  exact this
theorem G.st {D H H' : Hp} {p c : Addr} {n : Nat} (W : G D H p c n) (s : Same H H') : G D H' p c n := W.keep (same_keep s) (W.toPen.same s)
/-- a new object that stays -/
theorem G.new {D H : Hp} {p c t : Addr} {n : Nat} {o : HO} (W : G D H p c n) (h : H t = none) : ∃ D' H', upd H t o = H' ∧ G D' H' p c n ∧ Same D D' ∧ D' t = some o := by
  refine ⟨upd D t o, _, rfl, ?_, same_upd (W.free h), upd_same⟩
  have W2 := W.st (same_upd (o := o) h)
  obtain ⟨ns, i, g, h1, h2, h3, h4⟩ := W2.pen
  refine ⟨fun b x e => ?_, ?_, ns, i, g, h1, same_upd (W.free h) _ _ h2, h3, h4⟩
  · by_cases q : b = t
    · subst q; rw [upd_same] at e ⊢; exact e
    · rw [upd_ne q] at e ⊢; exact W.sub _ _ e
  · rw [upd_ne (W.nf h).symm]; exact W.np
/-- what a call has left, the pen apart -/
theorem G.add2 {D H H' : Hp} {p c : Addr} {n m : Nat} (W : G D H p c n) (k : Keep p H H') (P : Pen H' p c m) : ∃ D', G D' H' p c m ∧ Same D D' ∧ (∀ a o, H' a = some o → a ≠ p → D' a = some o) ∧ D' = del H' p := by
  have W2 := W.keep k P
  refine ⟨del H' p, G.of P, fun b o e => ?_, fun a o e ne => by rw [del_ne ne]; exact e, rfl⟩
  rw [del_ne (W.ne e)]
  exact W2.sub _ _ e
theorem G.add {D H H' : Hp} {p c : Addr} {n : Nat} (W : G D H p c n) (s : Same H H') : ∃ D', G D' H' p c n ∧ Same D D' ∧ (∀ a o, H' a = some o → a ≠ p → D' a = some o) ∧ D' = del H' p := W.add2 (same_keep s) (W.toPen.same s)
theorem G.pick {K : PySem.W.Frag} {D H : Hp} {p c a : Addr} {n : Nat} {xs : List V} {Q : VK} {E : XK} (W : G D H p c n) (hn : n ≤ 90000) (hx : SqL K D a xs ∨ (a ≠ p ∧ SqL K H a xs)) (ha : ∀ o, SqL K D a xs → D a = some o → a ≠ p) (h1 : 1 ≤ xs.length) (h2 : xs.length ≤ 1000) (np : a ≠ p)
    (k : ∀ v H', v ∈ xs → G D H' p c (n + 1) → Q v H') : spPick K [.ref p, .ref a] H Q E :=
  ⟨p, c, a, xs, n, rfl, np, W.toPen, by omega, (by rcases hx with h | ⟨_, h⟩; exact W.sub.seq h; exact h), h1, h2, fun v H' mem P' k' => k v H' mem (W.keep k' P')⟩
/-- pick of a list that is made for it -/
theorem G.pickN {K : PySem.W.Frag} {D H : Hp} {p c : Addr} {n : Nat} {xs : List V} {Q : VK} {E : XK} (W : G D H p c n) (hn : n ≤ 90000) (h1 : 1 ≤ xs.length) (h2 : xs.length ≤ 1000)
    (k : ∀ v H', v ∈ xs → G D H' p c (n + 1) → Q v H') : ∀ l, H l = none → spPick K [.ref p, .ref l] (upd H l (.lst xs)) Q E := fun l nl =>
  ⟨p, c, l, xs, n, rfl, W.nf nl, (W.st (same_upd nl)).toPen, by omega, SqL.of upd_same, h1, h2, fun v H' mem P' k' => k v H' mem ((W.st (same_upd nl)).keep k' P')⟩
theorem G.draw {D H : Hp} {p c : Addr} {n : Nat} {m : Int} {Q : VK} {E : XK} (W : G D H p c n) (hn : n ≤ 90000) (h1 : 1 ≤ m) (h2 : m < 1073741824)
    (k : ∀ r H', 0 ≤ r → r < m → G D H' p c (n + 1) → Q (.int r) H') : spDraw [.ref p, .int m] H Q E :=
  ⟨p, c, m, n, rfl, W.toPen, by omega, h1, h2, fun r H' r0 r1 P' k' => k r H' r0 r1 (W.keep k' P')⟩
def spLaw (K : PySem.W.Frag) : Sp := fun vs H Q _ => ∃ (a : Addr) (ns : List Int), vs = [.ref a] ∧ SqL K H a (ns.map V.int) ∧ ns.length ≤ 63 ∧ ∀ H', Q (.bl true) H'
theorem SigAt.del {K : PySem.W.Frag} {C x : Addr} {ts : List (Str × Int)} {D H' : Hp} {p c : Addr} {n : Nat} (W : G D H' p c n) (f : ∀ a o, H' a = some o → a ≠ p → D a = some o) (h : SigAt K C H' x ts) : SigAt K C D x ts := by
  obtain ⟨dx, t, m, fo, fs, qs, h1, h2, h3, h4, h5, h6⟩ := h
  refine ⟨dx, t, m, fo, fs, qs, f _ _ h1 (W.nl h1 (by intro _ z; cases z)), h2, h3, f _ _ h4 (W.nl h4 (by intro _ z; cases z)), L2.Paired.mapP h5 fun q y h => ?_, f _ _ h6.1 (W.nl h6.1 (by intro _ z; cases z)), h6.2⟩
  rcases h with (h | ⟨o, h⟩) | h
  · exact .inl (.inl (f _ _ h (W.nl h (by intro _ z; cases z))))
  · exact .inl (.inr ⟨o, f _ _ h (W.nl h (by intro _ z; cases z))⟩)
  · exact .inr h
/-- pairs of a name and a number that stand at ps -/
def Prk (H : Hp) (ps : List Addr) (ks : List (Str × Int)) : Prop := Paired (fun a y => H a = some (.tup [.str y.1, .int y.2])) ps ks
theorem Prk.same {H H' : Hp} {ps : List Addr} {ks : List (Str × Int)} (h : Prk H ps ks) (S : Same H H') : Prk H' ps ks := L2.Paired.mapP h fun a y z => S _ _ z
def kv (ks : List (Str × Int)) : List (Str × V) := ks.map fun y => (y.1, V.int y.2)
theorem kv_names (ks : List (Str × Int)) : (kv ks).map (·.1) = ks.map (·.1) := by unfold kv; rw [List.map_map]; rfl
theorem Prk.vk {H : Hp} {ps : List Addr} {ks : List (Str × Int)} (h : Prk H ps ks) : Paired (fun a (q : V × V) => H a = some (.tup [q.1, q.2])) ps (vk (kv ks)) := by
  unfold Toy.vk kv
  rw [List.map_map]
  exact paired_map (F := fun a (q : V × V) => H a = some (.tup [q.1, q.2])) (g := fun y : Str × Int => (V.str y.1, V.int y.2)) h
theorem Prk.tups {K : PySem.W.Frag} {H : Hp} {ps : List Addr} {ks : List (Str × Int)} (h : Prk H ps ks) : Paired (fun p y => SqT K H p [.str y.1, .int y.2]) ps ks := L2.Paired.mapP h fun a y z => SqT.of z
/-- right pairs -/
structure Oks (ks : List (Str × Int)) : Prop where
  nd : (ks.map (·.1)).Nodup
  len : ks.length ≤ 60
  ok : ∀ y ∈ ks, isName y.1 = true ∧ y.1.length ≤ 8 ∧ Tx 20000 y.1 ∧ PyData.strOk y.1 = true ∧ 0 ≤ y.2 ∧ y.2 ≤ 1000000000
theorem Oks.perm {ks us : List (Str × Int)} (h : Oks ks) (p : us.Perm (ks.filter nz)) : Oks us := by
  refine ⟨?_, ?_, fun y hy => h.ok y (List.mem_filter.mp (p.mem_iff.mp hy)).1⟩
  · have := (h.nd.sublist (List.filter_sublist (p := nz).map (·.1)))
    exact (p.map (·.1)).nodup_iff.mpr this
  · rw [p.length_eq]
    exact Nat.le_trans (List.length_filter_le _ _) h.len
theorem Oks.fit {ks : List (Str × Int)} (h : Oks ks) : Fit ks := fit_of h.len fun y hy => ⟨(h.ok y hy).2.1, (h.ok y hy).2.2.2.2⟩
theorem Oks.sh {ks : List (Str × Int)} (h : Oks ks) : SeqAt.shaped (.tuple (prD ks)) = true := shaped_pr fun y hy => (h.ok y hy).2.2.2.1
theorem okN_iff {n : Int} (h0 : 0 ≤ n) (h1 : n ≤ 1000000000) : okN (.int n) = true := by
  unfold okN intIn
  simp only [Bool.and_eq_true, decide_eq_true_eq]
  exact ⟨h0, h1⟩
/-- what is told of right pairs -/
theorem told_perm {ks : List (Str × Int)} {zs : List Str} (nd : (ks.map (·.1)).Nodup) (hz : zs.Perm (ks.map (·.1))) : (toldOf (kv ks) zs).Perm (ks.filter nz) := by
  unfold kv
  rw [toldOf_fm, ← fm_names nd]
  exact hz.filterMap _
/-- sorted pairs are told so -/
def Sorted (ts : List (Str × Int)) : Prop := ts.Pairwise fun a b => SrtO.lexS b a = false
theorem of_right {K : PySem.W.Frag} {C CN CE l : Addr} {H : Hp} {Q : VK} {E : XK} {ps : List Addr} {ks : List (Str × Int)} (p : Addr) (hL : SqL K H l (ps.map V.ref) ∨ SqT K H l (ps.map V.ref)) (hP : Prk H ps ks) (ok : Oks ks)
    (k : ∀ x us H', us.Perm (ks.filter nz) → (∀ ts, ts.Perm (ks.filter nz) → Sorted ts → us = ts) → H x = none → Same H H' → SigAt K C H' x us → Q (.ref x) H') : spOf2 K C CN CE [.ref C, .ref l] H Q E := by
  refine ⟨l, p, ps, Toy.vk (kv ks), [], kv ks, rfl, hL, hP.vk, (List.append_nil _).symm, ?_, fun q hq => ?_, ?_, fun y hy => ?_, fun _ x zs H' hz hs sg nx s => ?_, fun f n more e => by cases e⟩
  · unfold Toy.vk kv
    rw [List.length_map, List.length_map]
    exact ok.len
  · unfold Toy.vk kv at hq
    rw [List.map_map] at hq
    obtain ⟨y, hy, rfl⟩ := List.mem_map.mp hq
    exact ⟨.str _ (ok.ok y hy).2.2.1, .int _⟩
  · rw [kv_names]; exact ok.nd
  · unfold kv at hy
    obtain ⟨z, hz, rfl⟩ := List.mem_map.mp hy
    obtain ⟨h1, _, _, _, h5, h6⟩ := ok.ok z hz
    exact ⟨h1, okN_iff h5 h6⟩
  · rw [kv_names] at hz
    exact k x _ H' (told_perm ok.nd hz) (fun ts hp hl => told_is ok.nd hz hs hp hl) nx s sg
theorem due_right {K : PySem.W.Frag} {l : Addr} {H : Hp} {Q : VK} {E : XK} {ps : List Addr} {ks : List (Str × Int)} (hL : SqL K H l (ps.map V.ref)) (hP : Prk H ps ks) (hl : ks.length ≤ 60)
    (k : ∀ t qs ts H', ts.Perm (ks.filter nz) → Sorted ts → H t = none → Same H H' → H' t = some (.tup (qs.map V.ref)) → Prk H' qs ts → Q (.ref t) H') : spDueOf K [.ref l] H Q E :=
  ⟨l, ps, ks, rfl, hL, hP, hl, fun t qs ts H' hp hs nt s e pr => k t qs ts H' hp hs nt s e pr⟩
theorem isr_right {K : PySem.W.Frag} {C x t : Addr} {H : Hp} {Q : VK} {E : XK} {qs : List Addr} {ts : List (Str × Int)} (hx : SigAt K C H x ts) (hT : SqT K H t (qs.map V.ref)) (hq : Prk H qs ts) (ok : Oks ts) (k : ∀ H', Same H H' → Q (.bl true) H') : spIsR K C [.ref x, .ref t] H Q E :=
  ⟨x, t, qs, ts, rfl, hx, hT, hq.tups, ok.fit, ok.sh, ok.nd, k⟩
theorem eq_right {K : PySem.W.Frag} {C x y : Addr} {H : Hp} {Q : VK} {E : XK} {ts us : List (Str × Int)} (hx : SigAt K C H x ts) (hy : SigAt K C H y us) (o1 : Oks ts) (o2 : Oks us) (k : Q (.bl (decide (ts = us))) H) : Rgt K C (.ref y) H ∧ rOwn C (fun vs H Q E => spSEq K C (vs ++ []) H Q E) E [.ref y] (.ref x) H Q := by
  obtain ⟨dx, t, m, fo, fs, qs, h1, _⟩ := id hx
  obtain ⟨dy, t', m', fo', fs', qs', g1, _⟩ := id hy
  refine ⟨.inl ⟨y, dy, fs', rfl, g1⟩, x, dx, fs, rfl, h1, x, ts, .ref y, rfl, hx, .inl ⟨y, us, rfl, hy, o1.sh, o2.sh, ?_⟩⟩
  rw [eqv_prT]
  exact k
theorem oks_of {oks : List (Str × V)} (nd : (oks.map (·.1)).Nodup) (l : oks.length ≤ 60) (h : ∀ y ∈ oks, y.1 ∈ NM7 ∧ Num7 y.2) : ∃ ks : List (Str × Int), oks = kv ks ∧ Oks ks ∧ ∀ y ∈ ks, y.1 ∈ NM7 := by
  have nm : ∀ z ∈ NM7, isName z = true ∧ z.length ≤ 8 ∧ PyData.strOk z = true ∧ ∀ c ∈ z.cps.toList, c < 1114112 := by decide +kernel
  have key : ∀ oks : List (Str × V), (∀ y ∈ oks, y.1 ∈ NM7 ∧ Num7 y.2) → ∃ ks : List (Str × Int), oks = kv ks ∧ ∀ y ∈ ks, y.1 ∈ NM7 ∧ 0 ≤ y.2 ∧ y.2 ≤ 1000000000 := by
    intro oks
    induction oks with
    | nil => intro _; exact ⟨[], rfl, fun y h => by cases h⟩
    | cons y r ih =>
      intro hh
      obtain ⟨ks, e, hk⟩ := ih fun z hz => hh z (List.mem_cons_of_mem _ hz)
      obtain ⟨h1, i, h2, h3⟩ := hh y List.mem_cons_self
      refine ⟨(y.1, (i : Int)) :: ks, ?_, fun z hz => ?_⟩
      · rw [e]
        show y :: kv ks = (y.1, V.int (i : Int)) :: kv ks
        rw [← h2]
      · rcases List.mem_cons.mp hz with rfl | hz
        · exact ⟨h1, by show (0 : Int) ≤ i; omega, by show (i : Int) ≤ 1000000000; omega⟩
        · exact hk z hz
  obtain ⟨ks, e, hk⟩ := key oks h
  subst e
  rw [kv_names] at nd
  unfold kv at l
  rw [List.length_map] at l
  refine ⟨ks, rfl, ⟨nd, l, fun y hy => ?_⟩, fun y hy => (hk y hy).1⟩
  obtain ⟨h1, h2, h3⟩ := hk y hy
  obtain ⟨a, b, c, d⟩ := nm _ h1
  exact ⟨a, b, ⟨Nat.le_trans b (by decide), d⟩, c, h2, h3⟩
theorem Prk.dps {K : PySem.W.Frag} {D H : Hp} {ps : List Addr} {ks : List (Str × Int)} (h : Prk D ps ks) (S : Same D H) : DpAll K H (ps.map V.ref) (prD ks) := dp_told (h.same S).tups
theorem G.pickA {K : PySem.W.Frag} {D H : Hp} {p c a : Addr} {n : Nat} {xs : List V} {Q : VK} {E : XK} (W : G D H p c n) (ha : D a = some (.lst xs)) (hn : n ≤ 90000) (h1 : 1 ≤ xs.length) (h2 : xs.length ≤ 1000)
    (k : ∀ v H', v ∈ xs → G D H' p c (n + 1) → Q v H') : spPick K [.ref p, .ref a] H Q E :=
  ⟨p, c, a, xs, n, rfl, W.ne ha, W.toPen, by omega, SqL.of (W.sub _ _ ha), h1, h2, fun v H' mem P' k' => k v H' mem (W.keep k' P')⟩
theorem kw_right {K : PySem.W.Frag} {C CN CE : Addr} {H : Hp} {R : Addr → Hp → Prop} {E : XK} {ks : List (Str × Int)} (p : Addr) (ok : Oks ks) (hn : ∀ y ∈ ks, y.1 ≠ "this_object")
    (k : ∀ x us H', us.Perm (ks.filter nz) → (∀ ts, ts.Perm (ks.filter nz) → Sorted ts → us = ts) → H x = none → Same H H' → SigAt K C H' x us → R x H') :
    ∀ x dx, H x = none → H dx = none → dx ≠ x → spKw "this_object" (spSInit2 K C CN CE) (kv ks) [.ref x] (upd (upd H dx (.own x)) x (.ins C dx [])) (fun v H2 => v = .non ∧ R x H2) E := by
  intro x dx nx ndx ne
  have ndk : ((kv ks).map (·.1)).Nodup := by rw [kv_names]; exact ok.nd
  have lk : (kv ks).length = ks.length := List.length_map _
  have l60 := ok.len
  refine ⟨.ref x, rfl, ndk, fun y hy => ?_, by omega, fun d nd => ?_⟩
  · obtain ⟨z, hz, rfl⟩ := List.mem_map.mp hy
    exact hn z hz
  obtain ⟨sa, hx⟩ := made_same (o := .dK (inrs (kv ks))) nx ndx ne nd
  refine ⟨x, d, dx, p, kv ks, rfl, hx, upd_same, ndk, fun y hy => ?_, by omega, fun _ zs H' hz hs sg kx => ⟨rfl, ?_⟩, fun ys i z v hp hso hi hkv _ => ?_⟩
  · obtain ⟨z, hz, rfl⟩ := List.mem_map.mp hy
    exact ⟨.int _, (ok.ok z hz).2.2.1⟩
  · rw [kv_names] at hz
    exact k x _ H' (told_perm ok.nd hz) (fun ts hp hl => told_is ok.nd hz hs hp hl) nx (fun b o e => kx b o (sa _ _ e) (ne_of_none e nx)) sg
  · obtain ⟨y, hy, e⟩ := List.mem_map.mp hkv
    injection e with e1 e2
    obtain ⟨h1, _, _, _, h5, h6⟩ := ok.ok y hy
    subst e1 e2
    exact ⟨fun hb => (by rw [h1] at hb; cases hb), fun _ hb => (by rw [okN_iff h5 h6] at hb; cases hb)⟩
theorem paired_rev {α β : Type} {F : α → β → Prop} : ∀ {a : List α} {b : List β}, Paired F a b → Paired F a.reverse b.reverse
  | _, _, .nil => .nil
  | _, _, .cons h t => by
    rw [List.reverse_cons, List.reverse_cons]
    exact paired_app (paired_rev t) (.cons h .nil)
theorem prk_of {H D : Hp} {p : Addr} {ps : List Addr} {ks : List (Str × Int)} (f : ∀ a o, H a = some o → a ≠ p → D a = some o) (h : Paired (fun a (q : V × V) => H a = some (.tup [q.1, q.2]) ∧ a ≠ p) ps (vk (kv ks))) : Prk D ps ks := by
  unfold Toy.vk kv at h
  rw [List.map_map] at h
  have h2 := paired_unmap (F := fun a (q : V × V) => H a = some (.tup [q.1, q.2]) ∧ a ≠ p) (g := fun y : Str × Int => (V.str y.1, V.int y.2)) h
  exact L2.Paired.mapP h2 fun a y z => f _ _ z.1 z.2
theorem num_pick {xs : List V} {v : V} (h : xs.all okN = true) (m : v ∈ xs) : ∃ n : Int, v = .int n ∧ 0 ≤ n ∧ n ≤ 1000000000 := by
  have hv := List.all_eq_true.mp h v m
  obtain ⟨n, rfl⟩ := okN_int hv
  unfold okN intIn at hv
  simp only [Bool.and_eq_true, decide_eq_true_eq] at hv
  exact ⟨n, rfl, hv⟩
/-- what repr says of pairs -/
theorem prs_show {ks : List (Str × Int)} (ok : Oks ks) : PyData.showable (.list (prD ks)) = true ∧ PyData.depth (.list (prD ks)) ≤ 60 ∧ (PyData.shown (.list (prD ks))).length ≤ sizeLine := by
  have key : ∀ l : List (Str × Int), (∀ y ∈ l, y ∈ ks) → PyData.showableAll (prD l) = true ∧ PyData.depthAll (prD l) ≤ 5 ∧ ((PyData.shownAll (prD l)).map (·.length)).sum ≤ 1000 * l.length ∧ (PyData.shownAll (prD l)).length = l.length := by
    intro l
    induction l with
    | nil => intro _; exact ⟨by simp [prD, PyData.showableAll], by simp [prD, PyData.depthAll], by simp [prD, PyData.shownAll], by simp [prD, PyData.shownAll]⟩
    | cons y r ih =>
      intro hm
      obtain ⟨a, b, c, d⟩ := ih fun z hz => hm z (List.mem_cons_of_mem _ hz)
      obtain ⟨h1, h2, h3, h4, h5, h6⟩ := ok.ok y (hm y List.mem_cons_self)
      have hlog : y.2.natAbs.log2 < 1920 := ((ok.fit).2 y (hm y List.mem_cons_self)).2.1
      have hr := StrLaws.reprText_len y.1 fun c hc => Nat.lt_of_lt_of_le (h3.ok c hc) (by decide)
      have hi : (PyData.shown (.int y.2)).length ≤ 10 := by
        rw [shown_int]
        exact numtx_len h5 h6
      have z := tupleText_len_le (PyData.shownAll [.str y.1, .int y.2])
      have e1 : PyData.shown (.str y.1) = reprText y.1 := by simp only [PyData.shown]
      simp only [PyData.shownAll, List.map_cons, List.map_nil, List.sum_cons, List.sum_nil, List.length_cons, List.length_nil, e1] at z
      have e2 : PyData.shown (.tuple [.str y.1, .int y.2]) = tupleText [PyData.shown (.str y.1), PyData.shown (.int y.2)] := by simp only [PyData.shown, PyData.shownAll]
      rw [← e1, ← e2] at z
      rw [← e1] at hr
      refine ⟨?_, ?_, ?_, ?_⟩
      · show (PyData.showable (.tuple [.str y.1, .int y.2]) && PyData.showableAll (prD r)) = true
        rw [a, Bool.and_true]
        simp [PyData.showable, PyData.showableAll, hlog]
      · show max (PyData.depth (.tuple [.str y.1, .int y.2])) (PyData.depthAll (prD r)) ≤ 5
        have : PyData.depth (.tuple [.str y.1, .int y.2]) ≤ 5 := by simp [PyData.depth, PyData.depthAll]
        omega
      · show (PyData.shown (.tuple [.str y.1, .int y.2])).length + ((PyData.shownAll (prD r)).map (·.length)).sum ≤ _
        rw [List.length_cons]
        omega
      · show (PyData.shownAll (prD r)).length + 1 = _
        rw [d, List.length_cons]
  obtain ⟨a, b, c, d⟩ := key ks fun y h => h
  refine ⟨a, ?_, ?_⟩
  · show PyData.depthAll (prD ks) + 1 ≤ 60
    omega
  · have z := listText_len_le (PyData.shownAll (prD ks))
    have l := ok.len
    have hs : sizeLine = 16777216 := by decide +kernel
    have e : PyData.shown (.list (prD ks)) = listText (PyData.shownAll (prD ks)) := by simp only [PyData.shown]
    rw [e]
    omega
theorem odd6 {K : PySem.W.Frag} {p t1 t2 t3 : Addr} {D : Hp} {v : V} (n1 : t1 ≠ p) (n2 : t2 ≠ p) (n3 : t3 ≠ p) (e1 : D t1 = some (.tup [.str "alu"])) (e2 : D t2 = some (.lst [.str "alu"])) (e3 : D t3 = some (.dK []))
    (mem : v ∈ [V.non, .int 0, .bl true, .str "", .str "to", .str "none", .str "9a", .str "Alu", .str "toolongname", .str "a b", .ref t1, .ref t2, .ref t3]) : ∃ d, fineS d = true ∧ ShowAt K D v d ∧ Tv p D v ∧ nameV v = false := by
  have S : ∀ z : Str, fineS (.str z) = true → isName z = false → Tx 20000 z → ∃ d, fineS d = true ∧ ShowAt K D (.str z) d ∧ Tv p D (.str z) ∧ nameV (.str z) = false := fun z h1 h2 h3 => ⟨.str z, h1, .inl (.str _), .str z h3, h2⟩
  simp only [List.mem_cons, List.not_mem_nil, or_false] at mem
  rcases mem with rfl | rfl | rfl | rfl | rfl | rfl | rfl | rfl | rfl | rfl | rfl | rfl | rfl
  · exact ⟨.none, by decide +kernel, .inl .non, .non, rfl⟩
  · exact ⟨.int 0, by decide +kernel, .inl (.int _), .int _, rfl⟩
  · exact ⟨.bool true, by decide +kernel, .inl (.bl _), .bl _, rfl⟩
  iterate 7 exact S _ (by decide +kernel) (by decide +kernel) ⟨by decide +kernel, by decide +kernel⟩
  · exact ⟨.tuple [.str "alu"], by decide +kernel, .inl (.tup (SqT.of e1) (.cons (.str _) .nil)), .tup e1 n1, rfl⟩
  · exact ⟨.list [.str "alu"], by decide +kernel, .inl (.lst (SqL.of e2) (.cons (.str _) .nil)), .lst e2 n2, rfl⟩
  · exact ⟨.dict [], by decide +kernel, .inr ⟨_, _, _, rfl, e3, rfl, .nil⟩, .dK e3 n3, rfl⟩
/-- told with one pair bent -/
def neq (nm : Str) (y : Str × Int) : Bool := !decide (y.1 = nm)
def BentOk (ts : List (Str × Int)) (nm : Str) (v : Int) : Prop := Oks (ts.filter (neq nm) ++ [(nm, v)]) ∧ ¬ ts.Perm ((ts.filter (neq nm) ++ [(nm, v)]).filter nz)
theorem oks_bent {ts : List (Str × Int)} {nm : Str} {v : Int} (ok : Oks ts) (l : ts.length ≤ 6) (h : isName nm = true ∧ nm.length ≤ 8 ∧ Tx 20000 nm ∧ PyData.strOk nm = true ∧ 0 ≤ v ∧ v ≤ 1000000000) : Oks (ts.filter (neq nm) ++ [(nm, v)]) := by
  refine ⟨?_, ?_, fun y hy => ?_⟩
  · rw [List.map_append, List.nodup_append]
    refine ⟨ok.nd.sublist (List.filter_sublist.map _), by simp, fun a ha b hb e => ?_⟩
    obtain ⟨y, hy, rfl⟩ := List.mem_map.mp ha
    have := (List.mem_filter.mp hy).2
    have hb' : b = nm := by simpa using hb
    unfold neq at this
    rw [e, hb', decide_eq_true rfl] at this
    cases this
  · have := List.length_filter_le (neq nm) ts
    rw [List.length_append, List.length_cons, List.length_nil]
    omega
  · rcases List.mem_append.mp hy with hy | hy
    · exact ok.ok y (List.mem_filter.mp hy).1
    · rw [show y = (nm, v) by simpa using hy]
      exact h
theorem bent_y {ts : List (Str × Int)} (ok : Oks ts) (l : ts.length ≤ 6) (hn : ∀ y ∈ ts, y.1 ∈ NM7) : BentOk ts "y" 1 := by
  refine ⟨oks_bent ok l ⟨by decide +kernel, by decide +kernel, ⟨by decide +kernel, by decide +kernel⟩, by decide +kernel, by decide, by decide⟩, fun hp => ?_⟩
  have hy : (("y" : Str), (1 : Int)) ∈ ts := hp.mem_iff.mpr (List.mem_filter.mpr ⟨by simp, by decide⟩)
  exact absurd (hn _ hy) (by decide +kernel)
theorem bent_at {ts : List (Str × Int)} {y : Str × Int} (ok : Oks ts) (l : ts.length ≤ 6) (hz : ∀ y ∈ ts, nz y = true) (hy : y ∈ ts) : BentOk ts y.1 (y.2 - 1) := by
  obtain ⟨h1, h2, h3, h4, h5, h6⟩ := ok.ok y hy
  have hnz : y.2 ≠ 0 := by simpa [nz] using hz y hy
  refine ⟨oks_bent ok l ⟨h1, h2, h3, h4, by omega, by omega⟩, fun hp => ?_⟩
  have hm := (List.mem_filter.mp (hp.mem_iff.mp hy)).1
  rcases List.mem_append.mp hm with hm | hm
  · have := (List.mem_filter.mp hm).2
    unfold neq at this
    rw [decide_eq_true rfl] at this
    cases this
  · have e : y = (y.1, y.2 - 1) := by simpa using hm
    have := congrArg Prod.snd e
    simp only at this
    omega
theorem y_right : isName ("y" : Str) = true ∧ ("y" : Str).length ≤ 8 ∧ Tx 20000 ("y" : Str) ∧ PyData.strOk ("y" : Str) = true ∧ (0 : Int) ≤ 0 ∧ (0 : Int) ≤ 1000000000 := ⟨by decide +kernel, by decide +kernel, ⟨by decide +kernel, by decide +kernel⟩, by decide +kernel, by decide, by decide⟩
theorem oks_other {ks : List (Str × Int)} (ok : Oks ks) (l : ks.length ≤ 6) (hn : ∀ y ∈ ks, y.1 ∈ NM7) : Oks (ks.reverse ++ [(("y" : Str), (0 : Int))]) ∧ ((ks.reverse ++ [(("y" : Str), (0 : Int))]).filter nz).Perm (ks.filter nz) := by
  refine ⟨⟨?_, by simp; omega, fun y hy => ?_⟩, ?_⟩
  · rw [List.map_append, List.map_reverse, List.nodup_append]
    refine ⟨((List.reverse_perm _).nodup_iff).mpr ok.nd, by simp, fun a ha b hb e => ?_⟩
    obtain ⟨y, hy, rfl⟩ := List.mem_map.mp (List.mem_reverse.mp ha)
    have hb' : b = "y" := by simpa using hb
    have := hn y hy
    rw [e, hb'] at this
    exact absurd this (by decide +kernel)
  · rcases List.mem_append.mp hy with hy | hy
    · exact ok.ok y (List.mem_reverse.mp hy)
    · rw [show y = (("y" : Str), (0 : Int)) by simpa using hy]
      exact y_right
  · rw [List.filter_append]
    have : [(("y" : Str), (0 : Int))].filter nz = [] := by decide +kernel
    rw [this, List.append_nil]
    exact (List.reverse_perm ks).filter _
theorem two_right {i1 i2 : Int} (a1 : 0 ≤ i1) (b1 : i1 ≤ 1000000000) (a2 : 0 ≤ i2) (b2 : i2 ≤ 1000000000) : Oks [(("bus" : Str), i1), (("alu" : Str), i2)] ∧ Oks [(("alu" : Str), i2), (("bus" : Str), i1)] ∧ (∀ y ∈ [(("bus" : Str), i1), (("alu" : Str), i2)], y.1 ≠ "this_object") := by
  have hb : isName ("bus" : Str) = true ∧ ("bus" : Str).length ≤ 8 ∧ Tx 20000 ("bus" : Str) ∧ PyData.strOk ("bus" : Str) = true := ⟨by decide +kernel, by decide +kernel, ⟨by decide +kernel, by decide +kernel⟩, by decide +kernel⟩
  have ha : isName ("alu" : Str) = true ∧ ("alu" : Str).length ≤ 8 ∧ Tx 20000 ("alu" : Str) ∧ PyData.strOk ("alu" : Str) = true := ⟨by decide +kernel, by decide +kernel, ⟨by decide +kernel, by decide +kernel⟩, by decide +kernel⟩
  refine ⟨⟨by show (["bus", "alu"] : List Str).Nodup; decide +kernel, by show 2 ≤ 60; decide, fun y hy => ?_⟩, ⟨by show (["alu", "bus"] : List Str).Nodup; decide +kernel, by show 2 ≤ 60; decide, fun y hy => ?_⟩, fun y hy => ?_⟩
  all_goals
    simp only [List.mem_cons, List.not_mem_nil, or_false] at hy
    rcases hy with rfl | rfl
  · exact ⟨hb.1, hb.2.1, hb.2.2.1, hb.2.2.2, a1, b1⟩
  · exact ⟨ha.1, ha.2.1, ha.2.2.1, ha.2.2.2, a2, b2⟩
  · exact ⟨ha.1, ha.2.1, ha.2.2.1, ha.2.2.2, a2, b2⟩
  · exact ⟨hb.1, hb.2.1, hb.2.2.1, hb.2.2.2, a1, b1⟩
  · exact ns_bus
  · exact ns_alu
theorem oks_nil : Oks [] := ⟨.nil, by decide, fun y h => by cases h⟩
/-! ### sorted pairs, unions -/
def leT (a b : Str × Int) : Bool := !SrtO.lexS b a
def sortT (l : List (Str × Int)) : List (Str × Int) := l.mergeSort leT
theorem sortT_perm (l : List (Str × Int)) : (sortT l).Perm l := List.mergeSort_perm l leT
theorem sortT_sorted (l : List (Str × Int)) : Sorted (sortT l) := by
  have O := SrtO.swo_lexS (fun p : Str × Int => p)
  have h := List.pairwise_mergeSort (le := leT) (fun a b c h1 h2 => by
    unfold leT at h1 h2 ⊢
    have e1 : SrtO.lexS b a = false := by simpa using h1
    have e2 : SrtO.lexS c b = false := by simpa using h2
    rw [O.tr a b c e1 e2]
    rfl) (fun a b => by
    unfold leT
    cases h : SrtO.lexS b a with
    | false => rfl
    | true => rw [O.asym b a h]; rfl) l
  exact h.imp fun {a b} h => by
    unfold leT at h
    simpa using h
theorem sorted_uniq {a b : List (Str × Int)} (nd : (a.map (·.1)).Nodup) (p : a.Perm b) (h1 : Sorted a) (h2 : Sorted b) : a = b := by
  have key : ∀ {l : List (Str × Int)}, Sorted l → l.Pairwise fun a b => SrtO.ltSt b.1 a.1 = false := fun h => h.imp fun {a b} h => by
    by_cases e : b.1 = a.1
    · rw [e]; exact SrtO.ltSt_refl _
    · rw [SrtO.lexS_ne e] at h; exact h
  refine List.Perm.eq_of_pairwise (fun x y hx hy e1 e2 => ?_) (key h1) (key h2) p
  exact inj_of nd hx (p.mem_iff.mpr hy) (SrtO.str_eq_of e2 e1)
/-- what is told of pairs -/
def dueT (ks : List (Str × Int)) : List (Str × Int) := sortT (ks.filter nz)
theorem dueT_perm (ks : List (Str × Int)) : (dueT ks).Perm (ks.filter nz) := sortT_perm _
theorem dueT_sorted (ks : List (Str × Int)) : Sorted (dueT ks) := sortT_sorted _
theorem Oks.due {ks : List (Str × Int)} (h : Oks ks) : Oks (dueT ks) := h.perm (dueT_perm ks)
theorem due_eq {ks ts : List (Str × Int)} (ok : Oks ks) (p : ts.Perm (ks.filter nz)) (s : Sorted ts) : ts = dueT ks := sorted_uniq (ok.perm p).nd (p.trans (dueT_perm ks).symm) s (dueT_sorted ks)
theorem due_nz {ks : List (Str × Int)} : ∀ y ∈ dueT ks, nz y = true := fun y hy => (List.mem_filter.mp ((dueT_perm ks).mem_iff.mp hy)).2
theorem due_len (ks : List (Str × Int)) : (dueT ks).length ≤ ks.length := by
  rw [(dueT_perm ks).length_eq]
  exact List.length_filter_le _ _
theorem due_due {ts : List (Str × Int)} (ok : Oks ts) (hz : ∀ y ∈ ts, nz y = true) (s : Sorted ts) : dueT ts = ts := by
  have e : ts.filter nz = ts := List.filter_eq_self.mpr hz
  exact (due_eq ok (by rw [e]) s).symm
/-! numbers by name -/
theorem lookup_perm {a b : List (Str × Int)} (nd : (a.map (·.1)).Nodup) (p : a.Perm b) (z : Str) : a.lookup z = b.lookup z := by
  have find : ∀ l : List (Str × Int), l.lookup z = (l.find? fun y => y.1 == z).map (·.2) := by
    intro l
    induction l with
    | nil => rfl
    | cons y r ih =>
      rw [show y :: r = (y.1, y.2) :: r from rfl, List.lookup_cons, List.find?_cons]
      by_cases e : y.1 = z
      · have h1 : (z == y.1) = true := by simp [e]
        have h2 : (y.1 == z) = true := by simp [e]
        rw [h1, h2]
        rfl
      · have h1 : (z == y.1) = false := beq_eq_false_iff_ne.mpr fun q => e q.symm
        have h2 : (y.1 == z) = false := beq_eq_false_iff_ne.mpr e
        rw [h1, h2]
        exact ih
  have ndb : (b.map (·.1)).Nodup := (p.map (·.1)).nodup_iff.mp nd
  have mem : ∀ (l : List (Str × Int)), (l.map (·.1)).Nodup → ∀ n : Int, l.lookup z = some n ↔ (z, n) ∈ l := by
    intro l nd n
    constructor
    · intro h
      rw [find] at h
      cases hf : l.find? fun y => y.1 == z with
      | none => rw [hf] at h; cases h
      | some y =>
        rw [hf] at h
        have h1 : y.1 = z := by simpa using List.find?_some hf
        have h2 : y.2 = n := Option.some.inj h
        rw [← h1, ← h2]
        exact List.mem_of_find?_eq_some hf
    · intro h
      rw [find]
      cases hf : l.find? fun y => y.1 == z with
      | none =>
        have := List.find?_eq_none.mp hf (z, n) h
        simp at this
      | some y =>
        have h1 : y.1 = z := by simpa using List.find?_some hf
        have := inj_of nd (List.mem_of_find?_eq_some hf) h h1
        rw [this]
        rfl
  cases ha : a.lookup z with
  | none =>
    cases hb : b.lookup z with
    | none => rfl
    | some n =>
      have := (mem a nd n).mpr (p.mem_iff.mpr ((mem b ndb n).mp hb))
      rw [ha] at this
      cases this
  | some n => exact ((mem b ndb n).mpr (p.mem_iff.mp ((mem a nd n).mp ha))).symm
theorem numOf_cons (y : Str × Int) (r : List (Str × Int)) (z : Str) : numOf (y :: r) z = if y.1 = z then y.2 else numOf r z := by
  unfold numOf
  rw [show y :: r = (y.1, y.2) :: r from rfl, List.lookup_cons]
  by_cases e : y.1 = z
  · rw [if_pos e, show (z == y.1) = true by simp [e]]
    rfl
  · rw [if_neg e, show (z == y.1) = false from beq_eq_false_iff_ne.mpr fun q => e q.symm]
theorem numOf_filter : ∀ (l : List (Str × Int)), (l.map (·.1)).Nodup → ∀ z, numOf (l.filter nz) z = numOf l z
  | [], _, z => rfl
  | y :: r, nd, z => by
    obtain ⟨n1, n2⟩ := List.nodup_cons.mp (show (y.1 :: r.map (·.1)).Nodup from nd)
    have ih := numOf_filter r n2 z
    by_cases h : nz y = true
    · rw [List.filter_cons_of_pos h, numOf_cons, numOf_cons, ih]
    · rw [List.filter_cons_of_neg h, ih, numOf_cons]
      by_cases e : y.1 = z
      · rw [if_pos e]
        have y0 : y.2 = 0 := by simpa [nz] using h
        rw [y0]
        unfold numOf
        cases hl : r.lookup z with
        | none => rfl
        | some n =>
          exfalso
          apply n1
          rw [e]
          have : ∀ l : List (Str × Int), l.lookup z = some n → z ∈ l.map (·.1) := by
            intro l
            induction l with
            | nil => intro h; cases h
            | cons a b ih =>
              intro h
              rw [show a :: b = (a.1, a.2) :: b from rfl, List.lookup_cons] at h
              by_cases q : (z == a.1) = true
              · rw [show z = a.1 from eq_of_beq q]; simp
              · rw [Bool.not_eq_true] at q
                rw [q] at h
                exact List.mem_cons_of_mem _ (ih h)
          exact this r hl
      · rw [if_neg e]
theorem numOf_due {ks : List (Str × Int)} (ok : Oks ks) (z : Str) : numOf (dueT ks) z = numOf ks z := by
  rw [← numOf_filter ks ok.nd z]
  unfold numOf
  rw [lookup_perm ok.due.nd (dueT_perm ks) z]
theorem numOf_mem {ts : List (Str × Int)} (nd : (ts.map (·.1)).Nodup) {y : Str × Int} (h : y ∈ ts) : numOf ts y.1 = y.2 := by
  induction ts with
  | nil => cases h
  | cons x r ih =>
    obtain ⟨n1, n2⟩ := List.nodup_cons.mp (show (x.1 :: r.map (·.1)).Nodup from nd)
    rw [numOf_cons]
    rcases List.mem_cons.mp h with rfl | h
    · rw [if_pos rfl]
    · rw [if_neg fun (e : x.1 = y.1) => n1 (by rw [e]; exact List.mem_map_of_mem (f := (·.1)) h)]
      exact ih n2 h
/-! clashes -/
def clashB (us : List (Str × Int)) (p : Str × Int) : Bool := !(decide (numOf us p.1 = 0) || decide (numOf us p.1 = p.2))
def clashAt (ts us : List (Str × Int)) : Option (Str × Int) := ts.find? (clashB us)
def clV (o : Option (Str × Int)) : V := match o with
  | some p => .str p.1
  | none => .non
/-! one put over the other -/
def putL (l : List (Str × Int)) (y : Str × Int) : List (Str × Int) := if (l.any fun z => decide (z.1 = y.1)) = true then l.map (fun z => if z.1 = y.1 then (z.1, y.2) else z) else l ++ [y]
def mergeL (ts us : List (Str × Int)) : List (Str × Int) := us.foldl putL ts
theorem put_kvs (l : List (Str × Int)) (y : Str × Int) : putK (kvsOf l) (Sum.inr y.1) (.int y.2) = kvsOf (putL l y) := by
  have e : ((kvsOf l).any fun kv => decide (kv.1 = (Sum.inr y.1 : Key))) = l.any fun z => decide (z.1 = y.1) := by
    unfold kvsOf
    rw [List.any_map]
    congr 1
    funext z
    by_cases h : z.1 = y.1
    · simp [h]
    · simp [h]
  unfold putK putL
  rw [e]
  by_cases h : (l.any fun z => decide (z.1 = y.1)) = true
  · rw [if_pos h, if_pos h]
    unfold kvsOf
    rw [List.map_map, List.map_map]
    refine List.map_congr_left fun z _ => ?_
    show (if (Sum.inr z.1 : Key) = Sum.inr y.1 then ((Sum.inr z.1 : Key), V.int y.2) else ((Sum.inr z.1 : Key), V.int z.2)) = _
    by_cases q : z.1 = y.1
    · rw [if_pos (by rw [q])]
      simp [q]
    · rw [if_neg (fun w => q (Sum.inr.inj w))]
      simp [q]
  · rw [if_neg h, if_neg h]
    unfold kvsOf
    rw [List.map_append]
    rfl
theorem merge_kvs : ∀ (us ts : List (Str × Int)), mergeK (kvsOf ts) (kvsOf us) = kvsOf (mergeL ts us)
  | [], _ => rfl
  | y :: r, ts => by
    show mergeK (putK (kvsOf ts) (Sum.inr y.1) (.int y.2)) (kvsOf r) = kvsOf (mergeL (putL ts y) r)
    rw [put_kvs, merge_kvs]
theorem putL_names (l : List (Str × Int)) (y : Str × Int) : (putL l y).map (·.1) = if y.1 ∈ l.map (·.1) then l.map (·.1) else l.map (·.1) ++ [y.1] := by
  have hm : ((l.any fun z => decide (z.1 = y.1)) = true) ↔ y.1 ∈ l.map (·.1) := by
    rw [List.any_eq_true, List.mem_map]
    exact ⟨fun ⟨z, h1, h2⟩ => ⟨z, h1, of_decide_eq_true h2⟩, fun ⟨z, h1, h2⟩ => ⟨z, h1, decide_eq_true h2⟩⟩
  unfold putL
  by_cases h : y.1 ∈ l.map (·.1)
  · rw [if_pos (hm.mpr h), if_pos h, List.map_map]
    refine List.map_congr_left fun z _ => ?_
    show (if z.1 = y.1 then (z.1, y.2) else z).1 = z.1
    split <;> rfl
  · rw [if_neg (fun q => h (hm.mp q)), if_neg h, List.map_append]
    rfl
theorem putL_len (l : List (Str × Int)) (y : Str × Int) : (putL l y).length ≤ l.length + 1 := by
  unfold putL
  split
  · rw [List.length_map]; omega
  · simp
theorem mergeL_len : ∀ (us ts : List (Str × Int)), (mergeL ts us).length ≤ ts.length + us.length
  | [], _ => by show _ ≤ _ + 0; exact Nat.le_refl _
  | y :: r, ts => by
    have h := mergeL_len r (putL ts y)
    have h2 := putL_len ts y
    show (mergeL (putL ts y) r).length ≤ _
    rw [List.length_cons]
    omega
def OkP (y : Str × Int) : Prop := isName y.1 = true ∧ y.1.length ≤ 8 ∧ Tx 20000 y.1 ∧ PyData.strOk y.1 = true ∧ 0 ≤ y.2 ∧ y.2 ≤ 1000000000
theorem putL_ok {l : List (Str × Int)} {y : Str × Int} (nd : (l.map (·.1)).Nodup) (h : ∀ z ∈ l, OkP z) (hy : OkP y) : ((putL l y).map (·.1)).Nodup ∧ ∀ z ∈ putL l y, OkP z := by
  refine ⟨?_, fun z hz => ?_⟩
  · rw [putL_names]
    split
    · exact nd
    · rename_i hn
      refine List.nodup_append.mpr ⟨nd, by simp, fun a ha b hb e => ?_⟩
      have hb' : b = y.1 := by simpa using hb
      exact hn (by rw [← hb', ← e]; exact ha)
  · unfold putL at hz
    split at hz
    · obtain ⟨x, hx, rfl⟩ := List.mem_map.mp hz
      obtain ⟨a, b, c, d, e, f⟩ := h x hx
      split
      · exact ⟨a, b, c, d, hy.2.2.2.2⟩
      · exact ⟨a, b, c, d, e, f⟩
    · rcases List.mem_append.mp hz with hz | hz
      · exact h z hz
      · rw [show z = y by simpa using hz]
        exact hy
theorem mergeL_ok : ∀ (us : List (Str × Int)) {ts : List (Str × Int)}, (ts.map (·.1)).Nodup → (∀ z ∈ ts, OkP z) → (∀ z ∈ us, OkP z) → ((mergeL ts us).map (·.1)).Nodup ∧ ∀ z ∈ mergeL ts us, OkP z
  | [], _, nd, h, _ => ⟨nd, h⟩
  | y :: r, ts, nd, h, hu => by
    obtain ⟨a, b⟩ := putL_ok nd h (hu y List.mem_cons_self)
    exact mergeL_ok r a b fun z hz => hu z (List.mem_cons_of_mem _ hz)
theorem Oks.merge {ts us : List (Str × Int)} (h : Oks ts) (g : Oks us) (l : ts.length + us.length ≤ 60) : Oks (mergeL ts us) := by
  obtain ⟨a, b⟩ := mergeL_ok us h.nd h.ok g.ok
  exact ⟨a, Nat.le_trans (mergeL_len us ts) l, b⟩
def unionT (ts us : List (Str × Int)) : List (Str × Int) := dueT (mergeL ts us)
/-- a tuple of pairs -/
def Ts (K : PySem.W.Frag) (H : Hp) (t : Addr) (ts : List (Str × Int)) : Prop := ∃ qs : List Addr, SqT K H t (qs.map V.ref) ∧ Paired (fun p y => SqT K H p [.str y.1, .int y.2]) qs ts
theorem Ts.same {K : PySem.W.Frag} {H H' : Hp} {t : Addr} {ts : List (Str × Int)} (h : Ts K H t ts) (S : Same H H') : Ts K H' t ts := by
  obtain ⟨qs, h1, h2⟩ := h
  exact ⟨qs, Same.seqT S h1, L2.Paired.mapP h2 fun p y z => Same.seqT S z⟩
theorem Ts.dp {K : PySem.W.Frag} {H : Hp} {t : Addr} {ts : List (Str × Int)} (h : Ts K H t ts) : Dp K H (.ref t) (.tuple (prD ts)) := by
  obtain ⟨qs, h1, h2⟩ := h
  exact .tup h1 (dp_told h2)
/-- what is due of a union: the clash, or what is told -/
def UAt (K : PySem.W.Frag) (H : Hp) (v : V) (ts us : List (Str × Int)) : Prop := ∃ t, v = .ref t ∧
  ((∃ p c, clashAt ts us = some p ∧ SqT K H t [.str "clash", .ref c] ∧ SqT K H c [.str p.1, .int p.2, .int (numOf us p.1)]) ∨ (∃ t2, clashAt ts us = none ∧ SqT K H t [.str "made", .ref t2] ∧ Ts K H t2 (unionT ts us)))
def uD (ts us : List (Str × Int)) : PyData := match clashAt ts us with
  | some p => .tuple [.str "clash", .tuple [.str p.1, .int p.2, .int (numOf us p.1)]]
  | none => .tuple [.str "made", .tuple (prD (unionT ts us))]
theorem UAt.dp {K : PySem.W.Frag} {H : Hp} {v : V} {ts us : List (Str × Int)} (h : UAt K H v ts us) : Dp K H v (uD ts us) := by
  obtain ⟨t, rfl, ⟨p, c, e, h1, h2⟩ | ⟨t2, e, h1, h2⟩⟩ := h
  · unfold uD
    rw [e]
    exact .tup h1 (.cons (.str _) (.cons (.tup h2 (.cons (.str _) (.cons (.int _) (.cons (.int _) .nil)))) .nil))
  · unfold uD
    rw [e]
    exact .tup h1 (.cons (.str _) (.cons h2.dp .nil))
theorem UAt.same {K : PySem.W.Frag} {H H' : Hp} {v : V} {ts us : List (Str × Int)} (h : UAt K H v ts us) (S : Same H H') : UAt K H' v ts us := by
  obtain ⟨t, rfl, ⟨p, c, e, h1, h2⟩ | ⟨t2, e, h1, h2⟩⟩ := h
  · exact ⟨t, rfl, .inl ⟨p, c, e, Same.seqT S h1, Same.seqT S h2⟩⟩
  · exact ⟨t, rfl, .inr ⟨t2, e, Same.seqT S h1, h2.same S⟩⟩
theorem shaped_more {d : PyData} {k : Str} (hk : PyData.strOk k = true) (h : SeqAt.shaped d = true) (hd : d.depth ≤ 50) : SeqAt.shaped (.tuple [.str k, d]) = true := by
  unfold SeqAt.shaped at h ⊢
  obtain ⟨a, b⟩ := Bool.and_eq_true_iff.mp h
  have h3 : PyData.depth (.tuple [.str k, d]) ≤ 64 := by
    simp only [PyData.depth, PyData.depthAll]
    omega
  simp only [PyData.canLay0, PyData.canLayAll0, hk, a, h3, decide_true, Bool.and_self]
theorem prD_depth (ts : List (Str × Int)) : PyData.depth (.tuple (prD ts)) ≤ 10 := by
  have : ∀ l : List (Str × Int), PyData.depthAll (prD l) ≤ 5 := by
    intro l
    induction l with
    | nil => simp [prD, PyData.depthAll]
    | cons y r ih =>
      show max (PyData.depth (.tuple [.str y.1, .int y.2])) (PyData.depthAll (prD r)) ≤ 5
      have : PyData.depth (.tuple [.str y.1, .int y.2]) ≤ 5 := by simp [PyData.depth, PyData.depthAll]
      omega
  show PyData.depthAll (prD ts) + 1 ≤ 10
  have := this ts
  omega
theorem clash_mem {ts us : List (Str × Int)} {p : Str × Int} (h : clashAt ts us = some p) : p ∈ ts := List.mem_of_find?_eq_some h
theorem uD_shaped {ts us : List (Str × Int)} (ok : Oks ts) (ok2 : Oks us) (l : ts.length + us.length ≤ 60) : SeqAt.shaped (uD ts us) = true := by
  unfold uD
  cases e : clashAt ts us with
  | some p =>
    have hs := (ok.ok p (clash_mem e)).2.2.2.1
    refine shaped_more (by decide +kernel) ?_ (by simp [PyData.depth, PyData.depthAll])
    unfold SeqAt.shaped
    have h3 : PyData.depth (.tuple [.str p.1, .int p.2, .int (numOf us p.1)]) ≤ 64 := by simp [PyData.depth, PyData.depthAll]
    simp only [PyData.canLay0, PyData.canLayAll0, hs, h3, decide_true, Bool.and_self]
  | none => exact shaped_more (by decide +kernel) (ok.merge ok2 l).due.sh (Nat.le_trans (prD_depth _) (by decide))
theorem eqv_shaped {d : PyData} (h : SeqAt.shaped d = true) : PyData.eqv d d = true := PySem.SeqAt.eqv_refl d (SeqAt.canLay_of_shaped h)
theorem cut_take (xs : List V) (j : Nat) : cutV xs none (some (j : Int)) = xs.take j := by
  unfold cutV
  rw [HT.sIx_none, show HT.sIx xs.length xs.length (some (j : Int)) = min j xs.length from HT.sIx_nat _ _ j, List.drop_zero, Nat.sub_zero]
  by_cases h : j ≤ xs.length
  · rw [Nat.min_eq_left h]
  · rw [Nat.min_eq_right (by omega), List.take_of_length_le (Nat.le_refl _), List.take_of_length_le (by omega)]
theorem cut_drop (xs : List V) (j : Nat) : cutV xs (some (j : Int)) none = xs.drop j := by
  unfold cutV
  rw [HT.sIx_none, show HT.sIx xs.length 0 (some (j : Int)) = min j xs.length from HT.sIx_nat _ _ j]
  by_cases h : j ≤ xs.length
  · rw [Nat.min_eq_left h]
    exact List.take_of_length_le (by rw [List.length_drop]; omega)
  · rw [Nat.min_eq_right (by omega), List.drop_eq_nil_of_le (by omega), List.drop_eq_nil_of_le (by omega), List.take_nil]
theorem paired_take {α β : Type} {F : α → β → Prop} : ∀ {a : List α} {b : List β} (j : Nat), Paired F a b → Paired F (a.take j) (b.take j) ∧ Paired F (a.drop j) (b.drop j)
  | _, _, 0, h => ⟨.nil, h⟩
  | _, _, j + 1, .nil => ⟨.nil, .nil⟩
  | _, _, j + 1, .cons h t => ⟨.cons h (paired_take j t).1, (paired_take j t).2⟩
/-- pairs whose names are others -/
def outB (zs : List Str) (y : Str × Int) : Bool := decide (y.1 ∉ zs)
theorem oks_sub {a b : List (Str × Int)} (ok : Oks b) (h : a.Sublist b) : Oks a := ⟨ok.nd.sublist (h.map _), Nat.le_trans h.length_le ok.len, fun y hy => ok.ok y (h.subset hy)⟩
theorem oks_app {a b : List (Str × Int)} (oa : Oks a) (ob : Oks b) (l : a.length + b.length ≤ 60) (d : ∀ x ∈ a, ∀ y ∈ b, x.1 ≠ y.1) : Oks (a ++ b) := by
  refine ⟨?_, by rw [List.length_append]; exact l, fun y hy => ?_⟩
  · rw [List.map_append, List.nodup_append]
    refine ⟨oa.nd, ob.nd, fun x hx y hy => ?_⟩
    obtain ⟨x', hx', rfl⟩ := List.mem_map.mp hx
    obtain ⟨y', hy', rfl⟩ := List.mem_map.mp hy
    exact d x' hx' y' hy'
  · rcases List.mem_append.mp hy with hy | hy
    · exact oa.ok y hy
    · exact ob.ok y hy
theorem oks_perm {a b : List (Str × Int)} (ok : Oks b) (p : a.Perm b) : Oks a := ⟨(p.map _).nodup_iff.mpr ok.nd, by rw [p.length_eq]; exact ok.len, fun y hy => ok.ok y (p.mem_iff.mp hy)⟩
theorem oks_mix {k1 k2 : List (Str × Int)} (o1 : Oks k1) (o2 : Oks k2) (l : k1.length + k2.length ≤ 60) (j : Nat) : Oks (k2.filter (outB (k1.map (·.1))) ++ k1.drop j) := by
  have h1 := List.length_filter_le (outB (k1.map (·.1))) k2
  have h2 : (k1.drop j).length ≤ k1.length := by rw [List.length_drop]; omega
  refine oks_app (oks_sub o2 List.filter_sublist) (oks_sub o1 (List.drop_sublist _ _)) (by omega) fun x hx y hy e => ?_
  have hx2 := (List.mem_filter.mp hx).2
  unfold outB at hx2
  exact (of_decide_eq_true hx2) (by rw [e]; exact List.mem_map_of_mem (f := (·.1)) (List.mem_of_mem_drop hy))
theorem oks_bend {k : List (Str × Int)} {nm : Str} {v : Int} (ok : Oks k) (l : k.length ≤ 50) (h : OkP (nm, v)) (j : Nat) : Oks ((k.filter (neq nm)).take j ++ [(nm, v)] ++ (k.filter (neq nm)).drop j) := by
  have o1 : Oks (k.filter (neq nm)) := oks_sub ok List.filter_sublist
  have hl := List.length_filter_le (neq nm) k
  have o2 : Oks (k.filter (neq nm) ++ [(nm, v)]) := oks_app o1 ⟨by simp, by simp, fun y hy => by rw [show y = (nm, v) by simpa using hy]; exact h⟩ (by simp; omega) fun x hx y hy e => by
    have := (List.mem_filter.mp hx).2
    unfold neq at this
    rw [show y = (nm, v) by simpa using hy] at e
    rw [e, decide_eq_true rfl] at this
    cases this
  refine oks_perm o2 ?_
  have e : k.filter (neq nm) = (k.filter (neq nm)).take j ++ (k.filter (neq nm)).drop j := (List.take_append_drop j _).symm
  conv => rhs; rw [e]
  rw [List.append_assoc, List.append_assoc]
  refine List.Perm.append_left _ ?_
  exact List.perm_append_comm
theorem okp_of {k : List (Str × Int)} {y : Str × Int} (ok : Oks k) (h : y ∈ k) : OkP y := ok.ok y h
theorem last_pick {n : Int} (h0 : 0 ≤ n) (h1 : n ≤ 1000000000) {w : V} (m : w ∈ [V.int (if (10 : Int) ^ (9 : Int).toNat < n + 1 then (10 : Int) ^ (9 : Int).toNat else n + 1), V.int 0, V.int 7]) : ∃ i : Int, w = .int i ∧ 0 ≤ i ∧ i ≤ 1000000000 := by
  have e9 : (10 : Int) ^ (9 : Int).toNat = 1000000000 := by decide +kernel
  rw [e9] at m
  simp only [List.mem_cons, List.not_mem_nil, or_false] at m
  rcases m with rfl | rfl | rfl
  · refine ⟨_, rfl, ?_, ?_⟩ <;> split <;> omega
  · exact ⟨0, rfl, by decide, by decide⟩
  · exact ⟨7, rfl, by decide, by decide⟩
theorem prs_shaped {ks : List (Str × Int)} (ok : Oks ks) : SeqAt.shaped (.list (prD ks)) = true := by
  have h := ok.sh
  unfold SeqAt.shaped at h ⊢
  obtain ⟨a, b⟩ := Bool.and_eq_true_iff.mp h
  have d : PyData.depth (.list (prD ks)) ≤ 64 := by
    have := prD_depth ks
    simp only [PyData.depth] at this ⊢
    omega
  simp only [PyData.canLay0] at a ⊢
  simp only [a, d, decide_true, Bool.and_self]
/-- what is due of a union, its pairs plain tuples -/
def UDue (K : PySem.W.Frag) (H : Hp) (v : V) (ts us : List (Str × Int)) : Prop := ∃ t, v = .ref t ∧
  ((∃ p c, clashAt ts us = some p ∧ SqT K H t [.str "clash", .ref c] ∧ SqT K H c [.str p.1, .int p.2, .int (numOf us p.1)]) ∨ (∃ t2 qs, clashAt ts us = none ∧ SqT K H t [.str "made", .ref t2] ∧ SqT K H t2 (qs.map V.ref) ∧ Prk H qs (unionT ts us)))
theorem UDue.u {K : PySem.W.Frag} {H : Hp} {v : V} {ts us : List (Str × Int)} (h : UDue K H v ts us) : UAt K H v ts us := by
  obtain ⟨t, rfl, ⟨p, c, e, h1, h2⟩ | ⟨t2, qs, e, h1, h2, h3⟩⟩ := h
  · exact ⟨t, rfl, .inl ⟨p, c, e, h1, h2⟩⟩
  · exact ⟨t, rfl, .inr ⟨t2, e, h1, qs, h2, h3.tups⟩⟩
theorem union_due {ts us : List (Str × Int)} (ok : Oks ts) (ok2 : Oks us) (l : ts.length + us.length ≤ 60) : dueT (unionT ts us) = unionT ts us := due_due (ok.merge ok2 l).due due_nz (dueT_sorted _)
theorem union_len (ts us : List (Str × Int)) : (unionT ts us).length ≤ ts.length + us.length := Nat.le_trans (due_len _) (mergeL_len us ts)
/-! promises -/
def spTwo (K : PySem.W.Frag) (C : Addr) (R : List (Str × Int) → List (Str × Int) → Hp → VK → XK → Prop) : Sp := fun vs H Q E => ∃ (x y : Addr) (ts us : List (Str × Int)), vs = [.ref x, .ref y] ∧ SigAt K C H x ts ∧ SigAt K C H y us ∧ Oks ts ∧ Oks us ∧ R ts us H Q E
def spWithin (K : PySem.W.Frag) (C : Addr) : Sp := spTwo K C fun ts us H Q _ => ∀ H', Same H H' → Q (.bl (ts.all fun p => decide (numOf us p.1 = p.2))) H'
def spClashOf (K : PySem.W.Frag) (C : Addr) : Sp := spTwo K C fun ts us H Q _ => ∀ H', Same H H' → Q (clV (clashAt ts us)) H'
def Cl3 (us : List (Str × Int)) (p : Str × Int) : List (Str × V) := [("other", .int (numOf us p.1)), ("one", .int p.2), ("field", .str p.1)]
theorem beq_dec (a b : Int) : (a == b) = decide (b = a) := by
  by_cases h : b = a
  · subst h; simp
  · have h2 : ¬ a = b := fun e => h e.symm
    simp [h, h2]
def spChkU (K : PySem.W.Frag) (C CF : Addr) : Sp := spTwo K C fun ts us H Q E => (clashAt ts us = none → ∀ H', Same H H' → Q .non H') ∧
  (∀ p, clashAt ts us = some p → ∀ e H', H e = none → Same H H' → H' e = some (.xd (Cl3 us p)) → E (.ref CF) (some e) H')
def spOr (K : PySem.W.Frag) (C CF : Addr) : Sp := spTwo K C fun ts us H Q E => ts.length + us.length ≤ 60 ∧ (clashAt ts us = none → ∀ x H', H x = none → Same H H' → SigAt K C H' x (unionT ts us) → Q (.ref x) H') ∧
  (∀ p, clashAt ts us = some p → ∀ e H', H e = none → Same H H' → H' e = some (.xd (Cl3 us p)) → E (.ref CF) (some e) H')
/-- a dict of names and numbers -/
def spClashL : Sp := fun vs H Q _ => ∃ (d1 d2 : Addr) (k1 k2 : List (Str × Int)), vs = [.ref d1, .ref d2] ∧ H d1 = some (.dK (kvsOf k1)) ∧ H d2 = some (.dK (kvsOf k2)) ∧ Oks k1 ∧ Oks k2 ∧
  (clashAt (dueT k1) (dueT k2) = none → ∀ H', Same H H' → Q .non H') ∧
  (∀ p, clashAt (dueT k1) (dueT k2) = some p → ∀ t H', H t = none → Same H H' → H' t = some (.tup [.str p.1, .int p.2, .int (numOf (dueT k2) p.1)]) → Q (.ref t) H')
def spUnionL (K : PySem.W.Frag) (C : Addr) : Sp := spTwo K C fun ts us H Q _ => ts.length + us.length ≤ 60 ∧ ∀ v H', Same H H' → UAt K H' v ts us → Q v H'
/-- two lists of pairs -/
def spLs (K : PySem.W.Frag) (R : List (Str × Int) → List (Str × Int) → Hp → VK → Prop) : Sp := fun vs H Q _ => ∃ (l1 l2 : Addr) (p1 p2 : List Addr) (k1 k2 : List (Str × Int)), vs = [.ref l1, .ref l2] ∧ SqL K H l1 (p1.map V.ref) ∧ SqL K H l2 (p2.map V.ref) ∧ Prk H p1 k1 ∧ Prk H p2 k2 ∧ Oks k1 ∧ Oks k2 ∧ k1.length ≤ 25 ∧ k2.length ≤ 25 ∧ R k1 k2 H Q
def spDueL (K : PySem.W.Frag) : Sp := spLs K fun k1 k2 H Q => ∀ v H', Same H H' → UDue K H' v (dueT k1) (dueT k2) → Q v H'
def spRight (K : PySem.W.Frag) : Sp := spLs K fun k1 k2 H Q => ∀ H', Same H H' → Q (.bl true) H'
def spBound (K : PySem.W.Frag) (C : Addr) : Sp := fun vs H Q _ => ∃ (x y t : Addr) (ts us : List (Str × Int)), vs = [.ref x, .ref y, .ref t] ∧ SigAt K C H x ts ∧ SigAt K C H y us ∧ Oks ts ∧ Oks us ∧ ts.length + us.length ≤ 60 ∧ clashAt ts us = none ∧ Ts K H t (unionT ts us) ∧ ∀ H', Same H H' → Q (.bl true) H'
theorem kget {ks : List (Str × Int)} (nd : (ks.map (·.1)).Nodup) (z : Str) : (valV (kvsOf ks) (Sum.inr z)).getD (.int 0) = .int (numOf ks z) := by
  have := got_told nd z
  rw [merge_told nd] at this
  exact this
theorem kget1 {ks : List (Str × Int)} {z : Str} (h : z ∈ ks.map (·.1)) : valV (kvsOf ks) (Sum.inr z) = some (.int (numOf ks z)) := by
  rw [val_told]
  unfold numOf
  cases e : ks.lookup z with
  | some n => rfl
  | none =>
    exfalso
    have : ∀ l : List (Str × Int), l.lookup z = none → z ∉ l.map (·.1) := by
      intro l
      induction l with
      | nil => intro _ h; cases h
      | cons a b ih =>
        intro h hm
        rw [show a :: b = (a.1, a.2) :: b from rfl, List.lookup_cons] at h
        by_cases q : (z == a.1) = true
        · rw [q] at h; cases h
        · rw [Bool.not_eq_true] at q
          rw [q] at h
          rcases List.mem_cons.mp hm with hm | hm
          · rw [hm] at q; simp at q
          · exact ih h hm
    exact this ks e h
theorem num_mem {ks : List (Str × Int)} {z : Str} (h : numOf ks z ≠ 0) : z ∈ ks.map (·.1) := by
  unfold numOf at h
  cases e : ks.lookup z with
  | none => rw [e] at h; exact absurd rfl h
  | some n =>
    have : ∀ l : List (Str × Int), l.lookup z = some n → z ∈ l.map (·.1) := by
      intro l
      induction l with
      | nil => intro h; cases h
      | cons a b ih =>
        intro h
        rw [show a :: b = (a.1, a.2) :: b from rfl, List.lookup_cons] at h
        by_cases q : (z == a.1) = true
        · rw [show z = a.1 from eq_of_beq q]; simp
        · rw [Bool.not_eq_true] at q
          rw [q] at h
          exact List.mem_cons_of_mem _ (ih h)
    exact this ks e
/-- whether a name of the first clashes -/
def cnd (k1 k2 : List (Str × Int)) (z : Str) : Bool := (gT (kv k1) z).any (clashB (dueT k2))
theorem cnd_is {k1 k2 : List (Str × Int)} (ok : Oks k1) (ok2 : Oks k2) {z : Str} (h : z ∈ k1.map (·.1)) : gT (kv k1) z = (if numOf k1 z = 0 then none else some (z, numOf k1 z)) ∧ cnd k1 k2 z = (!(decide (numOf k2 z = 0) || decide (numOf k2 z = numOf k1 z)) && !decide (numOf k1 z = 0)) := by
  obtain ⟨y, hy, rfl⟩ := List.mem_map.mp h
  have hg : gT (kv k1) y.1 = if nz y then some y else none := gT_of ok.nd hy
  have hn := numOf_mem ok.nd hy
  rw [hn]
  unfold cnd
  rw [hg]
  by_cases h0 : y.2 = 0
  · have : nz y = false := by simp [nz, h0]
    rw [this, h0]
    exact ⟨rfl, by simp⟩
  · have : nz y = true := by simp [nz, h0]
    rw [this, if_neg h0]
    refine ⟨rfl, ?_⟩
    show clashB (dueT k2) y = _
    unfold clashB
    rw [numOf_due ok2]
    simp [h0]
theorem told_due {ks : List (Str × Int)} {zs : List Str} (ok : Oks ks) (hz : zs.Perm (ks.map (·.1))) (hs : PyProof.Rows.sortedS zs = true) : dueT ks = zs.filterMap (gT (kv ks)) := by
  rw [← toldOf_fm]
  exact (told_is ok.nd hz hs (dueT_perm ks) (dueT_sorted ks)).symm
theorem clash_none {k1 k2 : List (Str × Int)} {zs : List Str} (e : dueT k1 = zs.filterMap (gT (kv k1))) (h : ∀ z ∈ zs, cnd k1 k2 z = false) : clashAt (dueT k1) (dueT k2) = none := by
  unfold clashAt
  rw [e, List.find?_filterMap, List.find?_eq_none.mpr]
  · rfl
  · intro z hz
    have := h z hz
    unfold cnd at this
    rw [this]
    exact Bool.false_ne_true
theorem clash_find {k1 k2 : List (Str × Int)} {zs : List Str} {i : Nat} {z : Str} (e : dueT k1 = zs.filterMap (gT (kv k1))) (hi : zs[i]? = some z) (h : ∀ z ∈ zs.take i, cnd k1 k2 z = false) (hc : cnd k1 k2 z = true) : clashAt (dueT k1) (dueT k2) = gT (kv k1) z := by
  have il : i < zs.length := (List.getElem?_eq_some_iff.mp hi).1
  have sp : zs = zs.take i ++ z :: zs.drop (i + 1) := by
    conv => lhs; rw [← List.take_append_drop i zs]
    rw [List.drop_eq_getElem_cons il, (List.getElem?_eq_some_iff.mp hi).2]
  unfold clashAt
  rw [e, List.find?_filterMap]
  have : (zs.find? fun a => (gT (kv k1) a).any (clashB (dueT k2))) = some z := by
    rw [sp, List.find?_append, List.find?_eq_none.mpr (fun x hx => by
      have := h x hx
      unfold cnd at this
      rw [this]
      exact Bool.false_ne_true), List.find?_cons]
    unfold cnd at hc
    rw [hc]
    rfl
  rw [this]
  rfl
theorem mergeK_app (a : List (Key × V)) : ∀ (b c : List (Key × V)), mergeK a (b ++ c) = mergeK (mergeK a b) c := fun b c => List.foldl_append
theorem merge_two {ts us : List (Str × Int)} (nd : (ts.map (·.1)).Nodup) : mergeK [] (kvsOf (ts ++ us)) = kvsOf (mergeL ts us) := by
  have e : kvsOf (ts ++ us) = kvsOf ts ++ kvsOf us := List.map_append
  rw [e, mergeK_app, merge_told nd, merge_kvs]
theorem Prk.kvs {K : PySem.W.Frag} {H : Hp} {ps : List Addr} {ks : List (Str × Int)} (h : Prk H ps ks) : Paired (fun p (q : Key × V) => SqT K H p [kV q.1, q.2]) ps (kvsOf ks) := by
  unfold kvsOf
  exact paired_map (g := fun y : Str × Int => ((Sum.inr y.1 : Key), V.int y.2)) (L2.Paired.mapP h fun a y z => SqT.of z)
theorem shaped_strs {zs : List Str} (h : ∀ z ∈ zs, PyData.strOk z = true) : SeqAt.shaped (.list (zs.map PyData.str)) = true := by
  have k : ∀ zs : List Str, (∀ z ∈ zs, PyData.strOk z = true) → PyData.canLayAll0 (zs.map PyData.str) = true ∧ PyData.depthAll (zs.map PyData.str) ≤ 3 := by
    intro zs
    induction zs with
    | nil => intro _; exact ⟨by simp [PyData.canLayAll0], by simp [PyData.depthAll]⟩
    | cons y r ih =>
      intro hh
      obtain ⟨a, b⟩ := ih fun z hz => hh z (List.mem_cons_of_mem _ hz)
      have hy := hh y List.mem_cons_self
      refine ⟨by simp [PyData.canLayAll0, PyData.canLay0, a, hy], ?_⟩
      simp only [List.map_cons, PyData.depthAll, PyData.depth]
      omega
  obtain ⟨a, b⟩ := k zs h
  unfold SeqAt.shaped
  have d : PyData.depth (.list (zs.map PyData.str)) ≤ 64 := by
    simp only [PyData.depth]
    omega
  simp only [PyData.canLay0, a, d, decide_true, Bool.and_self]
theorem dp_strs {K : PySem.W.Frag} {H : Hp} : ∀ zs : List Str, DpAll K H (zs.map V.str) (zs.map PyData.str)
  | [] => .nil
  | z :: r => .cons (.str z) (dp_strs r)
theorem eqv_nilL : ∀ ds : List PyData, PyData.eqv (.list ds) (.list []) = ds.isEmpty
  | [] => by simp [PyData.eqv, PyData.eqvAll]
  | y :: r => by simp [PyData.eqv, PyData.eqvAll]
def badB (us : List (Str × Int)) (p : Str × Int) : Bool := !decide (numOf us p.1 = p.2)
theorem inside_eq {us vs : List (Str × Int)} (e : ∀ z, numOf us z = numOf vs z) : ∀ ts : List (Str × Int), (((ts.filter (badB us)).map (·.1)).map PyData.str).isEmpty = ts.all fun p => decide (numOf vs p.1 = p.2)
  | [] => rfl
  | p :: r => by
    have ih := inside_eq e r
    rw [List.all_cons, ← ih]
    by_cases h : numOf us p.1 = p.2
    · have hb : badB us p = false := by simp [badB, h]
      rw [List.filter_cons_of_neg (by rw [hb]; exact Bool.false_ne_true)]
      rw [e] at h
      simp [h]
    · have hb : badB us p = true := by simp [badB, h]
      rw [List.filter_cons_of_pos hb]
      rw [e] at h
      simp [h]
/-! ### drafts -/
/-- a draft at o, its dict at m -/
def DrO (C : Addr) (H : Hp) (o m : Addr) : Prop := ∃ (dx : Addr) (fs : List (Str × V)), H o = some (.ins C dx fs) ∧ fs.lookup ("_numbers" : Str) = some (.ref m) ∧ ∀ z : Str, z ≠ "_numbers" → fs.lookup z = none
def DrAt (C : Addr) (H : Hp) (o m : Addr) (ds : List (Str × Int)) : Prop := DrO C H o m ∧ H m = some (.dK (kvsOf ds))
theorem DrO.same {C : Addr} {H H' : Hp} {o m : Addr} (h : DrO C H o m) (S : Same H H') : DrO C H' o m := by
  obtain ⟨dx, fs, h1, h2, h3⟩ := h
  exact ⟨dx, fs, S _ _ h1, h2, h3⟩
theorem DrAt.same {C : Addr} {H H' : Hp} {o m : Addr} {ds : List (Str × Int)} (h : DrAt C H o m ds) (S : Same H H') : DrAt C H' o m ds := ⟨h.1.same S, S _ _ h.2⟩
theorem DrO.keep {C : Addr} {H H' : Hp} {o m p : Addr} (h : DrO C H o m) (S : Keep p H H') (n : o ≠ p) : DrO C H' o m := by
  obtain ⟨dx, fs, h1, h2, h3⟩ := h
  exact ⟨dx, fs, S _ _ h1 n, h2, h3⟩
theorem DrAt.om {C : Addr} {H : Hp} {o m : Addr} {ds : List (Str × Int)} (h : DrAt C H o m ds) : o ≠ m := by
  obtain ⟨⟨dx, fs, h1, _⟩, h2⟩ := h
  intro e
  subst e
  rw [h1] at h2
  cases h2
/-- what signals tell -/
def Tol (K : PySem.W.Frag) (C : Addr) (H : Hp) (y : Addr) (ts : List (Str × Int)) : Prop := ∃ (dx t : Addr) (fs : List (Str × V)) (qs : List Addr), H y = some (.ins C dx fs) ∧ fs.lookup ("told" : Str) = some (.ref t) ∧ SqT K H t (qs.map V.ref) ∧ Paired (fun p y => SqT K H p [.str y.1, .int y.2]) qs ts
theorem _root_.Toy.SigAt.tol {K : PySem.W.Frag} {C : Addr} {H : Hp} {x : Addr} {ts : List (Str × Int)} (h : SigAt K C H x ts) : Tol K C H x ts := by
  obtain ⟨dx, t, m, fo, fs, qs, h1, h2, h3, h4, h5, h6⟩ := h
  exact ⟨dx, t, fs, qs, h1, h2, .inl (.inr ⟨_, h4⟩), h5⟩
theorem Tol.mv {K : PySem.W.Frag} {C : Addr} {H H' : Hp} {x : Addr} {ts : List (Str × Int)} (h : Tol K C H x ts) (k : ∀ b o, H b = some o → (∀ z, o ≠ .dK z) → (∀ c d, o ≠ .ins c d []) → (∀ z, o ≠ .lst z) → H' b = some o) : Tol K C H' x ts := by
  have kT : ∀ {a : Addr} {xs : List V}, SqT K H a xs → SqT K H' a xs := by
    intro a xs h
    rcases h with (h | ⟨o, h⟩) | h
    · exact .inl (.inl (k _ _ h (fun _ e => by cases e) (fun _ _ e => by cases e) (fun _ e => by cases e)))
    · exact .inl (.inr ⟨o, k _ _ h (fun _ e => by cases e) (fun _ _ e => by cases e) (fun _ e => by cases e)⟩)
    · exact .inr h
  obtain ⟨dx, t, fs, qs, h1, h2, h3, h4⟩ := h
  refine ⟨dx, t, fs, qs, k _ _ h1 (fun _ e => by cases e) (fun c d e => ?_) (fun _ e => by cases e), h2, kT h3, L2.Paired.mapP h4 fun p y z => kT z⟩
  injection e with _ _ e
  rw [e] at h2
  cases h2
theorem Tol.same {K : PySem.W.Frag} {C : Addr} {H H' : Hp} {x : Addr} {ts : List (Str × Int)} (h : Tol K C H x ts) (S : Same H H') : Tol K C H' x ts := h.mv fun b o e _ _ _ => S b o e
theorem Tol.keepD {K : PySem.W.Frag} {C m : Addr} {H H' : Hp} {x : Addr} {ts : List (Str × Int)} {z : List (Key × V)} (h : Tol K C H x ts) (S : Keep m H H') (e : H m = some (.dK z)) : Tol K C H' x ts := h.mv fun b o e2 n _ _ => S b o e2 fun q => by
  rw [q, e] at e2
  exact n z (Option.some.inj e2).symm
/-! promises -/
def Exc (CN : Addr) (v : V) (H : Hp) (E : XK) : Prop := ∀ e H', H e = none → Same H H' → H' e = some (.xd [(("value" : Str), v)]) → E (.ref CN) (some e) H'
def spDInit (K : PySem.W.Frag) (CS C : Addr) : Sp := fun vs H Q _ => ∃ (x dx : Addr) (s : V) (ts : List (Str × Int)), vs = [.ref x, s] ∧ H x = some (.ins C dx []) ∧ ((s = .non ∧ ts = []) ∨ ∃ y, s = .ref y ∧ Tol K CS H y ts) ∧ (ts.map (·.1)).Nodup ∧ ts.length ≤ 60 ∧
  ∀ m H', H m = none → Keep x H H' → DrAt C H' x m ts → Q .non H'
def spDPut (K : PySem.W.Frag) (CS C : Addr) : Sp := fun vs H Q _ => ∃ (o m y : Addr) (ds ts : List (Str × Int)), vs = [.ref o, .ref y] ∧ DrAt C H o m ds ∧ Tol K CS H y ts ∧ ds.length + ts.length ≤ 1000 ∧
  ∀ H', Keep m H H' → H' m = some (.dK (kvsOf (mergeL ds ts))) → Q .non H'
def spDPres (K : PySem.W.Frag) (CS C : Addr) : Sp := fun vs H Q _ => ∃ (o m : Addr) (ds : List (Str × Int)), vs = [.ref o] ∧ DrAt C H o m ds ∧ Oks ds ∧ ∀ x H', H x = none → Same H H' → SigAt K CS H' x (dueT ds) → Q (.ref x) H'
def spDGet (C CN : Addr) : Sp := fun vs H Q E => ∃ (o m p : Addr) (ds : List (Str × Int)) (v : V), vs = [.ref o, v] ∧ DrAt C H o m ds ∧ (ds.map (·.1)).Nodup ∧ Tv p H v ∧ (∀ z, v = .str z → isName z = true → ∀ H', Same H H' → Q (.int (numOf ds z)) H') ∧ (nameV v = false → Exc CN v H E)
def spDSet (C CN CE : Addr) : Sp := fun vs H Q E => ∃ (o m p : Addr) (ds : List (Str × Int)) (v w : V), vs = [.ref o, v, w] ∧ DrAt C H o m ds ∧ ds.length ≤ 60 ∧ Tv p H v ∧ Tv p H w ∧
  (∀ z n, v = .str z → isName z = true → w = .int n → okN (.int n) = true → ∀ H', Keep m H H' → H' m = some (.dK (kvsOf (putL ds (z, n)))) → Q .non H') ∧ (nameV v = false → Exc CN v H E) ∧ (nameV v = true → okN w = false → Exc CE w H E)
def spDIor (K : PySem.W.Frag) (CS C CF : Addr) : Sp := fun vs H Q E => ∃ (o m y : Addr) (ds us : List (Str × Int)), vs = [.ref o, .ref y] ∧ DrAt C H o m ds ∧ SigAt K CS H y us ∧ Oks ds ∧ Oks us ∧
  (clashAt (dueT ds) us = none → ∀ H', Keep m H H' → H' m = some (.dK (kvsOf (mergeL ds us))) → Q (.ref o) H') ∧
  (∀ p, clashAt (dueT ds) us = some p → ∀ e H', H e = none → Same H H' → H' e = some (.xd (Cl3 us p)) → E (.ref CF) (some e) H')
def spDEq (K : PySem.W.Frag) (CS C : Addr) : Sp := fun vs H Q _ => ∃ (o m y : Addr) (ds : List (Str × Int)), vs = [.ref o, .ref y] ∧ DrAt C H o m ds ∧ Oks ds ∧
  ((∃ m2 es, DrAt C H y m2 es ∧ Oks es ∧ ∀ H', Same H H' → Q (.bl (decide (dueT ds = dueT es))) H') ∨ (∃ us, SigAt K CS H y us ∧ Q (.bl false) H))
def dReprTx (ts : List (Str × Int)) : Str := ((Str.empty ++ "Draft(") ++ toldTx ts) ++ ")"
def spDRepr (K : PySem.W.Frag) (C : Addr) : Sp := fun vs H Q _ => ∃ (o m : Addr) (ds : List (Str × Int)), vs = [.ref o] ∧ DrAt C H o m ds ∧ Oks ds ∧ ∀ H', Same H H' → Q (.str (dReprTx (dueT ds))) H'
/-! ### the law's promises -/
def spRefu (K : PySem.W.Frag) (C : Addr) : Sp := fun vs H Q _ => ∃ (o m p : Addr) (ds : List (Str × Int)) (v w : V), vs = [.ref o, v, w] ∧ DrAt C H o m ds ∧ ds.length ≤ 60 ∧ Tv p H v ∧ Tv p H w ∧
  (∀ z n, v = .str z → isName z = true → w = .int n → okN (.int n) = true → ∀ H', Keep m H H' → H' m = some (.dK (kvsOf (putL ds (z, n)))) → Q .non H') ∧
  (nameV v = false → ∃ d, fineS d = true ∧ ShowAt K H v d ∧ ∀ t H', H t = none → Same H H' → H' t = some (.tup [.str "name", .str (PyData.shown d)]) → Q (.ref t) H') ∧
  (nameV v = true → okN w = false → ∃ d, fineS d = true ∧ ShowAt K H w d ∧ ∀ t H', H t = none → Same H H' → H' t = some (.tup [.str "number", .str (PyData.shown d)]) → Q (.ref t) H')
def spRead (K : PySem.W.Frag) (C : Addr) : Sp := fun vs H Q _ => ∃ (o m p : Addr) (ds : List (Str × Int)) (v : V) (d : PyData), vs = [.ref o, v] ∧ DrAt C H o m ds ∧ (ds.map (·.1)).Nodup ∧ Tv p H v ∧ nameV v = false ∧ fineS d = true ∧ ShowAt K H v d ∧
  ∀ t H', H t = none → Same H H' → H' t = some (.tup [.str "name", .str (PyData.shown d)]) → Q (.ref t) H'
def spSetW (C : Addr) : Sp := fun vs H Q _ => ∃ (p c o m : Addr) (n : Nat) (ds : List (Str × Int)), vs = [.ref p, .ref o] ∧ Pen H p c n ∧ n ≤ 80000 ∧ DrAt C H o m ds ∧ Oks ds ∧ ∀ H', Pen H' p c (n + 2) → Keep p H H' → Q (.bl true) H'
def spUnited (K : PySem.W.Frag) (CS C : Addr) : Sp := fun vs H Q _ => ∃ (o m y : Addr) (ds us : List (Str × Int)), vs = [.ref o, .ref y] ∧ DrAt C H o m ds ∧ SigAt K CS H y us ∧ Oks ds ∧ Oks us ∧
  (clashAt (dueT ds) us = none → ∀ H', Keep m H H' → H' m = some (.dK (kvsOf (mergeL ds us))) → Q .non H') ∧
  (∀ p, clashAt (dueT ds) us = some p → ∀ t H', H t = none → Same H H' → H' t = some (.tup [.str p.1, .int p.2, .int (numOf us p.1)]) → Q (.ref t) H')
def NumEq (ds ns : List (Str × Int)) : Prop := ∀ z, numOf ds z = numOf ns z
def spTells (C : Addr) : Sp := fun vs H Q _ => ∃ (o m q : Addr) (ds ns : List (Str × Int)), vs = [.ref o, .ref q] ∧ DrAt C H o m ds ∧ H q = some (.dK (kvsOf ns)) ∧ Oks ds ∧ Oks ns ∧ NumEq ds ns ∧ ∀ H', Same H H' → Q (.bl true) H'
theorem due_num {a b : List (Str × Int)} (oa : Oks a) (ob : Oks b) (h : NumEq a b) : dueT a = dueT b := by
  have mem : ∀ {l : List (Str × Int)}, Oks l → ∀ y : Str × Int, y ∈ l.filter nz ↔ (numOf l y.1 = y.2 ∧ y.2 ≠ 0) := by
    intro l ol y
    rw [List.mem_filter]
    refine ⟨fun ⟨h1, h2⟩ => ⟨numOf_mem ol.nd h1, by simpa [nz] using h2⟩, fun ⟨h1, h2⟩ => ⟨?_, by simpa [nz] using h2⟩⟩
    have hm : y.1 ∈ l.map (·.1) := num_mem (by rw [h1]; exact h2)
    obtain ⟨z, hz, e⟩ := List.mem_map.mp hm
    have := numOf_mem ol.nd hz
    rw [e, h1] at this
    have : z = y := Prod.ext e this.symm
    exact this ▸ hz
  have ndp : ∀ {l : List (Str × Int)}, Oks l → (l.filter nz).Nodup := fun {l} ol => by
    have h1 : (l.map (·.1)).Nodup := ol.nd
    exact (List.Pairwise.of_map (R := fun a b : Str × Int => a ≠ b) (S := fun a b : Str => a ≠ b) (fun y : Str × Int => y.1) (fun a b h e => h (congrArg Prod.fst e)) h1).sublist List.filter_sublist
  refine due_eq ob ?_ (dueT_sorted a)
  refine (dueT_perm a).trans ((List.perm_ext_iff_of_nodup (ndp oa) (ndp ob)).mpr fun y => ?_)
  rw [mem oa, mem ob, h]
theorem oddD {K : PySem.W.Frag} {p t1 t2 : Addr} {D : Hp} {v : V} (n1 : t1 ≠ p) (n2 : t2 ≠ p) (e1 : D t1 = some (.tup [.str "alu"])) (e2 : D t2 = some (.dK []))
    (mem : v ∈ [V.non, .int 0, .bl true, .str "", .str "to", .str "9a", .str "Alu", .str "toolongname", .ref t1, .ref t2]) : ∃ d, fineS d = true ∧ ShowAt K D v d ∧ Tv p D v ∧ nameV v = false := by
  have S : ∀ z : Str, fineS (.str z) = true → isName z = false → Tx 20000 z → ∃ d, fineS d = true ∧ ShowAt K D (.str z) d ∧ Tv p D (.str z) ∧ nameV (.str z) = false := fun z h1 h2 h3 => ⟨.str z, h1, .inl (.str _), .str z h3, h2⟩
  simp only [List.mem_cons, List.not_mem_nil, or_false] at mem
  rcases mem with rfl | rfl | rfl | rfl | rfl | rfl | rfl | rfl | rfl | rfl
  · exact ⟨.none, by decide +kernel, .inl .non, .non, rfl⟩
  · exact ⟨.int 0, by decide +kernel, .inl (.int _), .int _, rfl⟩
  · exact ⟨.bool true, by decide +kernel, .inl (.bl _), .bl _, rfl⟩
  iterate 5 exact S _ (by decide +kernel) (by decide +kernel) ⟨by decide +kernel, by decide +kernel⟩
  · exact ⟨.tuple [.str "alu"], by decide +kernel, .inl (.tup (SqT.of e1) (.cons (.str _) .nil)), .tup e1 n1, rfl⟩
  · exact ⟨.dict [], by decide +kernel, .inr ⟨_, _, _, rfl, e2, rfl, .nil⟩, .dK e2 n2, rfl⟩
theorem oddW {K : PySem.W.Frag} {p t1 : Addr} {D : Hp} {v : V} (n1 : t1 ≠ p) (e1 : D t1 = some (.lst [.int 1]))
    (mem : v ∈ [V.non, .bl true, .int (0 - 1), .int ((10 : Int) ^ (9 : Int).toNat + 1), .str "1", .ref t1, .int ((10 : Int) ^ (59 : Int).toNat)]) : ∃ d, fineS d = true ∧ ShowAt K D v d ∧ Tv p D v ∧ okN v = false := by
  simp only [List.mem_cons, List.not_mem_nil, or_false] at mem
  rcases mem with rfl | rfl | rfl | rfl | rfl | rfl | rfl
  · exact ⟨.none, by decide +kernel, .inl .non, .non, rfl⟩
  · exact ⟨.bool true, by decide +kernel, .inl (.bl _), .bl _, rfl⟩
  · exact ⟨.int (0 - 1), by decide +kernel, .inl (.int _), .int _, by decide +kernel⟩
  · exact ⟨.int ((10 : Int) ^ (9 : Int).toNat + 1), by decide +kernel, .inl (.int _), .int _, by decide +kernel⟩
  · exact ⟨.str "1", by decide +kernel, .inl (.str _), .str _ ⟨by decide +kernel, by decide +kernel⟩, rfl⟩
  · exact ⟨.list [.int 1], by decide +kernel, .inl (.lst (SqL.of e1) (.cons (.int _) .nil)), .lst e1 n1, rfl⟩
  · exact ⟨.int ((10 : Int) ^ (59 : Int).toNat), by decide +kernel, .inl (.int _), .int _, by decide +kernel⟩
theorem two_shaped {a b : Str} (ha : PyData.strOk a = true) (hb : PyData.strOk b = true) : SeqAt.shaped (.tuple [.str a, .str b]) = true := by
  unfold SeqAt.shaped
  have h3 : PyData.depth (.tuple [.str a, .str b]) ≤ 64 := by simp [PyData.depth, PyData.depthAll]
  simp only [PyData.canLay0, PyData.canLayAll0, ha, hb, h3, decide_true, Bool.and_self]
theorem deq_right {K : PySem.W.Frag} {CS C o m y m2 : Addr} {H : Hp} {Q : VK} {E : XK} {ds es : List (Str × Int)} (ho : DrAt C H o m ds) (hy : DrAt C H y m2 es) (o1 : Oks ds) (o2 : Oks es) (k : ∀ H', Same H H' → Q (.bl (decide (dueT ds = dueT es))) H') : Rgt K C (.ref y) H ∧ rOwn C (fun vs H Q E => spDEq K CS C (vs ++ []) H Q E) E [.ref y] (.ref o) H Q := by
  obtain ⟨⟨dx, fs, f1, f2, f3⟩, hm⟩ := id ho
  obtain ⟨⟨dy, fs', g1, g2, g3⟩, gm⟩ := id hy
  exact ⟨.inl ⟨y, dy, fs', rfl, g1⟩, o, dx, fs, rfl, f1, o, m, y, ds, rfl, ho, o1, .inl ⟨m2, es, hy, o2, k⟩⟩
theorem due_of_due {ks : List (Str × Int)} (ok : Oks ks) : dueT (dueT ks) = dueT ks := due_due ok.due due_nz (dueT_sorted ks)
def NM8 : List Str := ["alu", "bus", "c", "d7", "shift", "longname", "z0", "y"]
theorem nm8_ok : ∀ z ∈ NM8, isName z = true ∧ Tx 20000 z := by
  have h : ∀ z ∈ NM8, isName z = true ∧ z.length ≤ 20000 ∧ ∀ c ∈ z.cps.toList, c < 1114112 := by decide +kernel
  intro z hz
  obtain ⟨a, b, c⟩ := h z hz
  exact ⟨a, b, c⟩
/-! ### the pen, a draft's dict and another one beside what stays -/
structure St (D H : Hp) (p c : Addr) (n : Nat) (m q : Addr) (ds ns : List (Str × Int)) : Prop where
  g : G D H p c n
  nm : D m = none
  nq : D q = none
  hm : H m = some (.dK (kvsOf ds))
  hq : H q = some (.dK (kvsOf ns))
  mq : m ≠ q
section
variable {D H H' : Hp} {p c m q : Addr} {n n' : Nat} {ds ns ds' ns' : List (Str × Int)}
theorem St.mp (W : St D H p c n m q ds ns) : m ≠ p := fun e => by
  obtain ⟨xs, h1⟩ := W.g.at
  have := W.hm
  rw [e, h1] at this
  cases this
theorem St.qp (W : St D H p c n m q ds ns) : q ≠ p := fun e => by
  obtain ⟨xs, h1⟩ := W.g.at
  have := W.hq
  rw [e, h1] at this
  cases this
theorem St.keepP (W : St D H p c n m q ds ns) (k : Keep p H H') (P : Pen H' p c n') : St D H' p c n' m q ds ns := ⟨W.g.keep k P, W.nm, W.nq, k _ _ W.hm W.mp, k _ _ W.hq W.qp, W.mq⟩
theorem St.st (W : St D H p c n m q ds ns) (s : Same H H') : St D H' p c n m q ds ns := ⟨W.g.st s, W.nm, W.nq, s _ _ W.hm, s _ _ W.hq, W.mq⟩
theorem St.mono (W : St D H p c n m q ds ns) (h : n ≤ n') : St D H p c n' m q ds ns := ⟨W.g.mono h, W.nm, W.nq, W.hm, W.hq, W.mq⟩
theorem St.setM (W : St D H p c n m q ds ns) (k : Keep m H H') (e : H' m = some (.dK (kvsOf ds'))) : St D H' p c n m q ds' ns := by
  obtain ⟨cs, i, g, h1, h2, h3, h4⟩ := W.g.pen
  exact ⟨⟨fun b o h => k b o (W.g.sub b o h) (fun e => by have := W.nm; rw [← e, h] at this; cases this), W.g.np, cs, i, g, k _ _ h1 W.mp.symm, h2, h3, h4⟩, W.nm, W.nq, e, k _ _ W.hq W.mq.symm, W.mq⟩
theorem St.setQ (W : St D H p c n m q ds ns) (k : Keep q H H') (e : H' q = some (.dK (kvsOf ns'))) : St D H' p c n m q ds ns' := by
  obtain ⟨cs, i, g, h1, h2, h3, h4⟩ := W.g.pen
  exact ⟨⟨fun b o h => k b o (W.g.sub b o h) (fun e => by have := W.nq; rw [← e, h] at this; cases this), W.g.np, cs, i, g, k _ _ h1 W.qp.symm, h2, h3, h4⟩, W.nm, W.nq, k _ _ W.hm W.mq, e, W.mq⟩
theorem St.add (W : St D H p c n m q ds ns) : ∃ D', St D' H p c n m q ds ns ∧ Same D D' ∧ ∀ a o, H a = some o → a ≠ p → a ≠ m → a ≠ q → D' a = some o := by
  obtain ⟨cs, i, g, h1, h2, h3, h4⟩ := W.g.pen
  have nd : ∀ {a o}, D a = some o → a ≠ p ∧ a ≠ m ∧ a ≠ q := fun {a o} h => ⟨W.g.ne h, (fun e => (by have := W.nm; rw [← e, h] at this; cases this)), (fun e => (by have := W.nq; rw [← e, h] at this; cases this))⟩
  have d3 : ∀ {a o}, H a = some o → a ≠ p → a ≠ m → a ≠ q → del (del (del H p) m) q a = some o := fun {a o} e h1 h2 h3 => by rw [del_ne h3, del_ne h2, del_ne h1]; exact e
  have sd : Same D (del (del (del H p) m) q) := fun b o e => d3 (W.g.sub _ _ e) (nd e).1 (nd e).2.1 (nd e).2.2
  have qm := W.mq.symm
  refine ⟨del (del (del H p) m) q, ⟨⟨(same_del.trans same_del).trans same_del, ?_, cs, i, g, h1, sd _ _ h2, h3, h4⟩, ?_, del_same, W.hm, W.hq, W.mq⟩, sd, fun a o e h1 h2 h3 => d3 e h1 h2 h3⟩
  · rw [del_ne W.qp.symm, del_ne W.mp.symm]
    exact del_same
  · rw [del_ne W.mq]
    exact del_same
theorem St.nk (W : St D H p c n m q ds ns) {a : Addr} {o : HO} (h : H a = some o) (k : ∀ z, o ≠ .dK z) : a ≠ m ∧ a ≠ q := by
  refine ⟨fun e => ?_, fun e => ?_⟩
  · have := W.hm
    rw [← e, h] at this
    exact k _ (Option.some.inj this)
  · have := W.hq
    rw [← e, h] at this
    exact k _ (Option.some.inj this)
theorem St.nD (W : St D H p c n m q ds ns) {a : Addr} {o : HO} (h : D a = some o) : a ≠ m ∧ a ≠ q := ⟨(fun e => (by have := W.nm; rw [← e, h] at this; cases this)), (fun e => (by have := W.nq; rw [← e, h] at this; cases this))⟩
theorem St.dr {C o : Addr} (W : St D H p c n m q ds ns) (h : DrO C D o m) : DrAt C H o m ds := ⟨h.same W.g.sub, W.hm⟩
end
theorem prk_of2 {H D : Hp} {p : Addr} {ps : List Addr} {ks : List (Str × Int)} (f : ∀ a xs, H a = some (.tup xs) → a ≠ p → D a = some (.tup xs)) (h : Paired (fun a (q : V × V) => H a = some (.tup [q.1, q.2]) ∧ a ≠ p) ps (vk (kv ks))) : Prk D ps ks := by
  unfold Toy.vk kv at h
  rw [List.map_map] at h
  have h2 := paired_unmap (F := fun a (q : V × V) => H a = some (.tup [q.1, q.2]) ∧ a ≠ p) (g := fun y : Str × Int => (V.str y.1, V.int y.2)) h
  exact L2.Paired.mapP h2 fun a y z => f _ _ z.1 z.2
/-! ### numbers by name -/
theorem numOf_put (l : List (Str × Int)) (y : Str × Int) (z : Str) : numOf (putL l y) z = if y.1 = z then y.2 else numOf l z := by
  have nil : numOf ([] : List (Str × Int)) z = 0 := rfl
  unfold putL
  induction l with
  | nil =>
    rw [if_neg (by simp)]
    exact numOf_cons y [] z
  | cons x r ih =>
    by_cases hx : x.1 = y.1
    · rw [if_pos (by simp [hx])]
      rw [List.map_cons, numOf_cons, numOf_cons, if_pos hx]
      by_cases e : y.1 = z
      · rw [if_pos (by rw [hx]; exact e), if_pos e]
      · rw [if_neg (by rw [hx]; exact e), if_neg e, if_neg (by rw [hx]; exact e)]
        have : ∀ l : List (Str × Int), numOf (l.map fun z => if z.1 = y.1 then (z.1, y.2) else z) z = numOf l z := by
          intro l
          induction l with
          | nil => rfl
          | cons a b ih =>
            rw [List.map_cons, numOf_cons, numOf_cons, ih]
            by_cases q : a.1 = y.1
            · rw [if_pos q, if_neg (by rw [q]; exact e), if_neg (by rw [q]; exact e)]
            · rw [if_neg q]
        exact this r
    · have ha : ((x :: r).any fun z => decide (z.1 = y.1)) = (r.any fun z => decide (z.1 = y.1)) := by simp [hx]
      rw [ha]
      by_cases h : (r.any fun z => decide (z.1 = y.1)) = true
      · rw [if_pos h] at ih ⊢
        rw [List.map_cons, if_neg hx, numOf_cons, ih, numOf_cons]
        by_cases e : x.1 = z
        · rw [if_pos e, if_pos e, if_neg (fun w => hx (e.trans w.symm))]
        · rw [if_neg e, if_neg e]
      · rw [if_neg h] at ih ⊢
        rw [List.cons_append, numOf_cons, ih, numOf_cons]
        by_cases e : x.1 = z
        · rw [if_pos e, if_pos e, if_neg (fun w => hx (e.trans w.symm))]
        · rw [if_neg e, if_neg e]
theorem numOf_none {l : List (Str × Int)} {z : Str} (h : z ∉ l.map (·.1)) : numOf l z = 0 := by
  by_cases e : numOf l z = 0
  · exact e
  · exact absurd (num_mem e) h
theorem numOf_merge : ∀ (us ts : List (Str × Int)) (z : Str), (us.map (·.1)).Nodup → (∀ y ∈ us, y.2 ≠ 0) → numOf (mergeL ts us) z = if numOf us z ≠ 0 then numOf us z else numOf ts z
  | [], ts, z, _, _ => by
    show numOf ts z = _
    rw [if_neg (fun h => h rfl)]
  | y :: r, ts, z, nd, hz => by
    obtain ⟨n1, n2⟩ := List.nodup_cons.mp (show (y.1 :: r.map (·.1)).Nodup from nd)
    have ih := numOf_merge r (putL ts y) z n2 fun x hx => hz x (List.mem_cons_of_mem _ hx)
    show numOf (mergeL (putL ts y) r) z = _
    rw [ih, numOf_put, numOf_cons]
    by_cases e : y.1 = z
    · have h0 : numOf r z = 0 := numOf_none (by rw [← e]; exact n1)
      rw [if_pos e, if_pos e, h0, if_neg (fun h => h rfl), if_pos (hz y List.mem_cons_self)]
    · rw [if_neg e, if_neg e]
def lawPut (ns : List (Str × Int)) (y : Str × Int) : List (Str × Int) := putL ns (y.1, if y.2 = 0 then numOf ns y.1 else y.2)
theorem numOf_fold : ∀ (ks ns : List (Str × Int)) (z : Str), (ks.map (·.1)).Nodup → numOf (ks.foldl lawPut ns) z = if numOf ks z ≠ 0 then numOf ks z else numOf ns z
  | [], ns, z, _ => by
    show numOf ns z = _
    rw [if_neg (fun h => h rfl)]
  | y :: r, ns, z, nd => by
    obtain ⟨n1, n2⟩ := List.nodup_cons.mp (show (y.1 :: r.map (·.1)).Nodup from nd)
    have ih := numOf_fold r (lawPut ns y) z n2
    rw [List.foldl_cons, ih, numOf_cons]
    unfold lawPut
    rw [numOf_put]
    by_cases e : y.1 = z
    · have h0 : numOf r z = 0 := numOf_none (by rw [← e]; exact n1)
      rw [if_pos e, if_pos e, h0, if_neg (fun h => h rfl)]
      by_cases hy : y.2 = 0
      · rw [if_pos hy, if_neg (fun h => h hy), e]
      · rw [if_neg hy, if_pos hy]
    · rw [if_neg e, if_neg e]
theorem numEq_put {ds ns : List (Str × Int)} (h : NumEq ds ns) (y : Str × Int) : NumEq (putL ds y) (putL ns y) := fun z => by rw [numOf_put, numOf_put, h z]
theorem numEq_merge {ds ns ks : List (Str × Int)} (h : NumEq ds ns) (ok : Oks ks) : NumEq (mergeL ds (dueT ks)) (ks.foldl lawPut ns) := fun z => by
  rw [numOf_merge _ _ _ ok.due.nd (fun y hy => by simpa [nz] using due_nz y hy), numOf_fold _ _ _ ok.nd, numOf_due ok, h z]
/-! ### names of the seven -/
def Od (ds : List (Str × Int)) : Prop := Oks ds ∧ ∀ y ∈ ds, y.1 ∈ NM7
theorem sub_len : ∀ (l m : List Str), l.Nodup → (∀ x ∈ l, x ∈ m) → l.length ≤ m.length
  | [], _, _, _ => Nat.zero_le _
  | x :: r, m, nd, h => by
    obtain ⟨n1, n2⟩ := List.nodup_cons.mp nd
    have ih := sub_len r (m.erase x) n2 fun y hy => (List.mem_erase_of_ne (a := y) (b := x) (fun e => n1 (by rw [← e]; exact hy))).mpr (h y (List.mem_cons_of_mem _ hy))
    have hm := h x List.mem_cons_self
    have := List.length_erase_of_mem hm
    have hp : 0 < m.length := List.length_pos_of_mem hm
    rw [List.length_cons]
    omega
theorem od_mk {l : List (Str × Int)} (nd : (l.map (·.1)).Nodup) (ok : ∀ z ∈ l, OkP z) (h : ∀ y ∈ l, y.1 ∈ NM7) : Od l := by
  refine ⟨⟨nd, ?_, ok⟩, h⟩
  have := sub_len _ NM7 nd fun x hx => by
    obtain ⟨y, hy, rfl⟩ := List.mem_map.mp hx
    exact h y hy
  rw [List.length_map] at this
  have e : NM7.length = 7 := rfl
  omega
theorem put_names {l : List (Str × Int)} {y : Str × Int} (h : ∀ y ∈ l, y.1 ∈ NM7) (hy : y.1 ∈ NM7) : ∀ x ∈ putL l y, x.1 ∈ NM7 := fun x hx => by
  have hm : x.1 ∈ (putL l y).map (·.1) := List.mem_map_of_mem (f := fun y : Str × Int => y.1) hx
  rw [putL_names] at hm
  have hl : ∀ z ∈ l.map (·.1), z ∈ NM7 := fun z hz => by
    obtain ⟨w, hw, rfl⟩ := List.mem_map.mp hz
    exact h w hw
  split at hm
  · exact hl _ hm
  · rcases List.mem_append.mp hm with hm | hm
    · exact hl _ hm
    · rw [show x.1 = y.1 by simpa using hm]
      exact hy
theorem Od.put {l : List (Str × Int)} {y : Str × Int} (h : Od l) (hy : OkP y) (hn : y.1 ∈ NM7) : Od (putL l y) := by
  obtain ⟨a, b⟩ := putL_ok h.1.nd h.1.ok hy
  exact od_mk a b (put_names h.2 hn)
theorem Od.merge : ∀ (us : List (Str × Int)) {l : List (Str × Int)}, Od l → (∀ y ∈ us, OkP y ∧ y.1 ∈ NM7) → Od (mergeL l us)
  | [], _, h, _ => h
  | y :: r, l, h, hu => Od.merge r (h.put (hu y List.mem_cons_self).1 (hu y List.mem_cons_self).2) fun x hx => hu x (List.mem_cons_of_mem _ hx)
theorem num_ok {l : List (Str × Int)} (h : Oks l) (z : Str) : 0 ≤ numOf l z ∧ numOf l z ≤ 1000000000 := by
  by_cases e : numOf l z = 0
  · rw [e]; decide
  · obtain ⟨y, hy, rfl⟩ := List.mem_map.mp (num_mem e)
    rw [numOf_mem h.nd hy]
    exact (h.ok y hy).2.2.2.2
theorem Od.fold : ∀ (us : List (Str × Int)) {l : List (Str × Int)}, Od l → (∀ y ∈ us, OkP y ∧ y.1 ∈ NM7) → Od (us.foldl lawPut l)
  | [], _, h, _ => h
  | y :: r, l, h, hu => by
    obtain ⟨⟨o1, o2, o3, o4, o5⟩, hn⟩ := hu y List.mem_cons_self
    refine Od.fold r (l := lawPut l y) (h.put ?_ hn) fun x hx => hu x (List.mem_cons_of_mem _ hx)
    refine ⟨o1, o2, o3, o4, ?_⟩
    show 0 ≤ (if y.2 = 0 then numOf l y.1 else y.2) ∧ (if y.2 = 0 then numOf l y.1 else y.2) ≤ 1000000000
    split
    · exact num_ok h.1 _
    · exact o5
/-! ### the first clash -/
def clB (ns : List (Str × Int)) (y : Str × Int) : Bool := !(decide (y.2 = 0) || decide (numOf ns y.1 = 0)) && !decide (y.2 = numOf ns y.1)
theorem find_first {l : List (Str × Int)} {f : Str × Int → Bool} {y : Str × Int} (hs : Sorted l) (h : l.find? f = some y) : ∀ x ∈ l, f x = true → x = y ∨ SrtO.lexS x y = false := by
  induction l with
  | nil => cases h
  | cons a r ih =>
    obtain ⟨p1, p2⟩ := List.pairwise_cons.mp hs
    intro x hx fx
    rw [List.find?_cons] at h
    cases hfa : f a with
    | true =>
      rw [hfa] at h
      obtain rfl := Option.some.inj h
      rcases List.mem_cons.mp hx with rfl | hx
      · exact .inl rfl
      · exact .inr (p1 x hx)
    | false =>
      rw [hfa] at h
      rcases List.mem_cons.mp hx with rfl | hx
      · rw [hfa] at fx; cases fx
      · exact ih p2 h x hx fx
theorem due_mem {l : List (Str × Int)} (ok : Oks l) (y : Str × Int) : y ∈ dueT l ↔ (numOf l y.1 = y.2 ∧ y.2 ≠ 0) := by
  rw [(dueT_perm l).mem_iff, List.mem_filter]
  refine ⟨fun ⟨h1, h2⟩ => ⟨numOf_mem ok.nd h1, by simpa [nz] using h2⟩, fun ⟨h1, h2⟩ => ⟨?_, by simpa [nz] using h2⟩⟩
  obtain ⟨z, hz, e⟩ := List.mem_map.mp (num_mem (ks := l) (z := y.1) (by rw [h1]; exact h2))
  have := numOf_mem ok.nd hz
  rw [e, h1] at this
  have : z = y := Prod.ext e this.symm
  exact this ▸ hz
theorem clB_iff {ns : List (Str × Int)} {y : Str × Int} : clB ns y = true ↔ (y.2 ≠ 0 ∧ numOf ns y.1 ≠ 0 ∧ y.2 ≠ numOf ns y.1) := by
  unfold clB
  simp only [Bool.and_eq_true, Bool.not_eq_true', Bool.or_eq_false_iff, decide_eq_false_iff_not]
  exact ⟨fun ⟨⟨a, b⟩, c⟩ => ⟨a, b, c⟩, fun ⟨a, b, c⟩ => ⟨⟨a, b⟩, c⟩⟩
theorem clashB_iff {us : List (Str × Int)} {p : Str × Int} : clashB us p = true ↔ (numOf us p.1 ≠ 0 ∧ numOf us p.1 ≠ p.2) := by
  unfold clashB
  simp only [Bool.not_eq_true', Bool.or_eq_false_iff, decide_eq_false_iff_not]
theorem clash_same {ds ks ps : List (Str × Int)} (od : Oks ds) (ok : Oks ks) (hp : ps.Perm ks) (hs : Sorted ps) : clashAt (dueT ds) (dueT ks) = (ps.find? (clB ds)).map fun y => (y.1, numOf ds y.1) := by
  have to : ∀ y ∈ ps, clB ds y = true → (y.1, numOf ds y.1) ∈ dueT ds ∧ clashB (dueT ks) (y.1, numOf ds y.1) = true := fun y hy h => by
    obtain ⟨h1, h2, h3⟩ := clB_iff.mp h
    refine ⟨(due_mem od _).mpr ⟨rfl, h2⟩, clashB_iff.mpr ?_⟩
    rw [numOf_due ok, numOf_mem ok.nd (hp.mem_iff.mp hy)]
    exact ⟨h1, h3⟩
  have fr : ∀ p ∈ dueT ds, clashB (dueT ks) p = true → (p.1, numOf ks p.1) ∈ ps ∧ clB ds (p.1, numOf ks p.1) = true ∧ p.2 = numOf ds p.1 := fun p hm h => by
    obtain ⟨h1, h2⟩ := clashB_iff.mp h
    obtain ⟨g1, g2⟩ := (due_mem od _).mp hm
    rw [numOf_due ok] at h1 h2
    have hk := (due_mem ok (p.1, numOf ks p.1)).mpr ⟨rfl, h1⟩
    refine ⟨hp.mem_iff.mpr (List.mem_filter.mp ((dueT_perm ks).mem_iff.mp hk)).1, clB_iff.mpr ⟨h1, by rw [g1]; exact g2, by rw [g1]; exact h2⟩, g1.symm⟩
  cases hc : ps.find? (clB ds) with
  | none =>
    show (dueT ds).find? _ = none
    refine List.find?_eq_none.mpr fun p hm hb => ?_
    obtain ⟨a, b, _⟩ := fr p hm hb
    exact List.find?_eq_none.mp hc _ a b
  | some y =>
    have hy := List.mem_of_find?_eq_some hc
    have fy : clB ds y = true := List.find?_some hc
    obtain ⟨a, b⟩ := to y hy fy
    show (dueT ds).find? _ = some _
    cases hd : (dueT ds).find? (clashB (dueT ks)) with
    | none => exact absurd b (List.find?_eq_none.mp hd _ a)
    | some p =>
      have hpm := List.mem_of_find?_eq_some hd
      have fp : clashB (dueT ks) p = true := List.find?_some hd
      obtain ⟨a2, b2, c2⟩ := fr p hpm fp
      have e1 := find_first (dueT_sorted ds) hd _ a b
      have e2 := find_first hs hc _ a2 b2
      have en : p.1 = y.1 := by
        by_cases e : p.1 = y.1
        · exact e
        · rcases e1 with e1 | e1
          · have := congrArg (fun z : Str × Int => z.1) e1
            exact this.symm
          · rcases e2 with e2 | e2
            · have := congrArg (fun z : Str × Int => z.1) e2
              exact this
            · rw [SrtO.lexS_ne (p := (y.1, numOf ds y.1)) (q := p) (fun h => e h.symm)] at e1
              rw [SrtO.lexS_ne (p := (p.1, numOf ks p.1)) (q := y) e] at e2
              exact SrtO.str_eq_of e2 e1
      rw [show p = (y.1, numOf ds y.1) from Prod.ext en (by rw [c2, en])]
def spDeed (C : Addr) : Sp := fun vs H Q _ => ∃ (D : Hp) (p c o m q : Addr) (n : Nat) (ds ns : List (Str × Int)), vs = [.ref p, .ref o, .ref q] ∧ St D H p c n m q ds ns ∧ DrO C D o m ∧ Od ds ∧ Od ns ∧ NumEq ds ns ∧ n ≤ 70000 ∧
  ∀ D' H' ds' ns', St D' H' p c (n + 60) m q ds' ns' → Same D D' → Od ds' → Od ns' → NumEq ds' ns' → Q (.bl true) H'
theorem sps_right {K : PySem.W.Frag} {H : Hp} {Q : VK} {l : Addr} {ps : List Addr} {ks : List (Str × Int)} (hL : SqL K H l (ps.map V.ref)) (hP : Prk H ps ks)
    (k : ∀ r qs ss, ss.Perm ks → Sorted ss → H r = none → Prk H qs ss → Q (.ref r) (upd H r (.lst (qs.map V.ref)))) : rSortedPS K [.ref l] H Q := by
  refine ⟨l, ps.map V.ref, kfS H, rfl, hL, fun x hx => ?_, fun ys r hs hb nr => ?_⟩
  · obtain ⟨a, ha, rfl⟩ := List.mem_map.mp hx
    obtain ⟨i, hi⟩ := List.mem_iff_getElem?.mp ha
    obtain ⟨y, hy, ht⟩ := paired_at hP hi
    exact ⟨a, rfl, by rw [kfS_at ht]; exact ht⟩
  · have hr : ∀ u ∈ ys, ∃ a, u = V.ref a ∧ H a = some (.tup [.str (kfS H u).1, .int (kfS H u).2]) := fun u hu => by
      obtain ⟨a, ha, rfl⟩ := List.mem_map.mp (hb.perm.mem_iff.mp hu)
      obtain ⟨i, hi⟩ := List.mem_iff_getElem?.mp ha
      obtain ⟨y, hy, ht⟩ := paired_at hP hi
      exact ⟨a, rfl, by rw [kfS_at ht]; exact ht⟩
    obtain ⟨qs, rfl, pq⟩ := refs_of hr
    have hp : ((qs.map V.ref).map (kfS H)).Perm ks := by
      have := hb.perm.map (kfS H)
      rw [List.map_map] at this
      rw [← kfS_map hP, List.map_map]
      exact this.trans (by rw [List.map_map]; exact List.Perm.refl _)
    have hso : ((qs.map V.ref).map (kfS H)).Pairwise (fun a b => SrtO.lexS b a = false) := List.pairwise_map.mpr hs
    exact k r qs _ hp hso nr pq
/-- the clash that the law has found -/
def CV (H : Hp) (ns : List (Str × Int)) (v : V) (o : Option (Str × Int)) : Prop := (o = none ∧ v = .non) ∨ ∃ y t, o = some y ∧ v = .ref t ∧ H t = some (.tup [.str y.1, .int (numOf ns y.1), .int y.2])
theorem CV.same {H H' : Hp} {ns : List (Str × Int)} {v : V} {o : Option (Str × Int)} (h : CV H ns v o) (s : Same H H') : CV H' ns v o := by
  rcases h with h | ⟨y, t, a, b, e⟩
  · exact .inl h
  · exact .inr ⟨y, t, a, b, s _ _ e⟩
theorem clB_num {ds ns : List (Str × Int)} (h : NumEq ds ns) : clB ds = clB ns := by
  funext y
  unfold clB
  rw [h]
theorem take_find {ss : List (Str × Int)} {f : Str × Int → Bool} {i : Nat} {y : Str × Int} (h : ss[i]? = some y) : (ss.take (i + 1)).find? f = ((ss.take i).find? f).or (if f y = true then some y else none) := by
  rw [List.take_add_one, h, List.find?_append]
  congr 1
  cases hf : f y <;> simp [hf]
theorem three_shaped {a : Str} {i j : Int} (ha : PyData.strOk a = true) : SeqAt.shaped (.tuple [.str a, .int i, .int j]) = true := by
  unfold SeqAt.shaped
  have h3 : PyData.depth (.tuple [.str a, .int i, .int j]) ≤ 64 := by simp [PyData.depth, PyData.depthAll]
  simp only [PyData.canLay0, PyData.canLayAll0, ha, h3, decide_true, Bool.and_self]
theorem clB_ev {ns : List (Str × Int)} {y : Str × Int} : (!inV (V.int 0) [V.int y.2, V.int (numOf ns y.1)]) = !(decide (y.2 = 0) || decide (numOf ns y.1 = 0)) := by
  unfold inV
  simp only [List.any_cons, List.any_nil, Bool.or_false]
  congr 1
theorem St.tol {K : PySem.W.Frag} {C x : Addr} {ts : List (Str × Int)} {D D' H : Hp} {p c m q : Addr} {n : Nat} {ds ns : List (Str × Int)} (W : St D H p c n m q ds ns) (f : ∀ a o, H a = some o → a ≠ p → a ≠ m → a ≠ q → D' a = some o) (h : Tol K C H x ts) : Tol K C D' x ts :=
  h.mv fun b o e n1 _ n3 => f b o e (W.g.nl e n3) (W.nk e n1).1 (W.nk e n1).2
theorem made_S {H H' : Hp} {x dx : Addr} {o1 o2 : HO} (nx : H x = none) (nd : H dx = none) (k : Keep x (upd (upd H dx o1) x o2) H') : Same H H' := fun b o e => k _ _ (by rw [upd_ne (ne_of_none e nx), upd_ne (ne_of_none e nd)]; exact e) (ne_of_none e nx)
theorem mod2 (i : Nat) : ∃ j : Nat, j < 2 ∧ Int.fmod (0 + (i : Int)) 2 = (j : Int) := by
  obtain ⟨a, b⟩ := modN (i := 0 + (i : Int)) (m := 2) (by decide)
  refine ⟨(Int.fmod (0 + (i : Int)) 2).toNat, by omega, by omega⟩
theorem due_c : dueT [(("c" : Str), (1 : Int))] ≠ dueT [] := fun e => by
  have := congrArg List.length e
  rw [(dueT_perm _).length_eq, (dueT_perm _).length_eq] at this
  exact absurd this (by decide +kernel)
theorem oks_c : Oks [(("c" : Str), (1 : Int))] := ⟨by simp, by simp, fun y hy => by
  rw [show y = (("c" : Str), (1 : Int)) by simpa using hy]
  exact ⟨by decide +kernel, by decide +kernel, ⟨by decide +kernel, by decide +kernel⟩, by decide +kernel, by decide, by decide⟩⟩
/-- what the top has written -/
structure Txt (K : PySem.W.Frag) (mg : Str → Option Value) where
  f_is_name : Addr
  fd_is_name : FuncData
  F_is_name : Fun K "is_name" "is_name" s_is_name f_is_name fd_is_name
  b_is_name : Binds K fd_is_name ["value"] []
  m_is_name : mg "is_name" = some (.ref f_is_name)
  f_is_integer : Addr
  fd_is_integer : FuncData
  F_is_integer : Fun K "is_integer" "is_integer" s_is_integer f_is_integer fd_is_integer
  b_is_integer : Binds K fd_is_integer ["value", "least", "most"] []
  m_is_integer : mg "is_integer" = some (.ref f_is_integer)
  f_check_field : Addr
  fd_check_field : FuncData
  F_check_field : Fun K "check_field" "check_field" s_check_field f_check_field fd_check_field
  b_check_field : Binds K fd_check_field ["field"] []
  m_check_field : mg "check_field" = some (.ref f_check_field)
  f_check_number : Addr
  fd_check_number : FuncData
  F_check_number : Fun K "check_number" "check_number" s_check_number f_check_number fd_check_number
  b_check_number : Binds K fd_check_number ["number"] []
  m_check_number : mg "check_number" = some (.ref f_check_number)
  f_Signals_init : Addr
  fd_Signals_init : FuncData
  F_Signals_init : Fun K "__init__" "Signals.__init__" s_Signals_init f_Signals_init fd_Signals_init
  f_Signals_of : Addr
  fd_Signals_of : FuncData
  F_Signals_of : Fun K "of" "Signals.of" s_Signals_of f_Signals_of fd_Signals_of
  b_Signals_of : Binds K fd_Signals_of ["cls", "pairs"] []
  f_Signals___getitem__ : Addr
  fd_Signals___getitem__ : FuncData
  F_Signals___getitem__ : Fun K "__getitem__" "Signals.__getitem__" s_Signals___getitem__ f_Signals___getitem__ fd_Signals___getitem__
  b_Signals___getitem__ : Binds K fd_Signals___getitem__ ["self", "at"] []
  f_Signals___eq__ : Addr
  fd_Signals___eq__ : FuncData
  F_Signals___eq__ : Fun K "__eq__" "Signals.__eq__" s_Signals___eq__ f_Signals___eq__ fd_Signals___eq__
  b_Signals___eq__ : Binds K fd_Signals___eq__ ["self", "other"] []
  f_clash_of : Addr
  fd_clash_of : FuncData
  F_clash_of : Fun K "clash_of" "clash_of" s_clash_of f_clash_of fd_clash_of
  b_clash_of : Binds K fd_clash_of ["one", "other"] []
  m_clash_of : mg "clash_of" = some (.ref f_clash_of)
  f_check_union : Addr
  fd_check_union : FuncData
  F_check_union : Fun K "check_union" "check_union" s_check_union f_check_union fd_check_union
  b_check_union : Binds K fd_check_union ["one", "other"] []
  m_check_union : mg "check_union" = some (.ref f_check_union)
  f_told_text : Addr
  fd_told_text : FuncData
  F_told_text : Fun K "told_text" "told_text" s_told_text f_told_text fd_told_text
  b_told_text : Binds K fd_told_text ["signals"] []
  m_told_text : mg "told_text" = some (.ref f_told_text)
  f_Draft_init : Addr
  fd_Draft_init : FuncData
  F_Draft_init : FunD K "__init__" "Draft.__init__" (defArgs s_Draft_init) (defBody s_Draft_init) (defScope s_Draft_init) [.non] [] f_Draft_init fd_Draft_init
  e_DI : List Value
  v_DI : Vals [.non] e_DI
  b0_DI : Binds K fd_Draft_init ["self", "signals"] e_DI
  b_Draft_init : Binds K fd_Draft_init ["self", "signals"] []
  f_Draft_put : Addr
  fd_Draft_put : FuncData
  F_Draft_put : Fun K "put" "Draft.put" s_Draft_put f_Draft_put fd_Draft_put
  b_Draft_put : Binds K fd_Draft_put ["self", "signals"] []
  f_Draft_present : Addr
  fd_Draft_present : FuncData
  F_Draft_present : Fun K "present" "Draft.present" s_Draft_present f_Draft_present fd_Draft_present
  b_Draft_present : Binds K fd_Draft_present ["self"] []
  f_Draft___getitem__ : Addr
  fd_Draft___getitem__ : FuncData
  F_Draft___getitem__ : Fun K "__getitem__" "Draft.__getitem__" s_Draft___getitem__ f_Draft___getitem__ fd_Draft___getitem__
  b_Draft___getitem__ : Binds K fd_Draft___getitem__ ["self", "at"] []
  f_Draft___setitem__ : Addr
  fd_Draft___setitem__ : FuncData
  F_Draft___setitem__ : Fun K "__setitem__" "Draft.__setitem__" s_Draft___setitem__ f_Draft___setitem__ fd_Draft___setitem__
  b_Draft___setitem__ : Binds K fd_Draft___setitem__ ["self", "at", "worth"] []
  f_Draft___ior__ : Addr
  fd_Draft___ior__ : FuncData
  F_Draft___ior__ : Fun K "__ior__" "Draft.__ior__" s_Draft___ior__ f_Draft___ior__ fd_Draft___ior__
  b_Draft___ior__ : Binds K fd_Draft___ior__ ["self", "other"] []
  f_Draft___eq__ : Addr
  fd_Draft___eq__ : FuncData
  F_Draft___eq__ : Fun K "__eq__" "Draft.__eq__" s_Draft___eq__ f_Draft___eq__ fd_Draft___eq__
  b_Draft___eq__ : Binds K fd_Draft___eq__ ["self", "other"] []
  f_Draft___repr__ : Addr
  fd_Draft___repr__ : FuncData
  F_Draft___repr__ : Fun K "__repr__" "Draft.__repr__" s_Draft___repr__ f_Draft___repr__ fd_Draft___repr__
  b_Draft___repr__ : Binds K fd_Draft___repr__ ["self"] []
  f__law_pen : Addr
  fd__law_pen : FuncData
  F__law_pen : Fun K "_law_pen" "_law_pen" s__law_pen f__law_pen fd__law_pen
  b__law_pen : Binds K fd__law_pen ["_law_script"] []
  m__law_pen : mg "_law_pen" = some (.ref f__law_pen)
  f__law_draw : Addr
  fd__law_draw : FuncData
  F__law_draw : Fun K "_law_draw" "_law_draw" s__law_draw f__law_draw fd__law_draw
  b__law_draw : Binds K fd__law_draw ["_law_pen_here", "_law_many"] []
  m__law_draw : mg "_law_draw" = some (.ref f__law_draw)
  f__law_pick : Addr
  fd__law_pick : FuncData
  F__law_pick : Fun K "_law_pick" "_law_pick" s__law_pick f__law_pick fd__law_pick
  b__law_pick : Binds K fd__law_pick ["_law_pen_here", "_law_some"] []
  m__law_pick : mg "_law_pick" = some (.ref f__law_pick)
  f__law_pairs : Addr
  fd__law_pairs : FuncData
  F__law_pairs : Fun K "_law_pairs" "_law_pairs" s__law_pairs f__law_pairs fd__law_pairs
  b__law_pairs : Binds K fd__law_pairs ["_law_pen_here", "_law_most"] []
  m__law_pairs : mg "_law_pairs" = some (.ref f__law_pairs)
  f__law_due_of : Addr
  fd__law_due_of : FuncData
  F__law_due_of : Fun K "_law_due_of" "_law_due_of" s__law_due_of f__law_due_of fd__law_due_of
  b__law_due_of : Binds K fd__law_due_of ["_law_pairs_here"] []
  m__law_due_of : mg "_law_due_of" = some (.ref f__law_due_of)
  f__law_refusal : Addr
  fd__law_refusal : FuncData
  F__law_refusal : Fun K "_law_refusal" "_law_refusal" s__law_refusal f__law_refusal fd__law_refusal
  b__law_refusal : Binds K fd__law_refusal ["_law_draft", "_law_name", "_law_number"] []
  m__law_refusal : mg "_law_refusal" = some (.ref f__law_refusal)
  f__law_united : Addr
  fd__law_united : FuncData
  F__law_united : Fun K "_law_united" "_law_united" s__law_united f__law_united fd__law_united
  b__law_united : Binds K fd__law_united ["_law_draft", "_law_signals"] []
  m__law_united : mg "_law_united" = some (.ref f__law_united)
  f__law_tells : Addr
  fd__law_tells : FuncData
  F__law_tells : Fun K "_law_tells" "_law_tells" s__law_tells f__law_tells fd__law_tells
  b__law_tells : Binds K fd__law_tells ["_law_draft", "_law_numbers"] []
  m__law_tells : mg "_law_tells" = some (.ref f__law_tells)
  f__law_read_refusal : Addr
  fd__law_read_refusal : FuncData
  F__law_read_refusal : Fun K "_law_read_refusal" "_law_read_refusal" s__law_read_refusal f__law_read_refusal fd__law_read_refusal
  b__law_read_refusal : Binds K fd__law_read_refusal ["_law_draft", "_law_field"] []
  m__law_read_refusal : mg "_law_read_refusal" = some (.ref f__law_read_refusal)
  f__law_set_wrongly : Addr
  fd__law_set_wrongly : FuncData
  F__law_set_wrongly : Fun K "_law_set_wrongly" "_law_set_wrongly" s__law_set_wrongly f__law_set_wrongly fd__law_set_wrongly
  b__law_set_wrongly : Binds K fd__law_set_wrongly ["_law_pen_here", "_law_draft"] []
  m__law_set_wrongly : mg "_law_set_wrongly" = some (.ref f__law_set_wrongly)
  f__law_deed : Addr
  fd__law_deed : FuncData
  F__law_deed : Fun K "_law_deed" "_law_deed" s__law_deed f__law_deed fd__law_deed
  b__law_deed : Binds K fd__law_deed ["_law_pen_here", "_law_draft", "_law_numbers"] []
  m__law_deed : mg "_law_deed" = some (.ref f__law_deed)
  f_law : Addr
  fd_law : FuncData
  F_law : Fun K "law" "law" s_law f_law fd_law
  b_law : Binds K fd_law ["_law_script"] []
  m_law : mg "law" = some (.ref f_law)
  n_abs : mg "abs" = none
  n_all : mg "all" = none
  n_bool : mg "bool" = none
  n_classmethod : mg "classmethod" = none
  n_dict : mg "dict" = none
  n_int : mg "int" = none
  n_isinstance : mg "isinstance" = none
  n_len : mg "len" = none
  n_list : mg "list" = none
  n_property : mg "property" = none
  n_range : mg "range" = none
  n_repr : mg "repr" = none
  n_sorted : mg "sorted" = none
  n_str : mg "str" = none
  n_tuple : mg "tuple" = none
  v_LETTERS : Value
  g_LETTERS : mg "LETTERS" = some v_LETTERS
  r_LETTERS : RelV (.str "abcdefghijklmnopqrstuvwxyz") v_LETTERS
  v_MOST_SIGNS : Value
  g_MOST_SIGNS : mg "MOST_SIGNS" = some v_MOST_SIGNS
  r_MOST_SIGNS : RelV (.int 8) v_MOST_SIGNS
  a_RESERVED : Addr
  g_RESERVED : mg "RESERVED" = some (.ref a_RESERVED)
  r_RESERVED : RelV (.ref a_RESERVED) (.ref a_RESERVED)
  t_RESERVED : ∀ H, SqT K H a_RESERVED [.str "to", .str "if", .str "tag", .str "all", .str "none"]
  v_SIGNS : Value
  g_SIGNS : mg "SIGNS" = some v_SIGNS
  r_SIGNS : RelV (.str "abcdefghijklmnopqrstuvwxyz0123456789") v_SIGNS
  c_InvalidName : Addr
  f_InvalidName_init : Addr
  fd_InvalidName_init : FuncData
  F_InvalidName_init : Fun K "__init__" "InvalidName.__init__" s_InvalidName_init f_InvalidName_init fd_InvalidName_init
  b_InvalidName_init : Binds K fd_InvalidName_init ["self", "value"] []
  m_InvalidName : mg "InvalidName" = some (.ref c_InvalidName)
  ex_InvalidName : ExK K c_InvalidName f_InvalidName_init
  no_InvalidName_value : PySem.W.findIn K (.ref c_InvalidName) "value" = some none
  c_InvalidNumber : Addr
  f_InvalidNumber_init : Addr
  fd_InvalidNumber_init : FuncData
  F_InvalidNumber_init : Fun K "__init__" "InvalidNumber.__init__" s_InvalidNumber_init f_InvalidNumber_init fd_InvalidNumber_init
  b_InvalidNumber_init : Binds K fd_InvalidNumber_init ["self", "value"] []
  m_InvalidNumber : mg "InvalidNumber" = some (.ref c_InvalidNumber)
  ex_InvalidNumber : ExK K c_InvalidNumber f_InvalidNumber_init
  no_InvalidNumber_value : PySem.W.findIn K (.ref c_InvalidNumber) "value" = some none
  c_FieldClash : Addr
  f_FieldClash_init : Addr
  fd_FieldClash_init : FuncData
  F_FieldClash_init : Fun K "__init__" "FieldClash.__init__" s_FieldClash_init f_FieldClash_init fd_FieldClash_init
  b_FieldClash_init : Binds K fd_FieldClash_init ["self", "field", "one", "other"] []
  m_FieldClash : mg "FieldClash" = some (.ref c_FieldClash)
  ex_FieldClash : ExK K c_FieldClash f_FieldClash_init
  no_FieldClash_field : PySem.W.findIn K (.ref c_FieldClash) "field" = some none
  no_FieldClash_one : PySem.W.findIn K (.ref c_FieldClash) "one" = some none
  no_FieldClash_other : PySem.W.findIn K (.ref c_FieldClash) "other" = some none
  c_Signals : Addr
  m_Signals : mg "Signals" = some (.ref c_Signals)
  mc_Signals : Value
  q_of : Addr
  u_MOST : Value
  cr_Signals : ClX.CRead K c_Signals mc_Signals
  cm_of : ClX.CMet K c_Signals mc_Signals "of" q_of f_Signals_of
  cv_MOST : ClX.CVal K c_Signals mc_Signals "MOST" (.int 1000000000) u_MOST
  k_Signals : Cls K c_Signals
  mk_Signals : Mk K c_Signals f_Signals_init
  na_told : NoAttr K c_Signals "told"
  na__numbers : NoAttr K c_Signals "_numbers"
  ca_Signals : PySem.W.findIn K (.ref c_Signals) "__class__" = some (some (.builtin "object.__class__"))
  mo_Signals : PySem.W.mroIn K c_Signals (.type "object") = some true
  ow_get : Own K c_Signals "__getitem__" f_Signals___getitem__
  ow_eq : Own K c_Signals "__eq__" f_Signals___eq__
  on_Signals : OwnNe K c_Signals
  fi_get : PySem.W.fnIn K f_Signals___getitem__ = true
  ki_self : PySem.W.kitOne K (.ref c_Signals) (.ref c_Signals) = some true
  ki_tup : PySem.W.kitOne K (.type "tuple") (.ref c_Signals) = some false
  ki_non : PySem.W.kitOne K (.type "NoneType") (.ref c_Signals) = some false
  su_tup : PySem.W.subIn K (.type "tuple") (.ref c_Signals) = some false
  su_non : PySem.W.subIn K (.type "NoneType") (.ref c_Signals) = some false
  c_Clash : Addr
  m_Clash : mg "Clash" = some (.ref c_Clash)
  c_Draft : Addr
  m_Draft : mg "Draft" = some (.ref c_Draft)
  k_Draft : Cls K c_Draft
  mk_Draft : Mk K c_Draft f_Draft_init
  mc_Draft : Value
  cr_Draft : ClX.CRead K c_Draft mc_Draft
  nd__numbers : NoAttr K c_Draft "_numbers"
  mt_put : Meth K c_Draft "put" f_Draft_put
  p_present : Addr
  pr_present : PropOf K c_Draft "present" p_present f_Draft_present
  od_get : Own K c_Draft "__getitem__" f_Draft___getitem__
  od_set : Own K c_Draft "__setitem__" f_Draft___setitem__
  od_ior : Own K c_Draft "__ior__" f_Draft___ior__
  od_eq : Own K c_Draft "__eq__" f_Draft___eq__
  od_repr : Own K c_Draft "__repr__" f_Draft___repr__
  on_Draft : OwnNe K c_Draft
  fd_get : PySem.W.fnIn K f_Draft___getitem__ = true
  ns_Draft : PySem.W.noSeq K c_Draft = true
  sf_Draft : PySem.W.selfFirst K c_Draft = true
  ca_Draft : PySem.W.findIn K (.ref c_Draft) "__class__" = some (some (.builtin "object.__class__"))
  kd_self : PySem.W.kitOne K (.ref c_Draft) (.ref c_Draft) = some true
  sb_sig : PySem.W.subIn K (.ref c_Signals) (.ref c_Draft) = some false
  kd_sig : PySem.W.kitOne K (.ref c_Signals) (.ref c_Draft) = some false
  c_OrError : Addr
  m_OrError : mg "OrError" = some (.ref c_OrError)
  Z : ClsK K
  xm_FieldClash_FieldClash : PySem.W.exmOne K (.ref c_FieldClash) (.ref c_FieldClash) = some true
  xm_InvalidName_InvalidName : PySem.W.exmOne K (.ref c_InvalidName) (.ref c_InvalidName) = some true
  xm_InvalidName_InvalidNumber : PySem.W.exmOne K (.ref c_InvalidName) (.ref c_InvalidNumber) = some false
  xm_InvalidNumber_InvalidName : PySem.W.exmOne K (.ref c_InvalidNumber) (.ref c_InvalidName) = some false
  xm_InvalidNumber_InvalidNumber : PySem.W.exmOne K (.ref c_InvalidNumber) (.ref c_InvalidNumber) = some true
  ko_FieldClash_Clash : PySem.W.kitOne K (.ref c_FieldClash) (.ref c_Clash) = some false
  ko_InvalidNumber_InvalidName : PySem.W.kitOne K (.ref c_InvalidNumber) (.ref c_InvalidName) = some false
section
variable {P : Program} {w : World} {K : PySem.W.Frag} {mg : Str → Option Value} {base : Heap}
theorem ok_InvalidName_init (T : Txt K mg) : FnOk P w K mg base CX0 1 T.f_InvalidName_init T.fd_InvalidName_init ["self", "value"] (spIni T.c_InvalidName ["value"]) := by
  refine T.F_InvalidName_init.ok sc_InvalidName_init (fun vs H Q E h => ?_) (fun cdv A outer s H vs Q E hr h => ?_)
  · obtain ⟨a, vs, rfl, hl, _⟩ := h
    show vs.length + 1 = _
    rw [hl]
    rfl
  · obtain ⟨a, vs, rfl, hl, h1, q⟩ := h
    obtain ⟨v0, rfl⟩ : ∃ v0, vs = [v0] := match vs, hl with | [v0], _ => ⟨_, rfl⟩
    refine ⟨_, pss_one (ps_ost (pv 0) (pv 1)), ?_⟩
    refine ⟨_, rfl, _, rfl, a, T.c_InvalidName, rfl, T.ex_InvalidName.oex, T.no_InvalidName_value, .inl ⟨h1, fun d nd ne => ?_⟩⟩
    have n1 : a ≠ d := ne.symm
    refine q d _ nd ne ?_ ?_ (fun b n2 n3 => ?_)
    all_goals (try simp only [upd_same, upd_ne n1, upd_ne ne])
    all_goals first
      | rfl
      | (simp only [upd, if_neg n2, if_neg n3])
theorem ok_InvalidNumber_init (T : Txt K mg) : FnOk P w K mg base CX0 1 T.f_InvalidNumber_init T.fd_InvalidNumber_init ["self", "value"] (spIni T.c_InvalidNumber ["value"]) := by
  refine T.F_InvalidNumber_init.ok sc_InvalidNumber_init (fun vs H Q E h => ?_) (fun cdv A outer s H vs Q E hr h => ?_)
  · obtain ⟨a, vs, rfl, hl, _⟩ := h
    show vs.length + 1 = _
    rw [hl]
    rfl
  · obtain ⟨a, vs, rfl, hl, h1, q⟩ := h
    obtain ⟨v0, rfl⟩ : ∃ v0, vs = [v0] := match vs, hl with | [v0], _ => ⟨_, rfl⟩
    refine ⟨_, pss_one (ps_ost (pv 0) (pv 1)), ?_⟩
    refine ⟨_, rfl, _, rfl, a, T.c_InvalidNumber, rfl, T.ex_InvalidNumber.oex, T.no_InvalidNumber_value, .inl ⟨h1, fun d nd ne => ?_⟩⟩
    have n1 : a ≠ d := ne.symm
    refine q d _ nd ne ?_ ?_ (fun b n2 n3 => ?_)
    all_goals (try simp only [upd_same, upd_ne n1, upd_ne ne])
    all_goals first
      | rfl
      | (simp only [upd, if_neg n2, if_neg n3])
theorem ok_FieldClash_init (T : Txt K mg) : FnOk P w K mg base CX0 1 T.f_FieldClash_init T.fd_FieldClash_init ["self", "field", "one", "other"] (spIni T.c_FieldClash ["field", "one", "other"]) := by
  refine T.F_FieldClash_init.ok sc_FieldClash_init (fun vs H Q E h => ?_) (fun cdv A outer s H vs Q E hr h => ?_)
  · obtain ⟨a, vs, rfl, hl, _⟩ := h
    show vs.length + 1 = _
    rw [hl]
    rfl
  · obtain ⟨a, vs, rfl, hl, h1, q⟩ := h
    obtain ⟨v0, v1, v2, rfl⟩ : ∃ v0 v1 v2, vs = [v0, v1, v2] := match vs, hl with | [v0, v1, v2], _ => ⟨_, _, _, rfl⟩
    refine ⟨_, pss_cons (ps_ost (pv 0) (pv 1)) (pss_cons (ps_ost (pv 0) (pv 2)) (pss_one (ps_ost (pv 0) (pv 3)))), ?_⟩
    refine ⟨_, rfl, _, rfl, a, T.c_FieldClash, rfl, T.ex_FieldClash.oex, T.no_FieldClash_field, .inl ⟨h1, fun d nd ne => ?_⟩⟩
    refine ⟨_, rfl, _, rfl, a, T.c_FieldClash, rfl, T.ex_FieldClash.oex, T.no_FieldClash_one, .inr ⟨d, _, (by first | exact upd_same | (rw [upd_ne ne.symm]; exact upd_same)), (by first | exact upd_same | (rw [upd_ne ne]; exact upd_same)), by simp, ?_⟩⟩
    refine ⟨_, rfl, _, rfl, a, T.c_FieldClash, rfl, T.ex_FieldClash.oex, T.no_FieldClash_other, .inr ⟨d, _, (by first | exact upd_same | (rw [upd_ne ne.symm]; exact upd_same)), (by first | exact upd_same | (rw [upd_ne ne]; exact upd_same)), by simp, ?_⟩⟩
    have n1 : a ≠ d := ne.symm
    refine q d _ nd ne ?_ ?_ (fun b n2 n3 => ?_)
    all_goals (try simp only [upd_same, upd_ne n1, upd_ne ne])
    all_goals first
      | rfl
      | (simp only [upd, if_neg n2, if_neg n3])
theorem ok_is_name (T : Txt K mg) : FnOk P w K mg base CX0 1 T.f_is_name T.fd_is_name ["value"] (spName) := by
  have nd := sc_is_name.nd
  refine T.F_is_name.ok sc_is_name (fun vs H Q E h => ?_) (fun cdv A outer s H vs Q E hr h => ?_)
  · obtain ⟨v, p, rfl, _⟩ := h; rfl
  · obtain ⟨v, p, rfl, tv, q⟩ := h
    have hu := hu_of hr
    refine ⟨_, (pss_cons (ps_if (PW.pt (pw_or (pt_not (pt_val (pe_callB call_isi (by rfl) T.n_isinstance (by decide +kernel) (pa_cons (pv 0) (pa_cons (pe_bltn (v := .ty "str") (u := .type "str") (by rfl) T.n_str (by decide +kernel) rfl) pa_nil))))) (pw_or1 (pt_not (pt_chain op_le op_le pe_int (pe_callB call_len_str (by rfl) T.n_len (by decide +kernel) (pa_cons (pv 0) pa_nil)) (pe_glob (by rfl) T.g_MOST_SIGNS T.r_MOST_SIGNS)))))) (pss_one (ps_ret pe_bl)) pss_nil)
        (pss_cons (ps_if (PW.pt (pw_or (pt_cmpR op_notIn_sign (pe_ix ix_str (pv 0) pe_int (fun _ _ => rfl)) (pe_glob (by rfl) T.g_LETTERS T.r_LETTERS) (by rfl)) (pw_or1 (pt_cmpR op_in_seq (pv 0) (pe_glob (by rfl) T.g_RESERVED T.r_RESERVED) (by rfl))))) (pss_one (ps_ret pe_bl)) pss_nil)
        (pss_one (ps_ret (pe_callB (cr_all rfl) (by rfl) T.n_all (by decide +kernel) (pa_cons (pe_lc (own := [("sign", 1)]) (g := gName 1) rfl nd (pi_str (pv 0)) (blkOk_by (own := [("sign", 1)]) (N := N_is_name) (sc := defScope s_is_name) (by decide +kernel)) (fun _ _ _ _ _ => pg_name (i := 1) nd rfl (Or.inl rfl)) (fun _ _ _ _ _ => pts_nil) (fun _ _ _ _ _ => (pe_cmpR op_in_sign (pv 1) (pe_glob (by rfl) T.g_SIGNS T.r_SIGNS) (by rfl)))) pa_nil)))))), ?_⟩
    obtain ⟨u, hu1, hu2⟩ := tv.ty (K := K)
    refine ⟨_, rfl, _, _, _, _, _, rfl, .ty _, hu1, hu2, _, rfl, ?_⟩
    rcases tv.cases with ⟨z, rfl, hz⟩ | ⟨e1, e2⟩
    · refine iteF ?_
      refine ⟨_, rfl, _, rfl, hz.line (by decide), _, _, rfl, rfl, _, rfl, ?_⟩
      have bad : isName z = false → Q (.bl false) H := fun e => by
        have := q H (Same.refl H)
        rw [show nameV (.str z) = isName z from rfl, e] at this
        exact this
      refine ite2 (fun c1 => ?_) (fun c1 => ?_)
      · refine ⟨_, _, rfl, rfl, _, rfl, ?_⟩
        have l1 : (1 : Int) ≤ (z.length : Int) := of_decide_eq_true c1
        by_cases l2 : z.length ≤ 8
        · refine iteNS (by show (z.length : Int) ≤ 8; omega) ?_
          obtain ⟨c, hc1, hc2⟩ := head_at (z := z) (by omega)
          refine ⟨_, rfl, _, _, c, rfl, rfl, hz.line (by decide), hc1, c, _, rfl, rfl, _, rfl, ?_⟩
          cases hL : inS LET c with
          | false =>
            have hL' : (!decide (c ∈ (("abcdefghijklmnopqrstuvwxyz" : Str)).cps.toList)) = true := by
              rw [show decide (c ∈ (("abcdefghijklmnopqrstuvwxyz" : Str)).cps.toList) = false from hL]
              rfl
            refine if_pos_of hL' ?_
            exact bad (by simp [isName, hc2, hL])
          | true =>
            have hL' : (!decide (c ∈ (("abcdefghijklmnopqrstuvwxyz" : Str)).cps.toList)) = false := by
              rw [show decide (c ∈ (("abcdefghijklmnopqrstuvwxyz" : Str)).cps.toList) = true from hL]
              rfl
            refine if_neg_of hL' ?_
            refine ⟨_, rfl, T.a_RESERVED, RES, rfl, .inr (T.t_RESERVED H), rfl, by decide +kernel, _, rfl, ?_⟩
            cases hR : inV (.str z) RES with
            | true =>
              refine iteT ?_
              exact bad (by simp [isName, hR])
            | false =>
              refine iteF ?_
              refine ⟨_, rfl, _, rfl, fun D nD => lc_it walk_str (fun i H2 => Same H H2 ∧ H2 D = some (.lst ((z.cps.toList.take i).map fun c => V.bl (inS SIG c)))) ⟨same_upd nD, upd_same⟩ (fun _ _ _ _ => trivial) ?_ ?_⟩
              · rintro i x H2 H3 hi ⟨s1, h2⟩ ⟨rfl, c', hc', rfl⟩
                refine ⟨rfl, ?_⟩
                refine iteT (B := True) ?_
                refine ⟨_, rfl, c', _, rfl, rfl, _, h2, ?_, fun b o e => ?_, ?_⟩
                · rw [List.length_map, List.length_take]
                  have : sizeLine = 16777216 := by decide +kernel
                  rw [str_len]
                  omega
                · rw [upd_ne (ne_of_none e nD)]
                  exact s1 b o e
                · rw [upd_same, take_bl hc']
                  rfl
              · rintro H2 ⟨s1, h2⟩
                refine ⟨D, (z.cps.toList).map (inS SIG), rfl, ?_, ?_⟩
                · refine SqL.of (h2.trans ?_)
                  rw [List.take_of_length_le (by simp), List.map_map]
                  rfl
                · have e : ((z.cps.toList).map (inS SIG)).all id = isName z := by
                    simp [isName, hc2, hL, hR, l2, show 1 ≤ z.length by omega, List.all_map]
                  rw [e]
                  exact q _ s1
        · refine if_pos_of (by rw [show decide ((z.length : Int) ≤ 8) = false from decide_eq_false (by omega)]; rfl) ?_
          exact bad (by simp [isName, l2])
      · refine ⟨_, rfl, ?_⟩
        refine iteT ?_
        exact bad (by
          have : ¬ 1 ≤ z.length := fun h => c1 (decide_eq_true (by omega))
          simp [isName, this])
    · rw [e1]
      refine iteT ?_
      have := q H (Same.refl H)
      rw [e2] at this
      exact this
theorem ok_is_integer (T : Txt K mg) : FnOk P w K mg base CX0 1 T.f_is_integer T.fd_is_integer ["value", "least", "most"] (spInt) := by
  have nd := sc_is_integer.nd
  refine T.F_is_integer.ok sc_is_integer (fun vs H Q E h => ?_) (fun cdv A outer s H vs Q E hr h => ?_)
  · obtain ⟨v, p, lo, hi, rfl, _⟩ := h; rfl
  · obtain ⟨v, p, lo, hi, rfl, tv, q⟩ := h
    have hu := hu_of hr
    refine ⟨_, (pss_one (ps_ret (pe_and (pe_callB call_isi (by rfl) T.n_isinstance (by decide +kernel) (pa_cons (pv 0) (pa_cons (pe_bltn (v := .ty "int") (u := .type "int") (by rfl) T.n_int (by decide +kernel) rfl) pa_nil))) (pe_and (pe_not (pe_callB call_isi (by rfl) T.n_isinstance (by decide +kernel) (pa_cons (pv 0) (pa_cons (pe_bltn (v := .ty "bool") (u := .type "bool") (by rfl) T.n_bool (by decide +kernel) rfl) pa_nil)))) (pe_one (pe_chain op_le op_le (pv 1) (pv 0) (pv 2))))))), ?_⟩
    cases tv with
    | int i =>
      refine ⟨_, rfl, _, _, _, _, _, rfl, .ty _, .base (.int _), kit_ty (r := true) (by decide +kernel), ?_⟩
      refine ⟨true, rfl, ?_⟩
      refine iteT ?_
      refine ⟨_, rfl, _, _, _, _, _, rfl, .ty _, .base (.int _), kit_ty (r := false) (by decide +kernel), ?_⟩
      refine ⟨false, rfl, true, rfl, ?_⟩
      refine iteT ?_
      refine ⟨_, rfl, _, rfl, _, _, rfl, rfl, _, rfl, ?_⟩
      have qq := q H (Same.refl H)
      refine ite2 (fun c1 => ?_) (fun c1 => ?_)
      · refine ⟨_, rfl, _, _, rfl, rfl, ?_⟩
        have e1 : decide (lo ≤ i) = true := c1
        rw [show intIn (.int i) lo hi = (decide (lo ≤ i) && decide (i ≤ hi)) from rfl, e1, Bool.true_and] at qq
        exact qq
      · have e1 : decide (lo ≤ i) = false := by simpa using c1
        rw [show intIn (.int i) lo hi = (decide (lo ≤ i) && decide (i ≤ hi)) from rfl, e1, Bool.false_and] at qq
        exact qq
    | bl b =>
      refine ⟨_, rfl, _, _, _, _, _, rfl, .ty _, .base (.bl _), kit_ty (r := true) (by decide +kernel), ?_⟩
      refine ⟨true, rfl, ?_⟩
      refine iteT ?_
      refine ⟨_, rfl, _, _, _, _, _, rfl, .ty _, .base (.bl _), kit_ty (r := true) (by decide +kernel), ?_⟩
      refine ⟨true, rfl, false, rfl, ?_⟩
      refine iteF ?_
      exact q H (Same.refl H)
    | non =>
      refine ⟨_, rfl, _, _, _, _, _, rfl, .ty _, .base (.non), kit_ty (r := false) (by decide +kernel), ?_⟩
      refine ⟨false, rfl, ?_⟩
      refine iteF ?_
      exact q H (Same.refl H)
    | str z hz =>
      refine ⟨_, rfl, _, _, _, _, _, rfl, .ty _, .base (.str _), kit_ty (r := false) (by decide +kernel), ?_⟩
      refine ⟨false, rfl, ?_⟩
      refine iteF ?_
      exact q H (Same.refl H)
    | lst e n =>
      refine ⟨_, rfl, _, _, _, _, _, rfl, .ty _, .base (.lst e), kit_ty (r := false) (by decide +kernel), ?_⟩
      refine ⟨false, rfl, ?_⟩
      refine iteF ?_
      exact q H (Same.refl H)
    | tup e n =>
      refine ⟨_, rfl, _, _, _, _, _, rfl, .ty _, .base (.tup e), kit_ty (r := false) (by decide +kernel), ?_⟩
      refine ⟨false, rfl, ?_⟩
      refine iteF ?_
      exact q H (Same.refl H)
    | dK e n =>
      refine ⟨_, rfl, _, _, _, _, _, rfl, .ty _, .base (.dK e), kit_ty (r := false) (by decide +kernel), ?_⟩
      refine ⟨false, rfl, ?_⟩
      refine iteF ?_
      exact q H (Same.refl H)
theorem ok_check_field (T : Txt K mg) : FnOk P w K mg base (L2.CX P w) 3 T.f_check_field T.fd_check_field ["field"] (spChk T.c_InvalidName nameV) := by
  have G_is_name := ok_is_name (P := P) (w := w) (base := base) T
  have nd := sc_check_field.nd
  refine T.F_check_field.okX sc_check_field (fun vs H Q E h => ?_) (fun cdv A outer s H vs Q E hr h => ?_)
  · obtain ⟨v, p, rfl, _⟩ := h; rfl
  · obtain ⟨v, p, rfl, tv, qt, qf⟩ := h
    have hu := hu_of hr
    refine ⟨_, (pss_one (ps_if (pt_not (pt_val (pe_call (G_is_name) (hr.mono (by decide)) (by rfl) T.m_is_name T.F_is_name.kp T.b_is_name .nil pass0 (pa_cons (pv 0) pa_nil)))) (pss_one (ps_raise rfl (takes_of rfl rfl rfl rfl) (pmk_oex T.ex_InvalidName.oex T.ex_InvalidName.init T.ex_InvalidName.ifn (ok_InvalidName_init T) (hr.mono (by decide)) T.b_InvalidName_init .nil pass0 (by rfl) T.m_InvalidName (pa_cons (pv 0) pa_nil)))) pss_nil)), ?_⟩
    refine ⟨_, rfl, v, p, rfl, tv, fun H1 s1 => ?_⟩
    refine ⟨_, rfl, ?_⟩
    cases hg : nameV v with
    | true =>
      refine iteF ?_
      exact qt hg _ s1
    | false =>
      refine iteT ?_
      refine ⟨_, rfl, (by show 1 ≤ 1000; decide), fun e ne => ⟨e, [v], rfl, rfl, upd_same, fun d H' nd hde h1 h2 h3 => ?_⟩⟩
      have nd1 : H1 d = none := by
        rw [upd_ne hde] at nd
        exact nd
      refine ⟨rfl, d, _, h1, h2, nd1, ?_⟩
      exact qf hg d _ (s1.free nd1) (s1.trans (raised ne nd1 h3)) upd_same
theorem ok_check_number (T : Txt K mg) : FnOk P w K mg base (L2.CX P w) 3 T.f_check_number T.fd_check_number ["number"] (spChk T.c_InvalidNumber okN) := by
  have G_is_integer := ok_is_integer (P := P) (w := w) (base := base) T
  have nd := sc_check_number.nd
  refine T.F_check_number.okX sc_check_number (fun vs H Q E h => ?_) (fun cdv A outer s H vs Q E hr h => ?_)
  · obtain ⟨v, p, rfl, _⟩ := h; rfl
  · obtain ⟨v, p, rfl, tv, qt, qf⟩ := h
    have hu := hu_of hr
    refine ⟨_, (pss_one (ps_if (pt_not (pt_val (pe_call (G_is_integer) (hr.mono (by decide)) (by rfl) T.m_is_integer T.F_is_integer.kp T.b_is_integer .nil pass0 (pa_cons (pv 0) (pa_cons pe_int (pa_cons (ClX.pe_cval (pe_glob (v := .ref T.c_Signals) (by rfl) T.m_Signals rfl)) pa_nil)))))) (pss_one (ps_raise rfl (takes_of rfl rfl rfl rfl) (pmk_oex T.ex_InvalidNumber.oex T.ex_InvalidNumber.init T.ex_InvalidNumber.ifn (ok_InvalidNumber_init T) (hr.mono (by decide)) T.b_InvalidNumber_init .nil pass0 (by rfl) T.m_InvalidNumber (pa_cons (pv 0) pa_nil)))) pss_nil)), ?_⟩
    refine ⟨_, rfl, T.c_Signals, T.mc_Signals, _, _, rfl, T.cr_Signals, T.cv_MOST, v, p, 0, 1000000000, rfl, tv, fun H1 s1 => ?_⟩
    refine ⟨_, rfl, ?_⟩
    cases hg : okN v with
    | true =>
      rw [show intIn v 0 1000000000 = true from hg]
      refine iteF ?_
      exact qt hg _ s1
    | false =>
      rw [show intIn v 0 1000000000 = false from hg]
      refine iteT ?_
      refine ⟨_, rfl, (by show 1 ≤ 1000; decide), fun e ne => ⟨e, [v], rfl, rfl, upd_same, fun d H' nd hde h1 h2 h3 => ?_⟩⟩
      have nd1 : H1 d = none := by
        rw [upd_ne hde] at nd
        exact nd
      refine ⟨rfl, d, _, h1, h2, nd1, ?_⟩
      exact qf hg d _ (s1.free nd1) (s1.trans (raised ne nd1 h3)) upd_same
theorem ok_Signals_init (T : Txt K mg) : FnW P w K mg base (L2.CX P w) 5 T.f_Signals_init (spKw "this_object" (spSInit2 K T.c_Signals T.c_InvalidName T.c_InvalidNumber)) := by
  have G_check_field := ok_check_field (P := P) (w := w) (base := base) T
  have G_check_number := ok_check_number (P := P) (w := w) (base := base) T
  have nd := sc_Signals_init.nd
  refine kwX (x := "__init__") (st := s_Signals_init) T.F_Signals_init rfl sc_Signals_init (fun cdv A outer s H vs Q E hr h => ?_)
  · obtain ⟨x, d, dx, p, kws, rfl, hx, hd, nd2, hT, l60, qt, qf⟩ := h
    have hu := hu_of hr
    refine ⟨_, (pss_cons (ps_for (passes_of rfl) rfl (pi_list (pe_callB (call_sortedD rfl) (by rfl) T.n_sorted (by decide +kernel) (pa_cons (pv 1) pa_nil))) (pg_name (i := 2) nd rfl (Or.inl rfl)) (pss_cons (ps_expr (pe_call G_check_field (hr.mono (by decide)) (by rfl) T.m_check_field T.F_check_field.kp T.b_check_field .nil (passes_call (takes_of rfl rfl rfl rfl) (fun _ _ _ _ h => h)) (pa_cons (pv 2) pa_nil)))
        (pss_one (ps_expr (pe_call G_check_number (hr.mono (by decide)) (by rfl) T.m_check_number T.F_check_number.kp T.b_check_number .nil (passes_call (takes_of rfl rfl rfl rfl) (fun _ _ _ _ h => h)) (pa_cons (pe_dget (by exact hu) (pv 1) (pv 2) (fun _ _ => rfl)) pa_nil))))))
        (pss_cons (ps_fld (pv 0) (pe_callTy cr_tupF (by rfl) T.n_tuple (by decide +kernel) (pa_cons (pe_lc (own := [("field", 2)]) (g := gName 2) rfl nd (pi_list (pe_callB (call_sortedD rfl) (by rfl) T.n_sorted (by decide +kernel) (pa_cons (pv 1) pa_nil))) (blkOk_by (own := [("field", 2)]) (N := N_Signals_init) (sc := defScope s_Signals_init) (by decide +kernel)) (fun _ _ _ _ _ => pg_name (i := 2) nd rfl (Or.inl rfl)) (fun _ _ _ _ _ => pts_one (pt_cmpR op_ne (pe_dget (by exact hu) (pv 1) (pv 2) (fun _ _ => rfl)) pe_int (by rfl))) (fun _ _ _ _ _ => (pe_tup (pa_cons (pv 2) (pa_cons (pe_dget (by exact hu) (pv 1) (pv 2) (fun _ _ => rfl)) pa_nil))))) pa_nil)) (by rfl))
        (pss_one (ps_fld (pv 0) (pe_callTy (cr_dictT rfl) (by rfl) T.n_dict (by decide +kernel) (pa_cons (pe_fld (pv 0) (by rfl)) pa_nil)) (by rfl))))), ?_⟩
    have hks : (inrs kws).map (·.1) = (kws.map (·.1)).map Sum.inr := by
      unfold inrs
      rw [List.map_map, List.map_map]
      rfl
    refine ⟨_, rfl, d, inrs kws, kws.map (·.1), rfl, Rd.of hd, hks, by rw [List.length_map]; omega, fun ys l hp hso nl => ?_⟩
    have hl2 : ys.length ≤ 60 := by
      have := hp.length_eq
      rw [List.length_map] at this
      omega
    obtain ⟨H1, hh, s1, _, el⟩ := knew (o := .lst (ys.map V.str)) (Same.refl H) nl
    rw [hh]
    clear hh
    refine ⟨l, rfl, ⟨_, SqL.of el⟩, for_list (K := K) (a := l) (xs := ys.map V.str) (fun i σ H2 => ∃ (v : Option V), σ = [some (.ref x), some (.ref d), v] ∧ (∀ k' ∈ ys.take i, ∀ v', (k', v') ∈ kws → isName k' = true ∧ okN v' = true) ∧ Same H1 H2) ⟨_, rfl, fun u hu => by simp at hu, Same.refl H1⟩ (fun _ _ _ _ ⟨_, _, _, s2⟩ => s2.seq (SqL.of el)) ?_ ?_⟩
    · rintro i v σ H2 hv ⟨v0, rfl, hall, s2⟩
      obtain ⟨k, hk, rfl⟩ := map_str_at2 hv
      obtain ⟨v, hkv⟩ := mem_val (hp.subset (List.mem_of_getElem? hk))
      obtain ⟨tv, tx⟩ := hT _ hkv
      have s12 := s1.trans s2
      obtain ⟨f1, f2⟩ := qf ys i k v hp hso hk hkv hall
      refine ⟨_, rfl, .str k, p, rfl, .str k tx, fun hok H3 s3 => ?_, fun hbad e H3 ne s3 e3 => f1 hbad e H3 (s12.free ne) (s12.trans s3) e3⟩
      have s13 := s12.trans s3
      have dg : DGet H3 d (.str k) (some v) := by
        have z := DGet.k (k := Sum.inr k) (s13 _ _ hd)
        rw [valV_inr nd2 hkv] at z
        exact z
      refine ⟨_, rfl, _, rfl, d, v, rfl, dg, v, p, rfl, Same.tv tv s13, fun hok2 H4 s4 => ?_, fun hbad e H4 ne s4 e4 => f2 hok hbad e H4 (s13.free ne) (s13.trans s4) e4⟩
      refine ⟨_, rfl, take_mem_succ hk hall fun v' hv' => ?_, s2.trans (s3.trans s4)⟩
      have e1 := valV_inr nd2 hkv
      rw [valV_inr nd2 hv'] at e1
      rw [Option.some.inj e1]
      exact ⟨hok, hok2⟩
    · rintro σ H2 ⟨v0, rfl, hall, s2⟩
      rw [List.length_map, List.take_of_length_le (Nat.le_refl _)] at hall
      have all : ∀ y ∈ kws, isName y.1 = true ∧ okN y.2 = true := fun y hy => hall y.1 (hp.symm.subset (List.mem_map_of_mem hy)) y.2 hy
      have s12 := s1.trans s2
      clear hall qf s1 s2 el nl
      have hd2 := s12 _ _ hd
      refine ⟨_, rfl, d, inrs kws, kws.map (·.1), rfl, Rd.of hd2, hks, by rw [List.length_map]; omega, fun zs l2 hp2 hso2 nl2 => ?_⟩
      have hl3 : zs.length ≤ 60 := by
        have := hp2.length_eq
        rw [List.length_map] at this
        omega
      obtain ⟨H3, hh, s3, _, el⟩ := knew (o := .lst (zs.map V.str)) s12 nl2
      rw [hh]
      clear hh
      have hd3 := s3 _ _ hd
      refine ⟨l2, rfl, ⟨_, SqL.of el⟩, fun D nD => lc_list (K := K) (a := l2) (xs := zs.map V.str) (fun i H' => ∃ (qs : List Addr) (kvs : List (Key × V)), Same H3 H' ∧ H' D = some (.lst (qs.map V.ref)) ∧ qs.length ≤ i ∧ kvs = kvsOf (toldOf kws (zs.take i)) ∧ Paired (fun p kv => H' p = some (.tup [kV kv.1, kv.2]) ∧ p ≠ D) qs kvs) ⟨[], [], same_upd nD, upd_same, Nat.le_refl _, rfl, .nil⟩ (fun _ _ _ ⟨_, _, s4, _⟩ => s4.seq (SqL.of el)) ?_ ?_⟩
      · rintro i v H4 hv ⟨qs, kvs, s4, hD4, lq, ek, pr⟩
        obtain ⟨k, hk, rfl⟩ := map_str_at2 hv
        obtain ⟨v, hkv⟩ := mem_val (hp2.subset (List.mem_of_getElem? hk))
        obtain ⟨n, rfl⟩ := okN_int (all _ hkv).2
        have dg : ∀ {H' : Hp}, Same H4 H' → DGet H' d (.str k) (some (.int n)) := fun {H'} s' => by
          have z := DGet.k (k := Sum.inr k) (s' _ _ (s4 _ _ hd3))
          rw [valV_inr nd2 hkv] at z
          exact z
        have ilt := (List.getElem?_eq_some_iff.mp hv).1
        rw [List.length_map] at ilt
        have tsu := toldOf_succ hk (lookup_mem nd2 hkv)
        refine ⟨rfl, _, rfl, _, rfl, d, _, rfl, dg (Same.refl _), rfl, _, rfl, ?_⟩
        refine ite2 (fun c1 => ?_) (fun c1 => ?_)
        · refine ⟨_, rfl, _, rfl, _, rfl, d, _, rfl, dg (Same.refl _), line_of (by show 2 ≤ 1000000; decide), fun t nt => ?_⟩
          have nDt : D ≠ t := ne_of_none hD4 nt
          have s5 : Same H4 (upd H4 t (.tup [.str k, .int n])) := same_upd nt
          refine ⟨_, (upd_ne nDt).trans hD4, ?_, qs ++ [t], kvs ++ [(Sum.inr k, .int n)], fun c o e => ?_, by rw [upd_same, List.map_append]; rfl, by simp; omega, ?_, ?_⟩
          · have : sizeLine = 16777216 := by decide +kernel
            rw [List.length_map]
            omega
          · rw [upd_ne (ne_of_none e nD)]
            exact s5 _ _ (s4 _ _ e)
          · rw [tsu, if_neg (show ¬ n = 0 from by simpa using c1), ek]
            unfold kvsOf
            rw [List.map_append]
            rfl
          · refine paired_app (L2.Paired.mapP pr fun p kv h => ⟨?_, h.2⟩) (.cons ⟨?_, Ne.symm nDt⟩ .nil)
            · rw [upd_ne h.2]
              exact s5 _ _ h.1
            · rw [upd_ne (Ne.symm nDt)]
              exact upd_same
        · refine ⟨qs, kvs, s4, hD4, by omega, ?_, pr⟩
          rw [tsu, if_pos (show n = 0 from by simpa using c1), List.append_nil]
          exact ek
      · rintro H4 ⟨qs, kvs, s4, hD4, lq, ek, pr⟩
        rw [List.length_map, List.take_of_length_le (Nat.le_refl _)] at ek
        refine ⟨D, _, rfl, SqL.of hD4, fun t fo nt fd => ?_⟩
        obtain ⟨H5, hh, s5, s45, e5⟩ := knew (o := .frz fo (.tup (qs.map V.ref))) (s3.trans s4) nt
        rw [hh]
        clear hh
        refine ⟨_, rfl, x, T.c_Signals, dx, [], rfl, s5 _ _ hx, T.k_Signals, T.na_told, (by decide), ?_⟩
        have ntx : t ≠ x := ne_of e5 (s5 _ _ hx) (by intro z; cases z)
        obtain ⟨H6, hh, e6, k6⟩ : ∃ H6, upd H5 x (.ins T.c_Signals dx (putF "told" (.ref t) [])) = H6 ∧ H6 x = some (.ins T.c_Signals dx [("told", .ref t)]) ∧ Keep x H5 H6 := ⟨_, rfl, upd_same, keep_upd⟩
        rw [hh]
        clear hh
        have e56 := k6 _ _ e5 ntx
        have pr6 : Paired (fun p kv => SqT K H6 p [kV kv.1, kv.2]) qs kvs := L2.Paired.mapP pr fun p kv h => SqT.of (k6 _ _ (s45 _ _ h.1) (ne_of (s45 _ _ h.1) (s5 _ _ hx) (by intro z; cases z)))
        refine ⟨_, rfl, x, T.c_Signals, dx, [("told", .ref t)], _, rfl, e6, T.k_Signals, T.na_told, rfl, t, fo, qs, kvs, rfl, e56, fd, pr6, fun m nm => ?_⟩
        obtain ⟨H7, hh, s7, _, e7⟩ := knew (o := .dK (mergeK [] kvs)) (Same.refl H6) nm
        rw [hh]
        clear hh
        refine ⟨_, rfl, x, T.c_Signals, dx, [("told", .ref t)], rfl, s7 _ _ e6, T.k_Signals, T.na__numbers, (by show 1 < 1000; decide), ?_⟩
        have nmx : m ≠ x := ne_of e7 (s7 _ _ e6) (by intro z; cases z)
        have e57 := s7 _ _ e56
        subst ek
        have pr8 : Paired (fun p (kv : Key × V) => SqT K (upd H7 x (.ins T.c_Signals dx (putF "_numbers" (.ref m) [("told", .ref t)]))) p [kV kv.1, kv.2]) qs (kvsOf (toldOf kws zs)) := L2.Paired.mapP pr fun p kv h => by
          have np : p ≠ x := ne_of (s45 _ _ h.1) (s5 _ _ hx) (by intro z; cases z)
          exact SqT.of (by rw [upd_ne np]; exact s7 _ _ (k6 _ _ (s45 _ _ h.1) np))
        refine qt all zs _ hp2 hso2 ⟨dx, t, m, fo, _, qs, upd_same, rfl, rfl, ?_, ?_, ?_, noat_two⟩ (fun c o e n => by
          rw [upd_ne n]
          exact s7 _ _ (k6 _ _ (s5 _ _ e) n))
        · rw [upd_ne ntx]
          exact e57
        · exact paired_unmap (g := fun y : Str × Int => ((Sum.inr y.1 : Key), V.int y.2)) pr8
        · rw [upd_ne nmx]
          exact e7
theorem ok_Signals_of (T : Txt K mg) : FnOk P w K mg base (L2.CX P w) 8 T.f_Signals_of T.fd_Signals_of ["cls", "pairs"] (spOf2 K T.c_Signals T.c_InvalidName T.c_InvalidNumber) := by
  have G_check_field := ok_check_field (P := P) (w := w) (base := base) T
  have G_check_number := ok_check_number (P := P) (w := w) (base := base) T
  have G_Signals_init := ok_Signals_init (P := P) (w := w) (base := base) T
  have nd := sc_Signals_of.nd
  refine T.F_Signals_of.okX sc_Signals_of (fun vs H Q E h => ?_) (fun cdv A outer s H vs Q E hr h => ?_)
  · obtain ⟨l, p, ps, qs, rest, oks, rfl, _⟩ := h; rfl
  · obtain ⟨l, p, ps, qs, rest, oks, rfl, hL, hP, hqs, l60, hT, nd2, hok, qt, qf⟩ := h
    have hu := hu_of hr
    rcases hL with hL | hL
    · refine ⟨_, (pss_cons (ps_set (i := 2) nd rfl (Or.inl rfl) pe_dnewK)
        (pss_cons (ps_for (passes_of rfl) rfl (pi_list (pv 1)) (pg_tup rfl (pgs_cons (pg_name (i := 3) nd rfl (Or.inl rfl)) (pgs_cons (pg_name (i := 4) nd rfl (Or.inl rfl)) pgs_nil))) (pss_cons (ps_expr (pe_call G_check_field (hr.mono (by decide)) (by rfl) T.m_check_field T.F_check_field.kp T.b_check_field .nil (passes_call (takes_of rfl rfl rfl rfl) (fun _ _ _ _ h => h)) (pa_cons (pv 3) pa_nil)))
        (pss_cons (ps_if (pt_cmp (pc_din hu (pv 3) (pv 2))) (pss_one (ps_raise rfl (takes_of rfl rfl rfl rfl) (pmk_oex T.ex_InvalidName.oex T.ex_InvalidName.init T.ex_InvalidName.ifn (ok_InvalidName_init T) (hr.mono (by decide)) T.b_InvalidName_init .nil pass0 (by rfl) T.m_InvalidName (pa_cons (pv 3) pa_nil)))) pss_nil)
        (pss_cons (ps_expr (pe_call G_check_number (hr.mono (by decide)) (by rfl) T.m_check_number T.F_check_number.kp T.b_check_number .nil (passes_call (takes_of rfl rfl rfl rfl) (fun _ _ _ _ h => h)) (pa_cons (pv 4) pa_nil)))
        (pss_one (ps_dput hu (pv 2) (pv 3) (pv 4) (by rfl)))))))
        (pss_one (ps_ret (pe_makeW T.mk_Signals G_Signals_init (hr.mono (by decide)) (pv 0) (passes_call (takes_of rfl rfl rfl rfl) (fun _ _ _ _ h => h)) (pv 2)))))), ?_⟩
      refine fun D nD => ?_
      obtain ⟨H1, hh, s1, _, e1⟩ := knew (o := .dK []) (Same.refl H) nD
      rw [hh]
      clear hh
      have fresh : ∀ {H2 : Hp}, Keep D H1 H2 → Same H H2 := fun k b o e => k b o (s1 b o e) (ne_of_none e nD)
      refine ⟨_, rfl, l, rfl, ⟨_, Same.seq s1 hL⟩, for_list (K := K) (a := l) (xs := ps.map V.ref) (fun i σ H2 => ∃ (v w : Option V), σ = [some (.ref T.c_Signals), some (.ref l), some (.ref D), v, w] ∧ i ≤ oks.length ∧ H2 D = some (.dK (inrs (oks.take i))) ∧ Keep D H1 H2) ⟨_, _, rfl, Nat.zero_le _, e1, Keep.refl _ _⟩ (fun _ _ _ _ ⟨_, _, _, _, _, k⟩ => Same.seq (fresh k) hL) ?_ ?_⟩
      · rintro i v σ H2 hv ⟨v0, w0, rfl, hi, hD2, k2⟩
        obtain ⟨a, ha, rfl⟩ := map_ref_at7 hv
        obtain ⟨⟨f, n⟩, hq, ht⟩ := paired_at hP ha
        have s2 := fresh k2
        obtain ⟨tf, tn⟩ := hT _ (List.mem_of_getElem? hq)
        refine ⟨a, _, rfl, SqT.of (s2 _ _ ht), rfl, _, _, rfl, _, _, rfl, rfl, ?_⟩
        show tSeq _ _ _ ([some (.ref T.c_Signals), some (.ref l), some (.ref D), some f, some n] : L2.St) _
        rw [hqs] at hq
        have three : (i < oks.length ∧ ∃ y, oks[i]? = some y ∧ f = .str y.1 ∧ n = y.2) ∨ (i = oks.length ∧ ∃ more, rest = (f, n) :: more) := by
          by_cases h1 : i < oks.length
          · exact .inl ⟨h1, vk_at hq h1⟩
          · have h2 : i = oks.length := by omega
            rw [h2] at hq
            exact .inr ⟨h2, vk_end hq⟩
        refine ⟨_, rfl, f, p, rfl, Same.tv tf s2, fun hok1 H3 s3 => ?_, fun hbad e H3 ne s3 e3 => ?_⟩
        · have k3 : Keep D H1 H3 := k2.trans (same_keep s3)
          have hD3 := s3 _ _ hD2
          obtain ⟨z, rfl, hz⟩ := nameV_str hok1
          have dg := DGet.k (k := Sum.inr z) hD3
          rcases three with ⟨h1, y, hy, ef, rfl⟩ | ⟨h1, more, hr⟩
          · have ez : z = y.1 := by
              injection ef
            subst ez
            have nn := nodup_take nd2 hy
            rw [valV_inr_none nn] at dg
            refine ⟨_, rfl, _, rfl, D, none, rfl, dg, _, rfl, ?_⟩
            refine iteF ?_
            refine ⟨_, rfl, y.2, p, rfl, Same.tv (Same.tv tn s2) s3, fun _ H4 s4 => ?_, fun hb => ?_⟩
            · have hD4 := s4 _ _ hD3
              have lk : (inrs (oks.take i)).length < sizeLine := by
                have : sizeLine = 16777216 := by decide +kernel
                have h2 : oks.length ≤ qs.length := by
                  rw [hqs]
                  unfold vk
                  rw [List.length_append, List.length_map]
                  omega
                rw [inrs_len, List.length_take]
                omega
              refine ⟨_, rfl, _, rfl, _, rfl, D, _, rfl, DPut.k (k := Sum.inr y.1) hD4 lk, ?_⟩
              refine ⟨_, _, rfl, h1, ?_, fun c o e nc => ?_⟩
              · rw [upd_same, putK_new nn, List.take_add_one, hy]
                rfl
              · rw [upd_ne nc]
                exact s4 _ _ (k3 _ _ e nc)
            · rw [(hok y (List.mem_of_getElem? hy)).2] at hb
              cases hb
          · obtain ⟨q1, q2, q3⟩ := qf _ _ more hr
            rw [h1, List.take_of_length_le (Nat.le_refl _)] at hD3 dg
            by_cases dup : z ∈ oks.map (·.1)
            · obtain ⟨v, hv⟩ := mem_val dup
              rw [valV_inr nd2 hv] at dg
              refine ⟨_, rfl, _, rfl, D, some v, rfl, dg, _, rfl, ?_⟩
              refine iteT ?_
              refine ⟨_, rfl, (by show 1 ≤ 1000; decide), fun e ne => ⟨e, [.str z], rfl, rfl, upd_same, fun d H' nd hde h1 h2 h3 => ?_⟩⟩
              have nd1 : H3 d = none := by
                rw [upd_ne hde] at nd
                exact nd
              refine ⟨rfl, d, _, h1, h2, nd1, ?_⟩
              exact q1 (.inr ⟨z, rfl, dup⟩) d _ ((fresh k3).free nd1) ((fresh k3).trans (raised ne nd1 h3)) upd_same
            · rw [valV_inr_none dup] at dg
              refine ⟨_, rfl, _, rfl, D, none, rfl, dg, _, rfl, ?_⟩
              refine iteF ?_
              have hb2 : okN n = false := by
                rcases q3 with q3 | ⟨z', ez, hz'⟩ | q3
                · rw [hok1] at q3
                  cases q3
                · injection ez with ez
                  exact absurd (ez ▸ hz') dup
                · exact q3
              refine ⟨_, rfl, n, p, rfl, Same.tv (Same.tv tn s2) s3, fun hb => ?_, fun _ e H4 ne s4 e4 => ?_⟩
              · rw [hb2] at hb
                cases hb
              · exact q2 z rfl hz dup hb2 e H4 ((fresh k3).free ne) ((fresh k3).trans s4) e4
        · rcases three with ⟨h1, y, hy, rfl, rfl⟩ | ⟨h1, more, hr⟩
          · have := (hok y (List.mem_of_getElem? hy)).1
            rw [show nameV (.str y.1) = isName y.1 from rfl, this] at hbad
            cases hbad
          · exact (qf f n more hr).1 (.inl hbad) e H3 (s2.free ne) (s2.trans s3) e3
      · rintro σ H2 ⟨v0, w0, rfl, hi, hD2, k2⟩
        have lps : ps.length = qs.length := hP.length
        rw [List.length_map, lps, hqs] at hi
        have l1 : (vk oks).length = oks.length := List.length_map _
        have hr : rest = [] := by
          rw [List.length_append] at hi
          exact List.length_eq_zero_iff.mp (by omega)
        have l2 : oks.length ≤ 60 := by
          rw [hqs, List.length_append] at l60
          omega
        rw [List.length_map, lps, hqs, List.length_append, hr, List.length_nil, Nat.add_zero, l1, List.take_of_length_le (Nat.le_refl _)] at hD2
        have s2 := fresh k2
        refine ⟨_, rfl, rfl, _, rfl, D, oks, rfl, hD2, by omega, fun x dx nx ndx ne => ?_⟩
        refine ⟨.ref x, rfl, nd2, fun y hy e => ?_, by omega, fun d nd => ?_⟩
        · have := (hok y hy).1
          rw [e] at this
          exact absurd this (by decide +kernel)
        have sx : Same H2 (upd (upd H2 dx (.own x)) x (.ins T.c_Signals dx [])) := (same_upd ndx).trans (same_upd (by rw [upd_ne ne.symm]; exact nx))
        have ex0 : (upd (upd H2 dx (.own x)) x (.ins T.c_Signals dx [])) x = some (.ins T.c_Signals dx []) := upd_same
        obtain ⟨H3, hh, s3, ex3⟩ : ∃ H3, upd (upd H2 dx (.own x)) x (.ins T.c_Signals dx []) = H3 ∧ Same H2 H3 ∧ H3 x = some (.ins T.c_Signals dx []) := ⟨_, rfl, sx, ex0⟩
        rw [hh] at nd ⊢
        clear hh
        have s4 : Same H3 (upd H3 d (.dK (inrs oks))) := same_upd nd
        refine ⟨x, d, dx, p, oks, rfl, s4 _ _ ex3, upd_same, nd2, fun y hy => ?_, by omega, fun _ zs H' hp hso sg kx => ⟨rfl, ?_⟩, fun ys i k v hp hso hk hkv hall => ?_⟩
        · have hm : (V.str y.1, y.2) ∈ qs := by
            rw [hqs]
            exact List.mem_append_left _ (List.mem_map_of_mem (f := fun y : Str × V => (V.str y.1, y.2)) hy)
          obtain ⟨t1, t2⟩ := hT _ hm
          refine ⟨Same.tv (Same.tv (Same.tv t2 s2) s3) s4, ?_⟩
          cases t1 with
          | str z h => exact h
        · exact qt hr x zs H' hp hso sg (s2.free nx) (fun c o e => kx c o (s4 _ _ (s3 _ _ (s2 _ _ e))) (ne_of_none (s2 _ _ e) nx))
        · obtain ⟨h1, h2⟩ := hok _ hkv
          exact ⟨fun hb => absurd (hb.symm.trans h1) Bool.false_ne_true, fun _ hb => absurd (hb.symm.trans h2) Bool.false_ne_true⟩
    · refine ⟨_, (pss_cons (ps_set (i := 2) nd rfl (Or.inl rfl) pe_dnewK)
        (pss_cons (ps_for (passes_of rfl) rfl (pi_tup (pv 1)) (pg_tup rfl (pgs_cons (pg_name (i := 3) nd rfl (Or.inl rfl)) (pgs_cons (pg_name (i := 4) nd rfl (Or.inl rfl)) pgs_nil))) (pss_cons (ps_expr (pe_call G_check_field (hr.mono (by decide)) (by rfl) T.m_check_field T.F_check_field.kp T.b_check_field .nil (passes_call (takes_of rfl rfl rfl rfl) (fun _ _ _ _ h => h)) (pa_cons (pv 3) pa_nil)))
        (pss_cons (ps_if (pt_cmp (pc_din hu (pv 3) (pv 2))) (pss_one (ps_raise rfl (takes_of rfl rfl rfl rfl) (pmk_oex T.ex_InvalidName.oex T.ex_InvalidName.init T.ex_InvalidName.ifn (ok_InvalidName_init T) (hr.mono (by decide)) T.b_InvalidName_init .nil pass0 (by rfl) T.m_InvalidName (pa_cons (pv 3) pa_nil)))) pss_nil)
        (pss_cons (ps_expr (pe_call G_check_number (hr.mono (by decide)) (by rfl) T.m_check_number T.F_check_number.kp T.b_check_number .nil (passes_call (takes_of rfl rfl rfl rfl) (fun _ _ _ _ h => h)) (pa_cons (pv 4) pa_nil)))
        (pss_one (ps_dput hu (pv 2) (pv 3) (pv 4) (by rfl)))))))
        (pss_one (ps_ret (pe_makeW T.mk_Signals G_Signals_init (hr.mono (by decide)) (pv 0) (passes_call (takes_of rfl rfl rfl rfl) (fun _ _ _ _ h => h)) (pv 2)))))), ?_⟩
      refine fun D nD => ?_
      obtain ⟨H1, hh, s1, _, e1⟩ := knew (o := .dK []) (Same.refl H) nD
      rw [hh]
      clear hh
      have fresh : ∀ {H2 : Hp}, Keep D H1 H2 → Same H H2 := fun k b o e => k b o (s1 b o e) (ne_of_none e nD)
      refine ⟨_, rfl, l, rfl, ⟨_, Same.seqT s1 hL⟩, for_tup (K := K) (a := l) (xs := ps.map V.ref) (fun i σ H2 => ∃ (v w : Option V), σ = [some (.ref T.c_Signals), some (.ref l), some (.ref D), v, w] ∧ i ≤ oks.length ∧ H2 D = some (.dK (inrs (oks.take i))) ∧ Keep D H1 H2) ⟨_, _, rfl, Nat.zero_le _, e1, Keep.refl _ _⟩ (fun _ _ _ _ ⟨_, _, _, _, _, k⟩ => Same.seqT (fresh k) hL) ?_ ?_⟩
      · rintro i v σ H2 hv ⟨v0, w0, rfl, hi, hD2, k2⟩
        obtain ⟨a, ha, rfl⟩ := map_ref_at7 hv
        obtain ⟨⟨f, n⟩, hq, ht⟩ := paired_at hP ha
        have s2 := fresh k2
        obtain ⟨tf, tn⟩ := hT _ (List.mem_of_getElem? hq)
        refine ⟨a, _, rfl, SqT.of (s2 _ _ ht), rfl, _, _, rfl, _, _, rfl, rfl, ?_⟩
        show tSeq _ _ _ ([some (.ref T.c_Signals), some (.ref l), some (.ref D), some f, some n] : L2.St) _
        rw [hqs] at hq
        have three : (i < oks.length ∧ ∃ y, oks[i]? = some y ∧ f = .str y.1 ∧ n = y.2) ∨ (i = oks.length ∧ ∃ more, rest = (f, n) :: more) := by
          by_cases h1 : i < oks.length
          · exact .inl ⟨h1, vk_at hq h1⟩
          · have h2 : i = oks.length := by omega
            rw [h2] at hq
            exact .inr ⟨h2, vk_end hq⟩
        refine ⟨_, rfl, f, p, rfl, Same.tv tf s2, fun hok1 H3 s3 => ?_, fun hbad e H3 ne s3 e3 => ?_⟩
        · have k3 : Keep D H1 H3 := k2.trans (same_keep s3)
          have hD3 := s3 _ _ hD2
          obtain ⟨z, rfl, hz⟩ := nameV_str hok1
          have dg := DGet.k (k := Sum.inr z) hD3
          rcases three with ⟨h1, y, hy, ef, rfl⟩ | ⟨h1, more, hr⟩
          · have ez : z = y.1 := by
              injection ef
            subst ez
            have nn := nodup_take nd2 hy
            rw [valV_inr_none nn] at dg
            refine ⟨_, rfl, _, rfl, D, none, rfl, dg, _, rfl, ?_⟩
            refine iteF ?_
            refine ⟨_, rfl, y.2, p, rfl, Same.tv (Same.tv tn s2) s3, fun _ H4 s4 => ?_, fun hb => ?_⟩
            · have hD4 := s4 _ _ hD3
              have lk : (inrs (oks.take i)).length < sizeLine := by
                have : sizeLine = 16777216 := by decide +kernel
                have h2 : oks.length ≤ qs.length := by
                  rw [hqs]
                  unfold vk
                  rw [List.length_append, List.length_map]
                  omega
                rw [inrs_len, List.length_take]
                omega
              refine ⟨_, rfl, _, rfl, _, rfl, D, _, rfl, DPut.k (k := Sum.inr y.1) hD4 lk, ?_⟩
              refine ⟨_, _, rfl, h1, ?_, fun c o e nc => ?_⟩
              · rw [upd_same, putK_new nn, List.take_add_one, hy]
                rfl
              · rw [upd_ne nc]
                exact s4 _ _ (k3 _ _ e nc)
            · rw [(hok y (List.mem_of_getElem? hy)).2] at hb
              cases hb
          · obtain ⟨q1, q2, q3⟩ := qf _ _ more hr
            rw [h1, List.take_of_length_le (Nat.le_refl _)] at hD3 dg
            by_cases dup : z ∈ oks.map (·.1)
            · obtain ⟨v, hv⟩ := mem_val dup
              rw [valV_inr nd2 hv] at dg
              refine ⟨_, rfl, _, rfl, D, some v, rfl, dg, _, rfl, ?_⟩
              refine iteT ?_
              refine ⟨_, rfl, (by show 1 ≤ 1000; decide), fun e ne => ⟨e, [.str z], rfl, rfl, upd_same, fun d H' nd hde h1 h2 h3 => ?_⟩⟩
              have nd1 : H3 d = none := by
                rw [upd_ne hde] at nd
                exact nd
              refine ⟨rfl, d, _, h1, h2, nd1, ?_⟩
              exact q1 (.inr ⟨z, rfl, dup⟩) d _ ((fresh k3).free nd1) ((fresh k3).trans (raised ne nd1 h3)) upd_same
            · rw [valV_inr_none dup] at dg
              refine ⟨_, rfl, _, rfl, D, none, rfl, dg, _, rfl, ?_⟩
              refine iteF ?_
              have hb2 : okN n = false := by
                rcases q3 with q3 | ⟨z', ez, hz'⟩ | q3
                · rw [hok1] at q3
                  cases q3
                · injection ez with ez
                  exact absurd (ez ▸ hz') dup
                · exact q3
              refine ⟨_, rfl, n, p, rfl, Same.tv (Same.tv tn s2) s3, fun hb => ?_, fun _ e H4 ne s4 e4 => ?_⟩
              · rw [hb2] at hb
                cases hb
              · exact q2 z rfl hz dup hb2 e H4 ((fresh k3).free ne) ((fresh k3).trans s4) e4
        · rcases three with ⟨h1, y, hy, rfl, rfl⟩ | ⟨h1, more, hr⟩
          · have := (hok y (List.mem_of_getElem? hy)).1
            rw [show nameV (.str y.1) = isName y.1 from rfl, this] at hbad
            cases hbad
          · exact (qf f n more hr).1 (.inl hbad) e H3 (s2.free ne) (s2.trans s3) e3
      · rintro σ H2 ⟨v0, w0, rfl, hi, hD2, k2⟩
        have lps : ps.length = qs.length := hP.length
        rw [List.length_map, lps, hqs] at hi
        have l1 : (vk oks).length = oks.length := List.length_map _
        have hr : rest = [] := by
          rw [List.length_append] at hi
          exact List.length_eq_zero_iff.mp (by omega)
        have l2 : oks.length ≤ 60 := by
          rw [hqs, List.length_append] at l60
          omega
        rw [List.length_map, lps, hqs, List.length_append, hr, List.length_nil, Nat.add_zero, l1, List.take_of_length_le (Nat.le_refl _)] at hD2
        have s2 := fresh k2
        refine ⟨_, rfl, rfl, _, rfl, D, oks, rfl, hD2, by omega, fun x dx nx ndx ne => ?_⟩
        refine ⟨.ref x, rfl, nd2, fun y hy e => ?_, by omega, fun d nd => ?_⟩
        · have := (hok y hy).1
          rw [e] at this
          exact absurd this (by decide +kernel)
        have sx : Same H2 (upd (upd H2 dx (.own x)) x (.ins T.c_Signals dx [])) := (same_upd ndx).trans (same_upd (by rw [upd_ne ne.symm]; exact nx))
        have ex0 : (upd (upd H2 dx (.own x)) x (.ins T.c_Signals dx [])) x = some (.ins T.c_Signals dx []) := upd_same
        obtain ⟨H3, hh, s3, ex3⟩ : ∃ H3, upd (upd H2 dx (.own x)) x (.ins T.c_Signals dx []) = H3 ∧ Same H2 H3 ∧ H3 x = some (.ins T.c_Signals dx []) := ⟨_, rfl, sx, ex0⟩
        rw [hh] at nd ⊢
        clear hh
        have s4 : Same H3 (upd H3 d (.dK (inrs oks))) := same_upd nd
        refine ⟨x, d, dx, p, oks, rfl, s4 _ _ ex3, upd_same, nd2, fun y hy => ?_, by omega, fun _ zs H' hp hso sg kx => ⟨rfl, ?_⟩, fun ys i k v hp hso hk hkv hall => ?_⟩
        · have hm : (V.str y.1, y.2) ∈ qs := by
            rw [hqs]
            exact List.mem_append_left _ (List.mem_map_of_mem (f := fun y : Str × V => (V.str y.1, y.2)) hy)
          obtain ⟨t1, t2⟩ := hT _ hm
          refine ⟨Same.tv (Same.tv (Same.tv t2 s2) s3) s4, ?_⟩
          cases t1 with
          | str z h => exact h
        · exact qt hr x zs H' hp hso sg (s2.free nx) (fun c o e => kx c o (s4 _ _ (s3 _ _ (s2 _ _ e))) (ne_of_none (s2 _ _ e) nx))
        · obtain ⟨h1, h2⟩ := hok _ hkv
          exact ⟨fun hb => absurd (hb.symm.trans h1) Bool.false_ne_true, fun _ hb => absurd (hb.symm.trans h2) Bool.false_ne_true⟩
theorem ok_Signals___getitem__ (T : Txt K mg) : FnOk P w K mg base (L2.CX P w) 4 T.f_Signals___getitem__ T.fd_Signals___getitem__ ["self", "at"] (spSGet K T.c_Signals T.c_InvalidName) := by
  have G_check_field := ok_check_field (P := P) (w := w) (base := base) T
  have nd := sc_Signals___getitem__.nd
  refine T.F_Signals___getitem__.okX sc_Signals___getitem__ (fun vs H Q E h => ?_) (fun cdv A outer s H vs Q E hr h => ?_)
  · obtain ⟨x, ts, v, p, rfl, _⟩ := h; rfl
  · obtain ⟨x, ts, v, p, rfl, hx, tv, q1, q2⟩ := h
    have hu := hu_of hr
    refine ⟨_, (pss_cons (ps_expr (pe_call G_check_field (hr.mono (by decide)) (by rfl) T.m_check_field T.F_check_field.kp T.b_check_field .nil (passes_call (takes_of rfl rfl rfl rfl) (fun _ _ _ _ h => h)) (pa_cons (pv 1) pa_nil)))
        (pss_one (ps_ret (pe_dget2 (by exact hu) (pe_fld (pv 0) (by rfl)) (pv 1) pe_int ⟨by rfl, by rfl, by rfl, by rfl⟩)))), ?_⟩
    refine ⟨_, rfl, v, p, rfl, tv, fun hok H1 s1 => ?_, fun hbad e H1 ne s1 e1 => q2 hbad e H1 ne s1 e1⟩
    obtain ⟨z, rfl, hz⟩ := nameV_str hok
    obtain ⟨dx, t, m, fo, fs, qs, h1, h2, h3, h4, h5, h6⟩ := hx.same s1
    refine ⟨_, rfl, x, T.c_Signals, dx, fs, _, rfl, h1, T.k_Signals, T.na__numbers, h3, m, rfl, .inl ⟨_, Rd.of h6.1⟩, _, rfl, _, DGet.k (k := Sum.inr z) h6.1, q1 z rfl hz H1 s1⟩
theorem ok_Signals___eq__ (T : Txt K mg) : FnOk P w K mg base CX0 1 T.f_Signals___eq__ T.fd_Signals___eq__ ["self", "other"] (spSEq K T.c_Signals) := by
  have nd := sc_Signals___eq__.nd
  refine T.F_Signals___eq__.ok sc_Signals___eq__ (fun vs H Q E h => ?_) (fun cdv A outer s H vs Q E hr h => ?_)
  · obtain ⟨x, ts, y, rfl, _⟩ := h; rfl
  · obtain ⟨x, ts, y, rfl, ⟨dx, t, m, fo, fs, qs, h1, h2, h3, h4, h5, h6⟩, hc⟩ := h
    have hu := hu_of hr
    refine ⟨_, (pss_one (ps_ret (pe_and (pe_callB call_isi (by rfl) T.n_isinstance (by decide +kernel) (pa_cons (pv 1) (pa_cons (pe_glob (v := .ref T.c_Signals) (by rfl) T.m_Signals rfl) pa_nil))) (pe_one (pe_cmpR (op_eqD hr.units) (pe_fld (pv 0) (by rfl)) (pe_fld (pv 1) (by rfl)) (nomark _)))))), ?_⟩
    have hT : SqT K H t (qs.map V.ref) := .inl (.inr ⟨_, h4⟩)
    rcases hc with ⟨y2, us, rfl, ⟨dx2, t2, m2, fo2, fs2, qs2, g1, g2, g3, g4, g5, g6⟩, sh1, sh2, q⟩ | ⟨y2, ys, rfl, hy, q⟩ | ⟨rfl, q⟩
    · refine ⟨_, rfl, _, _, _, _, _, rfl, .own _, .base (.ins g1 T.k_Signals T.ca_Signals T.Z.1 T.Z.2 T.mo_Signals), T.ki_self, ?_⟩
      refine ⟨_, rfl, ?_⟩
      refine iteT' rfl ?_
      have gT : SqT K H t2 (qs2.map V.ref) := .inl (.inr ⟨_, g4⟩)
      exact ⟨_, rfl, x, T.c_Signals, dx, fs, _, rfl, h1, T.k_Signals, T.na_told, h2, _, rfl, y2, T.c_Signals, dx2, fs2, _, rfl, g1, T.k_Signals, T.na_told, g2, .tuple (prD ts), .tuple (prD us), .tup hT (dp_told h5), .tup gT (dp_told g5), sh1, sh2, q⟩
    · have ty : TyX K H (.ref y2) (.type "tuple") := by
        rcases hy with e | ⟨o, e⟩
        · exact .base (.tup e)
        · exact .fTuple e
      refine ⟨_, rfl, _, _, _, _, _, rfl, .own _, ty, T.ki_tup, ?_⟩
      refine ⟨_, rfl, ?_⟩
      refine iteN' (by decide) ?_
      exact q
    · refine ⟨_, rfl, _, _, _, _, _, rfl, .own _, .base .non, T.ki_non, ?_⟩
      refine ⟨_, rfl, ?_⟩
      refine iteN' (by decide) ?_
      exact q
theorem ok_clash_of (T : Txt K mg) : FnOk P w K mg base CX0 6 T.f_clash_of T.fd_clash_of ["one", "other"] (spClashOf K T.c_Signals) := by
  have G_Signals___getitem__ := ok_Signals___getitem__ (P := P) (w := w) (base := base) T
  have nd := sc_clash_of.nd
  refine T.F_clash_of.ok sc_clash_of (fun vs H Q E h => ?_) (fun cdv A outer s H vs Q E hr h => ?_)
  · obtain ⟨x, y, ts, us, rfl, _⟩ := h; rfl
  · obtain ⟨x, y, ts, us, rfl, hx, hy, ok, ok2, q⟩ := h
    have hu := hu_of hr
    refine ⟨_, (pss_cons (ps_for PassesOwn.never rfl (pi_tup (pe_fld (pv 0) (by rfl))) (pg_tup rfl (pgs_cons (pg_name (i := 2) nd rfl (Or.inl rfl)) (pgs_cons (pg_name (i := 3) nd rfl (Or.inl rfl)) pgs_nil))) (pss_one (ps_if (pt_cmpR op_notIn_seq (pe_ixOA (E := fun _ => E0) (pv 1) (pv 2) (G_Signals___getitem__.raw T.b_Signals___getitem__ .nil) T.ow_get T.fi_get (hr.mono (by decide)) (fun σ pins H s e s' I h => (passes_call takesF (fun _ _ _ _ h => h)) pins σ H s e s' I h)) (pe_tup (pa_cons pe_int (pa_cons (pv 3) pa_nil))) (by rfl)) (pss_one (ps_ret (pv 2))) pss_nil)))
        (pss_one (ps_ret pe_non))), ?_⟩
    obtain ⟨dx, t, m, fo, fs, qs, h1, h2, h3, h4, h5, h6⟩ := id hx
    obtain ⟨dy, t', m', fo', fs', qs', g1, g2, g3, g4, g5, g6⟩ := id hy
    have lq : qs.length = ts.length := h5.length
    have hT : SqT K H t (qs.map V.ref) := .inl (.inr ⟨_, h4⟩)
    refine ⟨_, rfl, x, T.c_Signals, dx, fs, _, rfl, h1, T.k_Signals, T.na_told, h2, t, rfl, ⟨_, hT⟩, for_tup (K := K) (a := t) (xs := qs.map V.ref) (fun i σ H' => ∃ v2 v3 : Option V, σ = [some (.ref x), some (.ref y), v2, v3] ∧ Same H H' ∧ ∀ p ∈ ts.take i, clashB us p = false) ⟨_, _, rfl, Same.refl _, fun p hp => by simp at hp⟩ (fun _ _ _ _ ⟨_, _, _, s, _⟩ => Same.seqT s hT) ?_ ?_⟩
    · rintro i v σ H1 hv ⟨v2, v3, rfl, s1, hno⟩
      obtain ⟨a, ha, rfl⟩ := map_ref_at7 hv
      obtain ⟨p, hp, ht⟩ := paired_at h5 ha
      obtain ⟨n1, n2, n3, n4, n5, n6⟩ := ok.ok p (List.mem_of_getElem? hp)
      have il : i < ts.length := (List.getElem?_eq_some_iff.mp hp).1
      refine ⟨a, _, rfl, Same.seqT s1 ht, rfl, _, _, rfl, _, _, rfl, rfl, ?_⟩
      refine ⟨_, rfl, _, rfl, y, dy, fs', rfl, s1 _ _ g1, y, us, .str p.1, x, rfl, hy.same s1, .str _ n3, fun z' ez hz' H' s' => ?_, fun hb => ?_⟩
      · cases ez
        rw [got_told ok2.nd]
        refine ⟨_, rfl, line_of (by show 2 ≤ 1000000; decide), fun tt ntt => ?_⟩
        obtain ⟨H2, hh, s2, _, e2⟩ := knew (o := .tup [.int 0, .int p.2]) (s1.trans s') ntt
        rw [hh]
        clear hh
        refine ⟨tt, _, rfl, .inr (SqT.of e2), rfl, rfl, _, rfl, ?_⟩
        have e1 : (!inV (V.int (numOf us p.1)) [V.int 0, V.int p.2]) = clashB us p := by
          unfold clashB inV
          simp only [List.any_cons, List.any_nil, Bool.or_false]
          congr 1
          show (((0 : Int) == numOf us p.1) || (p.2 == numOf us p.1)) = _
          rw [beq_dec, beq_dec]
        rw [show (if true = true then !inV (V.int (numOf us p.1)) [V.int 0, V.int p.2] else inV (V.int (numOf us p.1)) [V.int 0, V.int p.2]) = clashB us p from e1]
        refine ite2 (fun c1 => ?_) (fun c1 => ?_)
        · have hf : clashAt ts us = some p := by
            unfold clashAt
            have sp : ts = ts.take i ++ p :: ts.drop (i + 1) := by
              rw [← List.take_append_drop i ts]
              congr 1
              · rw [List.take_append_drop]
              · rw [List.take_append_drop, List.drop_eq_getElem_cons il]
                congr 1
                exact (List.getElem?_eq_some_iff.mp hp).2
            rw [sp, List.find?_append, List.find?_eq_none.mpr (fun z hz => by rw [hno z hz]; exact Bool.false_ne_true), List.find?_cons, c1]
            rfl
          have := q H2 s2
          rw [hf] at this
          exact ⟨_, rfl, this⟩
        · refine ⟨_, _, rfl, s2, fun z hz => ?_⟩
          rw [List.take_add_one, hp] at hz
          rcases List.mem_append.mp hz with hz | hz
          · exact hno z hz
          · rw [show z = p by simpa using hz]
            simpa using c1
      · rw [show nameV (.str p.1) = isName p.1 from rfl, n1] at hb
        cases hb
    · rintro σ H1 ⟨v2, v3, rfl, s1, hno⟩
      rw [List.length_map, lq, List.take_of_length_le (Nat.le_refl _)] at hno
      have hf : clashAt ts us = none := List.find?_eq_none.mpr fun z hz => by rw [hno z hz]; exact Bool.false_ne_true
      have := q H1 s1
      rw [hf] at this
      exact this
theorem ok_check_union (T : Txt K mg) : FnOk P w K mg base (L2.CX P w) 7 T.f_check_union T.fd_check_union ["one", "other"] (spChkU K T.c_Signals T.c_FieldClash) := by
  have G_clash_of := ok_clash_of (P := P) (w := w) (base := base) T
  have G_Signals___getitem__ := ok_Signals___getitem__ (P := P) (w := w) (base := base) T
  have nd := sc_check_union.nd
  refine T.F_check_union.okX sc_check_union (fun vs H Q E h => ?_) (fun cdv A outer s H vs Q E hr h => ?_)
  · obtain ⟨x, y, ts, us, rfl, _⟩ := h; rfl
  · obtain ⟨x, y, ts, us, rfl, hx, hy, ok, ok2, q1, q2⟩ := h
    have hu := hu_of hr
    refine ⟨_, (pss_cons (ps_set (i := 2) nd rfl (Or.inl rfl) (pe_call (G_clash_of) (hr.mono (by decide)) (by rfl) T.m_clash_of T.F_clash_of.kp T.b_clash_of .nil pass0 (pa_cons (pv 0) (pa_cons (pv 1) pa_nil))))
        (pss_one (ps_if (pt_cmpR op_notN (pv 2) pe_non (nomark _)) (pss_one (ps_raise rfl (takes_of rfl rfl rfl rfl) (pmk_oex T.ex_FieldClash.oex T.ex_FieldClash.init T.ex_FieldClash.ifn (ok_FieldClash_init T) (hr.mono (by decide)) T.b_FieldClash_init .nil pass0 (by rfl) T.m_FieldClash (pa_cons (pv 2) (pa_cons (pe_ixOA (E := fun _ => E0) (pv 0) (pv 2) (G_Signals___getitem__.raw T.b_Signals___getitem__ .nil) T.ow_get T.fi_get (hr.mono (by decide)) (fun σ pins H s e s' I h => (passes_call takesF (fun _ _ _ _ h => h)) pins σ H s e s' I h)) (pa_cons (pe_ixOA (E := fun _ => E0) (pv 1) (pv 2) (G_Signals___getitem__.raw T.b_Signals___getitem__ .nil) T.ow_get T.fi_get (hr.mono (by decide)) (fun σ pins H s e s' I h => (passes_call takesF (fun _ _ _ _ h => h)) pins σ H s e s' I h)) pa_nil)))))) pss_nil))), ?_⟩
    obtain ⟨dx, t, m, fo, fs, qs, h1, h2, h3, h4, h5, h6⟩ := id hx
    obtain ⟨dy, t', m', fo', fs', qs', g1, g2, g3, g4, g5, g6⟩ := id hy
    refine ⟨_, rfl, _, rfl, x, y, ts, us, rfl, hx, hy, ok, ok2, fun H1 s1 => ?_⟩
    refine ⟨_, rfl, rfl, _, rfl, ?_⟩
    cases hc : clashAt ts us with
    | none =>
      refine iteN' (by decide) ?_
      exact q1 hc H1 s1
    | some p =>
      obtain ⟨n1, n2, n3, n4, n5, n6⟩ := ok.ok p (clash_mem hc)
      refine iteT' rfl ?_
      refine ⟨_, rfl, _, rfl, _, rfl, x, dx, fs, rfl, s1 _ _ h1, x, ts, .str p.1, x, rfl, hx.same s1, .str _ n3, fun z' ez hz' H2 s2 => ?_, fun hb => ?_⟩
      · cases ez
        rw [got_told ok.nd, numOf_mem ok.nd (clash_mem hc)]
        refine ⟨_, rfl, _, rfl, y, dy, fs', rfl, s2 _ _ (s1 _ _ g1), y, us, .str p.1, x, rfl, (hy.same s1).same s2, .str _ n3, fun z' ez hz' H3 s3 => ?_, fun hb => ?_⟩
        · cases ez
          rw [got_told ok2.nd]
          have s13 := s1.trans (s2.trans s3)
          refine ⟨(by show 3 ≤ 1000; decide), fun e ne => ⟨e, [.str p.1, .int p.2, .int (numOf us p.1)], rfl, rfl, upd_same, fun d H' nd hde h1 h2 h3 => ?_⟩⟩
          have nd1 : H3 d = none := by
            rw [upd_ne hde] at nd
            exact nd
          refine ⟨rfl, d, _, h1, h2, nd1, ?_⟩
          exact q2 p hc d _ (s13.free nd1) (s13.trans (raised ne nd1 h3)) upd_same
        · rw [show nameV (.str p.1) = isName p.1 from rfl, n1] at hb
          cases hb
      · rw [show nameV (.str p.1) = isName p.1 from rfl, n1] at hb
        cases hb
theorem ok_told_text (T : Txt K mg) : FnOk P w K mg base CX0 2 T.f_told_text T.fd_told_text ["signals"] (spText7 K T.c_Signals toldTx) := by
  have nd := sc_told_text.nd
  refine T.F_told_text.ok sc_told_text (fun vs H Q E h => ?_) (fun cdv A outer s H vs Q E hr h => ?_)
  · obtain ⟨x, ts, rfl, _⟩ := h; rfl
  · obtain ⟨x, ts, rfl, ⟨dx, t, m, fo, fs, qs, h1, h2, h3, h4, h5, h6⟩, ⟨hl, hf⟩, q⟩ := h
    have hu := hu_of hr
    refine ⟨_, (pss_one (ps_ret (pe_join pe_str (pe_lc (own := [("field", 1), ("number", 2)]) (g := gTup K 2 (gCons (gName 1) (gCons (gName 2) gNil))) rfl nd (pi_tup (pe_fld (pv 0) (by rfl))) (blkOk_by (own := [("field", 1), ("number", 2)]) (N := N_told_text) (sc := defScope s_told_text) (by decide +kernel)) (fun _ _ _ _ _ => pg_tup rfl (pgs_cons (pg_name (i := 1) nd rfl (Or.inl rfl)) (pgs_cons (pg_name (i := 2) nd rfl (Or.inl rfl)) pgs_nil))) (fun _ _ _ _ _ => pts_nil) (fun _ _ _ _ _ => (pe_joined (.cons (pe_fmt (pv 1)) (.cons pe_str (.cons (pe_fmt (pv 2)) .nil))))))))), ?_⟩
    have lq : qs.length = ts.length := h5.length
    have hT : SqT K H t (qs.map V.ref) := .inl (.inr ⟨_, h4⟩)
    refine ⟨⟨_, rfl⟩, _, rfl, x, T.c_Signals, dx, fs, _, rfl, h1, T.k_Signals, T.na_told, h2, ?_⟩
    refine ⟨t, rfl, ⟨_, hT⟩, fun D nD => lc_tup (K := K) (te := fun σ H Q => tJs [tFmt (tVar 1), tC (V.str "="), tFmt (tVar 2)] Str.empty σ H fun out H1 => Q (.str out) H1) (a := t) (xs := qs.map V.ref) (fun i H' => Same H H' ∧ H' D = some (.lst (((ts.take i).map tx1).map V.str))) ⟨same_upd nD, upd_same⟩ (fun _ _ _ ⟨s, _⟩ => Same.seqT s hT) ?_ ?_⟩
    · rintro i v H1 hv ⟨s1, hD⟩
      obtain ⟨a, ha, rfl⟩ := map_ref_at7 hv
      obtain ⟨y, hy, ht⟩ := paired_at h5 ha
      obtain ⟨f1, f2, f3, f4, f5⟩ := hf y (List.mem_of_getElem? hy)
      have sz : sizeLine = 16777216 := by decide +kernel
      refine ⟨a, _, rfl, Same.seqT s1 ht, rfl, _, _, rfl, _, _, rfl, rfl, ?_⟩
      refine ⟨rfl, ?_⟩
      refine iteT (B := Same H H1 ∧ H1 D = some (.lst (((ts.take (i + 1)).map tx1).map V.str))) ?_
      have il : i < ts.length := (List.getElem?_eq_some_iff.mp hy).1
      refine ⟨_, rfl, .inl ⟨y.1, rfl, by omega, y.1, rfl, by omega, "=", rfl, by omega, _, rfl, .inr ⟨y.2, rfl, f2, _, rfl, (by have : (tx1 y).length ≤ 1000 := f3; unfold tx1 at this; omega), _, hD, ?_, fun c o e => ?_, ?_⟩⟩⟩
      · rw [List.length_map, List.length_map, List.length_take]
        omega
      · rw [upd_ne (ne_of_none e nD)]
        exact s1 _ _ e
      · rw [upd_same, List.take_add_one, hy, List.map_append, List.map_append]
        rfl
    · rintro H1 ⟨s1, hD⟩
      rw [List.length_map, lq, List.take_of_length_le (Nat.le_refl _)] at hD
      refine ⟨_, D, ts.map tx1, rfl, rfl, .inl (SqL.of hD), ?_, q _ s1⟩
      have := fit_sum fun y hy => (hf y hy).2.2.1
      rw [List.length_map]
      show _ + ts.length * 2 ≤ _
      omega
theorem ok_Draft_put (T : Txt K mg) : FnOk P w K mg base CX0 1 T.f_Draft_put T.fd_Draft_put ["self", "signals"] (spDPut K T.c_Signals T.c_Draft) := by
  have nd := sc_Draft_put.nd
  refine T.F_Draft_put.ok sc_Draft_put (fun vs H Q E h => ?_) (fun cdv A outer s H vs Q E hr h => ?_)
  · obtain ⟨o, m, y, ds, ts, rfl, _⟩ := h; rfl
  · obtain ⟨o, m, y, ds, ts, rfl, ho, hy, lz, q⟩ := h
    have hu := hu_of hr
    refine ⟨_, (pss_one (ps_for PassesOwn.never rfl (pi_tup (pe_fld (pv 1) (by rfl))) (pg_tup rfl (pgs_cons (pg_name (i := 2) nd rfl (Or.inl rfl)) (pgs_cons (pg_name (i := 3) nd rfl (Or.inl rfl)) pgs_nil))) (pss_one (ps_dput hu (pe_fld (pv 0) (by rfl)) (pv 2) (pv 3) (by rfl))))), ?_⟩
    obtain ⟨dy, t, fs', qs, g1, g2, hT, h5⟩ := id hy
    obtain ⟨dx, fs, f1, f2, f3⟩ := id ho.1
    have om := ho.om
    have hm := ho.2
    have lq : qs.length = ts.length := h5.length
    have kT : ∀ {H' : Hp} {a : Addr} {xs : List V}, Keep m H H' → SqT K H a xs → SqT K H' a xs := by
      intro H' a xs S h
      rcases h with (h | ⟨o, h⟩) | h
      · exact .inl (.inl (S _ _ h fun e => by rw [e, hm] at h; cases h))
      · exact .inl (.inr ⟨o, S _ _ h fun e => by rw [e, hm] at h; cases h⟩)
      · exact .inr h
    have sz : sizeLine = 16777216 := by decide +kernel
    refine ⟨_, rfl, y, T.c_Signals, dy, fs', _, rfl, g1, T.k_Signals, T.na_told, g2, t, rfl, ⟨_, hT⟩, for_tup (K := K) (a := t) (xs := qs.map V.ref) (fun i σ H' => ∃ v2 v3 : Option V, σ = [some (.ref o), some (.ref y), v2, v3] ∧ Keep m H H' ∧ H' m = some (.dK (kvsOf (mergeL ds (ts.take i))))) ⟨_, _, rfl, Keep.refl _ _, hm⟩ (fun _ _ _ _ ⟨_, _, _, s, _⟩ => kT s hT) ?_ ?_⟩
    · rintro i v σ H1 hv ⟨v2, v3, rfl, k1, hm1⟩
      obtain ⟨a, ha, rfl⟩ := map_ref_at7 hv
      obtain ⟨p, hp, ht⟩ := paired_at h5 ha
      have il : i < ts.length := (List.getElem?_eq_some_iff.mp hp).1
      have ml := mergeL_len (ts.take i) ds
      rw [List.length_take] at ml
      refine ⟨a, _, rfl, kT k1 ht, rfl, _, _, rfl, _, _, rfl, rfl, ?_⟩
      refine ⟨_, rfl, _, rfl, o, T.c_Draft, dx, fs, _, rfl, k1 _ _ f1 om, T.k_Draft, T.nd__numbers, f2, _, rfl, m, _, rfl, DPut.k (k := Sum.inr p.1) hm1 (by show (List.map _ _).length < _; rw [List.length_map]; omega), ?_⟩
      refine ⟨_, _, rfl, k1.trans keep_upd, ?_⟩
      rw [upd_same, put_kvs, List.take_add_one, hp]
      congr 2
      show kvsOf _ = kvsOf (List.foldl putL ds (ts.take i ++ [p]))
      rw [List.foldl_append]
      rfl
    · rintro σ H1 ⟨v2, v3, rfl, k1, hm1⟩
      rw [List.length_map, lq, List.take_of_length_le (Nat.le_refl _)] at hm1
      exact q H1 k1 hm1
theorem ok_Draft_init (T : Txt K mg) : FnOk P w K mg base (L2.CX P w) 3 T.f_Draft_init T.fd_Draft_init ["self", "signals"] (spDInit K T.c_Signals T.c_Draft) := by
  have G_Draft_put := ok_Draft_put (P := P) (w := w) (base := base) T
  have nd := sc_Draft_init.nd
  refine FunD.ok T.F_Draft_init sc_Draft_init (fun vs H Q E h => ?_) (fun cdv A outer s H vs Q E hr h => ?_)
  · obtain ⟨x, dx, s, ts, rfl, _⟩ := h; rfl
  · obtain ⟨x, dx, s, ts, rfl, hx, hs, ndt, l60, q⟩ := h
    have hu := hu_of hr
    refine ⟨_, (pss_cons (ps_fld (pv 0) pe_dnewK (by rfl))
        (pss_one (ps_if (pt_cmpR op_notN (pv 1) pe_non (nomark _)) (pss_one (ps_expr (pe_meth (pv 0) T.k_Draft T.mt_put G_Draft_put (hr.mono (by decide)) T.b_Draft_put .nil pass0 (pa_cons (pv 1) pa_nil)))) pss_nil))), ?_⟩
    refine fun m nm => ⟨_, rfl, x, T.c_Draft, dx, [], rfl, same_upd nm _ _ hx, T.k_Draft, T.nd__numbers, by decide, ?_⟩
    have nmx : m ≠ x := fun e => by rw [e, hx] at nm; cases nm
    obtain ⟨H1, hh, k1, e1, d1⟩ : ∃ H1, upd (upd H m (.dK [])) x (.ins T.c_Draft dx (putF "_numbers" (.ref m) [])) = H1 ∧ Keep x H H1 ∧ H1 m = some (.dK (kvsOf [])) ∧ DrO T.c_Draft H1 x m := by
      refine ⟨_, rfl, fun b o e n => ?_, ?_, dx, _, upd_same, rfl, fun z hz => ?_⟩
      · rw [upd_ne n]
        exact same_upd nm _ _ e
      · rw [upd_ne nmx, upd_same]
        rfl
      · show List.lookup z [(("_numbers" : Str), V.ref m)] = none
        rw [List.lookup_cons, beq_eq_false_iff_ne.mpr hz]
        rfl
    rw [hh]
    clear hh
    rcases hs with ⟨rfl, rfl⟩ | ⟨y, rfl, hy⟩
    · refine ⟨_, rfl, rfl, _, rfl, ?_⟩
      refine iteN' (by decide) ?_
      exact q m H1 nm k1 ⟨d1, e1⟩
    · refine ⟨_, rfl, rfl, _, rfl, ?_⟩
      refine iteT' rfl ?_
      have hy1 : Tol K T.c_Signals H1 y ts := hy.mv fun b o e n1 n2 n3 => k1 b o e fun q => by
        rw [q, hx] at e
        exact n2 _ _ (Option.some.inj e).symm
      obtain ⟨dx1, fs1, f1, f2, f3⟩ := id d1
      refine ⟨_, rfl, x, dx1, fs1, rfl, f1, f3 _ (by decide +kernel), _, rfl, x, m, y, [], ts, rfl, ⟨d1, e1⟩, hy1, by simp; omega, fun H2 k2 e2 => ?_⟩
      have em : mergeL [] ts = ts := by
        have a := merge_kvs ts []
        have b := merge_told ndt
        have inj : ∀ a b : List (Str × Int), kvsOf a = kvsOf b → a = b := by
          intro a
          induction a with
          | nil => intro b h; cases b with
            | nil => rfl
            | cons y r => cases h
          | cons x r ih =>
            intro b h
            cases b with
            | nil => cases h
            | cons y r' =>
              injection h with h1 h2
              injection h1 with h3 h4
              rw [ih r' h2]
              congr 1
              exact Prod.ext (Sum.inr.inj h3) (V.int.inj h4)
        exact inj _ _ (a.symm.trans b)
      rw [em] at e2
      have xm : x ≠ m := nmx.symm
      refine q m H2 nm (fun b o e n => k2 _ _ (k1 _ _ e n) (ne_of_none e nm)) ⟨d1.keep k2 xm, e2⟩
theorem ok_Draft_present (T : Txt K mg) : FnOk P w K mg base CX0 7 T.f_Draft_present T.fd_Draft_present ["self"] (spDPres K T.c_Signals T.c_Draft) := by
  have G_Signals_init := ok_Signals_init (P := P) (w := w) (base := base) T
  have nd := sc_Draft_present.nd
  refine T.F_Draft_present.ok sc_Draft_present (fun vs H Q E h => ?_) (fun cdv A outer s H vs Q E hr h => ?_)
  · obtain ⟨o, m, ds, rfl, _⟩ := h; rfl
  · obtain ⟨o, m, ds, rfl, ⟨⟨dx, fs, f1, f2, f3⟩, hm⟩, ok, q⟩ := h
    have hu := hu_of hr
    refine ⟨_, (pss_one (ps_ret (pe_makeW T.mk_Signals G_Signals_init (hr.mono (by decide)) (pe_glob (v := .ref T.c_Signals) (by rfl) T.m_Signals rfl) (passes_call takesF (fun _ _ _ _ h => h)) (pe_fld (pv 0) (by rfl))))), ?_⟩
    refine ⟨rfl, _, rfl, o, T.c_Draft, dx, fs, _, rfl, f1, T.k_Draft, T.nd__numbers, f2, m, kv ds, rfl, ?_, (by show (List.map _ _).length ≤ _; have := ok.len; rw [List.length_map]; omega), kw_right (ks := ds) o ok ?_ fun z ws H4 pw uw nz s4 sg => ?_⟩
    · rw [hm]
      unfold kvsOf kv
      rw [List.map_map]
      rfl
    · intro z hz e
      have := (ok.ok z hz).1
      rw [e] at this
      exact absurd this (by decide +kernel)
    · rw [uw _ (dueT_perm _) (dueT_sorted _)] at sg
      exact q z H4 nz s4 sg
theorem ok_Draft___getitem__ (T : Txt K mg) : FnOk P w K mg base (L2.CX P w) 4 T.f_Draft___getitem__ T.fd_Draft___getitem__ ["self", "at"] (spDGet T.c_Draft T.c_InvalidName) := by
  have G_check_field := ok_check_field (P := P) (w := w) (base := base) T
  have nd := sc_Draft___getitem__.nd
  refine T.F_Draft___getitem__.okX sc_Draft___getitem__ (fun vs H Q E h => ?_) (fun cdv A outer s H vs Q E hr h => ?_)
  · obtain ⟨o, m, p, ds, v, rfl, _⟩ := h; rfl
  · obtain ⟨o, m, p, ds, v, rfl, ho, nds, tv, q1, q2⟩ := h
    have hu := hu_of hr
    refine ⟨_, (pss_cons (ps_expr (pe_call G_check_field (hr.mono (by decide)) (by rfl) T.m_check_field T.F_check_field.kp T.b_check_field .nil (passes_call (takes_of rfl rfl rfl rfl) (fun _ _ _ _ h => h)) (pa_cons (pv 1) pa_nil)))
        (pss_one (ps_ret (pe_dget2 (by exact hu) (pe_fld (pv 0) (by rfl)) (pv 1) pe_int ⟨by rfl, by rfl, by rfl, by rfl⟩)))), ?_⟩
    refine ⟨_, rfl, v, p, rfl, tv, fun hok H1 s1 => ?_, fun hbad e H1 ne s1 e1 => q2 hbad e H1 ne s1 e1⟩
    obtain ⟨z, rfl, hz⟩ := nameV_str hok
    obtain ⟨⟨dx, fs, f1, f2, f3⟩, hm⟩ := ho.same s1
    refine ⟨_, rfl, o, T.c_Draft, dx, fs, _, rfl, f1, T.k_Draft, T.nd__numbers, f2, m, rfl, .inl ⟨_, Rd.of hm⟩, _, rfl, _, DGet.k (k := Sum.inr z) hm, ?_⟩
    rw [kget nds]
    exact q1 z rfl hz H1 s1
theorem ok_Draft___setitem__ (T : Txt K mg) : FnOk P w K mg base (L2.CX P w) 4 T.f_Draft___setitem__ T.fd_Draft___setitem__ ["self", "at", "worth"] (spDSet T.c_Draft T.c_InvalidName T.c_InvalidNumber) := by
  have G_check_field := ok_check_field (P := P) (w := w) (base := base) T
  have G_check_number := ok_check_number (P := P) (w := w) (base := base) T
  have nd := sc_Draft___setitem__.nd
  refine T.F_Draft___setitem__.okX sc_Draft___setitem__ (fun vs H Q E h => ?_) (fun cdv A outer s H vs Q E hr h => ?_)
  · obtain ⟨o, m, p, ds, v, w, rfl, _⟩ := h; rfl
  · obtain ⟨o, m, p, ds, v, w, rfl, ho, l60, tv, tw, q1, q2, q3⟩ := h
    have hu := hu_of hr
    refine ⟨_, (pss_cons (ps_expr (pe_call G_check_field (hr.mono (by decide)) (by rfl) T.m_check_field T.F_check_field.kp T.b_check_field .nil (passes_call (takes_of rfl rfl rfl rfl) (fun _ _ _ _ h => h)) (pa_cons (pv 1) pa_nil)))
        (pss_cons (ps_expr (pe_call G_check_number (hr.mono (by decide)) (by rfl) T.m_check_number T.F_check_number.kp T.b_check_number .nil (passes_call (takes_of rfl rfl rfl rfl) (fun _ _ _ _ h => h)) (pa_cons (pv 2) pa_nil)))
        (pss_one (ps_dput hu (pe_fld (pv 0) (by rfl)) (pv 1) (pv 2) (by rfl))))), ?_⟩
    have sz : sizeLine = 16777216 := by decide +kernel
    refine ⟨_, rfl, v, p, rfl, tv, fun hok H1 s1 => ?_, fun hbad e H1 ne s1 e1 => q2 hbad e H1 ne s1 e1⟩
    refine ⟨_, rfl, w, p, rfl, tw.same s1, fun hokn H2 s2 => ?_, fun hbad e H2 ne s2 e2 => q3 hok hbad e H2 (s1.free ne) (s1.trans s2) e2⟩
    obtain ⟨z, rfl, hz⟩ := nameV_str hok
    obtain ⟨n, rfl⟩ := okN_int hokn
    obtain ⟨⟨dx, fs, f1, f2, f3⟩, hm⟩ := ho.same (s1.trans s2)
    refine ⟨_, rfl, _, rfl, o, T.c_Draft, dx, fs, _, rfl, f1, T.k_Draft, T.nd__numbers, f2, _, rfl, m, _, rfl, DPut.k (k := Sum.inr z) hm (by show (List.map _ _).length < _; rw [List.length_map]; omega), ?_⟩
    refine q1 z n rfl hz rfl hokn _ ((same_keep (s1.trans s2)).trans keep_upd) ?_
    rw [upd_same]
    exact congrArg (fun x => some (HO.dK x)) (put_kvs ds (z, n))
theorem ok_Draft___ior__ (T : Txt K mg) : FnOk P w K mg base (L2.CX P w) 9 T.f_Draft___ior__ T.fd_Draft___ior__ ["self", "other"] (spDIor K T.c_Signals T.c_Draft T.c_FieldClash) := by
  have G_Draft_present := ok_Draft_present (P := P) (w := w) (base := base) T
  have G_check_union := ok_check_union (P := P) (w := w) (base := base) T
  have G_Draft_put := ok_Draft_put (P := P) (w := w) (base := base) T
  have nd := sc_Draft___ior__.nd
  refine T.F_Draft___ior__.okX sc_Draft___ior__ (fun vs H Q E h => ?_) (fun cdv A outer s H vs Q E hr h => ?_)
  · obtain ⟨o, m, y, ds, us, rfl, _⟩ := h; rfl
  · obtain ⟨o, m, y, ds, us, rfl, ho, hy, ok, ok2, q1, q2⟩ := h
    have hu := hu_of hr
    refine ⟨_, (pss_cons (ps_expr (pe_call G_check_union (hr.mono (by decide)) (by rfl) T.m_check_union T.F_check_union.kp T.b_check_union .nil (passes_call (takes_of rfl rfl rfl rfl) (fun _ _ _ _ h => h)) (pa_cons (pe_prop (pv 0) T.k_Draft T.pr_present G_Draft_present (hr.mono (by decide)) T.b_Draft_present .nil pass0 (by rfl)) (pa_cons (pv 1) pa_nil))))
        (pss_cons (ps_expr (pe_meth (pv 0) T.k_Draft T.mt_put G_Draft_put (hr.mono (by decide)) T.b_Draft_put .nil pass0 (pa_cons (pv 1) pa_nil)))
        (pss_one (ps_ret (pv 0))))), ?_⟩
    obtain ⟨⟨dx, fs, f1, f2, f3⟩, hm⟩ := id ho
    refine ⟨_, rfl, o, dx, fs, rfl, f1, o, m, ds, rfl, ho, ok, fun x H1 nx s1 hx => ?_⟩
    refine ⟨_, rfl, x, y, _, us, rfl, hx, hy.same s1, ok.due, ok2, fun hc H2 s2 => ?_, fun p hc e H2 ne s2 e2 => q2 p hc e H2 (s1.free ne) (s1.trans s2) e2⟩
    have S := s1.trans s2
    have l1 := ok.len
    have l2 := ok2.len
    refine ⟨_, rfl, o, dx, fs, rfl, S _ _ f1, f3 _ (by decide +kernel), _, rfl, o, m, y, ds, us, rfl, ho.same S, (hy.same S).tol, by omega, fun H3 k3 e3 => ?_⟩
    exact ⟨_, rfl, q1 hc H3 ((same_keep S).trans k3) e3⟩
theorem ok_Draft___eq__ (T : Txt K mg) : FnOk P w K mg base CX0 9 T.f_Draft___eq__ T.fd_Draft___eq__ ["self", "other"] (spDEq K T.c_Signals T.c_Draft) := by
  have G_Draft_present := ok_Draft_present (P := P) (w := w) (base := base) T
  have G_Signals___eq__ := ok_Signals___eq__ (P := P) (w := w) (base := base) T
  have nd := sc_Draft___eq__.nd
  refine T.F_Draft___eq__.ok sc_Draft___eq__ (fun vs H Q E h => ?_) (fun cdv A outer s H vs Q E hr h => ?_)
  · obtain ⟨o, m, y, ds, rfl, _⟩ := h; rfl
  · obtain ⟨o, m, y, ds, rfl, ho, ok, hc⟩ := h
    have hu := hu_of hr
    refine ⟨_, (pss_one (ps_ret (pe_and (pe_callB call_isi (by rfl) T.n_isinstance (by decide +kernel) (pa_cons (pv 1) (pa_cons (pe_glob (v := .ref T.c_Draft) (by rfl) T.m_Draft rfl) pa_nil))) (pe_one (pe_cmpR (op_eqV (G_Signals___eq__.raw T.b_Signals___eq__ .nil) T.ow_eq (hr.mono (by decide)) pass0) (pe_prop (pv 0) T.k_Draft T.pr_present G_Draft_present (hr.mono (by decide)) T.b_Draft_present .nil pass0 (by rfl)) (pe_prop (pv 1) T.k_Draft T.pr_present G_Draft_present (hr.mono (by decide)) T.b_Draft_present .nil pass0 (by rfl)) (nomark _)))))), ?_⟩
    obtain ⟨⟨dx, fs, f1, f2, f3⟩, hm⟩ := id ho
    rcases hc with ⟨m2, es, hy, ok2, q⟩ | ⟨us, hy, q⟩
    · obtain ⟨⟨dy, fs', g1, g2, g3⟩, gm⟩ := id hy
      refine ⟨_, rfl, _, _, _, _, _, rfl, .own _, .base (.ins g1 T.k_Draft T.ca_Draft T.Z.1 T.Z.2 T.on_Draft.ob), T.kd_self, ?_⟩
      refine ⟨_, rfl, ?_⟩
      refine iteT' rfl ?_
      refine ⟨_, rfl, o, dx, fs, rfl, f1, o, m, ds, rfl, ho, ok, fun x H1 nx s1 hx => ?_⟩
      refine ⟨_, rfl, y, dy, fs', rfl, s1 _ _ g1, y, m2, es, rfl, hy.same s1, ok2, fun x2 H2 nx2 s2 hx2 => ?_⟩
      refine eq_right (hx.same s2) hx2 ok.due ok2.due ?_
      exact q _ (s1.trans s2)
    · obtain ⟨dy, t, m', fo, fs', qs, g1, g2, g3, g4, g5, g6⟩ := id hy
      refine ⟨_, rfl, _, _, _, _, _, rfl, .own _, .base (.ins g1 T.k_Signals T.ca_Signals T.Z.1 T.Z.2 T.mo_Signals), T.kd_sig, ?_⟩
      refine ⟨_, rfl, ?_⟩
      refine iteN' (by decide) ?_
      exact q
theorem ok_Draft___repr__ (T : Txt K mg) : FnOk P w K mg base CX0 9 T.f_Draft___repr__ T.fd_Draft___repr__ ["self"] (spDRepr K T.c_Draft) := by
  have G_Draft_present := ok_Draft_present (P := P) (w := w) (base := base) T
  have G_told_text := ok_told_text (P := P) (w := w) (base := base) T
  have nd := sc_Draft___repr__.nd
  refine T.F_Draft___repr__.ok sc_Draft___repr__ (fun vs H Q E h => ?_) (fun cdv A outer s H vs Q E hr h => ?_)
  · obtain ⟨o, m, ds, rfl, _⟩ := h; rfl
  · obtain ⟨o, m, ds, rfl, ho, ok, q⟩ := h
    have hu := hu_of hr
    refine ⟨_, (pss_one (ps_ret (pe_joined (.cons pe_str (.cons (pe_fmt (pe_call (G_told_text) (hr.mono (by decide)) (by rfl) T.m_told_text T.F_told_text.kp T.b_told_text .nil pass0 (pa_cons (pe_prop (pv 0) T.k_Draft T.pr_present G_Draft_present (hr.mono (by decide)) T.b_Draft_present .nil pass0 (by rfl)) pa_nil))) (.cons pe_str .nil)))))), ?_⟩
    obtain ⟨⟨dx, fs, f1, f2, f3⟩, hm⟩ := id ho
    have sz : sizeLine = 16777216 := by decide +kernel
    have hf := ok.due.fit
    obtain ⟨z1, z2, z3⟩ := told_len hf
    have e0 : (Str.empty ++ "Draft(" : Str).length = 6 := by decide +kernel
    have e1 : (")" : Str).length = 1 := by decide +kernel
    have e2 := len_app (Str.empty ++ "Draft(") (toldTx (dueT ds))
    have e3 := len_app ((Str.empty ++ "Draft(") ++ toldTx (dueT ds)) ")"
    refine ⟨_, rfl, (by show ((Str.empty ++ "Draft(" : Str)).length ≤ sizeLine; decide +kernel), _, rfl, o, dx, fs, rfl, f1, o, m, ds, rfl, ho, ok, fun x H1 nx s1 hx => ?_⟩
    refine ⟨x, _, rfl, hx, hf, fun H2 s2 => ?_⟩
    exact .inl ⟨_, rfl, by omega, _, rfl, by omega, _, rfl, by omega, q _ (s1.trans s2)⟩
theorem ok__law_pen (T : Txt K mg) : FnOk P w K mg base CX0 1 T.f__law_pen T.fd__law_pen ["_law_script"] (spPen K) := by
  have nd := sc__law_pen.nd
  refine T.F__law_pen.ok sc__law_pen (fun vs H Q E h => ?_) (fun cdv A outer s H vs Q E hr h => ?_)
  · obtain ⟨a, ns, rfl, _⟩ := h; rfl
  · obtain ⟨a, ns, rfl, hS, hl, q⟩ := h
    have hu := hu_of hr
    refine ⟨_, (pss_one (ps_ret (pe_lst (pa_cons (pe_callTy call_list_of (by rfl) T.n_list (by decide +kernel) (pa_cons (pe_slice sl_list (pv 0) po_none (po_some pe_int)) pa_nil)) (pa_cons pe_int (pa_cons pe_int pa_nil)))))), ?_⟩
    refine ⟨_, rfl, 60, rfl, a, _, rfl, hS, fun c nc => ?_⟩
    obtain ⟨ms, em, hm⟩ := cut60 ns
    rw [em]
    refine ⟨c, _, rfl, .inl (SqL.of upd_same), fun l nl => ?_⟩
    refine ⟨(by show 3 ≤ sizeLine; decide), fun p np => ?_⟩
    have s1 : Same H (upd H c (.lst (ms.map V.int))) := same_upd nc
    have s2 := s1.trans (same_upd (o := .lst (ms.map V.int)) nl)
    have npl : l ≠ p := ne_of_none upd_same np
    refine q p l _ (s2.free np) (s2.trans (same_upd np)) ⟨ms, 0, 0, upd_same, by rw [upd_ne npl, upd_same], hm, Nat.zero_le _⟩
theorem ok__law_draw (T : Txt K mg) : FnOk P w K mg base CX0 1 T.f__law_draw T.fd__law_draw ["_law_pen_here", "_law_many"] (spDraw) := by
  have nd := sc__law_draw.nd
  refine T.F__law_draw.ok sc__law_draw (fun vs H Q E h => ?_) (fun cdv A outer s H vs Q E hr h => ?_)
  · obtain ⟨p, c, m, n, rfl, _⟩ := h; rfl
  · obtain ⟨p, c, m, n, rfl, ⟨ns, i, g, hp, hc, hl, hi⟩, hn, h1, h2, q⟩ := h
    have hu := hu_of hr
    refine ⟨_, (pss_cons (ps_if (pt_cmpR op_gt (pe_ix ix_list (pv 0) pe_int (fun _ _ => rfl)) pe_int (nomark _)) (pss_cons (ps_set (i := 2) nd rfl (Or.inl rfl) (pe_op op_modN (pe_callTy call_int1 (by rfl) T.n_int (by decide +kernel) (pa_cons (pe_ix ix_list (pv 0) pe_int (fun _ _ => rfl)) pa_nil)) (pv 1)))
        (pss_cons (ps_asg (pe_op op_fdivN (pe_ix ix_list (pv 0) pe_int (fun _ _ => rfl)) (pv 1)) (pg_sub (pv 0) pe_int set_list))
        (pss_one (ps_ret (pv 2))))) pss_nil)
        (pss_cons (ps_set (i := 3) nd rfl (Or.inl rfl) (pe_ix ix_list (pv 0) pe_int (fun _ _ => rfl)))
        (pss_cons (ps_asg (pe_op op_add (pv 3) pe_int) (pg_sub (pv 0) pe_int set_list))
        (pss_cons (ps_set (i := 4) nd rfl (Or.inl rfl) (pe_op op_add (pe_op op_mul pe_int (pv 3)) pe_int))
        (pss_cons (ps_if (pt_cmpR (op_neD hr.units) (pe_ix ix_list (pv 0) pe_int (fun _ _ => rfl)) (pe_lst pa_nil) (nomark _)) (pss_one (ps_set (i := 4) nd rfl (Or.inl rfl) (pe_ix ix_list (pe_ix ix_list (pv 0) pe_int (fun _ _ => rfl)) (pe_op op_modN (pe_callTy call_int1 (by rfl) T.n_int (by decide +kernel) (pa_cons (pv 3) pa_nil)) (pe_callB call_len_seq (by rfl) T.n_len (by decide +kernel) (pa_cons (pe_ix ix_list (pv 0) pe_int (fun _ _ => rfl)) pa_nil))) (fun _ _ => rfl)))) pss_nil)
        (pss_cons (ps_if (PW.pt (pw_and (pt_cmpR op_lt (pv 3) (pe_callB call_len_seq (by rfl) T.n_len (by decide +kernel) (pa_cons (pe_ix ix_list (pv 0) pe_int (fun _ _ => rfl)) pa_nil)) (nomark _)) (pw_and1 (pt_cmpR op_ge (pe_callB call_abs (by rfl) T.n_abs (by decide +kernel) (pa_cons (pv 4) pa_nil)) (pe_op op_pow pe_int pe_int) (nomark _))))) (pss_cons (ps_set (i := 5) nd rfl (Or.inl rfl) (pe_op op_add (pe_op op_mul pe_int (pe_op op_sub (pe_callB call_abs (by rfl) T.n_abs (by decide +kernel) (pa_cons (pv 4) pa_nil)) (pe_op op_pow pe_int pe_int))) (pe_callTy call_int1 (by rfl) T.n_int (by decide +kernel) (pa_cons (pe_cmpR op_lt (pv 4) pe_int (nomark _)) pa_nil))))
        (pss_cons (ps_asg (pe_op op_fdivN (pv 5) (pv 1)) (pg_sub (pv 0) pe_int set_list))
        (pss_one (ps_ret (pe_op op_modN (pe_callTy call_int1 (by rfl) T.n_int (by decide +kernel) (pa_cons (pv 5) pa_nil)) (pv 1)))))) pss_nil)
        (pss_cons (ps_set (i := 6) nd rfl (Or.inl rfl) (pe_op op_modN (pe_callTy call_int1 (by rfl) T.n_int (by decide +kernel) (pa_cons (pe_op op_pow (pe_op op_add (pe_op op_add (pe_op op_modN (pe_callTy call_int1 (by rfl) T.n_int (by decide +kernel) (pa_cons (pv 4) pa_nil)) pe_int) (pe_op op_mul pe_int (pv 3))) pe_int) pe_int) pa_nil)) pe_int))
        (pss_cons (ps_set (i := 6) nd rfl (Or.inl rfl) (pe_op op_modN (pe_callTy call_int1 (by rfl) T.n_int (by decide +kernel) (pa_cons (pe_op op_pow (pe_op op_add (pe_op op_add (pe_op op_mul (pv 6) (pe_op op_add (pe_op op_mul pe_int (pv 3)) pe_int)) (pe_op op_mul (pe_op op_mul pe_int (pv 3)) (pv 3))) pe_int) pe_int) pa_nil)) pe_int))
        (pss_one (ps_ret (pe_op op_modN (pe_callTy call_int1 (by rfl) T.n_int (by decide +kernel) (pa_cons (pe_op op_fdivN (pv 6) pe_int) pa_nil)) (pv 1)))))))))))), ?_⟩
    refine ⟨_, rfl, p, _, _, _, rfl, rfl, SqL.of hp, atI_nat (j := 2) rfl, _, _, rfl, rfl, _, rfl, ?_⟩
    refine ite2 (fun hg => ?_) (fun hg => ?_)
    · refine ⟨_, rfl, p, _, _, _, rfl, rfl, SqL.of hp, atI_nat (j := 2) rfl, .inl ⟨_, rfl, _, rfl, _, _, rfl, rfl, (by omega), ?_⟩⟩
      refine ⟨_, rfl, p, _, _, _, rfl, rfl, SqL.of hp, atI_nat (j := 2) rfl, _, rfl, _, _, rfl, rfl, ⟨by omega, by omega⟩, ?_⟩
      refine ⟨_, rfl, p, _, _, _, rfl, rfl, hp, rfl, ?_⟩
      refine ⟨_, rfl, ?_⟩
      exact q _ _ (modN h1).1 (modN h1).2 (Pen.put (i := i) (g := g.fdiv m) hp hc hl (by omega)) keep_upd
    · refine ⟨_, rfl, p, _, _, _, rfl, rfl, SqL.of hp, atI_nat (j := 1) rfl, ?_⟩
      have n1 := cells_ne hc hp
      have hc1 : (upd H p (.lst [.ref c, .int ((i : Int) + 1), .int g])) c = some (.lst (ns.map V.int)) := by
        rw [upd_ne n1]
        exact hc
      refine ⟨_, rfl, _, _, rfl, rfl, _, rfl, p, _, _, _, rfl, rfl, hp, rfl, ?_⟩
      have k1 : Keep p H (upd H p (.lst [.ref c, .int ((i : Int) + 1), .int g])) := keep_upd
      show tSeq _ _ _ _ (upd H p (.lst [.ref c, .int ((i : Int) + 1), .int g]))
      generalize hH1 : upd H p (.lst [.ref c, .int ((i : Int) + 1), .int g]) = H1 at *
      have hp1 : H1 p = some (.lst [.ref c, .int ((i : Int) + 1), .int g]) := by rw [← hH1]; exact upd_same
      refine ⟨_, rfl, _, _, rfl, rfl, .inl ⟨by decide, by decide⟩, _, _, rfl, rfl, ?_⟩
      -- if the cells are not empty
      refine ⟨_, rfl, p, _, _, _, rfl, rfl, SqL.of hp1, atI_nat (j := 0) rfl, ?_⟩
      refine ⟨Nat.zero_le _, fun e he => ?_⟩
      have s2 : Same H1 (upd H1 e (.lst [])) := same_upd he
      refine ⟨.list (ns.map PyData.int), .list [], .lst (SqL.of (s2 _ _ hc1)) (dp_ints ns), .lst (SqL.of upd_same) .nil, shaped_ints ns, rfl, _, rfl, ?_⟩
      rw [eqv_ints_nil]
      have hp2 := s2 _ _ hp1
      have hc2 := s2 _ _ hc1
      have k2 := k1.trans (same_keep s2)
      generalize upd H1 e (.lst []) = H2 at *
      by_cases hns : ns = []
      · have ez : ns.isEmpty = true := by
          rw [hns]
          rfl
        rw [ez]
        refine iteF ?_
        refine ⟨_, rfl, _, rfl, p, _, _, _, rfl, rfl, SqL.of hp2, atI_nat (j := 0) rfl, c, _, rfl, .inl (SqL.of hc2), _, _, rfl, rfl, _, rfl, ?_⟩
        refine ite2 (fun ha => ?_) (fun ha => ?_)
        · refine ⟨_, rfl, _, rfl, _, _, rfl, rfl, ⟨by decide, by decide, by decide⟩, _, _, rfl, rfl, _, rfl, ?_⟩
          refine ite2 (fun hb => ?_) (fun hb => ?_)
          · refine ⟨_, rfl, _, rfl, _, _, rfl, rfl, ⟨by decide, by decide, by decide⟩, _, _, rfl, rfl, _, _, rfl, rfl, .inl ⟨by decide, by decide⟩, _, rfl, _, _, rfl, rfl, .inr ⟨_, rfl, _, _, rfl, rfl, ?_⟩⟩
            refine ⟨_, rfl, _, rfl, _, _, rfl, rfl, ⟨by omega, by omega⟩, _, rfl, p, _, _, _, rfl, rfl, hp2, rfl, ?_⟩
            refine ⟨_, rfl, .inl ⟨_, rfl, _, rfl, _, _, rfl, rfl, by omega, ?_⟩⟩
            exact q _ _ (modN h1).1 (modN h1).2 (Pen.put (i := i + 1) hp2 hc2 hl (by omega)) (k2.trans keep_upd)
          · have hi0 : (0 : Int) ≤ (i : Int) ∧ (i : Int) ≤ 100000 := ⟨by omega, by omega⟩
            refine ⟨_, rfl, .inl ⟨_, rfl, _, _, rfl, rfl, (by show (_ : Int) ≠ 0; decide), _, rfl, _, _, rfl, rfl, .inl ⟨by decide, by decide⟩, _, _, rfl, rfl, _, _, rfl, rfl, _, _, rfl, rfl, ⟨by decide, by decide, ?_⟩, .inl ⟨_, rfl, _, _, rfl, rfl, (by show (_ : Int) ≠ 0; decide), ?_⟩⟩⟩
            · exact bnd1 (modN (by decide)).1 (Int.lt_trans (modN (by decide)).2 (by decide)) hi0.1 hi0.2 (by decide) (by decide) (by decide) (by decide)
            · dsimp only
              generalize hmix : (Int.fmod _ 2147483647) = mix
              have hm0 : 0 ≤ mix ∧ mix < 2147483648 := by
                rw [← hmix]
                exact ⟨(modN (by decide)).1, Int.lt_trans (modN (by decide)).2 (by decide)⟩
              refine ⟨_, rfl, _, rfl, _, _, rfl, rfl, .inl ⟨by decide, by decide⟩, _, _, rfl, rfl, _, _, rfl, rfl, .inl ⟨by omega, by omega⟩, _, rfl, _, _, rfl, rfl, .inl ⟨by decide, by decide⟩, _, rfl, _, _, rfl, rfl, .inr ⟨by omega, by omega⟩, _, _, rfl, rfl, _, _, rfl, rfl, _, _, rfl, rfl, ⟨by decide, by decide, ?_⟩, .inl ⟨_, rfl, _, _, rfl, rfl, (by show (_ : Int) ≠ 0; decide), ?_⟩⟩
              · exact bnd2 hm0.1 hm0.2 hi0.1 hi0.2 (by decide) (by decide) (by decide) (by decide) (by decide) (by decide)
              · refine ⟨_, rfl, _, _, rfl, rfl, ⟨by decide, by decide⟩, .inl ⟨_, rfl, _, rfl, _, _, rfl, rfl, by omega, ?_⟩⟩
                exact q _ _ (modN h1).1 (modN h1).2 ⟨ns, i + 1, g, hp2, hc2, hl, by omega⟩ k2
        · have hi0 : (0 : Int) ≤ (i : Int) ∧ (i : Int) ≤ 100000 := ⟨by omega, by omega⟩
          refine ⟨_, rfl, .inl ⟨_, rfl, _, _, rfl, rfl, (by show (_ : Int) ≠ 0; decide), _, rfl, _, _, rfl, rfl, .inl ⟨by decide, by decide⟩, _, _, rfl, rfl, _, _, rfl, rfl, _, _, rfl, rfl, ⟨by decide, by decide, ?_⟩, .inl ⟨_, rfl, _, _, rfl, rfl, (by show (_ : Int) ≠ 0; decide), ?_⟩⟩⟩
          · exact bnd1 (modN (by decide)).1 (Int.lt_trans (modN (by decide)).2 (by decide)) hi0.1 hi0.2 (by decide) (by decide) (by decide) (by decide)
          · dsimp only
            generalize hmix : (Int.fmod _ 2147483647) = mix
            have hm0 : 0 ≤ mix ∧ mix < 2147483648 := by
              rw [← hmix]
              exact ⟨(modN (by decide)).1, Int.lt_trans (modN (by decide)).2 (by decide)⟩
            refine ⟨_, rfl, _, rfl, _, _, rfl, rfl, .inl ⟨by decide, by decide⟩, _, _, rfl, rfl, _, _, rfl, rfl, .inl ⟨by omega, by omega⟩, _, rfl, _, _, rfl, rfl, .inl ⟨by decide, by decide⟩, _, rfl, _, _, rfl, rfl, .inr ⟨by omega, by omega⟩, _, _, rfl, rfl, _, _, rfl, rfl, _, _, rfl, rfl, ⟨by decide, by decide, ?_⟩, .inl ⟨_, rfl, _, _, rfl, rfl, (by show (_ : Int) ≠ 0; decide), ?_⟩⟩
            · exact bnd2 hm0.1 hm0.2 hi0.1 hi0.2 (by decide) (by decide) (by decide) (by decide) (by decide) (by decide)
            · refine ⟨_, rfl, _, _, rfl, rfl, ⟨by decide, by decide⟩, .inl ⟨_, rfl, _, rfl, _, _, rfl, rfl, by omega, ?_⟩⟩
              exact q _ _ (modN h1).1 (modN h1).2 ⟨ns, i + 1, g, hp2, hc2, hl, by omega⟩ k2
      · have ez : ns.isEmpty = false := by
          cases ns with
          | nil => exact absurd rfl hns
          | cons x r => rfl
        rw [ez]
        refine iteT ?_
        have hz : 0 < ns.length := List.length_pos_iff.mpr hns
        have hj : ((i : Int).fmod (ns.map V.int).length) = (((i % ns.length : Nat) : Nat) : Int) := by
          rw [Int.fmod_eq_emod_of_nonneg _ (by omega), List.length_map]
          rfl
        obtain ⟨z, ezz⟩ := map_int_at (ns := ns) (j := i % ns.length) (Nat.mod_lt _ hz)
        refine ⟨_, rfl, p, _, _, _, rfl, rfl, SqL.of hp2, atI_nat (j := 0) rfl, ?_⟩
        refine ⟨_, rfl, .inl ⟨_, rfl, _, rfl, p, _, _, _, rfl, rfl, SqL.of hp2, atI_nat (j := 0) rfl, c, _, rfl, .inl (SqL.of hc2), _, _, rfl, rfl, ?_, ?_⟩⟩
        · rw [List.length_map]; omega
        · refine ⟨c, _, _, .int z, rfl, rfl, SqL.of hc2, ?_, ?_⟩
          · rw [hj]
            exact atI_nat ezz
          · refine ⟨_, rfl, _, rfl, p, _, _, _, rfl, rfl, SqL.of hp2, atI_nat (j := 0) rfl, c, _, rfl, .inl (SqL.of hc2), _, _, rfl, rfl, _, rfl, ?_⟩
            refine ite2 (fun ha => ?_) (fun ha => ?_)
            · refine ⟨_, rfl, _, rfl, _, _, rfl, rfl, ⟨by decide, by decide, by decide⟩, _, _, rfl, rfl, _, rfl, ?_⟩
              refine ite2 (fun hb => ?_) (fun hb => ?_)
              · refine ⟨_, rfl, _, rfl, _, _, rfl, rfl, ⟨by decide, by decide, by decide⟩, _, _, rfl, rfl, _, _, rfl, rfl, .inl ⟨by decide, by decide⟩, _, rfl, _, _, rfl, rfl, .inr ⟨_, rfl, _, _, rfl, rfl, ?_⟩⟩
                refine ⟨_, rfl, _, rfl, _, _, rfl, rfl, ⟨by omega, by omega⟩, _, rfl, p, _, _, _, rfl, rfl, hp2, rfl, ?_⟩
                refine ⟨_, rfl, .inl ⟨_, rfl, _, rfl, _, _, rfl, rfl, by omega, ?_⟩⟩
                exact q _ _ (modN h1).1 (modN h1).2 (Pen.put (i := i + 1) hp2 hc2 hl (by omega)) (k2.trans keep_upd)
              · have hi0 : (0 : Int) ≤ (i : Int) ∧ (i : Int) ≤ 100000 := ⟨by omega, by omega⟩
                refine ⟨_, rfl, .inl ⟨_, rfl, _, _, rfl, rfl, (by show (_ : Int) ≠ 0; decide), _, rfl, _, _, rfl, rfl, .inl ⟨by decide, by decide⟩, _, _, rfl, rfl, _, _, rfl, rfl, _, _, rfl, rfl, ⟨by decide, by decide, ?_⟩, .inl ⟨_, rfl, _, _, rfl, rfl, (by show (_ : Int) ≠ 0; decide), ?_⟩⟩⟩
                · exact bnd1 (modN (by decide)).1 (Int.lt_trans (modN (by decide)).2 (by decide)) hi0.1 hi0.2 (by decide) (by decide) (by decide) (by decide)
                · dsimp only
                  generalize hmix : (Int.fmod _ 2147483647) = mix
                  have hm0 : 0 ≤ mix ∧ mix < 2147483648 := by
                    rw [← hmix]
                    exact ⟨(modN (by decide)).1, Int.lt_trans (modN (by decide)).2 (by decide)⟩
                  refine ⟨_, rfl, _, rfl, _, _, rfl, rfl, .inl ⟨by decide, by decide⟩, _, _, rfl, rfl, _, _, rfl, rfl, .inl ⟨by omega, by omega⟩, _, rfl, _, _, rfl, rfl, .inl ⟨by decide, by decide⟩, _, rfl, _, _, rfl, rfl, .inr ⟨by omega, by omega⟩, _, _, rfl, rfl, _, _, rfl, rfl, _, _, rfl, rfl, ⟨by decide, by decide, ?_⟩, .inl ⟨_, rfl, _, _, rfl, rfl, (by show (_ : Int) ≠ 0; decide), ?_⟩⟩
                  · exact bnd2 hm0.1 hm0.2 hi0.1 hi0.2 (by decide) (by decide) (by decide) (by decide) (by decide) (by decide)
                  · refine ⟨_, rfl, _, _, rfl, rfl, ⟨by decide, by decide⟩, .inl ⟨_, rfl, _, rfl, _, _, rfl, rfl, by omega, ?_⟩⟩
                    exact q _ _ (modN h1).1 (modN h1).2 ⟨ns, i + 1, g, hp2, hc2, hl, by omega⟩ k2
            · have hi0 : (0 : Int) ≤ (i : Int) ∧ (i : Int) ≤ 100000 := ⟨by omega, by omega⟩
              refine ⟨_, rfl, .inl ⟨_, rfl, _, _, rfl, rfl, (by show (_ : Int) ≠ 0; decide), _, rfl, _, _, rfl, rfl, .inl ⟨by decide, by decide⟩, _, _, rfl, rfl, _, _, rfl, rfl, _, _, rfl, rfl, ⟨by decide, by decide, ?_⟩, .inl ⟨_, rfl, _, _, rfl, rfl, (by show (_ : Int) ≠ 0; decide), ?_⟩⟩⟩
              · exact bnd1 (modN (by decide)).1 (Int.lt_trans (modN (by decide)).2 (by decide)) hi0.1 hi0.2 (by decide) (by decide) (by decide) (by decide)
              · dsimp only
                generalize hmix : (Int.fmod _ 2147483647) = mix
                have hm0 : 0 ≤ mix ∧ mix < 2147483648 := by
                  rw [← hmix]
                  exact ⟨(modN (by decide)).1, Int.lt_trans (modN (by decide)).2 (by decide)⟩
                refine ⟨_, rfl, _, rfl, _, _, rfl, rfl, .inl ⟨by decide, by decide⟩, _, _, rfl, rfl, _, _, rfl, rfl, .inl ⟨by omega, by omega⟩, _, rfl, _, _, rfl, rfl, .inl ⟨by decide, by decide⟩, _, rfl, _, _, rfl, rfl, .inr ⟨by omega, by omega⟩, _, _, rfl, rfl, _, _, rfl, rfl, _, _, rfl, rfl, ⟨by decide, by decide, ?_⟩, .inl ⟨_, rfl, _, _, rfl, rfl, (by show (_ : Int) ≠ 0; decide), ?_⟩⟩
                · exact bnd2 hm0.1 hm0.2 hi0.1 hi0.2 (by decide) (by decide) (by decide) (by decide) (by decide) (by decide)
                · refine ⟨_, rfl, _, _, rfl, rfl, ⟨by decide, by decide⟩, .inl ⟨_, rfl, _, rfl, _, _, rfl, rfl, by omega, ?_⟩⟩
                  exact q _ _ (modN h1).1 (modN h1).2 ⟨ns, i + 1, g, hp2, hc2, hl, by omega⟩ k2
theorem ok__law_pick (T : Txt K mg) : FnOk P w K mg base CX0 2 T.f__law_pick T.fd__law_pick ["_law_pen_here", "_law_some"] (spPick K) := by
  have G__law_draw := ok__law_draw (P := P) (w := w) (base := base) T
  have nd := sc__law_pick.nd
  refine T.F__law_pick.ok sc__law_pick (fun vs H Q E h => ?_) (fun cdv A outer s H vs Q E hr h => ?_)
  · obtain ⟨p, c, a, xs, n, rfl, _⟩ := h; rfl
  · obtain ⟨p, c, a, xs, n, rfl, ne, P0, hn, hS, h1, h2, q⟩ := h
    have hu := hu_of hr
    refine ⟨_, (pss_one (ps_ret (pe_ix ix_list (pv 1) (pe_call (G__law_draw) (hr.mono (by decide)) (by rfl) T.m__law_draw T.F__law_draw.kp T.b__law_draw .nil pass0 (pa_cons (pv 0) (pa_cons (pe_callB call_len_seq (by rfl) T.n_len (by decide +kernel) (pa_cons (pv 1) pa_nil)) pa_nil))) (fun _ _ => rfl)))), ?_⟩
    refine ⟨_, rfl, _, rfl, _, rfl, a, _, rfl, .inl hS, p, c, _, n, rfl, P0, hn, by omega, by omega, fun r H' r0 r1 P1 k1 => ?_⟩
    obtain ⟨j, rfl⟩ : ∃ j : Nat, r = (j : Int) := ⟨r.toNat, by omega⟩
    have hj : j < xs.length := by omega
    refine ⟨a, xs, _, xs[j], rfl, rfl, SqL.keep k1 ne hS, atI_nat (List.getElem?_eq_getElem hj), ?_⟩
    exact q _ _ (List.getElem_mem hj) P1 k1
theorem ok__law_pairs (T : Txt K mg) : FnOk P w K mg base CX0 4 T.f__law_pairs T.fd__law_pairs ["_law_pen_here", "_law_most"] (spPairs K) := by
  have G__law_draw := ok__law_draw (P := P) (w := w) (base := base) T
  have G__law_pick := ok__law_pick (P := P) (w := w) (base := base) T
  have nd := sc__law_pairs.nd
  refine T.F__law_pairs.ok sc__law_pairs (fun vs H Q E h => ?_) (fun cdv A outer s H vs Q E hr h => ?_)
  · obtain ⟨p, c, m, n, rfl, _⟩ := h; rfl
  · obtain ⟨p, c, m, n, rfl, m6, P0, hn, q⟩ := h
    have hu := hu_of hr
    refine ⟨_, (pss_cons (ps_set (i := 2) nd rfl (Or.inl rfl) (pe_lst (pa_cons pe_str (pa_cons pe_str (pa_cons pe_str (pa_cons pe_str (pa_cons pe_str (pa_cons pe_str (pa_cons pe_str pa_nil)))))))))
        (pss_cons (ps_set (i := 3) nd rfl (Or.inl rfl) (pe_lst pa_nil))
        (pss_cons (ps_for PassesOwn.never rfl (pi_range1 rfl T.n_range (pa_cons (pe_call (G__law_draw) (hr.mono (by decide)) (by rfl) T.m__law_draw T.F__law_draw.kp T.b__law_draw .nil pass0 (pa_cons (pv 0) (pa_cons (pe_op op_add (pv 1) pe_int) pa_nil))) pa_nil)) (pg_name (i := 4) nd rfl (Or.inl rfl)) (pss_cons (ps_set (i := 5) nd rfl (Or.inr rfl) (pe_lc (own := [("_law_pair", 8)]) (g := gName 8) rfl nd (pi_list (pv 3)) (blkOk_by (own := [("_law_pair", 8)]) (N := N__law_pairs) (sc := defScope s__law_pairs) (by decide +kernel)) (fun _ _ _ _ _ => pg_name (i := 8) nd rfl (Or.inl rfl)) (fun _ _ _ _ _ => pts_nil) (fun _ _ _ _ _ => (pe_ix (r := rIxT K) ix_tup (pv 8) pe_int (fun _ _ => rfl)))))
        (pss_cons (ps_set (i := 6) nd rfl (Or.inl rfl) (pe_call (G__law_pick) (hr.mono (by decide)) (by rfl) T.m__law_pick T.F__law_pick.kp T.b__law_pick .nil pass0 (pa_cons (pv 0) (pa_cons (pe_lc (own := [("_law_name", 6)]) (g := gName 6) rfl nd (pi_list (pv 2)) (blkOk_by (own := [("_law_name", 6)]) (N := N__law_pairs) (sc := defScope s__law_pairs) (by decide +kernel)) (fun _ _ _ _ _ => pg_name (i := 6) nd rfl (Or.inl rfl)) (fun _ _ _ _ _ => pts_one (pt_cmpR (r := rIn K true) op_notIn_seq (pv 6) (pv 5) (by rfl))) (fun _ _ _ _ _ => (pv 6))) pa_nil))))
        (pss_cons (ps_set (i := 7) nd rfl (Or.inl rfl) (pe_lst (pa_cons pe_int (pa_cons pe_int (pa_cons pe_int (pa_cons pe_int (pa_cons (pe_op op_pow pe_int pe_int) (pa_cons (pe_call (G__law_draw) (hr.mono (by decide)) (by rfl) T.m__law_draw T.F__law_draw.kp T.b__law_draw .nil pass0 (pa_cons (pv 0) (pa_cons pe_int pa_nil))) (pa_cons (pe_call (G__law_draw) (hr.mono (by decide)) (by rfl) T.m__law_draw T.F__law_draw.kp T.b__law_draw .nil pass0 (pa_cons (pv 0) (pa_cons (pe_op op_pow pe_int pe_int) pa_nil))) pa_nil)))))))))
        (pss_one (ps_expr (pe_bm PySem.F.plainAttrs_list PySem.F.slot_list_append PySem.F.type_list_append mt_append (pv 3) (pa_cons (pe_tup (pa_cons (pv 6) (pa_cons (pe_call (G__law_pick) (hr.mono (by decide)) (by rfl) T.m__law_pick T.F__law_pick.kp T.b__law_pick .nil pass0 (pa_cons (pv 0) (pa_cons (pv 7) pa_nil))) pa_nil))) pa_nil))))))))
        (pss_one (ps_ret (pv 3)))))), ?_⟩
    refine ⟨line_of (by decide), fun l nl => ?_⟩
    obtain ⟨H1, hh, S1, _, e1⟩ := knew (o := .lst [.str "alu", .str "bus", .str "c", .str "d7", .str "shift", .str "longname", .str "z0"]) (Same.refl H) nl
    rw [hh]
    clear hh
    have el1 : H1 l = some (.lst (NM7.map V.str)) := e1
    have nlp : l ≠ p := P0.ne nl
    refine ⟨line_of (by decide), fun f nf => ?_⟩
    obtain ⟨H2, hh, S2, T2, ef2⟩ := knew (o := .lst []) S1 nf
    rw [hh]
    clear hh
    have nfp : f ≠ p := (P0.same S1).ne nf
    have nfl : f ≠ l := (ne_of_none e1 nf).symm
    have nf0 := S1.free nf
    have nfc := (P0.same S1).nec nf
    have P2 := P0.same S2
    have k2 : Keep p H H2 := same_keep S2
    have el2 := T2 _ _ el1
    show tSeq _ _ _ ([some (.ref p), some (.int (m : Int)), some (.ref l), some (.ref f), none, none, none, none, none] : L2.St) _
    refine ⟨_, rfl, _, rfl, _, _, rfl, rfl, p, c, _, n, rfl, P2, by omega, by omega, by omega, fun r H3 r0 r1 P3 k3 => ?_⟩
    refine ⟨_, rfl, by omega, by omega, for_range (n := r.toNat) (fun i σ H4 => ∃ (v4 v5 v6 v7 : Option V) (ps : List Addr) (oks : List (Str × V)), σ = [some (.ref p), some (.int (m : Int)), some (.ref l), some (.ref f), v4, v5, v6, v7, none] ∧ H4 f = some (.lst (ps.map V.ref)) ∧ Paired (fun a q => H4 a = some (.tup [q.1, q.2]) ∧ a ≠ p ∧ a ≠ f) ps (vk oks) ∧ oks.length = i ∧ (oks.map (·.1)).Nodup ∧ (∀ y ∈ oks, y.1 ∈ NM7 ∧ Num7 y.2) ∧ H4 l = some (.lst (NM7.map V.str)) ∧ Pen H4 p c (n + 1 + 4 * i) ∧ Keep p H H4) ⟨_, _, _, _, [], [], rfl, k3 _ _ ef2 nfp, .nil, rfl, .nil, (by simp), k3 _ _ el2 nlp, P3, k2.trans k3⟩ ?_ ?_⟩
    · rintro i σ H4 hi ⟨v4, v5, v6, v7, ps, oks, rfl, ef, pr, hz, ndz, hm, el, P4, k4⟩
      have hi5 : i < m + 1 := by omega
      have lps : ps.length = oks.length := by
        have := pr.length
        unfold vk at this
        rw [List.length_map] at this
        exact this
      show tSeq _ _ _ ([some (.ref p), some (.int (m : Int)), some (.ref l), some (.ref f), some (.int (0 + (i : Int))), v5, v6, v7, none] : L2.St) _
      refine ⟨_, rfl, f, rfl, ⟨_, SqL.of ef⟩, fun D nD => lc_list (K := K) (a := f) (xs := ps.map V.ref) (fun j H' => Same H4 H' ∧ H' D = some (.lst (((oks.take j).map (·.1)).map V.str))) ⟨same_upd nD, upd_same⟩ (fun _ _ _ h => h.1.seq (SqL.of ef)) ?_ ?_⟩
      · rintro j u H5 hu2 ⟨s5, hD⟩
        obtain ⟨a, ha, rfl⟩ := map_ref_at7 hu2
        obtain ⟨y', hy', ht, _, _⟩ := paired_at pr ha
        obtain ⟨y, hy, e1, e2⟩ := vk_at (rest := []) (f := y'.1) (n := y'.2) (i := j) (by rw [List.append_nil]; exact hy') (by rw [← lps]; exact (List.getElem?_eq_some_iff.mp ha).1)
        rw [e1] at ht
        refine ⟨rfl, ?_⟩
        refine iteT (B := True) ?_
        refine ⟨_, rfl, a, _, 0, .str y.1, rfl, rfl, SqT.of (s5 _ _ ht), atI_nat (j := 0) rfl, _, hD, ?_, fun c o e => ?_, ?_⟩
        · have : sizeLine = 16777216 := by decide +kernel
          rw [List.length_map, List.length_map, List.length_take]
          omega
        · rw [upd_ne (ne_of_none e nD)]
          exact s5 _ _ e
        · rw [upd_same, List.take_add_one, hy, List.map_append, List.map_append]
          rfl
      rintro H5 ⟨s5, hD⟩
      have hD5 : H5 D = some (.lst ((oks.map (·.1)).map V.str)) := by
        rw [List.length_map, lps, List.take_of_length_le (Nat.le_refl _)] at hD
        exact hD
      have k5 : Keep p H4 H5 := same_keep s5
      have el5 := s5 _ _ el
      have ef5 := s5 _ _ ef
      have nDp : D ≠ p := P4.ne nD
      have P5 := P4.same s5
      clear hD
      show tSeq _ _ _ ([some (.ref p), some (.int (m : Int)), some (.ref l), some (.ref f), some (.int (0 + (i : Int))), some (.ref D), v6, v7, none] : L2.St) _
      refine ⟨_, rfl, _, rfl, l, rfl, ⟨_, SqL.of el5⟩, fun D2 nD2 => lc_list (K := K) (a := l) (xs := NM7.map V.str) (fun j H' => Same H5 H' ∧ H' D2 = some (.lst (((NM7.take j).filter fun z => decide (z ∉ oks.map (·.1))).map V.str))) ⟨same_upd nD2, upd_same⟩ (fun _ _ _ h => h.1.seq (SqL.of el5)) ?_ ?_⟩
      · rintro j u H6 hu2 ⟨s6, hD⟩
        obtain ⟨z, hzz, rfl⟩ := map_str_at2 hu2
        refine ⟨rfl, _, rfl, _, rfl, D, _, rfl, .inl (SqL.of (s6 _ _ hD5)), rfl, flat_strs _, _, rfl, ?_⟩
        rw [inV_strs, flt_succ hzz]
        by_cases hin : z ∈ oks.map (·.1)
        · rw [decide_eq_true hin, decide_eq_false (show ¬ z ∉ oks.map (·.1) from fun q => q hin)]
          refine iteF ⟨s6, ?_⟩
          rw [hD]
          rfl
        · rw [decide_eq_false hin, decide_eq_true hin]
          refine iteT (B := (fun _ => True) H6) ?_
          refine ⟨_, rfl, _, hD, ?_, fun c o e => ?_, ?_⟩
          · have e1 := List.length_filter_le (fun z => decide (z ∉ oks.map (·.1))) (NM7.take j)
            have : sizeLine = 16777216 := by decide +kernel
            have : NM7.length = 7 := rfl
            rw [List.length_map]
            rw [List.length_take] at e1
            omega
          · rw [upd_ne (ne_of_none e nD2)]
            exact s6 _ _ e
          · rw [upd_same, if_pos rfl, List.map_append]
            rfl
      rintro H6 ⟨s6, hD⟩
      rw [List.length_map, List.take_of_length_le (Nat.le_refl _)] at hD
      have hfl := flt_out (oks.map (·.1)) NM7 (by decide +kernel)
      have h8 : NM7.length = 7 := rfl
      have hle := List.length_filter_le (fun z => decide (z ∉ oks.map (·.1))) NM7
      rw [List.length_map] at hfl
      have P6 := P5.same s6
      have nDp2 : D2 ≠ p := P5.ne nD2
      refine ⟨p, c, D2, _, _, rfl, nDp2, P6, by omega, SqL.of hD, by rw [List.length_map]; omega, by rw [List.length_map]; omega, fun u H7 mem P7 k7 => ?_⟩
      obtain ⟨z, hzf, rfl⟩ := List.mem_map.mp mem
      obtain ⟨hz8, hzo⟩ := List.mem_filter.mp hzf
      have hzo' : z ∉ oks.map (·.1) := of_decide_eq_true hzo
      have k47 : Keep p H4 H7 := (k5.trans (same_keep s6)).trans k7
      clear hD hzf hzo mem hD5 el5 ef5 P5 P6 s5 s6 k7 hfl hle nD nD2 k5
      show tSeq _ _ _ ([some (.ref p), some (.int (m : Int)), some (.ref l), some (.ref f), some (.int (0 + (i : Int))), some (.ref D), some (.str z), v7, none] : L2.St) _
      refine ⟨_, _, rfl, rfl, cpow7 (by omega) (by omega), _, rfl, p, c, _, _, rfl, P7, by omega, by omega, by omega, fun x1 H8 x1a x1b P8 k8 => ?_⟩
      refine ⟨_, rfl, _, _, rfl, rfl, cpow7 (by omega) (by omega), p, c, _, _, rfl, P8, by omega, by decide, by decide, fun x2 H9 x2a x2b P9 k9 => ?_⟩
      refine ⟨line_of (by show 7 ≤ 1000000; decide), fun t nt => ?_⟩
      obtain ⟨H10, hh, k10, s10, e10⟩ := knewK (o := .lst [.int 0, .int 1, .int 2, .int 3, .int ((10 : Int) ^ (9 : Int).toNat), .int x1, .int x2]) ((k47.trans k8).trans k9) nt
      rw [hh]
      clear hh
      have P10 := P9.same s10
      have ntp : t ≠ p := P9.ne nt
      have ef10 := k10 _ _ ef nfp
      refine ⟨_, rfl, .inl ⟨rfl, _, SqL.of ef10⟩, _, rfl, _, rfl, _, rfl, p, c, t, _, _, rfl, ntp, P10, by omega, SqL.of e10, by show 1 ≤ 7; decide, by show 7 ≤ 1000; decide, fun u H11 mem P11 k11 => ?_⟩
      have e7 : (10 : Int) ^ (7 : Int).toNat = 10000000 := by decide +kernel
      rw [e7] at x2b
      have hu7 : Num7 u := num7_of x1a (by omega) x2a (by omega) mem
      refine ⟨line_of (by show 2 ≤ 1000000; decide), fun a na => ?_⟩
      obtain ⟨H12, hh, k12, s12, e12⟩ := knewK (o := .tup [.str z, u]) (k10.trans k11) na
      rw [hh]
      clear hh
      have nap : a ≠ p := P11.ne na
      have ef12 := k12 _ _ ef nfp
      have naf : a ≠ f := (ne_of_none (k11 _ _ ef10 nfp) na).symm
      refine ⟨f, _, _, rfl, rfl, ef12, ?_, ?_⟩
      · have : sizeLine = 16777216 := by decide +kernel
        rw [List.length_map]
        omega
      refine ⟨_, _, _, _, ps ++ [a], oks ++ [(z, u)], rfl, ?_, ?_, by simp [hz], ?_, fun y hy => ?_, ?_, ?_, fun c o e nc => ?_⟩
      · rw [upd_same, List.map_append]
        rfl
      · unfold vk
        rw [List.map_append]
        refine paired_app (L2.Paired.mapP pr fun a' q h => ⟨?_, h.2⟩) (.cons ⟨?_, nap, naf⟩ .nil)
        · rw [upd_ne h.2.2]
          exact k12 _ _ h.1 h.2.1
        · rw [upd_ne naf]
          exact e12
      · rw [List.map_append]
        refine List.nodup_append.mpr ⟨ndz, by simp, fun a ha b hb => ?_⟩
        rw [show b = z by simpa using hb]
        exact fun q => hzo' (q ▸ ha)
      · rcases List.mem_append.mp hy with hy | hy
        · exact hm y hy
        · rw [show y = (z, u) by simpa using hy]
          exact ⟨hz8, hu7⟩
      · rw [upd_ne nfl.symm]
        exact k12 _ _ el nlp
      · exact ((P11.same s12).upd nfp nfc).mono (by omega)
      · rw [upd_ne (ne_of_none e nf0)]
        exact k12 _ _ (k4 _ _ e nc) nc
    · rintro σ H4 ⟨v4, v5, v6, v7, ps, oks, rfl, ef, pr, hz, ndz, hm, el, P4, k4⟩
      exact ⟨_, rfl, q f ps oks _ nf0 nfp ef (L2.Paired.mapP pr fun a q h => ⟨h.1, h.2.1⟩) ndz hm (by omega) (P4.mono (by omega)) k4⟩
theorem ok__law_due_of (T : Txt K mg) : FnOk P w K mg base CX0 1 T.f__law_due_of T.fd__law_due_of ["_law_pairs_here"] (spDueOf K) := by
  have nd := sc__law_due_of.nd
  refine T.F__law_due_of.ok sc__law_due_of (fun vs H Q E h => ?_) (fun cdv A outer s H vs Q E hr h => ?_)
  · obtain ⟨l, ps, ks, rfl, _⟩ := h; rfl
  · obtain ⟨l, ps, ks, rfl, hL, hP, hl, q⟩ := h
    have hu := hu_of hr
    refine ⟨_, (pss_one (ps_ret (pe_callTy call_tuple_of (by rfl) T.n_tuple (by decide +kernel) (pa_cons (pe_callB (r := rSortedPS K) cr_sortedPS (by rfl) T.n_sorted (by decide +kernel) (pa_cons (pe_lc (own := [("_law_pair", 1)]) (g := gName 1) rfl nd (pi_list (pv 0)) (blkOk_by (own := [("_law_pair", 1)]) (N := N__law_due_of) (sc := defScope s__law_due_of) (by decide +kernel)) (fun _ _ _ _ _ => pg_name (i := 1) nd rfl (Or.inl rfl)) (fun _ _ _ _ _ => pts_one (pt_cmpR (r := rNe) op_ne (pe_ix (r := rIxT K) ix_tup (pv 1) pe_int (fun _ _ => rfl)) pe_int (by rfl))) (fun _ _ _ _ _ => (pv 1))) pa_nil)) pa_nil)))), ?_⟩
    have lp : ps.length = ks.length := hP.length
    refine ⟨_, rfl, l, rfl, ⟨_, hL⟩, fun D nD => lc_list (K := K) (a := l) (xs := ps.map V.ref) (fun i H' => ∃ sel : List Addr, Same H H' ∧ H' D = some (.lst (sel.map V.ref)) ∧ sel.length ≤ i ∧ Paired (fun a y => H a = some (.tup [.str y.1, .int y.2])) sel ((ks.take i).filter nz)) ⟨[], same_upd nD, upd_same, Nat.le_refl _, .nil⟩ (fun _ _ _ ⟨_, s, _⟩ => s.seq hL) ?_ ?_⟩
    · rintro i v H1 hv ⟨sel, s1, hD, ls, pr⟩
      obtain ⟨a, ha, rfl⟩ := map_ref_at7 hv
      obtain ⟨y, hy, ht⟩ := paired_at hP ha
      have sz : sizeLine = 16777216 := by decide +kernel
      have il : i < ks.length := (List.getElem?_eq_some_iff.mp hy).1
      have tk : (ks.take (i + 1)).filter nz = (ks.take i).filter nz ++ (if nz y then [y] else []) := by
        rw [List.take_add_one, hy, List.filter_append]
        cases hh : nz y <;> simp [hh]
      refine ⟨rfl, ?_⟩
      refine ⟨_, rfl, a, _, 1, _, rfl, rfl, SqT.of (s1 _ _ ht), atI_nat (j := 1) rfl, rfl, _, rfl, ?_⟩
      refine ite2 (fun c1 => ?_) (fun c1 => ?_)
      · have hz : nz y = true := by unfold nz; simpa using c1
        rw [tk, if_pos hz]
        refine ⟨_, rfl, _, hD, by rw [List.length_map]; omega, sel ++ [a], fun c o e => ?_, by rw [upd_same, List.map_append]; rfl, by simp; omega, paired_app pr (.cons ht .nil)⟩
        rw [upd_ne (ne_of_none e nD)]
        exact s1 _ _ e
      · have hz : ¬ nz y = true := by unfold nz; simpa using c1
        rw [tk, if_neg hz, List.append_nil]
        exact ⟨sel, s1, hD, by omega, pr⟩
    · rintro H1 ⟨sel, s1, hD, ls, pr⟩
      rw [List.length_map, lp, List.take_of_length_le (Nat.le_refl _)] at pr
      refine ⟨D, sel.map V.ref, kfS H, rfl, SqL.of hD, fun x hx => ?_, fun ys r hs hb nr => ?_⟩
      · obtain ⟨a, ha, rfl⟩ := List.mem_map.mp hx
        obtain ⟨i, hi⟩ := List.mem_iff_getElem?.mp ha
        obtain ⟨y, hy, ht⟩ := paired_at pr hi
        exact ⟨a, rfl, by rw [kfS_at ht]; exact s1 _ _ ht⟩
      · have hr : ∀ u ∈ ys, ∃ a, u = V.ref a ∧ H a = some (.tup [.str (kfS H u).1, .int (kfS H u).2]) := fun u hu => by
          obtain ⟨a, ha, rfl⟩ := List.mem_map.mp (hb.perm.mem_iff.mp hu)
          obtain ⟨i, hi⟩ := List.mem_iff_getElem?.mp ha
          obtain ⟨y, hy, ht⟩ := paired_at pr hi
          exact ⟨a, rfl, by rw [kfS_at ht]; exact ht⟩
        obtain ⟨qs, rfl, pq⟩ := refs_of hr
        have hp : ((qs.map V.ref).map (kfS H)).Perm (ks.filter nz) := by
          have := hb.perm.map (kfS H)
          rw [List.map_map] at this
          rw [← kfS_map pr, List.map_map]
          exact this.trans (by rw [List.map_map]; exact List.Perm.refl _)
        have hso : ((qs.map V.ref).map (kfS H)).Pairwise (fun a b => SrtO.lexS b a = false) := List.pairwise_map.mpr hs
        obtain ⟨H2, hh, S2, _, e2⟩ := knew (o := .lst (qs.map V.ref)) s1 nr
        rw [hh]
        clear hh
        refine ⟨r, _, rfl, .inl ⟨SqL.of e2, fun t nt => ?_⟩⟩
        exact q t qs _ _ hp hso (S2.free nt) (S2.trans (same_upd nt)) upd_same (L2.Paired.mapP pq fun a y h => by rw [upd_ne (ne_of_none (S2 _ _ h) nt)]; exact S2 _ _ h)
theorem ok__law_refusal (T : Txt K mg) : FnG P w K mg base 6 T.f__law_refusal T.fd__law_refusal ["_law_draft", "_law_name", "_law_number"] (spRefu K T.c_Draft) := by
  have G_Draft___setitem__ := ok_Draft___setitem__ (P := P) (w := w) (base := base) T
  have nd := sc__law_refusal.nd
  refine okG T.F__law_refusal sc__law_refusal (fun vs H Q E h => ?_) (fun cdv A outer s H vs Q E calm hr h => ?_)
  · obtain ⟨o, m, p, ds, v, w, rfl, _⟩ := h; rfl
  · obtain ⟨o, m, p, ds, v, w, rfl, ho, l60, tv, tw, q1, q2, q3⟩ := h
    have hu := hu_of hr
    refine ⟨_, (pss_cons (ps_try_manyAs rfl rfl takesF (fun W pn xe tk _ => (pss_one (ps_setOA (E := WE W) (pv 0) (pv 1) (pv 2) (G_Draft___setitem__.raw T.b_Draft___setitem__ .nil) T.od_set T.ns_Draft (hr.mono (by decide)) (passAt tk) (by rfl)))) (.cons (i := 3) nd rfl rfl ⟨by rfl, by decide, .inl T.m_InvalidName⟩ (fun a oe cls d pn hz hf => (pss_one (ps_ret (pe_tup (pa_cons pe_str (pa_cons (pe_callB (id := "repr") (r := rShow K) (by refine cr_show ?_ ?_; exact calm; exact hr.units) (by rfl) T.n_repr (by decide +kernel) (pa_cons (pe_xf (C := T.c_InvalidName) ⟨T.ex_InvalidName.ga, T.ex_InvalidName.gg, T.ex_InvalidName.oex.exC, T.ex_InvalidName.dct⟩ T.no_InvalidName_value hz hf (pv 3)) pa_nil)) pa_nil)))))) (.cons (i := 3) nd rfl rfl ⟨by rfl, by decide, .inl T.m_InvalidNumber⟩ (fun a oe cls d pn hz hf => (pss_one (ps_ret (pe_tup (pa_cons (pe_ix (r := rIxL K) ix_list (pe_lst (pa_cons pe_str (pa_cons pe_str pa_nil))) (pe_callTy call_int1 (by rfl) T.n_int (by decide +kernel) (pa_cons (pe_callB (call_isS hz hf) (by rfl) T.n_isinstance (by decide +kernel) (pa_cons (pv 3) (pa_cons (pe_glob (v := .ref T.c_InvalidName) (by rfl) T.m_InvalidName rfl) pa_nil))) pa_nil)) (fun _ _ => rfl)) (pa_cons (pe_callB (id := "repr") (r := rShow K) (by refine cr_show ?_ ?_; exact calm; exact hr.units) (by rfl) T.n_repr (by decide +kernel) (pa_cons (pe_xf (C := T.c_InvalidNumber) ⟨T.ex_InvalidNumber.ga, T.ex_InvalidNumber.gg, T.ex_InvalidNumber.oex.exC, T.ex_InvalidNumber.dct⟩ T.no_InvalidNumber_value hz hf (pv 3)) pa_nil)) pa_nil)))))) .nil)))
        (pss_one (ps_ret pe_non))), ?_⟩
    obtain ⟨⟨dx, fs, f1, f2, f3⟩, hm⟩ := id ho
    refine ⟨_, rfl, _, rfl, _, rfl, o, dx, fs, rfl, f1, o, m, p, ds, v, w, rfl, ho, l60, tv, tw, fun z n ez hz en hn H1 k1 e1 => ?_, fun hb e H1 ne s1 ee => ?_, fun hk hb e H1 ne s1 ee => ?_⟩
    · exact q1 z n ez hz en hn H1 k1 e1
    · obtain ⟨d, fd, sh, q⟩ := q2 hb
      obtain ⟨a1, a2, a3, a4⟩ := fineS_ok fd
      refine ⟨true, T.xm_InvalidName_InvalidName, fun _ a' na' => ?_, fun h => by cases h⟩
      refine ⟨_, rfl, rfl, rfl, e, _, v, rfl, ee, rfl, v, d, rfl, sh.same s1, a1, a2, a3, line_of (by show 2 ≤ 1000000; decide), fun t nt => ?_⟩
      exact q t _ (s1.free nt) (s1.trans (same_upd nt)) upd_same
    · obtain ⟨d, fd, sh, q⟩ := q3 hk hb
      obtain ⟨a1, a2, a3, a4⟩ := fineS_ok fd
      refine ⟨false, T.xm_InvalidNumber_InvalidName, ?_⟩
      refine ⟨(fun h => by cases h), fun _ => ?_⟩
      refine ⟨true, T.xm_InvalidNumber_InvalidNumber, fun _ a' na' => ?_, fun h => by cases h⟩
      refine ⟨line_of (by show 2 ≤ 1000000; decide), fun l2 nl2 => ?_⟩
      obtain ⟨H2, hh2, s2, t2, e2⟩ := knew (o := .lst [.str "number", .str "odd"]) s1 nl2
      rw [hh2]
      clear hh2
      have e3 := t2 _ _ ee
      have xd : XdAt H2 (some e) := fun d2 h => by
        cases h
        exact ⟨_, e3⟩
      refine ⟨_, rfl, T.c_InvalidNumber, T.f_InvalidNumber_init, _, _, _, rfl, rfl, T.ex_InvalidNumber, T.Z, xd, .own _, T.ko_InvalidNumber_InvalidName, ?_⟩
      refine .inr ⟨_, rfl, l2, _, _, .str "number", rfl, rfl, SqL.of e2, rfl, ?_⟩
      refine ⟨_, rfl, rfl, rfl, e, _, w, rfl, e3, rfl, w, d, rfl, sh.same s2, a1, a2, a3, line_of (by show 2 ≤ 1000000; decide), fun t nt => ?_⟩
      exact q t _ (s2.free nt) (s2.trans (same_upd nt)) upd_same
theorem ok__law_united (T : Txt K mg) : FnOk P w K mg base CX0 10 T.f__law_united T.fd__law_united ["_law_draft", "_law_signals"] (spUnited K T.c_Signals T.c_Draft) := by
  have G_Draft___ior__ := ok_Draft___ior__ (P := P) (w := w) (base := base) T
  have nd := sc__law_united.nd
  refine T.F__law_united.ok sc__law_united (fun vs H Q E h => ?_) (fun cdv A outer s H vs Q E hr h => ?_)
  · obtain ⟨o, m, y, ds, us, rfl, _⟩ := h; rfl
  · obtain ⟨o, m, y, ds, us, rfl, ho, hy, ok, ok2, q1, q2⟩ := h
    have hu := hu_of hr
    refine ⟨_, (pss_cons (ps_try_as (i := 2) rfl rfl nd rfl rfl ⟨by rfl, by decide, .inl T.m_FieldClash⟩ takesF (fun W pn xe tk _ => (pss_one (ps_augOA (E := WE W) (i := 0) nd rfl (.inl rfl) (pv 1) (G_Draft___ior__.raw T.b_Draft___ior__ .nil) T.od_ior T.sf_Draft (hr.mono (by decide)) (passAt tk)))) (fun a oe cls d pn hz hf => (pss_one (ps_ret (pe_ifExp (pt_val (pe_callB (call_isS hz hf) (by rfl) T.n_isinstance (by decide +kernel) (pa_cons (pv 2) (pa_cons (pe_glob (v := .ref T.c_Clash) (by rfl) T.m_Clash rfl) pa_nil)))) (pe_tup (pa_cons pe_str (pa_cons pe_int (pa_cons pe_int pa_nil)))) (pe_tup (pa_cons (pe_xf (C := T.c_FieldClash) ⟨T.ex_FieldClash.ga, T.ex_FieldClash.gg, T.ex_FieldClash.oex.exC, T.ex_FieldClash.dct⟩ T.no_FieldClash_field hz hf (pv 2)) (pa_cons (pe_xf (C := T.c_FieldClash) ⟨T.ex_FieldClash.ga, T.ex_FieldClash.gg, T.ex_FieldClash.oex.exC, T.ex_FieldClash.dct⟩ T.no_FieldClash_one hz hf (pv 2)) (pa_cons (pe_xf (C := T.c_FieldClash) ⟨T.ex_FieldClash.ga, T.ex_FieldClash.gg, T.ex_FieldClash.oex.exC, T.ex_FieldClash.dct⟩ T.no_FieldClash_other hz hf (pv 2)) pa_nil)))))))))
        (pss_one (ps_ret pe_non))), ?_⟩
    obtain ⟨⟨dx, fs, f1, f2, f3⟩, hm⟩ := id ho
    refine ⟨_, rfl, _, rfl, o, dx, fs, rfl, f1, o, m, y, ds, us, rfl, ho, hy, ok, ok2, fun hc H1 k1 e1 => ?_, fun p hc e H1 ne s1 ee => ?_⟩
    · exact q1 hc H1 k1 e1
    · refine ⟨true, T.xm_FieldClash_FieldClash, fun _ a' na' => ?_, fun h => by cases h⟩
      have xd : XdAt H1 (some e) := fun d2 h => by
        cases h
        exact ⟨_, ee⟩
      refine ⟨_, rfl, T.c_FieldClash, T.f_FieldClash_init, _, _, _, rfl, rfl, T.ex_FieldClash, T.Z, xd, .own _, T.ko_FieldClash_Clash, _, rfl, ?_⟩
      refine iteN' (by decide) ?_
      refine ⟨_, rfl, rfl, rfl, e, _, _, rfl, ee, rfl, _, rfl, rfl, rfl, e, _, _, rfl, ee, rfl, _, rfl, rfl, rfl, e, _, _, rfl, ee, rfl, line_of (by show 3 ≤ 1000000; decide), fun u nu => ?_⟩
      exact q2 p hc u _ (s1.free nu) (s1.trans (same_upd nu)) upd_same
theorem ok__law_tells (T : Txt K mg) : FnG P w K mg base 11 T.f__law_tells T.fd__law_tells ["_law_draft", "_law_numbers"] (spTells T.c_Draft) := by
  have G_Draft_present := ok_Draft_present (P := P) (w := w) (base := base) T
  have G_Draft___eq__ := ok_Draft___eq__ (P := P) (w := w) (base := base) T
  have G_Draft_init := ok_Draft_init (P := P) (w := w) (base := base) T
  have G_Draft___repr__ := ok_Draft___repr__ (P := P) (w := w) (base := base) T
  have G_Draft___getitem__ := ok_Draft___getitem__ (P := P) (w := w) (base := base) T
  have G_Signals_of := ok_Signals_of (P := P) (w := w) (base := base) T
  have nd := sc__law_tells.nd
  refine okG T.F__law_tells sc__law_tells (fun vs H Q E h => ?_) (fun cdv A outer s H vs Q E calm hr h => ?_)
  · obtain ⟨o, m, q, ds, ns, rfl, _⟩ := h; rfl
  · obtain ⟨o, m, q, ds, ns, rfl, ho, hq, ok, okn, eq, qq⟩ := h
    have hu := hu_of hr
    refine ⟨_, (pss_cons (ps_set (i := 3) nd rfl (Or.inl rfl) (pe_callTy call_tuple_of (by rfl) T.n_tuple (by decide +kernel) (pa_cons (pe_lc (own := [("_law_name", 2)]) (g := gName 2) rfl nd (pi_list (pe_callB cr_sortedS (by rfl) T.n_sorted (by decide +kernel) (pa_cons (pe_callTy (call_listD rfl) (by rfl) T.n_list (by decide +kernel) (pa_cons (pv 1) pa_nil)) pa_nil))) (blkOk_by (own := [("_law_name", 2)]) (N := N__law_tells) (sc := defScope s__law_tells) (by decide +kernel)) (fun _ _ _ _ _ => pg_name (i := 2) nd rfl (Or.inl rfl)) (fun _ _ _ _ _ => pts_one (pt_cmpR op_ne (pe_dget (by exact hu) (pv 1) (pv 2) (fun _ _ => rfl)) pe_int (by rfl))) (fun _ _ _ _ _ => (pe_tup (pa_cons (pv 2) (pa_cons (pe_dget (by exact hu) (pv 1) (pv 2) (fun _ _ => rfl)) pa_nil))))) pa_nil)))
        (pss_cons (ps_if (PW.pt (pw_or (pt_cmpR (op_neD hr.units) (pe_fld (pe_prop (pv 0) T.k_Draft T.pr_present G_Draft_present (hr.mono (by decide)) T.b_Draft_present .nil pass0 (by rfl)) (by rfl)) (pv 3) (nomark _)) (pw_or1 (pt_cmpR (op_neV (G_Draft___eq__.raw T.b_Draft___eq__ .nil) T.od_eq T.on_Draft (hr.mono (by decide)) pass0) (pv 0) (pe_make T.mk_Draft G_Draft_init (hr.mono (by decide)) (by rfl) T.m_Draft T.b_Draft_init .nil (passes_call takesF (fun _ _ _ _ h => h)) (pa_cons (pe_cmethA (E := fun _ => E0) (pe_glob (v := .ref T.c_Signals) (by rfl) T.m_Signals rfl) T.cr_Signals T.cm_of (G_Signals_of.raw T.b_Signals_of .nil) (hr.mono (by decide)) (fun σ pins H s e s' I h => (passes_call takesF (fun _ _ _ _ h => h)) pins σ H s e s' I h) (pa_cons (pe_callTy (r := rLst K) cr_lst (by rfl) T.n_list (by decide +kernel) (pa_cons (pv 3) pa_nil)) pa_nil)) pa_nil)) (nomark _))))) (pss_one (ps_ret pe_bl)) pss_nil)
        (pss_cons (ps_if (pt_cmpR op_ne (pe_callB (call_reprO (G_Draft___repr__.raw T.b_Draft___repr__ .nil) T.od_repr (hr.mono (by decide)) pass0) (by rfl) T.n_repr (by decide +kernel) (pa_cons (pv 0) pa_nil)) (pe_op op_add_str (pe_op op_add_str pe_str (pe_join pe_str (pe_lc (own := [("_law_name", 2), ("_law_number", 4)]) (g := gTup K 2 (gCons (gName 2) (gCons (gName 4) gNil))) rfl nd (pi_tup (pv 3)) (blkOk_by (own := [("_law_name", 2), ("_law_number", 4)]) (N := N__law_tells) (sc := defScope s__law_tells) (by decide +kernel)) (fun _ _ _ _ _ => pg_tup rfl (pgs_cons (pg_name (i := 2) nd rfl (Or.inl rfl)) (pgs_cons (pg_name (i := 4) nd rfl (Or.inl rfl)) pgs_nil))) (fun _ _ _ _ _ => pts_nil) (fun _ _ _ _ _ => (pe_op op_add_str (pe_op op_add_str (pv 2) pe_str) (pe_callTy call_str_int (by rfl) T.n_str (by decide +kernel) (pa_cons (pv 4) pa_nil))))))) pe_str) (nomark _)) (pss_one (ps_ret pe_bl)) pss_nil)
        (pss_cons (ps_for PassesOwn.never rfl (pi_list (pe_lst (pa_cons pe_str (pa_cons pe_str (pa_cons pe_str (pa_cons pe_str (pa_cons pe_str (pa_cons pe_str (pa_cons pe_str (pa_cons pe_str pa_nil)))))))))) (pg_name (i := 2) nd rfl (Or.inl rfl)) (pss_one (ps_if (pt_cmpR op_ne (pe_callB (id := "repr") (r := rShow K) (by refine cr_show ?_ ?_; exact calm; exact hr.units) (by rfl) T.n_repr (by decide +kernel) (pa_cons (pe_ixOA (E := fun _ => E0) (pv 0) (pv 2) (G_Draft___getitem__.raw T.b_Draft___getitem__ .nil) T.od_get T.fd_get (hr.mono (by decide)) (fun σ pins H s e s' I h => (passes_call takesF (fun _ _ _ _ h => h)) pins σ H s e s' I h)) pa_nil)) (pe_callTy call_str_int (by rfl) T.n_str (by decide +kernel) (pa_cons (pe_dget2 (by exact hu) (pv 1) (pv 2) pe_int ⟨by rfl, by rfl, by rfl, by rfl⟩) pa_nil)) (nomark _)) (pss_one (ps_ret pe_bl)) pss_nil)))
        (pss_one (ps_ret pe_bl)))))), ?_⟩
    obtain ⟨⟨dx, fs, f1, f2, f3⟩, hm⟩ := id ho
    have sz : sizeLine = 16777216 := by decide +kernel
    have hdue := due_num ok okn eq
    have okd := okn.due
    have hnm : (kvsOf ns).map (fun kv => kV kv.1) = (ns.map (·.1)).map V.str := by
      unfold kvsOf
      rw [List.map_map, List.map_map]
      rfl
    have l60 := okn.len
    refine ⟨_, rfl, q, kvsOf ns, rfl, Rd.of hq, fun l nl => ?_⟩
    obtain ⟨H1, hh, s1, _, e1⟩ := knew (o := .lst ((kvsOf ns).map fun kv => kV kv.1)) (Same.refl H) nl
    rw [hh]
    clear hh
    rw [hnm] at e1
    refine ⟨l, ns.map (·.1), rfl, SqL.of e1, by rw [List.length_map]; omega, fun zs p hz hs np => ?_⟩
    obtain ⟨H3, hh, s3, _, e2⟩ := knew (o := .lst (zs.map V.str)) s1 np
    rw [hh]
    clear hh
    have nd2 : ((kv ns).map (·.1)).Nodup := by rw [kv_names]; exact okn.nd
    have htold : toldOf (kv ns) zs = dueT ns := told_is okn.nd hz hs (dueT_perm ns) (dueT_sorted ns)
    have lz : zs.length ≤ 60 := by rw [hz.length_eq, List.length_map]; exact l60
    refine ⟨p, rfl, ⟨_, SqL.of e2⟩, fun D nD => lc_list (K := K) (a := p) (xs := zs.map V.str) (fun i H' => ∃ (qs : List Addr) (kvs : List (Key × V)), Same H3 H' ∧ H' D = some (.lst (qs.map V.ref)) ∧ qs.length ≤ i ∧ kvs = kvsOf (toldOf (kv ns) (zs.take i)) ∧ Paired (fun p kv => H' p = some (.tup [kV kv.1, kv.2]) ∧ p ≠ D) qs kvs) ⟨[], [], same_upd nD, upd_same, Nat.le_refl _, rfl, .nil⟩ (fun _ _ _ ⟨_, _, s4, _⟩ => s4.seq (SqL.of e2)) ?_ ?_⟩
    · rintro i v H4 hv ⟨qs, kvs, s4, hD4, lq, ek, pr⟩
      obtain ⟨k, hk, rfl⟩ := map_str_at2 hv
      have hmk : k ∈ ns.map (·.1) := hz.mem_iff.mp (List.mem_of_getElem? hk)
      obtain ⟨y, hy, rfl⟩ := List.mem_map.mp hmk
      have hkv : (y.1, V.int y.2) ∈ kv ns := List.mem_map_of_mem (f := fun y : Str × Int => (y.1, V.int y.2)) hy
      have dg : ∀ {H' : Hp}, Same H4 H' → DGet H' q (.str y.1) (some (.int y.2)) := fun {H'} s' => by
        have z := DGet.k (k := Sum.inr y.1) (s' _ _ (s4 _ _ (s3 _ _ hq)))
        rw [kget1 hmk, numOf_mem okn.nd hy] at z
        exact z
      have ilt := (List.getElem?_eq_some_iff.mp hv).1
      rw [List.length_map] at ilt
      have tsu := toldOf_succ hk (lookup_mem nd2 hkv)
      refine ⟨rfl, _, rfl, _, rfl, q, _, rfl, dg (Same.refl _), rfl, _, rfl, ?_⟩
      refine ite2 (fun c1 => ?_) (fun c1 => ?_)
      · refine ⟨_, rfl, _, rfl, _, rfl, q, _, rfl, dg (Same.refl _), line_of (by show 2 ≤ 1000000; decide), fun t nt => ?_⟩
        have nDt : D ≠ t := ne_of_none hD4 nt
        have s5 : Same H4 (upd H4 t (.tup [.str y.1, .int y.2])) := same_upd nt
        refine ⟨_, (upd_ne nDt).trans hD4, ?_, qs ++ [t], kvs ++ [(Sum.inr y.1, .int y.2)], fun c o e => ?_, by rw [upd_same, List.map_append]; rfl, by simp; omega, ?_, ?_⟩
        · rw [List.length_map]
          omega
        · rw [upd_ne (ne_of_none e nD)]
          exact s5 _ _ (s4 _ _ e)
        · rw [tsu, if_neg (show ¬ y.2 = 0 from by simpa using c1), ek]
          unfold kvsOf
          rw [List.map_append]
          rfl
        · refine paired_app (L2.Paired.mapP pr fun p kv h => ⟨?_, h.2⟩) (.cons ⟨?_, Ne.symm nDt⟩ .nil)
          · rw [upd_ne h.2]
            exact s5 _ _ h.1
          · rw [upd_ne (Ne.symm nDt)]
            exact upd_same
      · refine ⟨qs, kvs, s4, hD4, by omega, ?_, pr⟩
        rw [tsu, if_pos (show y.2 = 0 from by simpa using c1), List.append_nil]
        exact ek
    rintro H4 ⟨qs, kvs, s4, hD4, lq, ek, pr⟩
    rw [List.length_map, List.take_of_length_le (Nat.le_refl _), htold] at ek
    subst ek
    have pr4 : Prk H4 qs (dueT ns) := by
      unfold kvsOf at pr
      exact paired_unmap (F := fun (t : Addr) (q : Key × V) => H4 t = some (.tup [kV q.1, q.2])) (g := fun y : Str × Int => ((Sum.inr y.1 : Key), V.int y.2)) (L2.Paired.mapP pr fun p kv h => h.1)
    clear pr
    have lq2 : qs.length = (dueT ns).length := Paired.length pr4
    have S4 := s3.trans s4
    clear s1 s3 s4 e1 e2 nl np nD
    refine ⟨D, _, rfl, .inl ⟨SqL.of hD4, fun t nt => ?_⟩⟩
    obtain ⟨H5, hh, S5, t5, e5⟩ := knew (o := .tup (qs.map V.ref)) S4 nt
    rw [hh]
    clear hh
    have pr5 := pr4.same t5
    clear pr4 hD4 t5 nt S4
    show tSeq _ _ _ ([some (.ref o), some (.ref q), none, some (.ref t), none] : L2.St) _
    refine ⟨_, rfl, o, dx, fs, rfl, S5 _ _ f1, o, m, ds, rfl, ho.same S5, ok, fun x H6 nx s6 hx => ?_⟩
    rw [hdue] at hx
    obtain ⟨dx6, t6, m6, fo6, fs6, qs6, h1, h2, h3, h4, h5, h6⟩ := id hx
    refine ⟨x, T.c_Signals, dx6, fs6, _, rfl, h1, T.k_Signals, T.na_told, h2, _, rfl, .tuple (prD (dueT ns)), .tuple (prD (dueT ns)), .tup (.inl (.inr ⟨_, h4⟩)) (dp_told h5), .tup (SqT.of (s6 _ _ e5)) (dp_told (pr5.same s6).tups), okd.sh, okd.sh, _, rfl, ?_⟩
    rw [eqv_prT, decide_eq_true rfl]
    refine iteN' (by decide) ?_
    have S6 := S5.trans s6
    replace e5 := s6 _ _ e5
    replace pr5 := pr5.same s6
    clear h1 h2 h3 h4 h5 h6 hx nx s6 S5
    refine ⟨_, rfl, rfl, _, rfl, t, _, rfl, .inr (SqT.of e5), fun la nla => ?_⟩
    obtain ⟨H7, hh, S7, t7, e7⟩ := knew (o := .lst (qs.map V.ref)) S6 nla
    rw [hh]
    clear hh
    delta tNil
    refine of_right la (.inl (SqL.of e7)) (pr5.same t7) okd fun y us H8 pu eu ny s8 sg => ?_
    rw [eu _ (dueT_perm _) (dueT_sorted _), due_of_due okn] at sg
    have S8 := S7.trans s8
    replace pr5 := (pr5.same t7).same s8
    replace e5 := s8 _ _ (t7 _ _ e5)
    clear S6 S7 t7 e7 s8 pu eu nla
    refine fun x2 dx2 nx2 ndx2 ne2 => ⟨x2, dx2, .ref y, dueT ns, rfl, upd_same, .inr ⟨y, rfl, ?_⟩, okd.nd, okd.len, fun m2 H9 nm2 k9 hdr => ⟨rfl, ?_⟩⟩
    · exact (sg.tol).same (fun b o e => by rw [upd_ne (ne_of_none e nx2), upd_ne (ne_of_none e ndx2)]; exact e)
    have S9 : Same H8 H9 := fun b o e => k9 _ _ (by rw [upd_ne (ne_of_none e nx2), upd_ne (ne_of_none e ndx2)]; exact e) (ne_of_none e nx2)
    replace S9' := S8.trans S9
    replace pr5 := pr5.same S9
    replace e5 := S9 _ _ e5
    refine deq_right (ho.same S9') hdr ok okd fun H10 s10 => ⟨_, rfl, _, rfl, ?_⟩
    rw [due_of_due okn, hdue, decide_eq_true rfl]
    refine iteN' (by decide) ?_
    have S10 := S9'.trans s10
    replace pr5 := pr5.same s10
    replace e5 := s10 _ _ e5
    clear S8 S9 S9' s10 hdr k9 nm2 sg nx2 ndx2 ne2 ny
    show tSeq _ _ _ ([some (.ref o), some (.ref q), none, some (.ref t), none] : L2.St) _
    refine ⟨_, rfl, _, rfl, o, dx, fs, rfl, S10 _ _ f1, o, m, ds, rfl, ho.same S10, ok, fun H11 s11 => ⟨_, rfl, ?_⟩⟩
    rw [hdue]
    have S11 := S10.trans s11
    replace pr5 := pr5.same s11
    replace e5 := s11 _ _ e5
    clear S10 s11
    have hf := okd.fit
    have hT := SqT.of (K := K) e5
    have hq5 := pr5.tups (K := K)
    obtain ⟨hz1, hz2, hz3⟩ := told_len hf
    refine ⟨⟨_, rfl⟩, _, rfl, t, rfl, ⟨_, hT⟩, fun D nD => lc_tup (K := K) (a := t) (xs := qs.map V.ref) (fun i H' => Same H11 H' ∧ H' D = some (.lst ((((dueT ns).take i).map tx1).map V.str))) ⟨same_upd nD, upd_same⟩ (fun _ _ _ ⟨s, _⟩ => Same.seqT s hT) ?_ ?_⟩
    · rintro i v H1 hv ⟨s1, hD⟩
      obtain ⟨a, ha, rfl⟩ := map_ref_at7 hv
      obtain ⟨y, hy, ht⟩ := paired_at hq5 ha
      obtain ⟨f1, f2, f3, f4, f5⟩ := hf.2 y (List.mem_of_getElem? hy)
      have il : i < (dueT ns).length := (List.getElem?_eq_some_iff.mp hy).1
      have ld := okd.len
      refine ⟨a, _, rfl, Same.seqT s1 ht, rfl, _, _, rfl, _, _, rfl, rfl, ?_⟩
      refine ⟨rfl, ?_⟩
      refine iteT (B := Same H11 H1 ∧ H1 D = some (.lst ((((dueT ns).take (i + 1)).map tx1).map V.str))) ?_
      have l1 : ("=" : Str).length = 1 := by decide +kernel
      have l2 : (y.1 ++ "=").length + (toString y.2 : Str).length ≤ 1000 := by
        rw [tx12] at f3
        unfold tx2 at f3
        rw [len_app] at f3
        exact f3
      have e12 := tx12 y
      refine ⟨_, rfl, y.1, "=", rfl, rfl, by omega, _, rfl, y.2, rfl, f2, y.1 ++ "=", (toString y.2 : Str), rfl, rfl, by omega, _, hD, ?_, fun c o e => ?_, ?_⟩
      · rw [List.length_map, List.length_map, List.length_take]
        omega
      · rw [upd_ne (ne_of_none e nD)]
        exact s1 _ _ e
      · rw [upd_same, List.take_add_one, hy, List.map_append, List.map_append]
        show some (HO.lst (_ ++ [V.str (tx2 y)])) = some (HO.lst (_ ++ [V.str (tx1 y)]))
        rw [e12]
    rintro H12 ⟨s12, hD⟩
    rw [List.length_map, lq2, List.take_of_length_le (Nat.le_refl _)] at hD
    have e8 : ("Draft(" : Str).length = 6 := by decide +kernel
    have e9 : (")" : Str).length = 1 := by decide +kernel
    have hz1' : (Txt.join ", " ((dueT ns).map tx1)).length ≤ 100000 := hz1
    have ld := okd.len
    refine ⟨_, D, (dueT ns).map tx1, rfl, rfl, .inl (SqL.of hD), ?_, "Draft(", _, rfl, rfl, by omega, _, ")", rfl, rfl, by rw [len_app]; omega, rfl, _, rfl, ?_⟩
    · have := fit_sum fun y hy => (hf.2 y hy).2.2.1
      rw [List.length_map]
      show _ + (dueT ns).length * 2 ≤ _
      omega
    have er : dReprTx (dueT ns) = ("Draft(" ++ Txt.join ", " ((dueT ns).map tx1)) ++ ")" := by
      unfold dReprTx toldTx
      rw [emp_app]
    rw [er, decide_eq_true rfl]
    refine iteN' (by decide) ?_
    have S12 := S11.trans s12
    clear S11 s12 hD hT hq5 pr5 e5 er hz1' hz1 hz2 hz3
    refine ⟨line_of (by show 8 ≤ 1000000; decide), fun l9 nl9 => ?_⟩
    obtain ⟨H13, hh, S13, t13, e9'⟩ := knew (o := .lst [.str "alu", .str "bus", .str "c", .str "d7", .str "shift", .str "longname", .str "z0", .str "y"]) S12 nl9
    rw [hh]
    clear hh
    have e13 : H13 l9 = some (.lst (NM8.map V.str)) := e9'
    clear S12 t13 e9' nl9
    refine ⟨l9, rfl, ⟨_, SqL.of e13⟩, for_list (K := K) (a := l9) (xs := NM8.map V.str) (fun i σ H' => ∃ v : Option V, σ = [some (.ref o), some (.ref q), v, some (.ref t), none] ∧ Same H13 H') ⟨_, rfl, Same.refl _⟩ (fun _ _ _ _ ⟨_, _, s⟩ => s.seq (SqL.of e13)) ?_ ?_⟩
    · rintro i v σ H14 hv ⟨v0, rfl, s14⟩
      obtain ⟨z, hzz, rfl⟩ := map_str_at2 hv
      obtain ⟨n1, n2⟩ := nm8_ok z (List.mem_of_getElem? hzz)
      have S14 := S13.trans s14
      have hlog := num_fit (okn.fit) z
      have hsh : ∀ H', ShowAt K H' (.int (numOf ns z)) (.int (numOf ns z)) := fun H' => .inl (.int _)
      have hlen : (PyData.shown (.int (numOf ns z))).length ≤ sizeLine := shown_int_len hlog
      show tIfS _ _ _ _ ([some (.ref o), some (.ref q), some (.str z), some (.ref t), none] : L2.St) _
      refine ⟨_, rfl, _, rfl, o, dx, fs, rfl, S14 _ _ f1, o, m, o, ds, .str z, rfl, ho.same S14, ok.nd, .str z n2, fun z' ez hz' H' s' => ?_, fun hb => ?_⟩
      · cases ez
        rw [eq]
        refine ⟨_, .int (numOf ns z), rfl, hsh _, ?_, by simp [PyData.depth], hlen, _, rfl, q, rfl, .inl ⟨_, Rd.of (s' _ _ (S14 _ _ hq))⟩, _, rfl, _, DGet.k (k := Sum.inr z) (s' _ _ (S14 _ _ hq)), numOf ns z, by rw [kget okn.nd], hlog, rfl, _, rfl, ?_⟩
        · unfold PyData.showable
          exact decide_eq_true hlog
        rw [shown_int, decide_eq_true rfl]
        refine iteN' (by decide) ?_
        exact ⟨_, rfl, s14.trans s'⟩
      · rw [show nameV (.str z) = isName z from rfl, n1] at hb
        cases hb
    · rintro σ H14 ⟨v0, rfl, s14⟩
      exact qq _ (S13.trans s14)
theorem ok__law_read_refusal (T : Txt K mg) : FnG P w K mg base 6 T.f__law_read_refusal T.fd__law_read_refusal ["_law_draft", "_law_field"] (spRead K T.c_Draft) := by
  have G_Draft___getitem__ := ok_Draft___getitem__ (P := P) (w := w) (base := base) T
  have nd := sc__law_read_refusal.nd
  refine okG T.F__law_read_refusal sc__law_read_refusal (fun vs H Q E h => ?_) (fun cdv A outer s H vs Q E calm hr h => ?_)
  · obtain ⟨o, m, p, ds, v, d, rfl, _⟩ := h; rfl
  · obtain ⟨o, m, p, ds, v, d, rfl, ho, nds, tv, hb, fd, sh, q⟩ := h
    have hu := hu_of hr
    refine ⟨_, (pss_one (ps_try_manyAs rfl rfl takesF (fun W pn xe tk _ => (pss_one (ps_ret (pe_tup (pa_cons pe_str (pa_cons (pe_callB (id := "repr") (r := rShow K) (by refine cr_show ?_ ?_; exact calm; exact hr.units) (by rfl) T.n_repr (by decide +kernel) (pa_cons (pe_ixOA (E := WE W) (pv 0) (pv 1) (G_Draft___getitem__.raw T.b_Draft___getitem__ .nil) T.od_get T.fd_get (hr.mono (by decide)) (passAt tk)) pa_nil)) pa_nil)))))) (.cons (i := 2) nd rfl rfl ⟨by rfl, by decide, .inl T.m_InvalidName⟩ (fun a oe cls d pn hz hf => (pss_one (ps_ret (pe_tup (pa_cons pe_str (pa_cons (pe_callB (id := "repr") (r := rShow K) (by refine cr_show ?_ ?_; exact calm; exact hr.units) (by rfl) T.n_repr (by decide +kernel) (pa_cons (pe_xf (C := T.c_InvalidName) ⟨T.ex_InvalidName.ga, T.ex_InvalidName.gg, T.ex_InvalidName.oex.exC, T.ex_InvalidName.dct⟩ T.no_InvalidName_value hz hf (pv 2)) pa_nil)) pa_nil)))))) .nil))), ?_⟩
    obtain ⟨⟨dx, fs, f1, f2, f3⟩, hm⟩ := id ho
    obtain ⟨a1, a2, a3, a4⟩ := fineS_ok fd
    refine ⟨_, rfl, _, rfl, o, dx, fs, rfl, f1, o, m, p, ds, v, rfl, ho, nds, tv, fun z ez hz => ?_, fun _ e H1 ne s1 ee => ?_⟩
    · rw [ez, show nameV (.str z) = isName z from rfl, hz] at hb
      cases hb
    · refine ⟨true, T.xm_InvalidName_InvalidName, fun _ a' na' => ?_, fun h => by cases h⟩
      refine ⟨_, rfl, rfl, rfl, e, _, v, rfl, ee, rfl, v, d, rfl, sh.same s1, a1, a2, a3, line_of (by show 2 ≤ 1000000; decide), fun t nt => ?_⟩
      exact q t _ (s1.free nt) (s1.trans (same_upd nt)) upd_same
theorem ok__law_set_wrongly (T : Txt K mg) : FnG P w K mg base 7 T.f__law_set_wrongly T.fd__law_set_wrongly ["_law_pen_here", "_law_draft"] (spSetW T.c_Draft) := by
  have G__law_pick := ok__law_pick (P := P) (w := w) (base := base) T
  have G__law_refusal := ok__law_refusal (P := P) (w := w) (base := base) T
  have G__law_read_refusal := ok__law_read_refusal (P := P) (w := w) (base := base) T
  have nd := sc__law_set_wrongly.nd
  refine okG T.F__law_set_wrongly sc__law_set_wrongly (fun vs H Q E h => ?_) (fun cdv A outer s H vs Q E calm hr h => ?_)
  · obtain ⟨p, c, o, m, n, ds, rfl, _⟩ := h; rfl
  · obtain ⟨p, c, o, m, n, ds, rfl, P0, hn, ho, ok, q⟩ := h
    have hu := hu_of hr
    refine ⟨_, (pss_cons (ps_set (i := 2) nd rfl (Or.inl rfl) (pe_call (G__law_pick) (hr.mono (by decide)) (by rfl) T.m__law_pick T.F__law_pick.kp T.b__law_pick .nil pass0 (pa_cons (pv 0) (pa_cons (pe_lst (pa_cons pe_non (pa_cons pe_int (pa_cons pe_bl (pa_cons pe_str (pa_cons pe_str (pa_cons pe_str (pa_cons pe_str (pa_cons pe_str (pa_cons (pe_tup (pa_cons pe_str pa_nil)) (pa_cons pe_dnewK pa_nil))))))))))) pa_nil))))
        (pss_cons (ps_set (i := 3) nd rfl (Or.inl rfl) (pe_call (G__law_pick) (hr.mono (by decide)) (by rfl) T.m__law_pick T.F__law_pick.kp T.b__law_pick .nil pass0 (pa_cons (pv 0) (pa_cons (pe_lst (pa_cons pe_non (pa_cons pe_bl (pa_cons (pe_op op_sub pe_int pe_int) (pa_cons (pe_op op_add (pe_op op_pow pe_int pe_int) pe_int) (pa_cons pe_str (pa_cons (pe_lst (pa_cons pe_int pa_nil)) (pa_cons (pe_op op_pow pe_int pe_int) pa_nil)))))))) pa_nil))))
        (pss_cons (ps_if (PW.pt (pw_or (pt_cmpR (op_neD hr.units) (pe_callG G__law_refusal calm (hr.mono (by decide)) (by rfl) T.m__law_refusal T.F__law_refusal.kp T.b__law_refusal (pa_cons (pv 1) (pa_cons (pv 2) (pa_cons (pv 3) pa_nil)))) (pe_tup (pa_cons pe_str (pa_cons (pe_callB (id := "repr") (r := rShow K) (by refine cr_show ?_ ?_; exact calm; exact hr.units) (by rfl) T.n_repr (by decide +kernel) (pa_cons (pv 2) pa_nil)) pa_nil))) (nomark _)) (pw_or1 (pt_cmpR (op_neD hr.units) (pe_callG G__law_read_refusal calm (hr.mono (by decide)) (by rfl) T.m__law_read_refusal T.F__law_read_refusal.kp T.b__law_read_refusal (pa_cons (pv 1) (pa_cons (pv 2) pa_nil))) (pe_tup (pa_cons pe_str (pa_cons (pe_callB (id := "repr") (r := rShow K) (by refine cr_show ?_ ?_; exact calm; exact hr.units) (by rfl) T.n_repr (by decide +kernel) (pa_cons (pv 2) pa_nil)) pa_nil))) (nomark _))))) (pss_one (ps_ret pe_bl)) pss_nil)
        (pss_one (ps_ret (pe_cmpR (op_eqD hr.units) (pe_callG G__law_refusal calm (hr.mono (by decide)) (by rfl) T.m__law_refusal T.F__law_refusal.kp T.b__law_refusal (pa_cons (pv 1) (pa_cons pe_str (pa_cons (pv 3) pa_nil)))) (pe_tup (pa_cons pe_str (pa_cons (pe_callB (id := "repr") (r := rShow K) (by refine cr_show ?_ ?_; exact calm; exact hr.units) (by rfl) T.n_repr (by decide +kernel) (pa_cons (pv 3) pa_nil)) pa_nil))) (nomark _))))))), ?_⟩
    have cp : ∀ j : Int, 0 ≤ j ∧ j ≤ 1000000 → CPow 10 j := fun j hj => cpow7 hj (by decide)
    have W := G.of P0
    obtain ⟨xs, hp⟩ := P0.ob
    have mp : m ≠ p := fun e => by
      have := ho.2
      rw [e, hp] at this
      cases this
    have op : o ≠ p := fun e => by
      obtain ⟨⟨dx, fs, f1, _⟩, _⟩ := ho
      rw [e, hp] at f1
      cases f1
    have hoD : DrAt T.c_Draft (del H p) o m ds := by
      obtain ⟨⟨dx, fs, f1, f2, f3⟩, hm⟩ := ho
      exact ⟨⟨dx, fs, by rw [del_ne op]; exact f1, f2, f3⟩, by rw [del_ne mp]; exact hm⟩
    have KD : ∀ b x, (del H p) b = some x → H b = some x := fun b x e => same_del _ _ e
    have DK : ∀ b x, H b = some x → b ≠ p → (del H p) b = some x := fun b x e ne => by rw [del_ne ne]; exact e
    generalize del H p = D at W hoD KD DK
    refine ⟨_, rfl, line_of (by show 1 ≤ 1000000; decide), fun t1 nt1 => ?_⟩
    obtain ⟨D1, H1, hh, W1, S1, e1⟩ := W.new (o := .tup [.str "alu"]) nt1
    rw [hh]
    clear hh
    refine fun t2 nt2 => ?_
    obtain ⟨D2, H2, hh, W2, S2, e2⟩ := W1.new (o := .dK []) nt2
    rw [hh]
    clear hh
    refine ⟨line_of (by show 10 ≤ 1000000; decide), fun l nl => ?_⟩
    obtain ⟨D3, H3, hh, W3, S3, e3⟩ := W2.new (o := .lst [.non, .int 0, .bl true, .str "", .str "to", .str "9a", .str "Alu", .str "toolongname", .ref t1, .ref t2]) nl
    rw [hh]
    clear hh
    refine G.pickA (E := E0) W3 e3 (by omega) (by show 1 ≤ 10; decide) (by show 10 ≤ 1000; decide) fun v H4 mem W4 => ?_
    obtain ⟨d, hf, hsh, htv, hbad⟩ := oddD (K := K) (W4.ne (S3 _ _ (S2 _ _ e1))) (W4.ne (S3 _ _ e2)) (S3 _ _ (S2 _ _ e1)) (S3 _ _ e2) mem
    replace hoD := ((hoD.same S1).same S2).same S3
    have SD := S1.trans (S2.trans S3)
    clear e1 e2 e3 mem nt1 nt2 nl S1 S2 S3 W W1 W2 W3
    show tSeq _ _ _ ([some (.ref p), some (.ref o), some v, none] : L2.St) _
    refine ⟨_, rfl, _, _, rfl, rfl, _, _, rfl, rfl, cp _ (by decide), _, _, rfl, rfl, line_of (by show 1 ≤ 1000000; decide), fun t3 nt3 => ?_⟩
    obtain ⟨D5, H5, hh, W5, S5, e5⟩ := W4.new (o := .lst [.int 1]) nt3
    rw [hh]
    clear hh
    refine ⟨_, _, rfl, rfl, cp _ (by decide), line_of (by show 7 ≤ 1000000; decide), fun l nl => ?_⟩
    obtain ⟨D6, H6, hh, W6, S6, e6⟩ := W5.new (o := .lst [.non, .bl true, .int (0 - 1), .int ((10 : Int) ^ (9 : Int).toNat + 1), .str "1", .ref t3, .int ((10 : Int) ^ (59 : Int).toNat)]) nl
    rw [hh]
    clear hh
    refine G.pickA (E := E0) W6 e6 (by omega) (by show 1 ≤ 7; decide) (by show 7 ≤ 1000; decide) fun w H7 mem W7 => ?_
    obtain ⟨dw, hfw, hshw, htw, hbadw⟩ := oddW (K := K) (W7.ne (S6 _ _ e5)) (S6 _ _ e5) mem
    replace hoD := (hoD.same S5).same S6
    replace htv := (htv.same S5).same S6
    replace hsh := (hsh.same S5).same S6
    replace SD := SD.trans (S5.trans S6)
    clear e5 e6 mem nt3 nl S5 S6 W4 W5 W6
    show tSeq _ _ _ ([some (.ref p), some (.ref o), some v, some w] : L2.St) _
    obtain ⟨a1, a2, a3, a4⟩ := fineS_ok hf
    obtain ⟨b1, b2, b3, b4⟩ := fineS_ok hfw
    have n1 := two_shaped (a := "name") (by decide +kernel) a4
    have n2 := two_shaped (a := "number") (by decide +kernel) b4
    have l60 := ok.len
    refine ⟨_, rfl, _, rfl, _, rfl, o, m, p, ds, v, w, rfl, hoD.same W7.sub, l60, htv.same W7.sub, htw.same W7.sub, fun z n' ez hz => ?_, fun _ => ⟨d, hf, hsh.same W7.sub, fun t H8 nt s8 e8 => ?_⟩, fun hk => by rw [hbad] at hk; cases hk⟩
    · rw [ez, show nameV (.str z) = isName z from rfl, hz] at hbad
      cases hbad
    replace W7 := W7.st s8
    clear s8
    refine ⟨_, rfl, v, d, rfl, hsh.same W7.sub, a1, a2, a3, line_of (by show 2 ≤ 1000000; decide), fun u nu => ?_⟩
    obtain ⟨H9, hh, s9, t9, e9⟩ := knew (o := .tup [.str "name", .str (PyData.shown d)]) (Same.refl H8) nu
    rw [hh]
    clear hh
    replace W7 := W7.st s9
    refine ⟨_, _, .tup (SqT.of (s9 _ _ e8)) (.cons (.str _) (.cons (.str _) .nil)), .tup (SqT.of e9) (.cons (.str _) (.cons (.str _) .nil)), n1, n1, _, rfl, ?_⟩
    rw [eqv_shaped n1]
    refine iteN' (by decide) ?_
    clear e8 e9 s9 t9 nu nt
    refine ⟨_, rfl, _, rfl, o, m, p, ds, v, d, rfl, hoD.same W7.sub, ok.nd, htv.same W7.sub, hbad, hf, hsh.same W7.sub, fun t H10 nt s10 e10 => ?_⟩
    replace W7 := W7.st s10
    clear s10
    refine ⟨_, rfl, v, d, rfl, hsh.same W7.sub, a1, a2, a3, line_of (by show 2 ≤ 1000000; decide), fun u nu => ?_⟩
    obtain ⟨H11, hh, s11, t11, e11⟩ := knew (o := .tup [.str "name", .str (PyData.shown d)]) (Same.refl H10) nu
    rw [hh]
    clear hh
    replace W7 := W7.st s11
    refine ⟨_, _, .tup (SqT.of (s11 _ _ e10)) (.cons (.str _) (.cons (.str _) .nil)), .tup (SqT.of e11) (.cons (.str _) (.cons (.str _) .nil)), n1, n1, _, rfl, ?_⟩
    rw [eqv_shaped n1]
    refine iteN' (by decide) ?_
    clear e10 e11 s11 t11 nu nt
    refine ⟨_, rfl, _, rfl, o, m, p, ds, .str "alu", w, rfl, hoD.same W7.sub, l60, .str _ ⟨by decide +kernel, by decide +kernel⟩, htw.same W7.sub, fun z n' ez hz en hn => ?_, fun hb => absurd hb (by decide +kernel), fun _ _ => ⟨dw, hfw, hshw.same W7.sub, fun t H12 nt s12 e12 => ?_⟩⟩
    · rw [en, hn] at hbadw
      cases hbadw
    replace W7 := W7.st s12
    clear s12
    refine ⟨_, rfl, w, dw, rfl, hshw.same W7.sub, b1, b2, b3, line_of (by show 2 ≤ 1000000; decide), fun u nu => ?_⟩
    obtain ⟨H13, hh, s13, t13, e13⟩ := knew (o := .tup [.str "number", .str (PyData.shown dw)]) (Same.refl H12) nu
    rw [hh]
    clear hh
    replace W7 := W7.st s13
    refine ⟨_, _, .tup (SqT.of (s13 _ _ e12)) (.cons (.str _) (.cons (.str _) .nil)), .tup (SqT.of e13) (.cons (.str _) (.cons (.str _) .nil)), n2, n2, ?_⟩
    rw [eqv_shaped n2]
    exact q _ W7.toPen fun b x e ne => W7.sub _ _ (SD _ _ (DK _ _ e ne))
theorem ok__law_deed (T : Txt K mg) : FnG P w K mg base 13 T.f__law_deed T.fd__law_deed ["_law_pen_here", "_law_draft", "_law_numbers"] (spDeed T.c_Draft) := by
  have G__law_draw := ok__law_draw (P := P) (w := w) (base := base) T
  have G__law_pairs := ok__law_pairs (P := P) (w := w) (base := base) T
  have G__law_set_wrongly := ok__law_set_wrongly (P := P) (w := w) (base := base) T
  have G__law_refusal := ok__law_refusal (P := P) (w := w) (base := base) T
  have G_Draft_put := ok_Draft_put (P := P) (w := w) (base := base) T
  have G_Signals_of := ok_Signals_of (P := P) (w := w) (base := base) T
  have G__law_united := ok__law_united (P := P) (w := w) (base := base) T
  have nd := sc__law_deed.nd
  refine okG T.F__law_deed sc__law_deed (fun vs H Q E h => ?_) (fun cdv A outer s H vs Q E calm hr h => ?_)
  · obtain ⟨D, p, c, o, m, q, n, ds, ns, rfl, _⟩ := h; rfl
  · obtain ⟨D, p, c, o, m, q, n, ds, ns, rfl, W, ho, od, odn, eq, hn, qq⟩ := h
    have hu := hu_of hr
    refine ⟨_, (pss_cons (ps_set (i := 3) nd rfl (Or.inl rfl) (pe_call (G__law_draw) (hr.mono (by decide)) (by rfl) T.m__law_draw T.F__law_draw.kp T.b__law_draw .nil pass0 (pa_cons (pv 0) (pa_cons pe_int pa_nil))))
        (pss_cons (ps_set (i := 4) nd rfl (Or.inl rfl) (pe_call (G__law_pairs) (hr.mono (by decide)) (by rfl) T.m__law_pairs T.F__law_pairs.kp T.b__law_pairs .nil pass0 (pa_cons (pv 0) (pa_cons pe_int pa_nil))))
        (pss_cons (ps_if (pt_cmpR op_eq (pv 3) pe_int (nomark _)) (pss_one (ps_ret (pe_callG G__law_set_wrongly calm (hr.mono (by decide)) (by rfl) T.m__law_set_wrongly T.F__law_set_wrongly.kp T.b__law_set_wrongly (pa_cons (pv 0) (pa_cons (pv 1) pa_nil))))) pss_nil)
        (Evl.pss_cut (ps_if (PW.pt (pw_and (pt_cmpR op_lt (pv 3) pe_int (nomark _)) (pw_and1 (pt_cmpR (op_neD hr.units) (pv 4) (pe_lst pa_nil) (nomark _))))) (pss_cons (ps_asg (pe_ix ix_list (pv 4) pe_int (fun _ _ => rfl)) (pg_tup rfl (pgs_cons (pg_name (i := 5) nd rfl (Or.inl rfl)) (pgs_cons (pg_name (i := 6) nd rfl (Or.inl rfl)) pgs_nil))))
        (pss_cons (ps_dput hu (pv 2) (pv 5) (pv 6) (by rfl))
        (pss_one (ps_ret (pe_cmpR op_isN (pe_callG G__law_refusal calm (hr.mono (by decide)) (by rfl) T.m__law_refusal T.F__law_refusal.kp T.b__law_refusal (pa_cons (pv 1) (pa_cons (pv 5) (pa_cons (pv 6) pa_nil)))) pe_non (nomark _)))))) pss_nil)
        (pss_cons (ps_if (pt_cmpR op_eq (pv 3) pe_int (nomark _)) (pss_cons (ps_for PassesOwn.never rfl (pi_list (pv 4)) (pg_tup rfl (pgs_cons (pg_name (i := 5) nd rfl (Or.inl rfl)) (pgs_cons (pg_name (i := 6) nd rfl (Or.inl rfl)) pgs_nil))) (pss_one (ps_dput hu (pv 2) (pv 5) (pe_ifExp (pt_cmpR op_ne (pv 6) pe_int (nomark _)) (pv 6) (pe_dget2 (by exact hu) (pv 2) (pv 5) pe_int ⟨by rfl, by rfl, by rfl, by rfl⟩)) (by rfl))))
        (pss_one (ps_ret (pe_cmpR op_isN (pe_meth (pv 1) T.k_Draft T.mt_put G_Draft_put (hr.mono (by decide)) T.b_Draft_put .nil pass0 (pa_cons (pe_cmethA (E := fun _ => E0) (pe_glob (v := .ref T.c_Signals) (by rfl) T.m_Signals rfl) T.cr_Signals T.cm_of (G_Signals_of.raw T.b_Signals_of .nil) (hr.mono (by decide)) (fun σ pins H s e s' I h => (passes_call takesF (fun _ _ _ _ h => h)) pins σ H s e s' I h) (pa_cons (pv 4) pa_nil)) pa_nil)) pe_non (nomark _))))) pss_nil)
        (pss_cons (ps_set (i := 7) nd rfl (Or.inl rfl) pe_non)
        (pss_cons (ps_for PassesOwn.never rfl (pi_list (pe_callB (r := rSortedPS K) cr_sortedPS (by rfl) T.n_sorted (by decide +kernel) (pa_cons (pv 4) pa_nil))) (pg_tup rfl (pgs_cons (pg_name (i := 5) nd rfl (Or.inl rfl)) (pgs_cons (pg_name (i := 6) nd rfl (Or.inl rfl)) pgs_nil))) (pss_cons (ps_set (i := 8) nd rfl (Or.inl rfl) (pe_dget2 (by exact hu) (pv 2) (pv 5) pe_int ⟨by rfl, by rfl, by rfl, by rfl⟩))
        (pss_one (ps_if (PW.pt (pw_and (pt_cmpR op_isN (pv 7) pe_non (nomark _)) (pw_and (pt_cmpR op_notIn_seq pe_int (pe_tup (pa_cons (pv 6) (pa_cons (pv 8) pa_nil))) (by rfl)) (pw_and1 (pt_cmpR op_ne (pv 6) (pv 8) (nomark _)))))) (pss_one (ps_set (i := 7) nd rfl (Or.inl rfl) (pe_tup (pa_cons (pv 5) (pa_cons (pv 8) (pa_cons (pv 6) pa_nil)))))) pss_nil))))
        (pss_cons (ps_set (i := 9) nd rfl (Or.inl rfl) (pe_call (G__law_united) (hr.mono (by decide)) (by rfl) T.m__law_united T.F__law_united.kp T.b__law_united .nil pass0 (pa_cons (pv 1) (pa_cons (pe_cmethA (E := fun _ => E0) (pe_glob (v := .ref T.c_Signals) (by rfl) T.m_Signals rfl) T.cr_Signals T.cm_of (G_Signals_of.raw T.b_Signals_of .nil) (hr.mono (by decide)) (fun σ pins H s e s' I h => (passes_call takesF (fun _ _ _ _ h => h)) pins σ H s e s' I h) (pa_cons (pv 4) pa_nil)) pa_nil))))
        (pss_cons (ps_if (pt_cmpR op_isN (pv 7) pe_non (nomark _)) (pss_one (ps_for PassesOwn.never rfl (pi_list (pv 4)) (pg_tup rfl (pgs_cons (pg_name (i := 5) nd rfl (Or.inl rfl)) (pgs_cons (pg_name (i := 6) nd rfl (Or.inl rfl)) pgs_nil))) (pss_one (ps_dput hu (pv 2) (pv 5) (pe_ifExp (pt_cmpR op_ne (pv 6) pe_int (nomark _)) (pv 6) (pe_dget2 (by exact hu) (pv 2) (pv 5) pe_int ⟨by rfl, by rfl, by rfl, by rfl⟩)) (by rfl))))) pss_nil)
        (pss_one (ps_ret (pe_cmpR (op_eqD hr.units) (pv 9) (pv 7) (nomark _))))))))))))), ?_⟩
    have sz : sizeLine = 16777216 := by decide +kernel
    obtain ⟨dx, fs, f1, f2, f3⟩ := id ho
    refine ⟨_, rfl, p, c, 5, n, rfl, W.g.toPen, by omega, by decide, by decide, fun way H1 w0 w5 P1 k1 => ?_⟩
    replace W := W.keepP k1 P1
    clear k1 P1
    show tSeq _ _ _ ([some (.ref p), some (.ref o), some (.ref q), some (.int way), none, none, none, none, none, none] : L2.St) _
    refine ⟨_, rfl, p, c, 3, n + 1, rfl, by decide, W.g.toPen, by omega, fun l ps oks H2 nl nlp hl pr nd hk nk P2 k2 => ?_⟩
    obtain ⟨ks, rfl, ok, hnk⟩ := oks_of nd (by omega) hk
    replace W := W.keepP k2 P2
    obtain ⟨D2, W2, S2, fD⟩ := W.add
    replace hl : D2 l = some (.lst (ps.map V.ref)) := fD _ _ hl nlp (W.nk hl (by intro _ z; cases z)).1 (W.nk hl (by intro _ z; cases z)).2
    have hp : Prk D2 ps ks := prk_of2 (fun a xs e ne => fD _ _ e ne (W.nk e (by intro _ z; cases z)).1 (W.nk e (by intro _ z; cases z)).2) pr
    replace nk : ks.length ≤ 3 := by rw [show (kv ks).length = ks.length from List.length_map _] at nk; exact nk
    replace ho := ho.same S2
    replace f1 := S2 _ _ f1
    replace qq := fun D' H' ds' ns' (a : St D' H' p c (n + 60) m q ds' ns') (b : Same D2 D') => qq D' H' ds' ns' a (S2.trans b)
    clear W fD pr nd hk k2 P2 nl nlp S2
    have okp : ∀ y ∈ ks, OkP y ∧ y.1 ∈ NM7 := fun y hy => ⟨okp_of ok hy, hnk y hy⟩
    show tSeq _ _ _ ([some (.ref p), some (.ref o), some (.ref q), some (.int way), some (.ref l), none, none, none, none, none] : L2.St) _
    refine ⟨_, rfl, rfl, _, rfl, ?_⟩
    refine ite2 (fun c1 => ?_) (fun c1 => ?_)
    · refine ⟨_, rfl, _, rfl, p, c, o, m, _, ds, rfl, W2.g.toPen, by omega, W2.dr ho, od.1, fun H3 P3 k3 => ?_⟩
      exact qq D2 H3 ds ns ((W2.keepP k3 P3).mono (by omega)) (Same.refl _) od odn eq
    have lp : ps.length = ks.length := Paired.length hp
    have hoP : o ≠ p := W2.g.ne f1
    show Evl.tCut _ _ _ ([some (.ref p), some (.ref o), some (.ref q), some (.int way), some (.ref l), none, none, none, none, none] : L2.St) _
    refine ⟨fun σ' H' => σ' = [some (.ref p), some (.ref o), some (.ref q), some (.int way), some (.ref l), none, none, none, none, none] ∧ St D2 H' p c (n + 1 + 30) m q ds ns, ?_, ?_⟩
    · refine ⟨_, rfl, _, _, rfl, rfl, _, rfl, ?_⟩
      refine ite2 (fun c2 => ?_) (fun c2 => ?_)
      rotate_left
      · exact ⟨rfl, W2⟩
      refine ⟨_, rfl, line_of (by show 0 ≤ 1000000; decide), fun t nt => ?_⟩
      obtain ⟨H3, hh, s3, t3, e3⟩ := knew (o := .lst []) (Same.refl H2) nt
      rw [hh]
      clear hh
      have W3 := W2.st s3
      refine ⟨.list (prD ks), .list [], .lst (SqL.of (W3.g.sub _ _ hl)) (hp.dps W3.g.sub), .lst (SqL.of e3) .nil, prs_shaped ok, by decide +kernel, _, rfl, ?_⟩
      rw [eqv_nilL]
      clear e3 t3 s3 nt W2
      cases hks : ks with
      | nil =>
        refine iteN' (by decide) ?_
        exact ⟨rfl, W3⟩
      | cons y r =>
        refine iteT' rfl ?_
        subst hks
        obtain ⟨b, hb⟩ : ∃ b, ps[0]? = some b := by
          cases ps with
          | nil => cases lp
          | cons b _ => exact ⟨b, rfl⟩
        obtain ⟨y', hy', hty⟩ := paired_at hp hb
        obtain rfl : y = y' := Option.some.inj hy'
        obtain ⟨oy, hny⟩ := okp y List.mem_cons_self
        have lns := odn.1.len
        refine ⟨_, rfl, l, _, 0, .ref b, rfl, rfl, SqL.of (W3.g.sub _ _ hl), atI_nat (j := 0) (by rw [List.getElem?_map, hb]; rfl), b, _, rfl, SqT.of (W3.g.sub _ _ hty), rfl, _, _, rfl, _, _, rfl, rfl, ?_⟩
        refine ⟨_, rfl, _, rfl, _, rfl, q, _, rfl, DPut.k (k := Sum.inr y.1) W3.hq (by show (List.map _ _).length < _; rw [List.length_map]; omega), ?_⟩
        have W4 : St D2 _ p c (n + 1 + 30) m q ds (putL ns y) := W3.setQ (keep_upd (o := .dK (putK (kvsOf ns) (Sum.inr y.1) (.int y.2)))) (by rw [upd_same, put_kvs])
        have hdr := W4.dr ho
        refine ⟨_, rfl, _, rfl, _, rfl, o, m, p, ds, .str y.1, .int y.2, rfl, hdr, od.1.len, .str _ oy.2.2.1, .int _, fun z n' ez hz en hn' H5 k5 e5 => ?_, fun hb => ?_, fun _ hb => ?_⟩
        · injection ez with ez
          injection en with en
          subst ez en
          refine ⟨rfl, ?_⟩
          exact qq D2 H5 (putL ds y) (putL ns y) ((W4.setM k5 e5).mono (by omega)) (Same.refl _) (od.put oy hny) (odn.put oy hny) (numEq_put eq y)
        · rw [show nameV (.str y.1) = isName y.1 from rfl, oy.1] at hb
          cases hb
        · rw [okN_iff oy.2.2.2.2.1 oy.2.2.2.2.2] at hb
          cases hb
    rintro σ' H3 ⟨rfl, W3⟩
    clear W2
    refine ⟨_, rfl, rfl, _, rfl, ?_⟩
    refine ite2 (fun c2 => ?_) (fun c2 => ?_)
    · refine ⟨_, rfl, l, rfl, ⟨_, SqL.of (W3.g.sub _ _ hl)⟩, for_list (K := K) (a := l) (xs := ps.map V.ref) (fun i σ H' => ∃ v5 v6 : Option V, σ = [some (.ref p), some (.ref o), some (.ref q), some (.int way), some (.ref l), v5, v6, none, none, none] ∧ St D2 H' p c (n + 1 + 30) m q ds ((ks.take i).foldl lawPut ns)) ⟨_, _, rfl, W3⟩ (fun _ _ _ _ ⟨_, _, _, s⟩ => SqL.of (s.g.sub _ _ hl)) ?_ ?_⟩
      · rintro i u σ H5 hu5 ⟨v5, v6, rfl, W5⟩
        obtain ⟨b, hb, rfl⟩ := map_ref_at7 hu5
        obtain ⟨y, hy, hty⟩ := paired_at hp hb
        have il : i < ks.length := (List.getElem?_eq_some_iff.mp hy).1
        have ofold := Od.fold (ks.take i) odn fun y hy => okp y (List.mem_of_mem_take hy)
        have lfold := ofold.1.len
        have tk : (ks.take (i + 1)).foldl lawPut ns = lawPut ((ks.take i).foldl lawPut ns) y := by
          rw [List.take_add_one, hy, List.foldl_append]
          rfl
        refine ⟨b, _, rfl, SqT.of (W5.g.sub _ _ hty), rfl, _, _, rfl, _, _, rfl, rfl, ?_⟩
        refine ⟨_, rfl, rfl, _, rfl, ?_⟩
        generalize hfo : (ks.take i).foldl lawPut ns = nsi at *
        refine ite2 (fun c3 => ?_) (fun c3 => ?_)
        · have hz : ¬ y.2 = 0 := by simpa using c3
          refine ⟨_, rfl, _, rfl, _, rfl, q, _, rfl, DPut.k (k := Sum.inr y.1) W5.hq (by show (List.map _ _).length < _; rw [List.length_map]; omega), ?_⟩
          refine ⟨_, _, rfl, W5.setQ keep_upd ?_⟩
          rw [upd_same, put_kvs, tk]
          unfold lawPut
          rw [if_neg hz]
        · have hz : y.2 = 0 := by simpa using c3
          refine ⟨_, rfl, q, rfl, .inl ⟨_, Rd.of W5.hq⟩, _, rfl, _, DGet.k (k := Sum.inr y.1) W5.hq, ?_⟩
          rw [kget ofold.1.nd]
          refine ⟨_, rfl, _, rfl, q, _, rfl, DPut.k (k := Sum.inr y.1) W5.hq (by show (List.map _ _).length < _; rw [List.length_map]; omega), ?_⟩
          refine ⟨_, _, rfl, W5.setQ keep_upd ?_⟩
          rw [upd_same, tk]
          unfold lawPut
          rw [if_pos hz]
          exact congrArg (fun x => some (HO.dK x)) (put_kvs nsi (y.1, numOf nsi y.1))
      rintro σ H5 ⟨v5, v6, rfl, W5⟩
      rw [List.length_map, lp, List.take_of_length_le (Nat.le_refl _)] at W5
      have lds := od.1.len
      have ldu := ok.due.len
      delta tNil
      refine ⟨_, rfl, o, dx, fs, rfl, W5.g.sub _ _ f1, f3 _ (by decide +kernel), rfl, _, rfl, of_right l (.inl (SqL.of (W5.g.sub _ _ hl))) (hp.same W5.g.sub) ok fun y us H6 pu eu ny s6 sg => ?_⟩
      rw [eu _ (dueT_perm _) (dueT_sorted _)] at sg
      have W6 := W5.st s6
      refine ⟨o, m, y, ds, dueT ks, rfl, W6.dr ho, sg.tol, by omega, fun H7 k7 e7 => ⟨rfl, ?_⟩⟩
      exact qq D2 H7 _ _ ((W6.setM k7 e7).mono (by omega)) (Same.refl _) (Od.merge _ od fun y hy => okp y (List.mem_filter.mp ((dueT_perm ks).mem_iff.mp hy)).1) (Od.fold _ odn okp) (numEq_merge eq ok)
    have okd := ok.due
    delta tNil
    refine ⟨_, rfl, sps_right (SqL.of (W3.g.sub _ _ hl)) (hp.same W3.g.sub) fun r qs ss hss hso nr pss => ?_⟩
    obtain ⟨H4, hh, s4, t4, e4⟩ := knew (o := .lst (qs.map V.ref)) (Same.refl H3) nr
    rw [hh]
    clear hh
    have W4 := W3.st s4
    have ps4 := pss.same s4
    have lq : qs.length = ss.length := Paired.length ps4
    have hev := clash_same od.1 ok hss hso
    rw [clB_num eq] at hev
    have lns := odn.1
    clear pss nr s4 t4 W3
    refine ⟨r, rfl, ⟨_, SqL.of e4⟩, for_list (K := K) (a := r) (xs := qs.map V.ref) (fun i σ H' => ∃ (cv : V) (v5 v6 v8 : Option V), σ = [some (.ref p), some (.ref o), some (.ref q), some (.int way), some (.ref l), v5, v6, some cv, v8, none] ∧ Same H4 H' ∧ CV H' ns cv ((ss.take i).find? (clB ns))) ⟨.non, none, none, none, rfl, Same.refl _, .inl ⟨rfl, rfl⟩⟩ (fun _ _ _ _ ⟨_, _, _, _, _, s, _⟩ => s.seq (SqL.of e4)) ?_ ?_⟩
    · rintro i u σ H5 hu5 ⟨cv, v5, v6, v8, rfl, s5, hcv⟩
      obtain ⟨b, hb, rfl⟩ := map_ref_at7 hu5
      obtain ⟨y, hy, hty⟩ := paired_at ps4 hb
      have W5 := W4.st s5
      have tf := take_find (f := clB ns) hy
      refine ⟨b, _, rfl, SqT.of (s5 _ _ hty), rfl, _, _, rfl, _, _, rfl, rfl, ?_⟩
      refine ⟨_, rfl, q, rfl, .inl ⟨_, Rd.of W5.hq⟩, _, rfl, _, DGet.k (k := Sum.inr y.1) W5.hq, ?_⟩
      rw [kget odn.1.nd]
      rcases hcv with ⟨hn0, rfl⟩ | ⟨z, t, hz, rfl, ht⟩
      · rw [hn0] at tf
        refine ⟨_, rfl, rfl, _, rfl, ?_⟩
        refine iteT' rfl ?_
        refine ⟨_, rfl, _, rfl, line_of (by show 2 ≤ 1000000; decide), fun tt ntt => ?_⟩
        obtain ⟨H6, hh, s6, _, e6⟩ := knew (o := .tup [.int y.2, .int (numOf ns y.1)]) s5 ntt
        rw [hh]
        clear hh
        refine ⟨tt, _, rfl, .inr (SqT.of e6), rfl, rfl, _, rfl, ?_⟩
        rw [show (if true = true then !inV (V.int 0) [V.int y.2, V.int (numOf ns y.1)] else inV (V.int 0) [V.int y.2, V.int (numOf ns y.1)]) = !(decide (y.2 = 0) || decide (numOf ns y.1 = 0)) from clB_ev]
        refine ite2 (fun c1 => ?_) (fun c1 => ?_)
        · refine ⟨_, rfl, _, rfl, rfl, _, rfl, ?_⟩
          refine ite2 (fun c3 => ?_) (fun c3 => ?_)
          · have hc : clB ns y = true := by
              unfold clB
              rw [c1]
              simpa using c3
            refine ⟨_, rfl, _, rfl, _, rfl, line_of (by show 3 ≤ 1000000; decide), fun t nt => ?_⟩
            refine ⟨.ref t, _, _, _, rfl, s6.trans (same_upd nt), .inr ⟨y, t, ?_, rfl, upd_same⟩⟩
            rw [tf, hc]
            rfl
          · have hc : clB ns y = false := by
              unfold clB
              rw [c1]
              simpa using c3
            refine ⟨.non, _, _, _, rfl, s6, .inl ⟨?_, rfl⟩⟩
            rw [tf, hc]
            rfl
        · have hc : clB ns y = false := by
            unfold clB
            rw [Bool.not_eq_true] at c1
            rw [c1]
            rfl
          refine ⟨.non, _, _, _, rfl, s6, .inl ⟨?_, rfl⟩⟩
          rw [tf, hc]
          rfl
      · rw [hz] at tf
        refine ⟨_, rfl, rfl, _, rfl, ?_⟩
        refine iteN' (by simp) ?_
        refine ⟨.ref t, _, _, _, rfl, s5, .inr ⟨z, t, ?_, rfl, ht⟩⟩
        rw [tf]
        rfl
    rintro σ H5 ⟨cv, v5, v6, v8, rfl, s5, hcv⟩
    rw [List.length_map, lq, List.take_of_length_le (Nat.le_refl _)] at hcv
    have W5 := W4.st s5
    clear W4 s5 ps4 e4
    try delta tNil
    refine ⟨_, rfl, rfl, _, rfl, of_right l (.inl (SqL.of (W5.g.sub _ _ hl))) (hp.same W5.g.sub) ok fun x us H6 pu eu nx s6 sg => ?_⟩
    rw [eu _ (dueT_perm _) (dueT_sorted _)] at sg
    have W6 := W5.st s6
    replace hcv := hcv.same s6
    clear W5 s6 pu eu nx
    refine ⟨o, m, x, ds, dueT ks, rfl, W6.dr ho, sg, od.1, okd, fun hc H7 k7 e7 => ?_, fun p' hc t' H7 nt s7 e7 => ?_⟩
    · rw [hev] at hc
      rcases hcv with ⟨hn0, rfl⟩ | ⟨z, t, hz, rfl, ht⟩
      rotate_left
      · rw [hz] at hc
        cases hc
      have W7 := W6.setM k7 e7
      show tSeq _ _ _ ([some (.ref p), some (.ref o), some (.ref q), some (.int way), some (.ref l), v5, v6, some .non, v8, some .non] : L2.St) _
      refine ⟨_, rfl, rfl, _, rfl, ?_⟩
      refine iteT' rfl ?_
      refine ⟨_, rfl, l, rfl, ⟨_, SqL.of (W7.g.sub _ _ hl)⟩, for_list (K := K) (a := l) (xs := ps.map V.ref) (fun i σ H' => ∃ w5 w6 : Option V, σ = [some (.ref p), some (.ref o), some (.ref q), some (.int way), some (.ref l), w5, w6, some .non, v8, some .non] ∧ St D2 H' p c (n + 1 + 30) m q (mergeL ds (dueT ks)) ((ks.take i).foldl lawPut ns)) ⟨_, _, rfl, W7⟩ (fun _ _ _ _ ⟨_, _, _, s⟩ => SqL.of (s.g.sub _ _ hl)) ?_ ?_⟩
      · rintro i u σ H5 hu5 ⟨w5, w6, rfl, W5⟩
        obtain ⟨b, hb, rfl⟩ := map_ref_at7 hu5
        obtain ⟨y, hy, hty⟩ := paired_at hp hb
        have il : i < ks.length := (List.getElem?_eq_some_iff.mp hy).1
        have ofold := Od.fold (ks.take i) odn fun y hy => okp y (List.mem_of_mem_take hy)
        have lfold := ofold.1.len
        have tk : (ks.take (i + 1)).foldl lawPut ns = lawPut ((ks.take i).foldl lawPut ns) y := by
          rw [List.take_add_one, hy, List.foldl_append]
          rfl
        refine ⟨b, _, rfl, SqT.of (W5.g.sub _ _ hty), rfl, _, _, rfl, _, _, rfl, rfl, ?_⟩
        refine ⟨_, rfl, rfl, _, rfl, ?_⟩
        generalize hfo : (ks.take i).foldl lawPut ns = nsi at *
        refine ite2 (fun c3 => ?_) (fun c3 => ?_)
        · have hz : ¬ y.2 = 0 := by simpa using c3
          refine ⟨_, rfl, _, rfl, _, rfl, q, _, rfl, DPut.k (k := Sum.inr y.1) W5.hq (by show (List.map _ _).length < _; rw [List.length_map]; omega), ?_⟩
          refine ⟨_, _, rfl, W5.setQ keep_upd ?_⟩
          rw [upd_same, put_kvs, tk]
          unfold lawPut
          rw [if_neg hz]
        · have hz : y.2 = 0 := by simpa using c3
          refine ⟨_, rfl, q, rfl, .inl ⟨_, Rd.of W5.hq⟩, _, rfl, _, DGet.k (k := Sum.inr y.1) W5.hq, ?_⟩
          rw [kget ofold.1.nd]
          refine ⟨_, rfl, _, rfl, q, _, rfl, DPut.k (k := Sum.inr y.1) W5.hq (by show (List.map _ _).length < _; rw [List.length_map]; omega), ?_⟩
          refine ⟨_, _, rfl, W5.setQ keep_upd ?_⟩
          rw [upd_same, tk]
          unfold lawPut
          rw [if_pos hz]
          exact congrArg (fun x => some (HO.dK x)) (put_kvs nsi (y.1, numOf nsi y.1))
      rintro σ H5 ⟨w5, w6, rfl, W5⟩
      rw [List.length_map, lp, List.take_of_length_le (Nat.le_refl _)] at W5
      refine ⟨_, rfl, _, rfl, .none, .none, .non, .non, by decide +kernel, by decide +kernel, ?_⟩
      rw [show PyData.eqv .none .none = true by decide +kernel]
      exact qq D2 H5 _ _ (W5.mono (by omega)) (Same.refl _) (Od.merge _ od fun y hy => okp y (List.mem_filter.mp ((dueT_perm ks).mem_iff.mp hy)).1) (Od.fold _ odn okp) (numEq_merge eq ok)
    · rw [hev] at hc
      rcases hcv with ⟨hn0, rfl⟩ | ⟨y, t, hz, rfl, ht⟩
      · rw [hn0] at hc
        cases hc
      rw [hz] at hc
      obtain rfl : (y.1, numOf ds y.1) = p' := Option.some.inj hc
      have W7 := W6.st s7
      have hym := hss.mem_iff.mp (List.mem_of_find?_eq_some hz)
      have hsh := three_shaped (i := numOf ns y.1) (j := y.2) (okp y hym).1.2.2.2.1
      show tSeq _ _ _ ([some (.ref p), some (.ref o), some (.ref q), some (.int way), some (.ref l), v5, v6, some (.ref t), v8, some (.ref t')] : L2.St) _
      refine ⟨_, rfl, rfl, _, rfl, ?_⟩
      refine iteN' (by simp) ?_
      refine ⟨_, rfl, _, rfl, .tuple [.str y.1, .int (numOf ns y.1), .int y.2], .tuple [.str y.1, .int (numOf ns y.1), .int y.2], ?_, .tup (SqT.of (s7 _ _ ht)) (.cons (.str _) (.cons (.int _) (.cons (.int _) .nil))), hsh, hsh, ?_⟩
      · have e7' : H7 t' = some (.tup [.str y.1, .int (numOf ns y.1), .int y.2]) := by
          rw [e7, numOf_due ok, numOf_mem ok.nd hym, eq]
        exact .tup (SqT.of e7') (.cons (.str _) (.cons (.int _) (.cons (.int _) .nil)))
      rw [eqv_shaped hsh]
      exact qq D2 H7 ds ns (W7.mono (by omega)) (Same.refl _) od odn eq
theorem ok_law (T : Txt K mg) : FnG P w K mg base 14 T.f_law T.fd_law ["_law_script"] (spLaw K) := by
  have G__law_pen := ok__law_pen (P := P) (w := w) (base := base) T
  have G__law_pairs := ok__law_pairs (P := P) (w := w) (base := base) T
  have G_Signals_of := ok_Signals_of (P := P) (w := w) (base := base) T
  have G_Draft_init := ok_Draft_init (P := P) (w := w) (base := base) T
  have G_Draft_present := ok_Draft_present (P := P) (w := w) (base := base) T
  have G__law_deed := ok__law_deed (P := P) (w := w) (base := base) T
  have G__law_tells := ok__law_tells (P := P) (w := w) (base := base) T
  have G__law_due_of := ok__law_due_of (P := P) (w := w) (base := base) T
  have G_Draft___eq__ := ok_Draft___eq__ (P := P) (w := w) (base := base) T
  have G_Signals_init := ok_Signals_init (P := P) (w := w) (base := base) T
  have nd := sc_law.nd
  refine okG T.F_law sc_law (fun vs H Q E h => ?_) (fun cdv A outer s H vs Q E calm hr h => ?_)
  · obtain ⟨a, ns, rfl, _⟩ := h; rfl
  · obtain ⟨a, cs, rfl, hS, hl0, Qe⟩ := h
    have hu := hu_of hr
    refine ⟨_, (pss_cons (ps_set (i := 1) nd rfl (Or.inl rfl) (pe_call (G__law_pen) (hr.mono (by decide)) (by rfl) T.m__law_pen T.F__law_pen.kp T.b__law_pen .nil pass0 (pa_cons (pv 0) pa_nil)))
        (pss_cons (ps_set (i := 2) nd rfl (Or.inl rfl) (pe_call (G__law_pairs) (hr.mono (by decide)) (by rfl) T.m__law_pairs T.F__law_pairs.kp T.b__law_pairs .nil pass0 (pa_cons (pv 1) (pa_cons pe_int pa_nil))))
        (pss_cons (ps_set (i := 3) nd rfl (Or.inl rfl) (pe_cmethA (E := fun _ => E0) (pe_glob (v := .ref T.c_Signals) (by rfl) T.m_Signals rfl) T.cr_Signals T.cm_of (G_Signals_of.raw T.b_Signals_of .nil) (hr.mono (by decide)) (fun σ pins H s e s' I h => (passes_call takesF (fun _ _ _ _ h => h)) pins σ H s e s' I h) (pa_cons (pv 2) pa_nil)))
        (pss_cons (ps_par (i := 4) (j := 5) (by rfl) nd rfl rfl (by decide) rfl rfl (pa_cons (pe_make T.mk_Draft G_Draft_init (hr.mono (by decide)) (by rfl) T.m_Draft T.b_Draft_init .nil (passes_call takesF (fun _ _ _ _ h => h)) (pa_cons (pv 3) pa_nil)) (pa_cons (pe_make0 T.mk_Draft G_Draft_init (hr.mono (by decide)) (by rfl) T.m_Draft T.b0_DI T.v_DI (passes_call takesF (fun _ _ _ _ h => h))) pa_nil)) (by rfl))
        (pss_cons (ps_set (i := 6) nd rfl (Or.inl rfl) (pv 4))
        (pss_cons (ps_set (i := 7) nd rfl (Or.inl rfl) (pe_callTy (cr_dictL rfl) (by rfl) T.n_dict (by decide +kernel) (pa_cons (pv 2) pa_nil)))
        (pss_cons (ps_for PassesOwn.never rfl (pi_range1 rfl T.n_range (pa_cons pe_int pa_nil)) (pg_name (i := 8) nd rfl (Or.inl rfl)) (pss_cons (ps_set (i := 9) nd rfl (Or.inl rfl) (pe_prop (pv 4) T.k_Draft T.pr_present G_Draft_present (hr.mono (by decide)) T.b_Draft_present .nil pass0 (by rfl)))
        (pss_cons (ps_set (i := 10) nd rfl (Or.inl rfl) (pe_fld (pv 9) (by rfl)))
        (pss_cons (ps_if (pt_not (pt_val (pe_callG G__law_deed calm (hr.mono (by decide)) (by rfl) T.m__law_deed T.F__law_deed.kp T.b__law_deed (pa_cons (pv 1) (pa_cons (pe_ix ix_list (pe_lst (pa_cons (pv 4) (pa_cons (pv 6) pa_nil))) (pe_op op_modN (pv 8) pe_int) (fun _ _ => rfl)) (pa_cons (pv 7) pa_nil)))))) (pss_one (ps_ret pe_bl)) pss_nil)
        (pss_cons (ps_if (PW.pt (pw_or (pt_not (pt_val (pe_callG G__law_tells calm (hr.mono (by decide)) (by rfl) T.m__law_tells T.F__law_tells.kp T.b__law_tells (pa_cons (pv 4) (pa_cons (pv 7) pa_nil))))) (pw_or (pt_not (pt_val (pe_callG G__law_tells calm (hr.mono (by decide)) (by rfl) T.m__law_tells T.F__law_tells.kp T.b__law_tells (pa_cons (pv 6) (pa_cons (pv 7) pa_nil))))) (pw_or1 (pt_cmpR (op_neD hr.units) (pe_fld (pv 9) (by rfl)) (pv 10) (nomark _)))))) (pss_one (ps_ret pe_bl)) pss_nil)
        (pss_one (ps_if (PW.pt (pw_or (pt_not (pt_val (pe_callG G__law_tells calm (hr.mono (by decide)) (by rfl) T.m__law_tells T.F__law_tells.kp T.b__law_tells (pa_cons (pv 5) (pa_cons pe_dnewK pa_nil))))) (pw_or1 (pt_cmpR (op_neD hr.units) (pe_fld (pv 3) (by rfl)) (pe_call (G__law_due_of) (hr.mono (by decide)) (by rfl) T.m__law_due_of T.F__law_due_of.kp T.b__law_due_of .nil pass0 (pa_cons (pv 2) pa_nil)) (nomark _))))) (pss_one (ps_ret pe_bl)) pss_nil)))))))
        (pss_one (ps_ret (pe_and (pe_cmpR (op_eqV (G_Draft___eq__.raw T.b_Draft___eq__ .nil) T.od_eq (hr.mono (by decide)) pass0) (pe_make0 T.mk_Draft G_Draft_init (hr.mono (by decide)) (by rfl) T.m_Draft T.b0_DI T.v_DI (passes_call takesF (fun _ _ _ _ h => h))) (pv 5) (nomark _)) (pe_and (pe_not (pe_cmpR (op_eqX (G_Draft___eq__.raw T.b_Draft___eq__ .nil) T.od_eq (hr.mono (by decide)) pass0) (pe_make0 T.mk_Draft G_Draft_init (hr.mono (by decide)) (by rfl) T.m_Draft T.b0_DI T.v_DI (passes_call takesF (fun _ _ _ _ h => h))) (pe_makeWA (ks := []) (E := fun _ => E0) T.mk_Signals G_Signals_init (hr.mono (by decide)) (by rfl) T.m_Signals (fun σ pins H s e s' I h => (passes_call takesF (fun _ _ _ _ h => h)) pins σ H s e s' I h) pk_nil) (nomark _))) (pe_one (pe_cmpR (op_neV (G_Draft___eq__.raw T.b_Draft___eq__ .nil) T.od_eq T.on_Draft (hr.mono (by decide)) pass0) (pe_make T.mk_Draft G_Draft_init (hr.mono (by decide)) (by rfl) T.m_Draft T.b_Draft_init .nil (passes_call takesF (fun _ _ _ _ h => h)) (pa_cons (pe_makeWA (ks := ["c"]) (E := fun _ => E0) T.mk_Signals G_Signals_init (hr.mono (by decide)) (by rfl) T.m_Signals (fun σ pins H s e s' I h => (passes_call takesF (fun _ _ _ _ h => h)) pins σ H s e s' I h) (pk_cons pe_int pk_nil)) pa_nil)) (pv 5) (nomark _)))))))))))))), ?_⟩
    refine ⟨_, rfl, a, cs, rfl, hS, hl0, fun p c H1 np s1 P1 => ?_⟩
    clear hS hl0 np s1
    delta tNil
    show tSeq _ _ _ ([some (.ref a), some (.ref p), none, none, none, none, none, none, none, none, none] : L2.St) _
    refine ⟨_, rfl, p, c, 5, 0, rfl, by decide, P1, by decide, fun l ps oks H2 nl nlp hl pr nd hk nk P2 k2 => ?_⟩
    obtain ⟨ks, rfl, ok, hnk⟩ := oks_of nd (by omega) hk
    have W2 := G.of P2
    have f2 : ∀ b x, H2 b = some x → b ≠ p → (del H2 p) b = some x := fun b x e ne => by rw [del_ne ne]; exact e
    generalize del H2 p = D2 at W2 f2
    replace hl : D2 l = some (.lst (ps.map V.ref)) := f2 _ _ hl nlp
    have hp : Prk D2 ps ks := prk_of f2 pr
    clear pr nd hk nl nlp P1 P2 k2 f2
    have okp : ∀ y ∈ ks, OkP y ∧ y.1 ∈ NM7 := fun y hy => ⟨okp_of ok hy, hnk y hy⟩
    have okd := ok.due
    show tSeq _ _ _ ([some (.ref a), some (.ref p), some (.ref l), none, none, none, none, none, none, none, none] : L2.St) _
    refine ⟨rfl, _, rfl, of_right l (.inl (SqL.of (W2.sub _ _ hl))) (hp.same W2.sub) ok fun x us H3 pu eu nx s3 sg => ?_⟩
    rw [eu _ (dueT_perm _) (dueT_sorted _)] at sg
    obtain ⟨D3, W3, S3, f3, -⟩ := W2.add s3
    have hx : Tol K T.c_Signals D3 x (dueT ks) := (sg.del W3 f3).tol
    replace hl := S3 _ _ hl
    replace hp := hp.same S3
    clear pu eu nx s3 sg W2 S3 f3
    show tSeq _ _ _ ([some (.ref a), some (.ref p), some (.ref l), some (.ref x), none, none, none, none, none, none, none] : L2.St) _
    refine ⟨_, rfl, fun o dx no ndx nox => ⟨o, dx, .ref x, dueT ks, rfl, upd_same, .inr ⟨x, rfl, (hx.same W3.sub).same (fun b y e => by rw [upd_ne (ne_of_none e no), upd_ne (ne_of_none e ndx)]; exact e)⟩, okd.nd, okd.len, fun m H4 nm k4 hdr => ⟨rfl, ?_⟩⟩⟩
    have s4 := made_S no ndx k4
    have nm3 : H3 m = none := by
      cases hh : H3 m with
      | none => rfl
      | some o' =>
        have nmo : m ≠ o := fun e => by rw [e, upd_same] at nm; cases nm
        have := ne_of_none hh no
        rw [upd_ne nmo] at nm
        by_cases e : m = dx
        · rw [e, ndx] at hh; cases hh
        · rw [upd_ne e, hh] at nm; cases nm
    clear nm k4 ndx nox dx
    refine fun o2 dx2 no2 ndx2 nox2 => ⟨o2, dx2, .non, [], rfl, upd_same, .inl ⟨rfl, rfl⟩, .nil, by decide, fun m2 H5 nm2 k5 hdr2 => ⟨rfl, ?_⟩⟩
    have s5 := made_S no2 ndx2 k5
    have hm4 := hdr.2
    have m2m : m2 ≠ m := fun e => by
      rw [e] at nm2
      have h1 := ne_of_none hm4 no2
      have h2 := ne_of_none hm4 ndx2
      rw [upd_ne h1, upd_ne h2, hm4] at nm2
      cases nm2
    replace hdr := hdr.same s5
    have W5 := (W3.st s4).st s5
    clear k5 ndx2 nox2 dx2 nm2 no no2 s4 s5 hm4
    refine ⟨_, _, rfl, ?_⟩
    show tSeq _ _ _ ([some (.ref a), some (.ref p), some (.ref l), some (.ref x), some (.ref o), some (.ref o2), none, none, none, none, none] : L2.St) _
    refine ⟨_, rfl, ?_⟩
    show tSeq _ _ _ ([some (.ref a), some (.ref p), some (.ref l), some (.ref x), some (.ref o), some (.ref o2), some (.ref o), none, none, none, none] : L2.St) _
    refine ⟨_, rfl, l, ps, kvsOf ks, rfl, SqL.of (W5.sub _ _ hl), (hp.same W5.sub).kvs, fun q nq => ?_⟩
    obtain ⟨H7, hh, s7, _, e7⟩ := knew (o := .dK (mergeK [] (kvsOf ks))) (Same.refl H5) nq
    rw [hh]
    clear hh
    rw [merge_told ok.nd] at e7
    have m2q : m2 ≠ q := ne_of_none hdr2.2 nq
    have W7 : St D3 H7 p c _ m q (dueT ks) ks := ⟨W5.st s7, W3.sub.free nm3, W5.sub.free nq, s7 _ _ hdr.2, e7, ne_of_none hdr.2 nq⟩
    replace hdr := hdr.same s7
    replace hdr2 := hdr2.same s7
    obtain ⟨D7, W8, S7, f7⟩ := W7.add
    have ho : DrO T.c_Draft D7 o m := by
      obtain ⟨⟨dx, fs, g1, g2, g3⟩, gm⟩ := hdr
      have n := W7.nk g1 (by intro _ z; cases z)
      exact ⟨dx, fs, f7 _ _ g1 (W7.g.nl g1 (by intro _ z; cases z)) n.1 n.2, g2, g3⟩
    have ho2 : DrAt T.c_Draft D7 o2 m2 [] := by
      obtain ⟨⟨dx, fs, g1, g2, g3⟩, gm⟩ := hdr2
      have n := W7.nk g1 (by intro _ z; cases z)
      exact ⟨⟨dx, fs, f7 _ _ g1 (W7.g.nl g1 (by intro _ z; cases z)) n.1 n.2, g2, g3⟩, f7 _ _ gm (W7.g.nl gm (by intro _ z; cases z)) m2m m2q⟩
    replace hl := S7 _ _ hl
    replace hp := hp.same S7
    replace hx := hx.same S7
    have od0 : Od (dueT ks) := ⟨okd, fun y hy => hnk y (List.mem_filter.mp ((dueT_perm ks).mem_iff.mp hy)).1⟩
    have odn0 : Od ks := ⟨ok, hnk⟩
    have eq0 : NumEq (dueT ks) ks := fun z => numOf_due ok z
    clear hdr hdr2 f7 S7 W7 m2q m2m e7 s7 nq W5 nm3 W3
    show tSeq _ _ _ ([some (.ref a), some (.ref p), some (.ref l), some (.ref x), some (.ref o), some (.ref o2), some (.ref o), some (.ref q), none, none, none] : L2.St) _
    refine ⟨_, rfl, by decide, by decide, for_range (n := 30) (fun i σ H' => ∃ (D : Hp) (ds ns : List (Str × Int)) (v8 v9 v10 : Option V), σ = [some (.ref a), some (.ref p), some (.ref l), some (.ref x), some (.ref o), some (.ref o2), some (.ref o), some (.ref q), v8, v9, v10] ∧ St D H' p c (100 + 60 * i) m q ds ns ∧ Same D7 D ∧ Od ds ∧ Od ns ∧ NumEq ds ns) ⟨D7, _, _, none, none, none, rfl, W8.mono (by omega), Same.refl _, od0, odn0, eq0⟩ ?_ ?_⟩
    · clear W8 od0 odn0 eq0
      rintro i σ H8 hi ⟨D, ds, ns, v8, v9, v10, rfl, W, SD, od, odn, eq⟩
      replace hl := SD _ _ hl
      replace hp := hp.same SD
      replace hx := hx.same SD
      replace ho := ho.same SD
      replace ho2 := ho2.same SD
      obtain ⟨dx, fs, g1, g2, g3⟩ := id ho
      show tSeq _ _ _ ([some (.ref a), some (.ref p), some (.ref l), some (.ref x), some (.ref o), some (.ref o2), some (.ref o), some (.ref q), some (.int (0 + (i : Int))), v9, v10] : L2.St) _
      refine ⟨_, rfl, o, dx, fs, rfl, W.g.sub _ _ g1, o, m, ds, rfl, W.dr ho, od.1, fun y H9 ny s9 sg => ?_⟩
      replace W := W.st s9
      obtain ⟨D9, W9, S9, f9⟩ := W.add
      have hy : Tol K T.c_Signals D9 y (dueT ds) := W.tol f9 sg.tol
      replace hl := S9 _ _ hl
      replace hp := hp.same S9
      replace hx := hx.same S9
      replace ho := ho.same S9
      replace ho2 := ho2.same S9
      replace SD := SD.trans S9
      clear sg ny s9 W f9 S9 g1 g2 g3 fs dx
      have shy : SeqAt.shaped (.tuple (prD (dueT ds))) = true := od.1.due.sh
      obtain ⟨dy, t, fsy, qsy, y1, y2, y3, y4⟩ := hy
      show tSeq _ _ _ ([some (.ref a), some (.ref p), some (.ref l), some (.ref x), some (.ref o), some (.ref o2), some (.ref o), some (.ref q), some (.int (0 + (i : Int))), some (.ref y), v10] : L2.St) _
      refine ⟨_, rfl, y, T.c_Signals, dy, fsy, _, rfl, W9.g.sub _ _ y1, T.k_Signals, T.na_told, y2, ?_⟩
      show tSeq _ _ _ ([some (.ref a), some (.ref p), some (.ref l), some (.ref x), some (.ref o), some (.ref o2), some (.ref o), some (.ref q), some (.int (0 + (i : Int))), some (.ref y), some (.ref t)] : L2.St) _
      refine ⟨_, rfl, _, rfl, _, rfl, line_of (by show 2 ≤ 1000000; decide), fun lo nlo => ?_⟩
      obtain ⟨H10, hh, s10, _, e10⟩ := knew (o := .lst [.ref o, .ref o]) (Same.refl H9) nlo
      rw [hh]
      clear hh
      replace W9 := W9.st s10
      obtain ⟨j, hj, ej⟩ := mod2 i
      refine ⟨_, rfl, _, _, rfl, rfl, (by show (2 : Int) ≠ 0; decide), lo, _, (j : Int), .ref o, rfl, congrArg V.int ej, SqL.of e10, atI_nat (j := j) (by match j, hj with | 0, _ => rfl | 1, _ => rfl), _, rfl, ?_⟩
      refine ⟨D9, p, c, o, m, q, _, ds, ns, rfl, W9, ho, od, odn, eq, by omega, fun D11 H11 ds' ns' W11 S11 od' odn' eq' => ⟨_, rfl, ?_⟩⟩
      refine iteN' (by decide) ?_
      clear W9 e10 s10 nlo ej hj j od odn eq
      have SD' := SD.trans S11
      replace hl := S11 _ _ hl
      replace hp := hp.same S11
      replace hx := hx.same S11
      replace ho := ho.same S11
      replace ho2 := ho2.same S11
      replace y1 := S11 _ _ y1
      replace y3 := Same.seqT S11 y3
      replace y4 := L2.Paired.mapP y4 fun p y h => Same.seqT S11 h
      clear SD S11
      show tSeq _ _ _ ([some (.ref a), some (.ref p), some (.ref l), some (.ref x), some (.ref o), some (.ref o2), some (.ref o), some (.ref q), some (.int (0 + (i : Int))), some (.ref y), some (.ref t)] : L2.St) _
      refine ⟨_, rfl, _, rfl, o, m, q, ds', ns', rfl, W11.dr ho, W11.hq, od'.1, odn'.1, eq', fun H12 s12 => ⟨_, rfl, ?_⟩⟩
      refine iteN' (by decide) ?_
      replace W11 := W11.st s12
      refine ⟨_, rfl, _, rfl, o, m, q, ds', ns', rfl, W11.dr ho, W11.hq, od'.1, odn'.1, eq', fun H13 s13 => ⟨_, rfl, ?_⟩⟩
      refine iteN' (by decide) ?_
      replace W11 := W11.st s13
      clear s12 s13
      have okds : SeqAt.shaped (.tuple (prD (dueT ds))) = true := shy
      refine ⟨_, rfl, y, T.c_Signals, dy, fsy, _, rfl, W11.g.sub _ _ y1, T.k_Signals, T.na_told, y2, _, rfl, .tuple (prD (dueT ds)), .tuple (prD (dueT ds)), .tup (Same.seqT W11.g.sub y3) (dp_told (L2.Paired.mapP y4 fun p y h => Same.seqT W11.g.sub h)), .tup (Same.seqT W11.g.sub y3) (dp_told (L2.Paired.mapP y4 fun p y h => Same.seqT W11.g.sub h)), okds, okds, _, rfl, ?_⟩
      rw [eqv_prT, decide_eq_true rfl]
      refine iteN' (by decide) ?_
      clear y1 y2 y3 y4 okds shy
      refine ⟨_, rfl, fun d nd => ?_⟩
      obtain ⟨H14, hh, s14, _, e14⟩ := knew (o := .dK []) (Same.refl H13) nd
      rw [hh]
      clear hh
      replace W11 := W11.st s14
      refine ⟨o2, m2, d, [], [], rfl, ho2.same W11.g.sub, e14, oks_nil, oks_nil, fun _ => rfl, fun H15 s15 => ⟨_, rfl, ?_⟩⟩
      refine iteN' (by decide) ?_
      replace W11 := W11.st s15
      clear s14 e14 nd s15
      obtain ⟨dx, tx, fsx, qsx, x1, x2, x3, x4⟩ := id hx
      refine ⟨_, rfl, x, T.c_Signals, dx, fsx, _, rfl, W11.g.sub _ _ x1, T.k_Signals, T.na_told, x2, _, rfl, due_right (SqL.of (W11.g.sub _ _ hl)) (hp.same W11.g.sub) ok.len fun tb qb sb H16 hb1 hb2 nb s16 eb pb => ?_⟩
      have hsb := due_eq ok hb1 hb2
      subst hsb
      replace W11 := W11.st s16
      refine ⟨.tuple (prD (dueT ks)), .tuple (prD (dueT ks)), .tup (Same.seqT W11.g.sub x3) (dp_told (L2.Paired.mapP x4 fun p y h => Same.seqT W11.g.sub h)), .tup (SqT.of eb) (dp_told pb.tups), okd.sh, okd.sh, _, rfl, ?_⟩
      rw [eqv_prT, decide_eq_true rfl]
      refine iteN' (by decide) ?_
      exact ⟨_, ds', ns', _, _, _, rfl, W11.mono (by omega), SD', od', odn', eq'⟩
    rintro σ H8 ⟨D, ds, ns, v8, v9, v10, rfl, W, SD, od, odn, eq⟩
    replace ho2 := ho2.same SD
    clear hl hp hx ho W8 od0 odn0 eq0 od odn eq
    have ho3 := ho2.same W.g.sub
    clear W SD ho2
    refine fun o3 dx3 no3 ndx3 nox3 => ⟨o3, dx3, .non, [], rfl, upd_same, .inl ⟨rfl, rfl⟩, .nil, by decide, fun m3 H9 nm3 k9 hdr3 => ⟨rfl, ?_⟩⟩
    have s9 := made_S no3 ndx3 k9
    replace ho3 := ho3.same s9
    clear k9 no3 ndx3 nox3 nm3
    refine ⟨_, rfl, deq_right hdr3 ho3 oks_nil oks_nil fun H10 s10 => ⟨_, rfl, ?_⟩⟩
    rw [decide_eq_true rfl]
    refine iteT' rfl ?_
    replace ho3 := ho3.same s10
    clear hdr3 s10 s9
    refine fun o4 dx4 no4 ndx4 nox4 => ⟨o4, dx4, .non, [], rfl, upd_same, .inl ⟨rfl, rfl⟩, .nil, by decide, fun m4 H11 nm4 k11 hdr4 => ⟨rfl, ?_⟩⟩
    have s11 := made_S no4 ndx4 k11
    replace ho3 := ho3.same s11
    clear k11 no4 ndx4 nox4 nm4 s11
    refine ⟨rfl, kw_right (ks := []) p oks_nil (fun y h => by cases h) fun x5 us5 H12 pu5 eu5 nx5 s12 sg5 => ?_⟩
    replace hdr4 := hdr4.same s12
    replace ho3 := ho3.same s12
    obtain ⟨dx5, _, _, _, fs5, _, z1, _⟩ := id sg5
    obtain ⟨⟨dx6, fs6, w1, w2, w3⟩, wm⟩ := id hdr4
    refine ⟨⟨x5, T.c_Signals, dx5, fs5, rfl, z1, T.sb_sig⟩, o4, dx6, fs6, rfl, w1, o4, m4, x5, [], rfl, hdr4, oks_nil, .inr ⟨us5, sg5, ?_⟩⟩
    refine ⟨_, rfl, ?_⟩
    clear sg5 hdr4 pu5 eu5 nx5 s12 z1 w1 w2 w3 wm
    refine ⟨_, rfl, ?_⟩
    refine iteT' rfl ?_
    have hok : ∀ y ∈ [(("c" : Str), (1 : Int))], y.1 ≠ "this_object" := fun y hy => by
      rw [show y = (("c" : Str), (1 : Int)) by simpa using hy]
      decide +kernel
    refine ⟨rfl, kw_right (ks := [(("c" : Str), (1 : Int))]) p oks_c hok fun x7 us7 H13 pu7 eu7 nx7 s13 sg7 => ?_⟩
    rw [eu7 _ (dueT_perm _) (dueT_sorted _)] at sg7
    have okc := oks_c.due
    refine fun o8 dx8 no8 ndx8 nox8 => ⟨o8, dx8, .ref x7, dueT [(("c" : Str), (1 : Int))], rfl, upd_same, .inr ⟨x7, rfl, (sg7.tol).same (fun b y e => by rw [upd_ne (ne_of_none e no8), upd_ne (ne_of_none e ndx8)]; exact e)⟩, okc.nd, okc.len, fun m8 H14 nm8 k14 hdr8 => ⟨rfl, ?_⟩⟩
    have s14 := made_S no8 ndx8 k14
    replace ho3 := (ho3.same s13).same s14
    refine ⟨_, rfl, deq_right hdr8 ho3 okc oks_nil fun H15 s15 => ⟨_, rfl, ?_⟩⟩
    rw [due_of_due oks_c, decide_eq_false due_c]
    exact Qe _
end
theorem all_mk {l : PySem.W.OpenLaw} {w : World} {K : PySem.W.Frag} {h : Heap} {mg : Str → Option Value} {fa : Addr} (X : K.In h) (G : h.Ns mainGlobals mg) (hfa : mg "law" = some (.ref fa))
    {c_Signals : Addr}
    {c_Draft : Addr}
    {f1 : Addr} {od1 an1 : Option Addr} {sl1 : Array (Option Value)} {oc1 kV1 dc1 pm1 cd1 ct1 : Value}
    {f2 : Addr} {od2 an2 : Option Addr} {sl2 : Array (Option Value)} {oc2 kV2 dc2 pm2 cd2 ct2 : Value}
    {f3 : Addr} {od3 an3 : Option Addr} {sl3 : Array (Option Value)} {oc3 kV3 dc3 pm3 cd3 ct3 : Value}
    {f4 : Addr} {od4 an4 : Option Addr} {sl4 : Array (Option Value)} {oc4 kV4 dc4 pm4 cd4 ct4 : Value}
    {f5 : Addr} {od5 an5 : Option Addr} {sl5 : Array (Option Value)} {oc5 kV5 dc5 pm5 cd5 ct5 : Value}
    {f6 : Addr} {od6 an6 : Option Addr} {sl6 : Array (Option Value)} {oc6 kV6 dc6 pm6 cd6 ct6 : Value}
    {q6 : Addr} {rs6 : List Value}
    {f7 : Addr} {od7 an7 : Option Addr} {sl7 : Array (Option Value)} {oc7 kV7 dc7 pm7 cd7 ct7 : Value}
    {f8 : Addr} {od8 an8 : Option Addr} {sl8 : Array (Option Value)} {oc8 kV8 dc8 pm8 cd8 ct8 : Value}
    {f9 : Addr} {od9 an9 : Option Addr} {sl9 : Array (Option Value)} {oc9 kV9 dc9 pm9 cd9 ct9 : Value}
    {f10 : Addr} {od10 an10 : Option Addr} {sl10 : Array (Option Value)} {oc10 kV10 dc10 pm10 cd10 ct10 : Value}
    {f11 : Addr} {od11 an11 : Option Addr} {sl11 : Array (Option Value)} {oc11 kV11 dc11 pm11 cd11 ct11 : Value}
    {f12 : Addr} {od12 an12 : Option Addr} {sl12 : Array (Option Value)} {oc12 kV12 dc12 pm12 cd12 ct12 : Value}
    {dT12 : Addr} {oT12 : Obj} {nT12 : Nat}
    {f13 : Addr} {od13 an13 : Option Addr} {sl13 : Array (Option Value)} {oc13 kV13 dc13 pm13 cd13 ct13 : Value}
    {f14 : Addr} {od14 an14 : Option Addr} {sl14 : Array (Option Value)} {oc14 kV14 dc14 pm14 cd14 ct14 : Value}
    {q14 : Addr} {rs14 : List Value}
    {f15 : Addr} {od15 an15 : Option Addr} {sl15 : Array (Option Value)} {oc15 kV15 dc15 pm15 cd15 ct15 : Value}
    {f16 : Addr} {od16 an16 : Option Addr} {sl16 : Array (Option Value)} {oc16 kV16 dc16 pm16 cd16 ct16 : Value}
    {f17 : Addr} {od17 an17 : Option Addr} {sl17 : Array (Option Value)} {oc17 kV17 dc17 pm17 cd17 ct17 : Value}
    {f18 : Addr} {od18 an18 : Option Addr} {sl18 : Array (Option Value)} {oc18 kV18 dc18 pm18 cd18 ct18 : Value}
    {f19 : Addr} {od19 an19 : Option Addr} {sl19 : Array (Option Value)} {oc19 kV19 dc19 pm19 cd19 ct19 : Value}
    {f20 : Addr} {od20 an20 : Option Addr} {sl20 : Array (Option Value)} {oc20 kV20 dc20 pm20 cd20 ct20 : Value}
    {f21 : Addr} {od21 an21 : Option Addr} {sl21 : Array (Option Value)} {oc21 kV21 dc21 pm21 cd21 ct21 : Value}
    {f22 : Addr} {od22 an22 : Option Addr} {sl22 : Array (Option Value)} {oc22 kV22 dc22 pm22 cd22 ct22 : Value}
    {f23 : Addr} {od23 an23 : Option Addr} {sl23 : Array (Option Value)} {oc23 kV23 dc23 pm23 cd23 ct23 : Value}
    {f24 : Addr} {od24 an24 : Option Addr} {sl24 : Array (Option Value)} {oc24 kV24 dc24 pm24 cd24 ct24 : Value}
    {f25 : Addr} {od25 an25 : Option Addr} {sl25 : Array (Option Value)} {oc25 kV25 dc25 pm25 cd25 ct25 : Value}
    {f26 : Addr} {od26 an26 : Option Addr} {sl26 : Array (Option Value)} {oc26 kV26 dc26 pm26 cd26 ct26 : Value}
    {f27 : Addr} {od27 an27 : Option Addr} {sl27 : Array (Option Value)} {oc27 kV27 dc27 pm27 cd27 ct27 : Value}
    {f28 : Addr} {od28 an28 : Option Addr} {sl28 : Array (Option Value)} {oc28 kV28 dc28 pm28 cd28 ct28 : Value}
    {f29 : Addr} {od29 an29 : Option Addr} {sl29 : Array (Option Value)} {oc29 kV29 dc29 pm29 cd29 ct29 : Value}
    {f30 : Addr} {od30 an30 : Option Addr} {sl30 : Array (Option Value)} {oc30 kV30 dc30 pm30 cd30 ct30 : Value}
    {f31 : Addr} {od31 an31 : Option Addr} {sl31 : Array (Option Value)} {oc31 kV31 dc31 pm31 cd31 ct31 : Value}
    {u_LETTERS : Tok}
    {u_MOST_SIGNS : Tok}
    {q_RESERVED : Addr} {o_RESERVED : Obj} {n_RESERVED : Nat} {i_RESERVED : Array Value} 
    {u_SIGNS : Tok}
    {cO cCl : Addr} {tM : Tok}
    {c_InvalidName g_InvalidName N_InvalidName : Addr} {nm_InvalidName q_InvalidName : Str} {bs_InvalidName : List Value} {sn_InvalidName : List Str} {sub_InvalidName : List Value} {ab_InvalidName : Bool} {col_InvalidName : Option Bool} {dd_InvalidName : Option Addr} {m0_InvalidName m1_InvalidName m2_InvalidName m3_InvalidName m5_InvalidName : Option Value}
    {od_InvalidName an_InvalidName : Option Addr} {sl_InvalidName : Array (Option Value)} {oc_InvalidName kV_InvalidName dc_InvalidName pm_InvalidName cd_InvalidName ct_InvalidName : Value}
    {c_InvalidNumber g_InvalidNumber N_InvalidNumber : Addr} {nm_InvalidNumber q_InvalidNumber : Str} {bs_InvalidNumber : List Value} {sn_InvalidNumber : List Str} {sub_InvalidNumber : List Value} {ab_InvalidNumber : Bool} {col_InvalidNumber : Option Bool} {dd_InvalidNumber : Option Addr} {m0_InvalidNumber m1_InvalidNumber m2_InvalidNumber m3_InvalidNumber m5_InvalidNumber : Option Value}
    {od_InvalidNumber an_InvalidNumber : Option Addr} {sl_InvalidNumber : Array (Option Value)} {oc_InvalidNumber kV_InvalidNumber dc_InvalidNumber pm_InvalidNumber cd_InvalidNumber ct_InvalidNumber : Value}
    {c_FieldClash g_FieldClash N_FieldClash : Addr} {nm_FieldClash q_FieldClash : Str} {bs_FieldClash : List Value} {sn_FieldClash : List Str} {sub_FieldClash : List Value} {ab_FieldClash : Bool} {col_FieldClash : Option Bool} {dd_FieldClash : Option Addr} {m0_FieldClash m1_FieldClash m2_FieldClash m3_FieldClash m5_FieldClash : Option Value}
    {od_FieldClash an_FieldClash : Option Addr} {sl_FieldClash : Array (Option Value)} {oc_FieldClash kV_FieldClash dc_FieldClash pm_FieldClash cd_FieldClash ct_FieldClash : Value}
    (aR_Signals : PySem.W.nsIn K mainGlobals "Signals" = some (some (.ref c_Signals))) (pg_Signals : PySem.W.plainGet K c_Signals Str.empty = true) (hdR_Signals : PySem.W.hasDictIn K c_Signals = true) (po_Signals : PySem.W.plainOver K c_Signals = true) (saR_Signals : PySem.W.findIn K (.ref c_Signals) "__setattr__" = some (some (.builtin "object.__setattr__"))) (mk_Signals : PySem.W.makesIn K c_Signals = true) (kp_Signals : PySem.W.keepIn K (.ref c_Signals) = true) (rd_Signals : PySem.W.readsIn K c_Signals (.type "type") = true) (gaR_Signals : PySem.W.specialIn K (.ref c_Signals) "__getattribute__" = some (some (.builtin "type.__getattribute__")))
    (na_Signals_told : PySem.W.findIn K (.ref c_Signals) "told" = some none)
    (na_Signals__numbers : PySem.W.findIn K (.ref c_Signals) "_numbers" = some none)
    (aR_Draft : PySem.W.nsIn K mainGlobals "Draft" = some (some (.ref c_Draft))) (pg_Draft : PySem.W.plainGet K c_Draft Str.empty = true) (hdR_Draft : PySem.W.hasDictIn K c_Draft = true) (po_Draft : PySem.W.plainOver K c_Draft = true) (saR_Draft : PySem.W.findIn K (.ref c_Draft) "__setattr__" = some (some (.builtin "object.__setattr__"))) (mk_Draft : PySem.W.makesIn K c_Draft = true) (kp_Draft : PySem.W.keepIn K (.ref c_Draft) = true) (rd_Draft : PySem.W.readsIn K c_Draft (.type "type") = true) (gaR_Draft : PySem.W.specialIn K (.ref c_Draft) "__getattribute__" = some (some (.builtin "type.__getattribute__")))
    (na_Draft__numbers : PySem.W.findIn K (.ref c_Draft) "_numbers" = some none)
    (a1 : PySem.W.nsIn K mainGlobals "is_name" = some (some (.ref f1)))
    (l1 : K.lookup f1 = some ⟨oc1, od1, .func (PySem.W.fnOf "is_name" "is_name" (defArgs s_is_name) (defBody s_is_name) (defScope s_is_name) .none kV1 dc1 pm1 an1 cd1 ct1), sl1⟩) (c1 : PySem.W.codeIn K cd1 "is_name" = true) (k1 : PySem.W.keepIn K (.ref f1) = true)
    (a2 : PySem.W.nsIn K mainGlobals "is_integer" = some (some (.ref f2)))
    (l2 : K.lookup f2 = some ⟨oc2, od2, .func (PySem.W.fnOf "is_integer" "is_integer" (defArgs s_is_integer) (defBody s_is_integer) (defScope s_is_integer) .none kV2 dc2 pm2 an2 cd2 ct2), sl2⟩) (c2 : PySem.W.codeIn K cd2 "is_integer" = true) (k2 : PySem.W.keepIn K (.ref f2) = true)
    (a3 : PySem.W.nsIn K mainGlobals "check_field" = some (some (.ref f3)))
    (l3 : K.lookup f3 = some ⟨oc3, od3, .func (PySem.W.fnOf "check_field" "check_field" (defArgs s_check_field) (defBody s_check_field) (defScope s_check_field) .none kV3 dc3 pm3 an3 cd3 ct3), sl3⟩) (c3 : PySem.W.codeIn K cd3 "check_field" = true) (k3 : PySem.W.keepIn K (.ref f3) = true)
    (a4 : PySem.W.nsIn K mainGlobals "check_number" = some (some (.ref f4)))
    (l4 : K.lookup f4 = some ⟨oc4, od4, .func (PySem.W.fnOf "check_number" "check_number" (defArgs s_check_number) (defBody s_check_number) (defScope s_check_number) .none kV4 dc4 pm4 an4 cd4 ct4), sl4⟩) (c4 : PySem.W.codeIn K cd4 "check_number" = true) (k4 : PySem.W.keepIn K (.ref f4) = true)
    (a5 : PySem.W.findIn K (.ref c_Signals) "__init__" = some (some (.ref f5))) (g5 : PySem.W.isFn K (.ref f5) = true)
    (l5 : K.lookup f5 = some ⟨oc5, od5, .func (PySem.W.fnOf "__init__" "Signals.__init__" (defArgs s_Signals_init) (defBody s_Signals_init) (defScope s_Signals_init) .none kV5 dc5 pm5 an5 cd5 ct5), sl5⟩) (c5 : PySem.W.codeIn K cd5 "Signals.__init__" = true) (k5 : PySem.W.keepIn K (.ref f5) = true)
    (a6 : PySem.W.findCls K (.ref c_Signals) (.type "type") "of" = some (.get (.builtin "classmethod.__get__") (.ref q6) .none (.ref c_Signals))) (r6 : PySem.W.recIn K q6 "classmethod" = some (.ref f6 :: rs6)) (g6 : PySem.W.fnIn K f6 = true)
    (l6 : K.lookup f6 = some ⟨oc6, od6, .func (PySem.W.fnOf "of" "Signals.of" (defArgs s_Signals_of) (defBody s_Signals_of) (defScope s_Signals_of) .none kV6 dc6 pm6 an6 cd6 ct6), sl6⟩) (c6 : PySem.W.codeIn K cd6 "Signals.of" = true) (k6 : PySem.W.keepIn K (.ref f6) = true)
    (a7 : PySem.W.findIn K (.ref c_Signals) "__getitem__" = some (some (.ref f7))) (g7 : PySem.W.isFn K (.ref f7) = true)
    (l7 : K.lookup f7 = some ⟨oc7, od7, .func (PySem.W.fnOf "__getitem__" "Signals.__getitem__" (defArgs s_Signals___getitem__) (defBody s_Signals___getitem__) (defScope s_Signals___getitem__) .none kV7 dc7 pm7 an7 cd7 ct7), sl7⟩) (c7 : PySem.W.codeIn K cd7 "Signals.__getitem__" = true) (k7 : PySem.W.keepIn K (.ref f7) = true)
    (a8 : PySem.W.findIn K (.ref c_Signals) "__eq__" = some (some (.ref f8))) (g8 : PySem.W.isFn K (.ref f8) = true)
    (l8 : K.lookup f8 = some ⟨oc8, od8, .func (PySem.W.fnOf "__eq__" "Signals.__eq__" (defArgs s_Signals___eq__) (defBody s_Signals___eq__) (defScope s_Signals___eq__) .none kV8 dc8 pm8 an8 cd8 ct8), sl8⟩) (c8 : PySem.W.codeIn K cd8 "Signals.__eq__" = true) (k8 : PySem.W.keepIn K (.ref f8) = true)
    (a9 : PySem.W.nsIn K mainGlobals "clash_of" = some (some (.ref f9)))
    (l9 : K.lookup f9 = some ⟨oc9, od9, .func (PySem.W.fnOf "clash_of" "clash_of" (defArgs s_clash_of) (defBody s_clash_of) (defScope s_clash_of) .none kV9 dc9 pm9 an9 cd9 ct9), sl9⟩) (c9 : PySem.W.codeIn K cd9 "clash_of" = true) (k9 : PySem.W.keepIn K (.ref f9) = true)
    (a10 : PySem.W.nsIn K mainGlobals "check_union" = some (some (.ref f10)))
    (l10 : K.lookup f10 = some ⟨oc10, od10, .func (PySem.W.fnOf "check_union" "check_union" (defArgs s_check_union) (defBody s_check_union) (defScope s_check_union) .none kV10 dc10 pm10 an10 cd10 ct10), sl10⟩) (c10 : PySem.W.codeIn K cd10 "check_union" = true) (k10 : PySem.W.keepIn K (.ref f10) = true)
    (a11 : PySem.W.nsIn K mainGlobals "told_text" = some (some (.ref f11)))
    (l11 : K.lookup f11 = some ⟨oc11, od11, .func (PySem.W.fnOf "told_text" "told_text" (defArgs s_told_text) (defBody s_told_text) (defScope s_told_text) .none kV11 dc11 pm11 an11 cd11 ct11), sl11⟩) (c11 : PySem.W.codeIn K cd11 "told_text" = true) (k11 : PySem.W.keepIn K (.ref f11) = true)
    (a12 : PySem.W.findIn K (.ref c_Draft) "__init__" = some (some (.ref f12))) (g12 : PySem.W.isFn K (.ref f12) = true)
    (l12 : K.lookup f12 = some ⟨oc12, od12, .func (PySem.W.fnOf "__init__" "Draft.__init__" (defArgs s_Draft_init) (defBody s_Draft_init) (defScope s_Draft_init) (.ref dT12) kV12 dc12 pm12 an12 cd12 ct12), sl12⟩) (c12 : PySem.W.codeIn K cd12 "Draft.__init__" = true) (k12 : PySem.W.keepIn K (.ref f12) = true)
    (t12 : K.lookup dT12 = some oT12) (e12 : oT12.data = .seq (([.none] : List Value).toArray) nT12)
    (a13 : PySem.W.findIn K (.ref c_Draft) "put" = some (some (.ref f13))) (g13 : PySem.W.isFn K (.ref f13) = true)
    (l13 : K.lookup f13 = some ⟨oc13, od13, .func (PySem.W.fnOf "put" "Draft.put" (defArgs s_Draft_put) (defBody s_Draft_put) (defScope s_Draft_put) .none kV13 dc13 pm13 an13 cd13 ct13), sl13⟩) (c13 : PySem.W.codeIn K cd13 "Draft.put" = true) (k13 : PySem.W.keepIn K (.ref f13) = true)
    (a14 : PySem.W.findIn K (.ref c_Draft) "present" = some (some (.ref q14))) (r14 : PySem.W.recIn K q14 "property" = some (.ref f14 :: rs14)) (u14 : PySem.W.specialIn K (.ref q14) "__get__" = some (some (.builtin "property.__get__"))) (v14 : PySem.W.takesIn K (.ref q14) = some true)
    (l14 : K.lookup f14 = some ⟨oc14, od14, .func (PySem.W.fnOf "present" "Draft.present" (defArgs s_Draft_present) (defBody s_Draft_present) (defScope s_Draft_present) .none kV14 dc14 pm14 an14 cd14 ct14), sl14⟩) (c14 : PySem.W.codeIn K cd14 "Draft.present" = true) (k14 : PySem.W.keepIn K (.ref f14) = true)
    (a15 : PySem.W.findIn K (.ref c_Draft) "__getitem__" = some (some (.ref f15))) (g15 : PySem.W.isFn K (.ref f15) = true)
    (l15 : K.lookup f15 = some ⟨oc15, od15, .func (PySem.W.fnOf "__getitem__" "Draft.__getitem__" (defArgs s_Draft___getitem__) (defBody s_Draft___getitem__) (defScope s_Draft___getitem__) .none kV15 dc15 pm15 an15 cd15 ct15), sl15⟩) (c15 : PySem.W.codeIn K cd15 "Draft.__getitem__" = true) (k15 : PySem.W.keepIn K (.ref f15) = true)
    (a16 : PySem.W.findIn K (.ref c_Draft) "__setitem__" = some (some (.ref f16))) (g16 : PySem.W.isFn K (.ref f16) = true)
    (l16 : K.lookup f16 = some ⟨oc16, od16, .func (PySem.W.fnOf "__setitem__" "Draft.__setitem__" (defArgs s_Draft___setitem__) (defBody s_Draft___setitem__) (defScope s_Draft___setitem__) .none kV16 dc16 pm16 an16 cd16 ct16), sl16⟩) (c16 : PySem.W.codeIn K cd16 "Draft.__setitem__" = true) (k16 : PySem.W.keepIn K (.ref f16) = true)
    (a17 : PySem.W.findIn K (.ref c_Draft) "__ior__" = some (some (.ref f17))) (g17 : PySem.W.isFn K (.ref f17) = true)
    (l17 : K.lookup f17 = some ⟨oc17, od17, .func (PySem.W.fnOf "__ior__" "Draft.__ior__" (defArgs s_Draft___ior__) (defBody s_Draft___ior__) (defScope s_Draft___ior__) .none kV17 dc17 pm17 an17 cd17 ct17), sl17⟩) (c17 : PySem.W.codeIn K cd17 "Draft.__ior__" = true) (k17 : PySem.W.keepIn K (.ref f17) = true)
    (a18 : PySem.W.findIn K (.ref c_Draft) "__eq__" = some (some (.ref f18))) (g18 : PySem.W.isFn K (.ref f18) = true)
    (l18 : K.lookup f18 = some ⟨oc18, od18, .func (PySem.W.fnOf "__eq__" "Draft.__eq__" (defArgs s_Draft___eq__) (defBody s_Draft___eq__) (defScope s_Draft___eq__) .none kV18 dc18 pm18 an18 cd18 ct18), sl18⟩) (c18 : PySem.W.codeIn K cd18 "Draft.__eq__" = true) (k18 : PySem.W.keepIn K (.ref f18) = true)
    (a19 : PySem.W.findIn K (.ref c_Draft) "__repr__" = some (some (.ref f19))) (g19 : PySem.W.isFn K (.ref f19) = true)
    (l19 : K.lookup f19 = some ⟨oc19, od19, .func (PySem.W.fnOf "__repr__" "Draft.__repr__" (defArgs s_Draft___repr__) (defBody s_Draft___repr__) (defScope s_Draft___repr__) .none kV19 dc19 pm19 an19 cd19 ct19), sl19⟩) (c19 : PySem.W.codeIn K cd19 "Draft.__repr__" = true) (k19 : PySem.W.keepIn K (.ref f19) = true)
    (a20 : PySem.W.nsIn K mainGlobals "_law_pen" = some (some (.ref f20)))
    (l20 : K.lookup f20 = some ⟨oc20, od20, .func (PySem.W.fnOf "_law_pen" "_law_pen" (defArgs s__law_pen) (defBody s__law_pen) (defScope s__law_pen) .none kV20 dc20 pm20 an20 cd20 ct20), sl20⟩) (c20 : PySem.W.codeIn K cd20 "_law_pen" = true) (k20 : PySem.W.keepIn K (.ref f20) = true)
    (a21 : PySem.W.nsIn K mainGlobals "_law_draw" = some (some (.ref f21)))
    (l21 : K.lookup f21 = some ⟨oc21, od21, .func (PySem.W.fnOf "_law_draw" "_law_draw" (defArgs s__law_draw) (defBody s__law_draw) (defScope s__law_draw) .none kV21 dc21 pm21 an21 cd21 ct21), sl21⟩) (c21 : PySem.W.codeIn K cd21 "_law_draw" = true) (k21 : PySem.W.keepIn K (.ref f21) = true)
    (a22 : PySem.W.nsIn K mainGlobals "_law_pick" = some (some (.ref f22)))
    (l22 : K.lookup f22 = some ⟨oc22, od22, .func (PySem.W.fnOf "_law_pick" "_law_pick" (defArgs s__law_pick) (defBody s__law_pick) (defScope s__law_pick) .none kV22 dc22 pm22 an22 cd22 ct22), sl22⟩) (c22 : PySem.W.codeIn K cd22 "_law_pick" = true) (k22 : PySem.W.keepIn K (.ref f22) = true)
    (a23 : PySem.W.nsIn K mainGlobals "_law_pairs" = some (some (.ref f23)))
    (l23 : K.lookup f23 = some ⟨oc23, od23, .func (PySem.W.fnOf "_law_pairs" "_law_pairs" (defArgs s__law_pairs) (defBody s__law_pairs) (defScope s__law_pairs) .none kV23 dc23 pm23 an23 cd23 ct23), sl23⟩) (c23 : PySem.W.codeIn K cd23 "_law_pairs" = true) (k23 : PySem.W.keepIn K (.ref f23) = true)
    (a24 : PySem.W.nsIn K mainGlobals "_law_due_of" = some (some (.ref f24)))
    (l24 : K.lookup f24 = some ⟨oc24, od24, .func (PySem.W.fnOf "_law_due_of" "_law_due_of" (defArgs s__law_due_of) (defBody s__law_due_of) (defScope s__law_due_of) .none kV24 dc24 pm24 an24 cd24 ct24), sl24⟩) (c24 : PySem.W.codeIn K cd24 "_law_due_of" = true) (k24 : PySem.W.keepIn K (.ref f24) = true)
    (a25 : PySem.W.nsIn K mainGlobals "_law_refusal" = some (some (.ref f25)))
    (l25 : K.lookup f25 = some ⟨oc25, od25, .func (PySem.W.fnOf "_law_refusal" "_law_refusal" (defArgs s__law_refusal) (defBody s__law_refusal) (defScope s__law_refusal) .none kV25 dc25 pm25 an25 cd25 ct25), sl25⟩) (c25 : PySem.W.codeIn K cd25 "_law_refusal" = true) (k25 : PySem.W.keepIn K (.ref f25) = true)
    (a26 : PySem.W.nsIn K mainGlobals "_law_united" = some (some (.ref f26)))
    (l26 : K.lookup f26 = some ⟨oc26, od26, .func (PySem.W.fnOf "_law_united" "_law_united" (defArgs s__law_united) (defBody s__law_united) (defScope s__law_united) .none kV26 dc26 pm26 an26 cd26 ct26), sl26⟩) (c26 : PySem.W.codeIn K cd26 "_law_united" = true) (k26 : PySem.W.keepIn K (.ref f26) = true)
    (a27 : PySem.W.nsIn K mainGlobals "_law_tells" = some (some (.ref f27)))
    (l27 : K.lookup f27 = some ⟨oc27, od27, .func (PySem.W.fnOf "_law_tells" "_law_tells" (defArgs s__law_tells) (defBody s__law_tells) (defScope s__law_tells) .none kV27 dc27 pm27 an27 cd27 ct27), sl27⟩) (c27 : PySem.W.codeIn K cd27 "_law_tells" = true) (k27 : PySem.W.keepIn K (.ref f27) = true)
    (a28 : PySem.W.nsIn K mainGlobals "_law_read_refusal" = some (some (.ref f28)))
    (l28 : K.lookup f28 = some ⟨oc28, od28, .func (PySem.W.fnOf "_law_read_refusal" "_law_read_refusal" (defArgs s__law_read_refusal) (defBody s__law_read_refusal) (defScope s__law_read_refusal) .none kV28 dc28 pm28 an28 cd28 ct28), sl28⟩) (c28 : PySem.W.codeIn K cd28 "_law_read_refusal" = true) (k28 : PySem.W.keepIn K (.ref f28) = true)
    (a29 : PySem.W.nsIn K mainGlobals "_law_set_wrongly" = some (some (.ref f29)))
    (l29 : K.lookup f29 = some ⟨oc29, od29, .func (PySem.W.fnOf "_law_set_wrongly" "_law_set_wrongly" (defArgs s__law_set_wrongly) (defBody s__law_set_wrongly) (defScope s__law_set_wrongly) .none kV29 dc29 pm29 an29 cd29 ct29), sl29⟩) (c29 : PySem.W.codeIn K cd29 "_law_set_wrongly" = true) (k29 : PySem.W.keepIn K (.ref f29) = true)
    (a30 : PySem.W.nsIn K mainGlobals "_law_deed" = some (some (.ref f30)))
    (l30 : K.lookup f30 = some ⟨oc30, od30, .func (PySem.W.fnOf "_law_deed" "_law_deed" (defArgs s__law_deed) (defBody s__law_deed) (defScope s__law_deed) .none kV30 dc30 pm30 an30 cd30 ct30), sl30⟩) (c30 : PySem.W.codeIn K cd30 "_law_deed" = true) (k30 : PySem.W.keepIn K (.ref f30) = true)
    (a31 : PySem.W.nsIn K mainGlobals "law" = some (some (.ref f31)))
    (l31 : K.lookup f31 = some ⟨oc31, od31, .func (PySem.W.fnOf "law" "law" (defArgs s_law) (defBody s_law) (defScope s_law) .none kV31 dc31 pm31 an31 cd31 ct31), sl31⟩) (c31 : PySem.W.codeIn K cd31 "law" = true) (k31 : PySem.W.keepIn K (.ref f31) = true)
    (z_abs : PySem.W.nsIn K mainGlobals "abs" = some none)
    (z_all : PySem.W.nsIn K mainGlobals "all" = some none)
    (z_bool : PySem.W.nsIn K mainGlobals "bool" = some none)
    (z_classmethod : PySem.W.nsIn K mainGlobals "classmethod" = some none)
    (z_dict : PySem.W.nsIn K mainGlobals "dict" = some none)
    (z_int : PySem.W.nsIn K mainGlobals "int" = some none)
    (z_isinstance : PySem.W.nsIn K mainGlobals "isinstance" = some none)
    (z_len : PySem.W.nsIn K mainGlobals "len" = some none)
    (z_list : PySem.W.nsIn K mainGlobals "list" = some none)
    (z_property : PySem.W.nsIn K mainGlobals "property" = some none)
    (z_range : PySem.W.nsIn K mainGlobals "range" = some none)
    (z_repr : PySem.W.nsIn K mainGlobals "repr" = some none)
    (z_sorted : PySem.W.nsIn K mainGlobals "sorted" = some none)
    (z_str : PySem.W.nsIn K mainGlobals "str" = some none)
    (z_tuple : PySem.W.nsIn K mainGlobals "tuple" = some none)
    (y_LETTERS : PySem.W.nsIn K mainGlobals "LETTERS" = some (some (Value.str "abcdefghijklmnopqrstuvwxyz" u_LETTERS)))
    (y_MOST_SIGNS : PySem.W.nsIn K mainGlobals "MOST_SIGNS" = some (some (Value.int 8 u_MOST_SIGNS)))
    (y_RESERVED : PySem.W.nsIn K mainGlobals "RESERVED" = some (some (.ref q_RESERVED))) (w_RESERVED : K.lookup q_RESERVED = some o_RESERVED) (w2_RESERVED : o_RESERVED.cls = .type "tuple" ∧ o_RESERVED.data = .seq i_RESERVED n_RESERVED ∧ i_RESERVED.size ≤ sizeLine ∧ Vals [.str "to", .str "if", .str "tag", .str "all", .str "none"] i_RESERVED.toList)
    (y_SIGNS : PySem.W.nsIn K mainGlobals "SIGNS" = some (some (Value.str "abcdefghijklmnopqrstuvwxyz0123456789" u_SIGNS)))
    (aO : PySem.W.nsIn K mainGlobals "OrError" = some (some (.ref cO)))
    (aC_InvalidName : PySem.W.nsIn K mainGlobals "InvalidName" = some (some (.ref c_InvalidName))) (xL_InvalidName : K.lookup c_InvalidName = some (excClassObj nm_InvalidName q_InvalidName c_InvalidName N_InvalidName bs_InvalidName [.ref cO, .type "ValueError", .type "Exception", .type "BaseException", .type "object"] true sn_InvalidName sub_InvalidName ab_InvalidName col_InvalidName dd_InvalidName m0_InvalidName m1_InvalidName m2_InvalidName m3_InvalidName m5_InvalidName "ValueError.__new__"))
    (iC_InvalidName : PySem.W.findIn K (.ref c_InvalidName) "__init__" = some (some (.ref g_InvalidName))) (iT_InvalidName : PySem.W.typeIn K (.ref g_InvalidName) = some (.type "function")) (lC_InvalidName : K.lookup g_InvalidName = some ⟨oc_InvalidName, od_InvalidName, .func (PySem.W.fnOf "__init__" "InvalidName.__init__" (defArgs s_InvalidName_init) (defBody s_InvalidName_init) (defScope s_InvalidName_init) .none kV_InvalidName dc_InvalidName pm_InvalidName an_InvalidName cd_InvalidName ct_InvalidName), sl_InvalidName⟩) (cC_InvalidName : PySem.W.codeIn K cd_InvalidName "InvalidName.__init__" = true) (kC_InvalidName : PySem.W.keepIn K (.ref g_InvalidName) = true)
    (sa_InvalidName : PySem.W.findIn K (.ref c_InvalidName) "__setattr__" = some (some (.builtin "object.__setattr__"))) (eC_InvalidName : PySem.W.subIn K (.ref c_InvalidName) (.type "BaseException") = some true) (tC_InvalidName : PySem.W.typeIn K (.ref c_InvalidName) = some (.type "type")) (pC_InvalidName : PySem.W.keepIn K (.ref c_InvalidName) = true) (ga_InvalidName : PySem.W.findIn K (.ref c_InvalidName) "__getattribute__" = some (some (.builtin "BaseException.__getattribute__"))) (gg_InvalidName : PySem.W.findIn K (.ref c_InvalidName) "__getattr__" = some none) (cl_InvalidName : PySem.W.findIn K (.ref c_InvalidName) "__class__" = some (some (.builtin "object.__class__"))) (hd_InvalidName : PySem.W.hasDictIn K c_InvalidName = true) (ic_InvalidName : PySem.W.isClsIn K c_InvalidName = true) (ob_InvalidName : PySem.W.mroIn K c_InvalidName (.type "object") = some true)
    (no_InvalidName_value : PySem.W.findIn K (.ref c_InvalidName) "value" = some none)
    (aC_InvalidNumber : PySem.W.nsIn K mainGlobals "InvalidNumber" = some (some (.ref c_InvalidNumber))) (xL_InvalidNumber : K.lookup c_InvalidNumber = some (excClassObj nm_InvalidNumber q_InvalidNumber c_InvalidNumber N_InvalidNumber bs_InvalidNumber [.ref cO, .type "ValueError", .type "Exception", .type "BaseException", .type "object"] true sn_InvalidNumber sub_InvalidNumber ab_InvalidNumber col_InvalidNumber dd_InvalidNumber m0_InvalidNumber m1_InvalidNumber m2_InvalidNumber m3_InvalidNumber m5_InvalidNumber "ValueError.__new__"))
    (iC_InvalidNumber : PySem.W.findIn K (.ref c_InvalidNumber) "__init__" = some (some (.ref g_InvalidNumber))) (iT_InvalidNumber : PySem.W.typeIn K (.ref g_InvalidNumber) = some (.type "function")) (lC_InvalidNumber : K.lookup g_InvalidNumber = some ⟨oc_InvalidNumber, od_InvalidNumber, .func (PySem.W.fnOf "__init__" "InvalidNumber.__init__" (defArgs s_InvalidNumber_init) (defBody s_InvalidNumber_init) (defScope s_InvalidNumber_init) .none kV_InvalidNumber dc_InvalidNumber pm_InvalidNumber an_InvalidNumber cd_InvalidNumber ct_InvalidNumber), sl_InvalidNumber⟩) (cC_InvalidNumber : PySem.W.codeIn K cd_InvalidNumber "InvalidNumber.__init__" = true) (kC_InvalidNumber : PySem.W.keepIn K (.ref g_InvalidNumber) = true)
    (sa_InvalidNumber : PySem.W.findIn K (.ref c_InvalidNumber) "__setattr__" = some (some (.builtin "object.__setattr__"))) (eC_InvalidNumber : PySem.W.subIn K (.ref c_InvalidNumber) (.type "BaseException") = some true) (tC_InvalidNumber : PySem.W.typeIn K (.ref c_InvalidNumber) = some (.type "type")) (pC_InvalidNumber : PySem.W.keepIn K (.ref c_InvalidNumber) = true) (ga_InvalidNumber : PySem.W.findIn K (.ref c_InvalidNumber) "__getattribute__" = some (some (.builtin "BaseException.__getattribute__"))) (gg_InvalidNumber : PySem.W.findIn K (.ref c_InvalidNumber) "__getattr__" = some none) (cl_InvalidNumber : PySem.W.findIn K (.ref c_InvalidNumber) "__class__" = some (some (.builtin "object.__class__"))) (hd_InvalidNumber : PySem.W.hasDictIn K c_InvalidNumber = true) (ic_InvalidNumber : PySem.W.isClsIn K c_InvalidNumber = true) (ob_InvalidNumber : PySem.W.mroIn K c_InvalidNumber (.type "object") = some true)
    (no_InvalidNumber_value : PySem.W.findIn K (.ref c_InvalidNumber) "value" = some none)
    (aC_FieldClash : PySem.W.nsIn K mainGlobals "FieldClash" = some (some (.ref c_FieldClash))) (xL_FieldClash : K.lookup c_FieldClash = some (excClassObj nm_FieldClash q_FieldClash c_FieldClash N_FieldClash bs_FieldClash [.ref cO, .type "ValueError", .type "Exception", .type "BaseException", .type "object"] true sn_FieldClash sub_FieldClash ab_FieldClash col_FieldClash dd_FieldClash m0_FieldClash m1_FieldClash m2_FieldClash m3_FieldClash m5_FieldClash "ValueError.__new__"))
    (iC_FieldClash : PySem.W.findIn K (.ref c_FieldClash) "__init__" = some (some (.ref g_FieldClash))) (iT_FieldClash : PySem.W.typeIn K (.ref g_FieldClash) = some (.type "function")) (lC_FieldClash : K.lookup g_FieldClash = some ⟨oc_FieldClash, od_FieldClash, .func (PySem.W.fnOf "__init__" "FieldClash.__init__" (defArgs s_FieldClash_init) (defBody s_FieldClash_init) (defScope s_FieldClash_init) .none kV_FieldClash dc_FieldClash pm_FieldClash an_FieldClash cd_FieldClash ct_FieldClash), sl_FieldClash⟩) (cC_FieldClash : PySem.W.codeIn K cd_FieldClash "FieldClash.__init__" = true) (kC_FieldClash : PySem.W.keepIn K (.ref g_FieldClash) = true)
    (sa_FieldClash : PySem.W.findIn K (.ref c_FieldClash) "__setattr__" = some (some (.builtin "object.__setattr__"))) (eC_FieldClash : PySem.W.subIn K (.ref c_FieldClash) (.type "BaseException") = some true) (tC_FieldClash : PySem.W.typeIn K (.ref c_FieldClash) = some (.type "type")) (pC_FieldClash : PySem.W.keepIn K (.ref c_FieldClash) = true) (ga_FieldClash : PySem.W.findIn K (.ref c_FieldClash) "__getattribute__" = some (some (.builtin "BaseException.__getattribute__"))) (gg_FieldClash : PySem.W.findIn K (.ref c_FieldClash) "__getattr__" = some none) (cl_FieldClash : PySem.W.findIn K (.ref c_FieldClash) "__class__" = some (some (.builtin "object.__class__"))) (hd_FieldClash : PySem.W.hasDictIn K c_FieldClash = true) (ic_FieldClash : PySem.W.isClsIn K c_FieldClash = true) (ob_FieldClash : PySem.W.mroIn K c_FieldClash (.type "object") = some true)
    (no_FieldClash_field : PySem.W.findIn K (.ref c_FieldClash) "field" = some none)
    (no_FieldClash_one : PySem.W.findIn K (.ref c_FieldClash) "one" = some none)
    (no_FieldClash_other : PySem.W.findIn K (.ref c_FieldClash) "other" = some none)
    (zg : PySem.W.specialIn K (.builtin "object.__class__") "__get__" = some (some (.builtin "getset_descriptor.__get__"))) (zt : PySem.W.takesIn K (.builtin "object.__class__") = some true)
    (xmFieldClashFieldClash : PySem.W.exmOne K (.ref c_FieldClash) (.ref c_FieldClash) = some true)
    (xmInvalidNameInvalidName : PySem.W.exmOne K (.ref c_InvalidName) (.ref c_InvalidName) = some true)
    (xmInvalidNameInvalidNumber : PySem.W.exmOne K (.ref c_InvalidName) (.ref c_InvalidNumber) = some false)
    (xmInvalidNumberInvalidName : PySem.W.exmOne K (.ref c_InvalidNumber) (.ref c_InvalidName) = some false)
    (xmInvalidNumberInvalidNumber : PySem.W.exmOne K (.ref c_InvalidNumber) (.ref c_InvalidNumber) = some true)
    (koFieldClashClash : PySem.W.kitOne K (.ref c_FieldClash) (.ref cCl) = some false)
    (koInvalidNumberInvalidName : PySem.W.kitOne K (.ref c_InvalidNumber) (.ref c_InvalidName) = some false)
    (cvM : PySem.W.findCls K (.ref c_Signals) (.type "type") "MOST" = some (.val (Value.int 1000000000 tM)))
    (caS : PySem.W.findIn K (.ref c_Signals) "__class__" = some (some (.builtin "object.__class__")))
    (moS : PySem.W.mroIn K c_Signals (.type "object") = some true)
    (neS : PySem.W.findIn K (.ref c_Signals) "__ne__" = some (some (.builtin "object.__ne__")))
    (fiG : PySem.W.fnIn K f7 = true)
    (kiself : PySem.W.kitOne K (.ref c_Signals) (.ref c_Signals) = some true)
    (kitup : PySem.W.kitOne K (.type "tuple") (.ref c_Signals) = some false)
    (kinon : PySem.W.kitOne K (.type "NoneType") (.ref c_Signals) = some false)
    (sutup : PySem.W.subIn K (.type "tuple") (.ref c_Signals) = some false)
    (sunon : PySem.W.subIn K (.type "NoneType") (.ref c_Signals) = some false)
    (aCl : PySem.W.nsIn K mainGlobals "Clash" = some (some (.ref cCl)))
    (fiD : PySem.W.fnIn K f15 = true)
    (nsD : PySem.W.noSeq K c_Draft = true)
    (sfD : PySem.W.selfFirst K c_Draft = true)
    (caD : PySem.W.findIn K (.ref c_Draft) "__class__" = some (some (.builtin "object.__class__")))
    (moD : PySem.W.mroIn K c_Draft (.type "object") = some true)
    (neD : PySem.W.findIn K (.ref c_Draft) "__ne__" = some (some (.builtin "object.__ne__")))
    (kdS : PySem.W.kitOne K (.ref c_Draft) (.ref c_Draft) = some true)
    (kdG : PySem.W.kitOne K (.ref c_Signals) (.ref c_Draft) = some false)
    (sbG : PySem.W.subIn K (.ref c_Signals) (.ref c_Draft) = some false) :
    ∃ fd : FuncData, (∀ (s : Shared) (v : Value), BindsTo s fd ⟨[v], []⟩ [("_law_script", v)]) ∧ ∀ base : Heap, K.In base → base.Ns mainGlobals mg → FnG l.prog w K mg base 14 fa fd ["_law_script"] (spLaw K) := by
  have e := hfa.symm.trans (PySem.W.mg_of X G a31)
  cases e
  have F1 := fun_mk (st := s_is_name) l1 c1 k1
  have b1 := F1.binds (ps := ["value"]) fun _ _ _ _ _ _ us hl => match us, hl with | [_], _ => rfl
  have F2 := fun_mk (st := s_is_integer) l2 c2 k2
  have b2 := F2.binds (ps := ["value", "least", "most"]) fun _ _ _ _ _ _ us hl => match us, hl with | [_, _, _], _ => rfl
  have F3 := fun_mk (st := s_check_field) l3 c3 k3
  have b3 := F3.binds (ps := ["field"]) fun _ _ _ _ _ _ us hl => match us, hl with | [_], _ => rfl
  have F4 := fun_mk (st := s_check_number) l4 c4 k4
  have b4 := F4.binds (ps := ["number"]) fun _ _ _ _ _ _ us hl => match us, hl with | [_], _ => rfl
  have F5 := fun_mk (st := s_Signals_init) l5 c5 k5
  have F6 := fun_mk (st := s_Signals_of) l6 c6 k6
  have b6 := F6.binds (ps := ["cls", "pairs"]) fun _ _ _ _ _ _ us hl => match us, hl with | [_, _], _ => rfl
  have F7 := fun_mk (st := s_Signals___getitem__) l7 c7 k7
  have b7 := F7.binds (ps := ["self", "at"]) fun _ _ _ _ _ _ us hl => match us, hl with | [_, _], _ => rfl
  have F8 := fun_mk (st := s_Signals___eq__) l8 c8 k8
  have b8 := F8.binds (ps := ["self", "other"]) fun _ _ _ _ _ _ us hl => match us, hl with | [_, _], _ => rfl
  have F9 := fun_mk (st := s_clash_of) l9 c9 k9
  have b9 := F9.binds (ps := ["one", "other"]) fun _ _ _ _ _ _ us hl => match us, hl with | [_, _], _ => rfl
  have F10 := fun_mk (st := s_check_union) l10 c10 k10
  have b10 := F10.binds (ps := ["one", "other"]) fun _ _ _ _ _ _ us hl => match us, hl with | [_, _], _ => rfl
  have F11 := fun_mk (st := s_told_text) l11 c11 k11
  have b11 := F11.binds (ps := ["signals"]) fun _ _ _ _ _ _ us hl => match us, hl with | [_], _ => rfl
  have F12 : FunD K "__init__" "Draft.__init__" (defArgs s_Draft_init) (defBody s_Draft_init) (defScope s_Draft_init) [.non] [] f12 (PySem.W.fnOf "__init__" "Draft.__init__" (defArgs s_Draft_init) (defBody s_Draft_init) (defScope s_Draft_init) (.ref dT12) kV12 dc12 pm12 an12 cd12 ct12) := ⟨⟨oc12, od12, .ref dT12, kV12, dc12, pm12, an12, cd12, ct12, sl12, rfl, l12, c12, .inr ⟨by simp, dT12, oT12, [.none], nT12, rfl, t12, e12, .cons rfl .nil⟩, .inl rfl⟩, k12⟩
  obtain ⟨ds12, vd12, bd12⟩ := F12.binds1 (ps := ["self", "signals"]) 1 0 (by simp) rfl fun _ _ _ _ _ _ _ us its hu hi => match us, its, hu, hi with | [_], [_], _, _ => ⟨_, rfl, rfl⟩
  obtain ⟨es12, ve12, be12⟩ := F12.binds1 (ps := ["self", "signals"]) 2 1 (by simp) rfl fun _ _ _ _ _ _ _ us its hu hi => match us, its, hu, hi with | [_, _], [_], _, _ => ⟨_, rfl, rfl⟩
  obtain rfl : es12 = [] := by cases ve12; rfl
  have b12 := be12
  have F13 := fun_mk (st := s_Draft_put) l13 c13 k13
  have b13 := F13.binds (ps := ["self", "signals"]) fun _ _ _ _ _ _ us hl => match us, hl with | [_, _], _ => rfl
  have F14 := fun_mk (st := s_Draft_present) l14 c14 k14
  have b14 := F14.binds (ps := ["self"]) fun _ _ _ _ _ _ us hl => match us, hl with | [_], _ => rfl
  have F15 := fun_mk (st := s_Draft___getitem__) l15 c15 k15
  have b15 := F15.binds (ps := ["self", "at"]) fun _ _ _ _ _ _ us hl => match us, hl with | [_, _], _ => rfl
  have F16 := fun_mk (st := s_Draft___setitem__) l16 c16 k16
  have b16 := F16.binds (ps := ["self", "at", "worth"]) fun _ _ _ _ _ _ us hl => match us, hl with | [_, _, _], _ => rfl
  have F17 := fun_mk (st := s_Draft___ior__) l17 c17 k17
  have b17 := F17.binds (ps := ["self", "other"]) fun _ _ _ _ _ _ us hl => match us, hl with | [_, _], _ => rfl
  have F18 := fun_mk (st := s_Draft___eq__) l18 c18 k18
  have b18 := F18.binds (ps := ["self", "other"]) fun _ _ _ _ _ _ us hl => match us, hl with | [_, _], _ => rfl
  have F19 := fun_mk (st := s_Draft___repr__) l19 c19 k19
  have b19 := F19.binds (ps := ["self"]) fun _ _ _ _ _ _ us hl => match us, hl with | [_], _ => rfl
  have F20 := fun_mk (st := s__law_pen) l20 c20 k20
  have b20 := F20.binds (ps := ["_law_script"]) fun _ _ _ _ _ _ us hl => match us, hl with | [_], _ => rfl
  have F21 := fun_mk (st := s__law_draw) l21 c21 k21
  have b21 := F21.binds (ps := ["_law_pen_here", "_law_many"]) fun _ _ _ _ _ _ us hl => match us, hl with | [_, _], _ => rfl
  have F22 := fun_mk (st := s__law_pick) l22 c22 k22
  have b22 := F22.binds (ps := ["_law_pen_here", "_law_some"]) fun _ _ _ _ _ _ us hl => match us, hl with | [_, _], _ => rfl
  have F23 := fun_mk (st := s__law_pairs) l23 c23 k23
  have b23 := F23.binds (ps := ["_law_pen_here", "_law_most"]) fun _ _ _ _ _ _ us hl => match us, hl with | [_, _], _ => rfl
  have F24 := fun_mk (st := s__law_due_of) l24 c24 k24
  have b24 := F24.binds (ps := ["_law_pairs_here"]) fun _ _ _ _ _ _ us hl => match us, hl with | [_], _ => rfl
  have F25 := fun_mk (st := s__law_refusal) l25 c25 k25
  have b25 := F25.binds (ps := ["_law_draft", "_law_name", "_law_number"]) fun _ _ _ _ _ _ us hl => match us, hl with | [_, _, _], _ => rfl
  have F26 := fun_mk (st := s__law_united) l26 c26 k26
  have b26 := F26.binds (ps := ["_law_draft", "_law_signals"]) fun _ _ _ _ _ _ us hl => match us, hl with | [_, _], _ => rfl
  have F27 := fun_mk (st := s__law_tells) l27 c27 k27
  have b27 := F27.binds (ps := ["_law_draft", "_law_numbers"]) fun _ _ _ _ _ _ us hl => match us, hl with | [_, _], _ => rfl
  have F28 := fun_mk (st := s__law_read_refusal) l28 c28 k28
  have b28 := F28.binds (ps := ["_law_draft", "_law_field"]) fun _ _ _ _ _ _ us hl => match us, hl with | [_, _], _ => rfl
  have F29 := fun_mk (st := s__law_set_wrongly) l29 c29 k29
  have b29 := F29.binds (ps := ["_law_pen_here", "_law_draft"]) fun _ _ _ _ _ _ us hl => match us, hl with | [_, _], _ => rfl
  have F30 := fun_mk (st := s__law_deed) l30 c30 k30
  have b30 := F30.binds (ps := ["_law_pen_here", "_law_draft", "_law_numbers"]) fun _ _ _ _ _ _ us hl => match us, hl with | [_, _, _], _ => rfl
  have F31 := fun_mk (st := s_law) l31 c31 k31
  have b31 := F31.binds (ps := ["_law_script"]) fun _ _ _ _ _ _ us hl => match us, hl with | [_], _ => rfl
  have F_InvalidName := fun_mk (st := s_InvalidName_init) lC_InvalidName cC_InvalidName kC_InvalidName
  have b_InvalidName := F_InvalidName.binds (ps := ["self", "value"]) fun _ _ _ _ _ _ us hl => match us, hl with | [_, _], _ => rfl
  have F_InvalidNumber := fun_mk (st := s_InvalidNumber_init) lC_InvalidNumber cC_InvalidNumber kC_InvalidNumber
  have b_InvalidNumber := F_InvalidNumber.binds (ps := ["self", "value"]) fun _ _ _ _ _ _ us hl => match us, hl with | [_, _], _ => rfl
  have F_FieldClash := fun_mk (st := s_FieldClash_init) lC_FieldClash cC_FieldClash kC_FieldClash
  have b_FieldClash := F_FieldClash.binds (ps := ["self", "field", "one", "other"]) fun _ _ _ _ _ _ us hl => match us, hl with | [_, _, _, _], _ => rfl
  let T : Txt K mg := {
    c_Signals := c_Signals,
    m_Signals := PySem.W.mg_of X G aR_Signals,
    mc_Signals := .type "type",
    k_Signals := ⟨pg_Signals, hdR_Signals, po_Signals, saR_Signals⟩,
    cr_Signals := ⟨rd_Signals, gaR_Signals⟩,
    na_told := na_Signals_told,
    na__numbers := na_Signals__numbers,
    c_Draft := c_Draft,
    m_Draft := PySem.W.mg_of X G aR_Draft,
    mc_Draft := .type "type",
    k_Draft := ⟨pg_Draft, hdR_Draft, po_Draft, saR_Draft⟩,
    cr_Draft := ⟨rd_Draft, gaR_Draft⟩,
    nd__numbers := na_Draft__numbers,
    mk_Signals := ⟨mk_Signals, a5, g5, kp_Signals⟩,
    q_of := q6,
    cm_of := ⟨a6, ⟨_, r6⟩, g6⟩,
    ow_get := ⟨a7, g7⟩,
    ow_eq := ⟨a8, g8⟩,
    mk_Draft := ⟨mk_Draft, a12, g12, kp_Draft⟩,
    mt_put := ⟨a13, g13, k13⟩,
    p_present := q14,
    pr_present := ⟨a14, u14, v14, ⟨_, r14⟩⟩,
    od_get := ⟨a15, g15⟩,
    od_set := ⟨a16, g16⟩,
    od_ior := ⟨a17, g17⟩,
    od_eq := ⟨a18, g18⟩,
    od_repr := ⟨a19, g19⟩,
    xm_FieldClash_FieldClash := xmFieldClashFieldClash,
    xm_InvalidName_InvalidName := xmInvalidNameInvalidName,
    xm_InvalidName_InvalidNumber := xmInvalidNameInvalidNumber,
    xm_InvalidNumber_InvalidName := xmInvalidNumberInvalidName,
    xm_InvalidNumber_InvalidNumber := xmInvalidNumberInvalidNumber,
    ko_FieldClash_Clash := koFieldClashClash,
    ko_InvalidNumber_InvalidName := koInvalidNumberInvalidName,
    u_MOST := _,
    cv_MOST := ⟨cvM, ⟨_, rfl⟩⟩,
    ca_Signals := caS,
    mo_Signals := moS,
    on_Signals := ⟨neS, moS⟩,
    fi_get := fiG,
    ki_self := kiself,
    ki_tup := kitup,
    ki_non := kinon,
    su_tup := sutup,
    su_non := sunon,
    c_Clash := cCl,
    m_Clash := PySem.W.mg_of X G aCl,
    fd_get := fiD,
    ns_Draft := nsD,
    sf_Draft := sfD,
    ca_Draft := caD,
    on_Draft := ⟨neD, moD⟩,
    kd_self := kdS,
    kd_sig := kdG,
    sb_sig := sbG,
    f_is_name := f1,
    fd_is_name := _,
    F_is_name := F1,
    b_is_name := b1,
    m_is_name := PySem.W.mg_of X G a1,
    f_is_integer := f2,
    fd_is_integer := _,
    F_is_integer := F2,
    b_is_integer := b2,
    m_is_integer := PySem.W.mg_of X G a2,
    f_check_field := f3,
    fd_check_field := _,
    F_check_field := F3,
    b_check_field := b3,
    m_check_field := PySem.W.mg_of X G a3,
    f_check_number := f4,
    fd_check_number := _,
    F_check_number := F4,
    b_check_number := b4,
    m_check_number := PySem.W.mg_of X G a4,
    f_Signals_init := f5,
    fd_Signals_init := _,
    F_Signals_init := F5,
    f_Signals_of := f6,
    fd_Signals_of := _,
    F_Signals_of := F6,
    b_Signals_of := b6,
    f_Signals___getitem__ := f7,
    fd_Signals___getitem__ := _,
    F_Signals___getitem__ := F7,
    b_Signals___getitem__ := b7,
    f_Signals___eq__ := f8,
    fd_Signals___eq__ := _,
    F_Signals___eq__ := F8,
    b_Signals___eq__ := b8,
    f_clash_of := f9,
    fd_clash_of := _,
    F_clash_of := F9,
    b_clash_of := b9,
    m_clash_of := PySem.W.mg_of X G a9,
    f_check_union := f10,
    fd_check_union := _,
    F_check_union := F10,
    b_check_union := b10,
    m_check_union := PySem.W.mg_of X G a10,
    f_told_text := f11,
    fd_told_text := _,
    F_told_text := F11,
    b_told_text := b11,
    m_told_text := PySem.W.mg_of X G a11,
    f_Draft_init := f12,
    fd_Draft_init := _,
    F_Draft_init := F12,
    b_Draft_init := b12,
    e_DI := ds12,
    v_DI := vd12,
    b0_DI := bd12,
    f_Draft_put := f13,
    fd_Draft_put := _,
    F_Draft_put := F13,
    b_Draft_put := b13,
    f_Draft_present := f14,
    fd_Draft_present := _,
    F_Draft_present := F14,
    b_Draft_present := b14,
    f_Draft___getitem__ := f15,
    fd_Draft___getitem__ := _,
    F_Draft___getitem__ := F15,
    b_Draft___getitem__ := b15,
    f_Draft___setitem__ := f16,
    fd_Draft___setitem__ := _,
    F_Draft___setitem__ := F16,
    b_Draft___setitem__ := b16,
    f_Draft___ior__ := f17,
    fd_Draft___ior__ := _,
    F_Draft___ior__ := F17,
    b_Draft___ior__ := b17,
    f_Draft___eq__ := f18,
    fd_Draft___eq__ := _,
    F_Draft___eq__ := F18,
    b_Draft___eq__ := b18,
    f_Draft___repr__ := f19,
    fd_Draft___repr__ := _,
    F_Draft___repr__ := F19,
    b_Draft___repr__ := b19,
    f__law_pen := f20,
    fd__law_pen := _,
    F__law_pen := F20,
    b__law_pen := b20,
    m__law_pen := PySem.W.mg_of X G a20,
    f__law_draw := f21,
    fd__law_draw := _,
    F__law_draw := F21,
    b__law_draw := b21,
    m__law_draw := PySem.W.mg_of X G a21,
    f__law_pick := f22,
    fd__law_pick := _,
    F__law_pick := F22,
    b__law_pick := b22,
    m__law_pick := PySem.W.mg_of X G a22,
    f__law_pairs := f23,
    fd__law_pairs := _,
    F__law_pairs := F23,
    b__law_pairs := b23,
    m__law_pairs := PySem.W.mg_of X G a23,
    f__law_due_of := f24,
    fd__law_due_of := _,
    F__law_due_of := F24,
    b__law_due_of := b24,
    m__law_due_of := PySem.W.mg_of X G a24,
    f__law_refusal := f25,
    fd__law_refusal := _,
    F__law_refusal := F25,
    b__law_refusal := b25,
    m__law_refusal := PySem.W.mg_of X G a25,
    f__law_united := f26,
    fd__law_united := _,
    F__law_united := F26,
    b__law_united := b26,
    m__law_united := PySem.W.mg_of X G a26,
    f__law_tells := f27,
    fd__law_tells := _,
    F__law_tells := F27,
    b__law_tells := b27,
    m__law_tells := PySem.W.mg_of X G a27,
    f__law_read_refusal := f28,
    fd__law_read_refusal := _,
    F__law_read_refusal := F28,
    b__law_read_refusal := b28,
    m__law_read_refusal := PySem.W.mg_of X G a28,
    f__law_set_wrongly := f29,
    fd__law_set_wrongly := _,
    F__law_set_wrongly := F29,
    b__law_set_wrongly := b29,
    m__law_set_wrongly := PySem.W.mg_of X G a29,
    f__law_deed := f30,
    fd__law_deed := _,
    F__law_deed := F30,
    b__law_deed := b30,
    m__law_deed := PySem.W.mg_of X G a30,
    f_law := fa,
    fd_law := _,
    F_law := F31,
    b_law := b31,
    m_law := PySem.W.mg_of X G a31,
    n_abs := PySem.W.mg_none_of X G z_abs,
    n_all := PySem.W.mg_none_of X G z_all,
    n_bool := PySem.W.mg_none_of X G z_bool,
    n_classmethod := PySem.W.mg_none_of X G z_classmethod,
    n_dict := PySem.W.mg_none_of X G z_dict,
    n_int := PySem.W.mg_none_of X G z_int,
    n_isinstance := PySem.W.mg_none_of X G z_isinstance,
    n_len := PySem.W.mg_none_of X G z_len,
    n_list := PySem.W.mg_none_of X G z_list,
    n_property := PySem.W.mg_none_of X G z_property,
    n_range := PySem.W.mg_none_of X G z_range,
    n_repr := PySem.W.mg_none_of X G z_repr,
    n_sorted := PySem.W.mg_none_of X G z_sorted,
    n_str := PySem.W.mg_none_of X G z_str,
    n_tuple := PySem.W.mg_none_of X G z_tuple,
    v_LETTERS := _,
    g_LETTERS := PySem.W.mg_of X G y_LETTERS,
    r_LETTERS := ⟨_, rfl⟩,
    v_MOST_SIGNS := _,
    g_MOST_SIGNS := PySem.W.mg_of X G y_MOST_SIGNS,
    r_MOST_SIGNS := ⟨_, rfl⟩,
    a_RESERVED := q_RESERVED,
    g_RESERVED := PySem.W.mg_of X G y_RESERVED,
    r_RESERVED := rfl,
    t_RESERVED := fun H => .inr ⟨o_RESERVED, i_RESERVED, n_RESERVED, w_RESERVED, w2_RESERVED.1, w2_RESERVED.2.1, w2_RESERVED.2.2.1, w2_RESERVED.2.2.2⟩,
    v_SIGNS := _,
    g_SIGNS := PySem.W.mg_of X G y_SIGNS,
    r_SIGNS := ⟨_, rfl⟩,
    c_InvalidName := c_InvalidName,
    f_InvalidName_init := g_InvalidName,
    fd_InvalidName_init := _,
    F_InvalidName_init := F_InvalidName,
    b_InvalidName_init := b_InvalidName,
    m_InvalidName := PySem.W.mg_of X G aC_InvalidName,
    ex_InvalidName := ⟨⟨⟨_, _, _, _, _, _, _, _, _, _, _, _, _, _, _, xL_InvalidName, rfl⟩, sa_InvalidName, eC_InvalidName, tC_InvalidName, pC_InvalidName⟩, iC_InvalidName, iT_InvalidName, ga_InvalidName, gg_InvalidName, cl_InvalidName, hd_InvalidName, ic_InvalidName, ob_InvalidName⟩,
    no_InvalidName_value := no_InvalidName_value,
    c_InvalidNumber := c_InvalidNumber,
    f_InvalidNumber_init := g_InvalidNumber,
    fd_InvalidNumber_init := _,
    F_InvalidNumber_init := F_InvalidNumber,
    b_InvalidNumber_init := b_InvalidNumber,
    m_InvalidNumber := PySem.W.mg_of X G aC_InvalidNumber,
    ex_InvalidNumber := ⟨⟨⟨_, _, _, _, _, _, _, _, _, _, _, _, _, _, _, xL_InvalidNumber, rfl⟩, sa_InvalidNumber, eC_InvalidNumber, tC_InvalidNumber, pC_InvalidNumber⟩, iC_InvalidNumber, iT_InvalidNumber, ga_InvalidNumber, gg_InvalidNumber, cl_InvalidNumber, hd_InvalidNumber, ic_InvalidNumber, ob_InvalidNumber⟩,
    no_InvalidNumber_value := no_InvalidNumber_value,
    c_FieldClash := c_FieldClash,
    f_FieldClash_init := g_FieldClash,
    fd_FieldClash_init := _,
    F_FieldClash_init := F_FieldClash,
    b_FieldClash_init := b_FieldClash,
    m_FieldClash := PySem.W.mg_of X G aC_FieldClash,
    ex_FieldClash := ⟨⟨⟨_, _, _, _, _, _, _, _, _, _, _, _, _, _, _, xL_FieldClash, rfl⟩, sa_FieldClash, eC_FieldClash, tC_FieldClash, pC_FieldClash⟩, iC_FieldClash, iT_FieldClash, ga_FieldClash, gg_FieldClash, cl_FieldClash, hd_FieldClash, ic_FieldClash, ob_FieldClash⟩,
    no_FieldClash_field := no_FieldClash_field,
    no_FieldClash_one := no_FieldClash_one,
    no_FieldClash_other := no_FieldClash_other,
    c_OrError := cO,
    m_OrError := PySem.W.mg_of X G aO,
    Z := ⟨zg, zt⟩ }
  exact ⟨PySem.W.fnOf "law" "law" (defArgs s_law) (defBody s_law) (defScope s_law) .none kV31 dc31 pm31 an31 cd31 ct31, fun s v => .of_eq rfl, fun base _ _ => ok_law T⟩
end Toy
open PySem PySem.W PyProof.Rows
set_option maxRecDepth 100000 in
set_option maxHeartbeats 0 in
theorem PySem.Challenge.cw_orplaces_k10_drafts_holds : PySem.Challenge.rw_orplaces_k10_drafts.Holds := by
  w_on; o_law; k_headL; (case hw => w_witness2)
  k_fill
  refine Lx.walkG (l := PySem.Challenge.rw_orplaces_k10_drafts) (n := 63) (k := 14) (x := "_law_script") (sp := fun w => Toy.spLaw _) rfl (by decide) rfl ⟨rfl, by decide, by decide⟩ (fun w h Y => PySem.W.kIn_of Y) ?F (fun _ _ a ns hl _ hS => ⟨a, ns, rfl, hS, hl, fun _ => rfl⟩)
  case F =>
    intro w mg fa h KX G hmg
    refine' Toy.all_mk KX G hmg ?aR_Signals ?pg_Signals ?hdR_Signals ?po_Signals ?saR_Signals ?mk_Signals ?kp_Signals ?rd_Signals ?gaR_Signals ?na_Signals_told ?na_Signals__numbers ?aR_Draft ?pg_Draft ?hdR_Draft ?po_Draft ?saR_Draft ?mk_Draft ?kp_Draft ?rd_Draft ?gaR_Draft ?na_Draft__numbers ?a1 ?l1 ?c1 ?k1 ?a2 ?l2 ?c2 ?k2 ?a3 ?l3 ?c3 ?k3 ?a4 ?l4 ?c4 ?k4 ?a5 ?g5 ?l5 ?c5 ?k5 ?a6 ?r6 ?g6 ?l6 ?c6 ?k6 ?a7 ?g7 ?l7 ?c7 ?k7 ?a8 ?g8 ?l8 ?c8 ?k8 ?a9 ?l9 ?c9 ?k9 ?a10 ?l10 ?c10 ?k10 ?a11 ?l11 ?c11 ?k11 ?a12 ?g12 ?l12 ?c12 ?k12 ?t12 ?e12 ?a13 ?g13 ?l13 ?c13 ?k13 ?a14 ?r14 ?u14 ?v14 ?l14 ?c14 ?k14 ?a15 ?g15 ?l15 ?c15 ?k15 ?a16 ?g16 ?l16 ?c16 ?k16 ?a17 ?g17 ?l17 ?c17 ?k17 ?a18 ?g18 ?l18 ?c18 ?k18 ?a19 ?g19 ?l19 ?c19 ?k19 ?a20 ?l20 ?c20 ?k20 ?a21 ?l21 ?c21 ?k21 ?a22 ?l22 ?c22 ?k22 ?a23 ?l23 ?c23 ?k23 ?a24 ?l24 ?c24 ?k24 ?a25 ?l25 ?c25 ?k25 ?a26 ?l26 ?c26 ?k26 ?a27 ?l27 ?c27 ?k27 ?a28 ?l28 ?c28 ?k28 ?a29 ?l29 ?c29 ?k29 ?a30 ?l30 ?c30 ?k30 ?a31 ?l31 ?c31 ?k31 ?z_abs ?z_all ?z_bool ?z_classmethod ?z_dict ?z_int ?z_isinstance ?z_len ?z_list ?z_property ?z_range ?z_repr ?z_sorted ?z_str ?z_tuple ?y_LETTERS ?y_MOST_SIGNS ?y_RESERVED ?w_RESERVED ?w2_RESERVED ?y_SIGNS ?aO ?aC_InvalidName ?xL_InvalidName ?iC_InvalidName ?iT_InvalidName ?lC_InvalidName ?cC_InvalidName ?kC_InvalidName ?sa_InvalidName ?eC_InvalidName ?tC_InvalidName ?pC_InvalidName ?ga_InvalidName ?gg_InvalidName ?cl_InvalidName ?hd_InvalidName ?ic_InvalidName ?ob_InvalidName ?no_InvalidName_value ?aC_InvalidNumber ?xL_InvalidNumber ?iC_InvalidNumber ?iT_InvalidNumber ?lC_InvalidNumber ?cC_InvalidNumber ?kC_InvalidNumber ?sa_InvalidNumber ?eC_InvalidNumber ?tC_InvalidNumber ?pC_InvalidNumber ?ga_InvalidNumber ?gg_InvalidNumber ?cl_InvalidNumber ?hd_InvalidNumber ?ic_InvalidNumber ?ob_InvalidNumber ?no_InvalidNumber_value ?aC_FieldClash ?xL_FieldClash ?iC_FieldClash ?iT_FieldClash ?lC_FieldClash ?cC_FieldClash ?kC_FieldClash ?sa_FieldClash ?eC_FieldClash ?tC_FieldClash ?pC_FieldClash ?ga_FieldClash ?gg_FieldClash ?cl_FieldClash ?hd_FieldClash ?ic_FieldClash ?ob_FieldClash ?no_FieldClash_field ?no_FieldClash_one ?no_FieldClash_other ?zg ?zt ?xmFieldClashFieldClash ?xmInvalidNameInvalidName ?xmInvalidNameInvalidNumber ?xmInvalidNumberInvalidName ?xmInvalidNumberInvalidNumber ?koFieldClashClash ?koInvalidNumberInvalidName ?cvM ?caS ?moS ?neS ?fiG ?kiself ?kitup ?kinon ?sutup ?sunon ?aCl ?fiD ?nsD ?sfD ?caD ?moD ?neD ?kdS ?kdG ?sbG
    (case aR_Signals => k_is)
    (case pg_Signals => k_is)
    (case hdR_Signals => k_is)
    (case po_Signals => k_is)
    (case saR_Signals => k_is)
    (case mk_Signals => k_is)
    (case kp_Signals => k_is)
    (case rd_Signals => k_is)
    (case gaR_Signals => k_is)
    (case na_Signals_told => k_is)
    (case na_Signals__numbers => k_is)
    (case aR_Draft => k_is)
    (case pg_Draft => k_is)
    (case hdR_Draft => k_is)
    (case po_Draft => k_is)
    (case saR_Draft => k_is)
    (case mk_Draft => k_is)
    (case kp_Draft => k_is)
    (case rd_Draft => k_is)
    (case gaR_Draft => k_is)
    (case na_Draft__numbers => k_is)
    (case a1 => k_is)
    (case l1 => k_is)
    (case c1 => k_is)
    (case k1 => k_is)
    (case a2 => k_is)
    (case l2 => k_is)
    (case c2 => k_is)
    (case k2 => k_is)
    (case a3 => k_is)
    (case l3 => k_is)
    (case c3 => k_is)
    (case k3 => k_is)
    (case a4 => k_is)
    (case l4 => k_is)
    (case c4 => k_is)
    (case k4 => k_is)
    (case a5 => k_is)
    (case g5 => k_is)
    (case l5 => k_is)
    (case c5 => k_is)
    (case k5 => k_is)
    (case a6 => k_is)
    (case r6 => k_is)
    (case g6 => k_is)
    (case l6 => k_is)
    (case c6 => k_is)
    (case k6 => k_is)
    (case a7 => k_is)
    (case g7 => k_is)
    (case l7 => k_is)
    (case c7 => k_is)
    (case k7 => k_is)
    (case a8 => k_is)
    (case g8 => k_is)
    (case l8 => k_is)
    (case c8 => k_is)
    (case k8 => k_is)
    (case a9 => k_is)
    (case l9 => k_is)
    (case c9 => k_is)
    (case k9 => k_is)
    (case a10 => k_is)
    (case l10 => k_is)
    (case c10 => k_is)
    (case k10 => k_is)
    (case a11 => k_is)
    (case l11 => k_is)
    (case c11 => k_is)
    (case k11 => k_is)
    (case a12 => k_is)
    (case g12 => k_is)
    (case l12 => k_is)
    (case c12 => k_is)
    (case k12 => k_is)
    (case t12 => k_is)
    (case e12 => exact rfl)
    (case a13 => k_is)
    (case g13 => k_is)
    (case l13 => k_is)
    (case c13 => k_is)
    (case k13 => k_is)
    (case a14 => k_is)
    (case r14 => k_is)
    (case u14 => k_is)
    (case v14 => k_is)
    (case l14 => k_is)
    (case c14 => k_is)
    (case k14 => k_is)
    (case a15 => k_is)
    (case g15 => k_is)
    (case l15 => k_is)
    (case c15 => k_is)
    (case k15 => k_is)
    (case a16 => k_is)
    (case g16 => k_is)
    (case l16 => k_is)
    (case c16 => k_is)
    (case k16 => k_is)
    (case a17 => k_is)
    (case g17 => k_is)
    (case l17 => k_is)
    (case c17 => k_is)
    (case k17 => k_is)
    (case a18 => k_is)
    (case g18 => k_is)
    (case l18 => k_is)
    (case c18 => k_is)
    (case k18 => k_is)
    (case a19 => k_is)
    (case g19 => k_is)
    (case l19 => k_is)
    (case c19 => k_is)
    (case k19 => k_is)
    (case a20 => k_is)
    (case l20 => k_is)
    (case c20 => k_is)
    (case k20 => k_is)
    (case a21 => k_is)
    (case l21 => k_is)
    (case c21 => k_is)
    (case k21 => k_is)
    (case a22 => k_is)
    (case l22 => k_is)
    (case c22 => k_is)
    (case k22 => k_is)
    (case a23 => k_is)
    (case l23 => k_is)
    (case c23 => k_is)
    (case k23 => k_is)
    (case a24 => k_is)
    (case l24 => k_is)
    (case c24 => k_is)
    (case k24 => k_is)
    (case a25 => k_is)
    (case l25 => k_is)
    (case c25 => k_is)
    (case k25 => k_is)
    (case a26 => k_is)
    (case l26 => k_is)
    (case c26 => k_is)
    (case k26 => k_is)
    (case a27 => k_is)
    (case l27 => k_is)
    (case c27 => k_is)
    (case k27 => k_is)
    (case a28 => k_is)
    (case l28 => k_is)
    (case c28 => k_is)
    (case k28 => k_is)
    (case a29 => k_is)
    (case l29 => k_is)
    (case c29 => k_is)
    (case k29 => k_is)
    (case a30 => k_is)
    (case l30 => k_is)
    (case c30 => k_is)
    (case k30 => k_is)
    (case a31 => k_is)
    (case l31 => k_is)
    (case c31 => k_is)
    (case k31 => k_is)
    (case z_abs => k_is)
    (case z_all => k_is)
    (case z_bool => k_is)
    (case z_classmethod => k_is)
    (case z_dict => k_is)
    (case z_int => k_is)
    (case z_isinstance => k_is)
    (case z_len => k_is)
    (case z_list => k_is)
    (case z_property => k_is)
    (case z_range => k_is)
    (case z_repr => k_is)
    (case z_sorted => k_is)
    (case z_str => k_is)
    (case z_tuple => k_is)
    (case y_LETTERS => k_is)
    (case y_MOST_SIGNS => k_is)
    (case y_RESERVED => k_is)
    (case w_RESERVED => k_is)
    (case w2_RESERVED => exact ⟨rfl, rfl, by decide +kernel, by first | exact L2.Paired.nil | (repeat (first | exact .nil | refine .cons ⟨_, rfl⟩ ?_))⟩)
    (case y_SIGNS => k_is)
    (case aO => k_is)
    (case aC_InvalidName => k_is)
    (case xL_InvalidName => k_is)
    (case iC_InvalidName => k_is)
    (case iT_InvalidName => k_is)
    (case lC_InvalidName => k_is)
    (case cC_InvalidName => k_is)
    (case kC_InvalidName => k_is)
    (case sa_InvalidName => k_is)
    (case eC_InvalidName => k_is)
    (case tC_InvalidName => k_is)
    (case pC_InvalidName => k_is)
    (case ga_InvalidName => k_is)
    (case gg_InvalidName => k_is)
    (case cl_InvalidName => k_is)
    (case hd_InvalidName => k_is)
    (case ic_InvalidName => k_is)
    (case ob_InvalidName => k_is)
    (case no_InvalidName_value => k_is)
    (case aC_InvalidNumber => k_is)
    (case xL_InvalidNumber => k_is)
    (case iC_InvalidNumber => k_is)
    (case iT_InvalidNumber => k_is)
    (case lC_InvalidNumber => k_is)
    (case cC_InvalidNumber => k_is)
    (case kC_InvalidNumber => k_is)
    (case sa_InvalidNumber => k_is)
    (case eC_InvalidNumber => k_is)
    (case tC_InvalidNumber => k_is)
    (case pC_InvalidNumber => k_is)
    (case ga_InvalidNumber => k_is)
    (case gg_InvalidNumber => k_is)
    (case cl_InvalidNumber => k_is)
    (case hd_InvalidNumber => k_is)
    (case ic_InvalidNumber => k_is)
    (case ob_InvalidNumber => k_is)
    (case no_InvalidNumber_value => k_is)
    (case aC_FieldClash => k_is)
    (case xL_FieldClash => k_is)
    (case iC_FieldClash => k_is)
    (case iT_FieldClash => k_is)
    (case lC_FieldClash => k_is)
    (case cC_FieldClash => k_is)
    (case kC_FieldClash => k_is)
    (case sa_FieldClash => k_is)
    (case eC_FieldClash => k_is)
    (case tC_FieldClash => k_is)
    (case pC_FieldClash => k_is)
    (case ga_FieldClash => k_is)
    (case gg_FieldClash => k_is)
    (case cl_FieldClash => k_is)
    (case hd_FieldClash => k_is)
    (case ic_FieldClash => k_is)
    (case ob_FieldClash => k_is)
    (case no_FieldClash_field => k_is)
    (case no_FieldClash_one => k_is)
    (case no_FieldClash_other => k_is)
    (case zg => k_is)
    (case zt => k_is)
    (case xmFieldClashFieldClash => kernel_rfl)
    (case xmInvalidNameInvalidName => kernel_rfl)
    (case xmInvalidNameInvalidNumber => kernel_rfl)
    (case xmInvalidNumberInvalidName => kernel_rfl)
    (case xmInvalidNumberInvalidNumber => kernel_rfl)
    (case koFieldClashClash => kernel_rfl)
    (case koInvalidNumberInvalidName => kernel_rfl)
    (case cvM => k_is)
    (case caS => k_is)
    (case moS => k_is)
    (case neS => k_is)
    (case fiG => k_is)
    (case kiself => kernel_rfl)
    (case kitup => kernel_rfl)
    (case kinon => kernel_rfl)
    (case sutup => k_is)
    (case sunon => k_is)
    (case aCl => k_is)
    (case fiD => k_is)
    (case nsD => k_is)
    (case sfD => k_is)
    (case caD => k_is)
    (case moD => k_is)
    (case neD => k_is)
    (case kdS => kernel_rfl)
    (case kdG => kernel_rfl)
    (case sbG => k_is)
