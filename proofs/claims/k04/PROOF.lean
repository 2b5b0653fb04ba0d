import PyProof.Rows.All
import Wide.All
import OpenK.AllK
import Wide.FinOn
import HandS.ForMost
import KE.OsRunLaw
import HandS.ClsMeth
import HandS.Style
import HandS.IsInst
import HandS.Walk
import HandS.WordsExc
import HandS.ForExc
import HandS.ExcInit
import HandS.WideBits
import KE.KExcIs
import PyProof.ReprRoads
import PyProof.ReprLen
import KE.GoesEnum
import HandS.Iter
import HandS.Star
import HandS.ExcField
import HandS.ExcIs
import HandS.Strs
import HandS.ExcOwn
import PySem.Challenge.RW_orplaces_k04_numbers_of_rows
set_option Elab.async false
set_option linter.all false
set_option maxRecDepth 100000
set_option maxHeartbeats 0
/-! A proof by hand, def by def: each def's promise, its body as a term of the hand layer's rules, its reading; the end. -/
namespace Lx
open PySem PySem.Spec PyProof.Rows L2
/-! ### defs that ask for repr: nothing is being shown when they are called -/
/-- nothing is being shown -/
def Calm (A : Around) : Prop := A.guards = some []
theorem Calm.deeper {A : Around} (c : Calm A) (env : Env) : Calm (A.deeper env) := by
  have e : (A.deeper env).guards = A.guards := by first | rfl | simp [Around.deeper]
  exact e.trans c
/-- a def's promise, kept where nothing is being shown -/
structure FnG (P : Program) (w : World) (K : PySem.W.Frag) (mg : Str → Option Value) (base : Heap) (n : Nat) (g : Addr) (gd : FuncData) (names : List Str) (sp : Sp) : Prop where
  count : ∀ xs H Q E, sp xs H Q E → xs.length = names.length
  go : ∀ (A : Around) (outs : List Env) (st : Shared) (H : Hp) (given : Args) (us : List Value) (xs : List V) (Q : VK) (E : XK),
    Calm A → Room n A → Env0 P w K mg base A outs st H → BindsTo st gd given (names.zip us) → Vals xs us → sp xs H Q E →
    codeAny (model P w) A (.call (.ref g) given) (CR CX0 outs P w H st Q E) st
section
variable {P : Program} {w : World} {K : PySem.W.Frag} {mg : Str → Option Value} {base : Heap} {n : Nat} {g : Addr} {gd : FuncData} {names : List Str} {sp : Sp}
theorem FnG.of (F : FnOk P w K mg base CX0 n g gd names sp) : FnG P w K mg base n g gd names sp :=
  ⟨F.len, fun A outs st H given us xs Q E _ => F.run A outs st H given us xs Q E⟩
theorem okG {x qual : Str} {st : Stmt} {N : List Str} (F : Fun K x qual st g gd) (S : FnScope N names (defScope st)) (count : ∀ xs H Q E, sp xs H Q E → xs.length = names.length)
    (body : ∀ (cv : Value) (A : Around) (outs : List Env) (s0 : Shared) (H : Hp) (xs : List V) (Q : VK) (E : XK), Calm (A.deeper (envOfC qual (defScope st) s0.heap.objs.size g cv)) →
      Room n (A.deeper (envOfC qual (defScope st) s0.heap.objs.size g cv)) → sp xs H Q E →
      ∃ t, PSs (cxOf CX0 P w K mg base N qual (defScope st) g cv A outs s0 H E).nox (defBody st) t ∧ t { nx := fun _ H' => Q .non H', rt := Q } (start N xs) H) : FnG P w K mg base (n + 1) g gd names sp := by
  obtain ⟨c0, o0, k0, d0, p0, a0, cv, t0, sl0, rfl, at0, code0⟩ := F.ex
  refine ⟨count, fun A outs s0 H given us xs Q E calm room e0 bound rel hsp => ?_⟩
  have keep0 := fun b o e => (e0.bs b o e).1
  have KX : K.In s0.heap := e0.mod.kin.keeps keep0
  have lim0 : s0.heap.NoLimit := e0.mod.nolimit.keeps keep0
  refine codeAny_call_function room.depth (KX _ _ at0) rfl S.co S.gen rfl (PySem.W.codeRec_of KX code0) (bound _ _ _ _ ?_)
  refine wpAny_newFunctionEnv_cells S.kind (fun ⟨y, v⟩ hy => ?_) fun en envE s1 ic => ?_
  · exact (S.par y (List.of_mem_zip hy).1).elim (fun q => .inl q) fun q => .inr ⟨q, PySem.W.cellsFrom_some _ _ _ (.inl q)⟩
  subst envE
  refine ⟨lim0.keeps ic.toInCall.keep, codeAny_func ?_⟩
  obtain ⟨t, ht, hq⟩ := body cv A outs s0 H xs Q E (calm.deeper _) (room.deeper _) hsp
  have I := inv_start (CX := CX0) (E := E) S room.hd e0 (count _ _ _ _ hsp) rel ic
  refine wpAny_mono (ht.nox.run [] s1 (start N xs) H _ I hq) (fun fl s2 hs => ?_) fun _ _ hs => hs
  cases fl with
  | ret u =>
    obtain ⟨v, σ2, H2, J, rv, q⟩ := hs
    exact ⟨v, H2, J.os, J.bare, J.base, J.hok, rv, q⟩
  | next =>
    obtain ⟨σ2, H2, J, q⟩ := hs
    exact ⟨V.non, H2, J.os, J.bare, J.base, J.hok, rfl, q⟩
  | brk =>
    obtain ⟨_, _, _, q⟩ := hs
    exact q.elim
  | cont =>
    obtain ⟨_, _, _, q⟩ := hs
    exact q.elim
end
/-- f(e, ..) of such a def -/
theorem pe_callG {X : Cx} {k : Nat} {f : Addr} {fd : FuncData} {ps : List Str} {sp : Sp} {x : Str} {p pos : Pos} {e : Expr} {es : List Expr} {t : TA} (F : FnG X.prog X.w X.K X.mg X.base k f fd ps sp) (calm : Calm X.A) (room : Room k X.A) (gl : Gl X x) (at_ : X.mg x = some (.ref f))
    (kp : PySem.W.keepIn X.K (.ref f) = true) (b : Binds X.K fd ps []) (ha : PA X (e :: es) t) (ndb : (x == ("__debug__" : Str)) = false := by decide) (se : starEach (e :: es) X.env = (false, eval e X.env) :: starEach es X.env := by rfl)
    (ns : (backTo pos (starEach es X.env)).any (·.1) = false := by rfl) : PE X (.Call (.Name x p) (e :: es) [] pos) (tCall sp [] E0 t) := by
  refine ⟨fun pins s σ H Q I h => wpAny_Call_Name_kw (ld_glob I gl at_ ?_ ndb)⟩
  refine PySem.W.callWith_K (h₀ := X.base) I.ok.mod.kin kp (thn (ha.run pos pins s σ H _ I h) fun us s1 hh => ?_) se ns
  obtain ⟨xs, H1, I1, r1, q1⟩ := hh
  rw [List.append_nil] at q1
  refine ⟨I1.kIn, wpAny_call (codeAny_mono (F.go X.A X.stack s1 H1 ⟨us, []⟩ us xs Q E0 calm room I1.env0 ?_ r1 q1) fun r s2 hr => ?_)⟩
  · have bb := b s1 us I1.kIn (by rw [List.append_nil, ← r1.length]; exact F.count _ _ _ _ q1)
    rw [List.append_nil] at bb
    exact bb
  · cases r with
    | error _ => exact False.elim hr
    | ok fl =>
      cases fl with
      | ret u => exact I1.after hr
      | next => exact False.elim hr
      | brk => exact False.elim hr
      | cont => exact False.elim hr
end Lx
namespace Lx
open PySem PySem.Spec PyProof.Rows L2
/-! ### a law whose def asks for repr: its call at the top -/
section
variable {P : Program} {w : World} {K : PySem.W.Frag} {mg mb : Str → Option Value} {k : Nat} {fa a : Addr} {fd : FuncData} {x : Str} {sp : Sp} {s₁ : Shared} {vs : List Value} {ns : List Int}
/-- from one abstract heap: nothing but the script at a is told -/
theorem top_core (KX : K.In s₁.heap) (hns : s₁.heap.Ns mainGlobals mg) (hb : s₁.heap.Ns builtinsNs mb) (hbb : ∀ x : Str, x ≠ "__name__" → mb x = bootBuiltins x) (hlim : s₁.heap.NoLimit) (hg : s₁.gens = #[])
    (ha : s₁.heap.get? a = some { cls := .type "list", data := .seq vs.toArray }) (room : Room k callerA) (F : ∀ base : Heap, K.In base → base.Ns mainGlobals mg → FnG P w K mg base k fa fd [x] sp)
    (bind1 : ∀ (s : Shared) (u : Value), BindsTo s fd ⟨[u], []⟩ [(x, u)]) (H : Hp) (only : Only H) (hok : HOk P w H s₁.heap) (sole : ∀ b, H b ≠ none → b = a) (notK : H a ≠ none → K.lookup a = none)
    (hsp : sp [.ref a] H (fun v _ => v = .bl true) fun _ _ _ => False) :
    codeAny (model P w) callerA (.call (.ref fa) ⟨[.ref a], []⟩) (fun r s' => r = .ok (.ret (.bool true)) ∧ OldK s₁.heap s'.heap ∧ s'.os = s₁.os ∧ AllBare s'.gens) s₁ := by
  have told : ∀ {b : Addr} {u : HO}, H b = some u → b = a := fun q => sole _ (by rw [q]; simp)
  have dicts : ∀ {b : Addr} {o : Obj} {es : Array DictEntry} {ep : Nat}, s₁.heap.get? b = some o → o.data = .dict es ep → H b = none := fun {b o es ep} e d => by
    cases q : H b with
    | none => rfl
    | some u =>
      cases told q
      cases ha.symm.trans e
      cases d
  have spaces : ∀ {b : Addr} {m : Str → Option Value}, s₁.heap.Ns b m → (hidT s₁.heap H).Ns b m := fun ⟨o, es, ep, e, d, r⟩ => ⟨o, es, ep, hidT_get e (dicts e d), d, r⟩
  have inB : K.In (hidT s₁.heap H) := fun b o e => by
    refine hidT_get (KX b o e) ?_
    cases q : H b with
    | none => rfl
    | some u =>
      cases told q
      cases (notK (by rw [q]; simp)).symm.trans e
  obtain ⟨mc, lim1, lim2⟩ := hlim
  have md : Mod K mg (hidT s₁.heap H) := ⟨inB, spaces hns, ⟨mb, spaces hb, hbb⟩, mc, spaces lim1, lim2⟩
  have env : Env0 P w K mg (hidT s₁.heap H) callerA [] s₁ H := ⟨rfl, md, fun _ _ e => of_hidT e, Nat.le_of_eq (hidT_size _ _), trivial, fun b q => by simp [frs] at q, hok, .of_eq hg⟩
  have ran := (F _ inB (spaces hns)).go callerA [] s₁ H ⟨[.ref a], []⟩ [.ref a] [.ref a] _ _ rfl room env (bind1 s₁ (.ref a)) (.cons rfl .nil) hsp
  refine codeAny_mono ran fun r s' h => ?_
  cases r with
  | error _ => exact False.elim h
  | ok fl =>
    cases fl with
    | next => exact False.elim h
    | brk => exact False.elim h
    | cont => exact False.elim h
    | ret u =>
      obtain ⟨v, H', os, bare, un, hok', rel, q⟩ := h
      cases (q : v = .bl true)
      cases (rel : u = Value.bool true)
      refine ⟨rfl, OldK.of_keep fun b o e => ?_, os, bare⟩
      cases q : H b with
      | none => exact un.keep b o e q (fun z => by simp [frs] at z) (by simp)
      | some u =>
        rcases only b with z | ⟨ob, xs, z⟩
        · cases q.symm.trans z
        · have e1 := (hok b _ z).1
          have e2 := (hok' b _ (un.frzs b ob _ z)).1
          cases e.symm.trans e1
          exact e2
theorem top_call (KX : K.In s₁.heap) (hns : s₁.heap.Ns mainGlobals mg) (hb : s₁.heap.Ns builtinsNs mb) (hbb : ∀ x : Str, x ≠ "__name__" → mb x = bootBuiltins x) (hlim : s₁.heap.NoLimit) (hg : s₁.gens = #[])
    (ha : s₁.heap.get? a = some { cls := .type "list", data := .seq vs.toArray }) (hi : IntsAre vs ns) (hl : ns.length ≤ sizeLine) (room : Room k callerA)
    (F : ∀ base : Heap, K.In base → base.Ns mainGlobals mg → FnG P w K mg base k fa fd [x] sp) (bind1 : ∀ (s : Shared) (u : Value), BindsTo s fd ⟨[u], []⟩ [(x, u)])
    (hsp : ∀ H : Hp, Only H → SqL K H a (ns.map V.int) → sp [.ref a] H (fun v _ => v = .bl true) fun _ _ _ => False) :
    codeAny (model P w) callerA (.call (.ref fa) ⟨[.ref a], []⟩) (fun r s' => r = .ok (.ret (.bool true)) ∧ OldK s₁.heap s'.heap ∧ s'.os = s₁.os ∧ AllBare s'.gens) s₁ := by
  have rv := vals_ints hi
  by_cases hk : K.lookup a = none
  · let H : Hp := fun b => if b = a then some (.frz { cls := .type "list", data := .seq vs.toArray } (.lst (ns.map V.int))) else none
    have at_a : H a = some (.frz { cls := .type "list", data := .seq vs.toArray } (.lst (ns.map V.int))) := if_pos rfl
    have off_a : ∀ {b : Addr}, b ≠ a → H b = none := fun n => if_neg n
    have sole : ∀ b, H b ≠ none → b = a := fun b n => Classical.byContradiction fun h => n (off_a h)
    have only : Only H := fun b => by
      by_cases h : b = a
      · subst h
        exact .inr ⟨_, _, at_a⟩
      · exact .inl (off_a h)
    refine top_core KX hns hb hbb hlim hg ha room F bind1 H only (fun b u z => ?_) sole (fun _ => hk) (hsp H only (.inl (.inr ⟨_, at_a⟩)))
    cases sole b (by rw [z]; simp)
    cases at_a.symm.trans z
    exact ⟨ha, by rw [List.length_map]; exact hl, vs, _, rv, ha⟩
  · obtain ⟨o, ho⟩ := Option.ne_none_iff_exists'.mp hk
    cases ha.symm.trans (KX a o ho)
    have only : Only fun _ => none := fun _ => .inl rfl
    refine top_core KX hns hb hbb hlim hg ha room F bind1 (fun _ => none) only (fun b u z => by cases z) (fun b z => absurd rfl z) (fun z => absurd rfl z) (hsp _ only (.inr ⟨_, vs.toArray, _, ho, rfl, rfl, rfl, ?_, by simpa using rv⟩))
    rw [List.size_toArray, hi.length]
    exact hl
end
theorem walkG {l : PySem.W.OpenLaw} {n k : Nat} {q : Program} {loose : List Str} {XP : (Str → Option Value) → Heap → Prop} {YP : World → Heap → Prop} {d : DefRec} {K : Params → PySem.W.Frag} {sp : World → Sp} {x : Str}
    (hn : l.most = some n) (hn2 : n ≤ sizeLine) (hdf : d.params.defaults = []) (room : Room k callerA) (hY : ∀ (w : World) (h : Heap), YP w h → (K w.params).In h)
    (F : ∀ (w : World) (mg : Str → Option Value) (fa : Addr) (h : Heap), (K w.params).In h → h.Ns mainGlobals mg → mg d.name = some (.ref fa) →
      ∃ fd : FuncData, (∀ (s : Shared) (u : Value), BindsTo s fd ⟨[u], []⟩ [(x, u)]) ∧ ∀ base : Heap, (K w.params).In base → base.Ns mainGlobals mg → FnG l.prog w (K w.params) mg base k fa fd [x] (sp w))
    (hsp : ∀ (w : World) (H : Hp) (a : Addr) (ns : List Int), ns.length ≤ n → Only H → SqL (K w.params) H a (ns.map V.int) → sp w [.ref a] H (fun v _ => v = .bl true) fun _ _ _ => False) :
    PySem.W.WalkO q loose XP YP l.row.toRowW d [] (fun f vs => PySem.call f vs) := by
  refine Att.attach_call hn hdf fun w s₀ s₁ mg mb fa o pm cd doc a vs ns G Y ho hd hcd hmg hobj hints hlen hg => ?_
  obtain ⟨fd, bind1, F1⟩ := F w mg fa _ (hY w _ Y) G.T.g hmg
  exact top_call (hY w _ Y) G.T.g G.T.b G.T.builtins G.T.nolimit hg hobj hints (Nat.le_trans hlen hn2) room F1 bind1 fun H only hS => hsp w H a ns hlen only hS
end Lx
namespace Lx
open PySem PySem.Spec PyProof.Rows L2
/-! ### repr of data: flat things, lists and tuples at any depth, dicts of flat things -/
def dKey : Key → PyData
  | .inl i => .int i
  | .inr x => .str x
inductive FlatV : V → PyData → Prop
  | non : FlatV .non .none
  | bl (b : Bool) : FlatV (.bl b) (.bool b)
  | int (i : Int) : FlatV (.int i) (.int i)
  | str (x : Str) : FlatV (.str x) (.str x)
def FlatKv : List (Key × V) → List (PyData × PyData) → Prop := Paired fun kv e => e.1 = dKey kv.1 ∧ FlatV kv.2 e.2
def ShowAt (K : PySem.W.Frag) (H : Hp) (v : V) (d : PyData) : Prop :=
  Dp K H v d ∨ ∃ (a : Addr) (kvs : List (Key × V)) (ds : List (PyData × PyData)), v = .ref a ∧ H a = some (.dK kvs) ∧ d = .dict ds ∧ FlatKv kvs ds
theorem FlatV.reads {h : Heap} {v : V} {d : PyData} {u : Value} (f : FlatV v d) (r : RelV v u) : Reads h u d [] := by
  cases f with
  | non => cases (r : u = .none); exact .none
  | bl b => cases (r : u = .bool b); exact .bool b
  | int i => obtain ⟨t, rfl⟩ := (r : ∃ t, u = .int i t); exact .int i t
  | str x => obtain ⟨t, rfl⟩ := (r : ∃ t, u = .str x t); exact .str x t
theorem pairs_read {P : Program} {w : World} {h : Heap} : ∀ {es : List DictEntry} {vs : List (Key × Value)} {kvs : List (Key × V)} {ds : List (PyData × PyData)}, Pairs (mixKind P w) es vs → KV kvs vs → FlatKv kvs ds →
    ReadsAll h (es.map (·.key)) (ds.map (·.1)) [] ∧ ReadsAll h (es.map (·.val)) (ds.map (·.2)) []
  | _, _, _, _, .nil, .nil, .nil => ⟨.nil, .nil⟩
  | _, _, _, _, .cons (e := e) ik iv pr, .cons ⟨k1, k2⟩ kr, .cons ⟨f1, f2⟩ fr => by
    obtain ⟨h1, h2⟩ := pairs_read (h := h) pr kr fr
    have q := FlatV.reads (h := h) f2 k2
    rw [← iv] at q
    refine ⟨?_, .cons (as := []) (bs := []) q h2⟩
    rw [List.map_cons, List.map_cons, f1, k1]
    rcases keyIs_shape ik with ⟨i, t, e1, e2⟩ | ⟨x, t, e1, e2⟩
    · rw [e1, e2]
      exact .cons (as := []) (bs := []) (.int i t) h1
    · rw [e1, e2]
      exact .cons (as := []) (bs := []) (.str x t) h1
mutual
theorem dp_noDict {K : PySem.W.Frag} {H : Hp} : ∀ (d : PyData) (v : V), Dp K H v d → d.hasDict = false
  | .none, _, _ => by simp only [PyData.hasDict]
  | .bool _, _, _ => by simp only [PyData.hasDict]
  | .int _, _, _ => by simp only [PyData.hasDict]
  | .str _, _, _ => by simp only [PyData.hasDict]
  | .list xs, _, h => by
    cases h with
    | lst _ ha => simp only [PyData.hasDict, dpAll_noDict xs _ ha]
  | .tuple xs, _, h => by
    cases h with
    | tup _ ha => simp only [PyData.hasDict, dpAll_noDict xs _ ha]
  | .dict _, _, h => by cases h
theorem dpAll_noDict {K : PySem.W.Frag} {H : Hp} : ∀ (ds : List PyData) (vs : List V), DpAll K H vs ds → PyData.hasDictAll ds = false
  | [], _, _ => by simp only [PyData.hasDictAll]
  | d :: ds, _, h => by
    cases h with
    | cons h1 h2 => simp only [PyData.hasDictAll, dp_noDict d _ h1, dpAll_noDict ds _ h2, Bool.or_self]
end
section
variable {X : Cx} {pins : List (Addr × Obj)} {σ : L2.St} {H : Hp} {s : Shared}
theorem ShowAt.reads {v : V} {d : PyData} {u : Value} (I : Inv X pins σ H s) (f : ShowAt X.K H v d) (r : RelV v u) : ∃ as, Reads s.heap u d as ∧ (d.hasDict = true → sysModules ∉ as) := by
  rcases f with f | ⟨a, kvs, ds, rfl, ha, rfl, f⟩
  · obtain ⟨as, q⟩ := Dp.reads I d v u f r
    exact ⟨as, q, PyData.noDict_hsm (dp_noDict d v f)⟩
  · cases (r : u = .ref a)
    obtain ⟨_, ns, vs, kv, o, es, ep, h1, h2, h3, _, h5, _⟩ := (show ObjOk X.prog X.w H s.heap a (.dK kvs) from I.hok a _ ha)
    obtain ⟨r1, r2⟩ := pairs_read (h := s.heap) h5 kv f
    refine ⟨a :: [] ++ [], .dict h1 h2.1 h3 r1 r2, fun _ hm => ?_⟩
    have e : sysModules = a := by simpa using hm
    rw [← e] at ns
    simp at ns
theorem call_reprS (calm : Calm X.A) (hu : X.A.units + 64 < cLine) : CallR X (.builtin "repr") (fun xs H Q => ∃ v d, xs = [v] ∧ ShowAt X.K H v d ∧ d.showable = true ∧ d.depth ≤ 60 ∧ d.shown.length ≤ sizeLine ∧ Q (.str d.shown) H) := by
  intro pins s σ H xs us Q I r h
  obtain ⟨v, d, rfl, f, sh, dp, sz, q⟩ := h
  obtain ⟨u, rfl, ru⟩ : ∃ u, us = [u] ∧ RelV v u := by
    cases r with
    | cons r1 r2 =>
      cases r2
      exact ⟨_, rfl, r1⟩
  obtain ⟨as, rd, hsm⟩ := f.reads I ru
  have done : ∀ (h' : Heap) (t : Tok) (tk : Nat), (∀ b o, s.heap.get? b = some o → h'.get? b = some o) → EP X pins σ Q (.str d.shown t) { s with heap := h', toks := tk } := fun h' t tk k => ⟨.str d.shown, H, I.kept (t' := tk) k, ⟨_, rfl⟩, q⟩
  cases rd with
  | none => exact PySem.P.repr_of_none (done s.heap _ _ fun _ _ e => e)
  | bool b => exact PySem.P.repr_of_bool (done s.heap _ _ fun _ _ e => e)
  | int i t => exact PySem.P.repr_of_int (by simpa [PyData.showable] using sh) (done s.heap _ _ fun _ _ e => e)
  | str x t => exact PySem.P.repr_of_str (done s.heap _ _ fun _ _ e => e) sz
  | list a1 a2 a3 a4 => exact repr_of_reads' (.list a1 a2 a3 a4) sh hsm calm (by omega) (fun _ _ e => e) done sz
  | tuple a1 a2 a3 a4 => exact repr_of_reads' (.tuple a1 a2 a3 a4) sh hsm calm (by omega) (fun _ _ e => e) done sz
  | dict a1 a2 a3 a4 a5 => exact repr_of_reads' (.dict a1 a2 a3 a4 a5) sh hsm calm (by omega) (fun _ _ e => e) done sz
end
end Lx
namespace Lx
open PySem PySem.Spec PyProof.Rows L2
/-! ### an own exception held as a value: made, its attributes read, its class asked -/
/-- what the written part says of an exception class at C whose __init__ stands at g -/
structure ExK (K : PySem.W.Frag) (C g : Addr) : Prop where
  oex : OexC K C
  init : PySem.W.findIn K (.ref C) "__init__" = some (some (.ref g))
  ifn : PySem.W.typeIn K (.ref g) = some (.type "function")
  ga : PySem.W.findIn K (.ref C) "__getattribute__" = some (some (.builtin "BaseException.__getattribute__"))
  gg : PySem.W.findIn K (.ref C) "__getattr__" = some none
  cls : PySem.W.findIn K (.ref C) "__class__" = some (some (.builtin "object.__class__"))
  dct : PySem.W.hasDictIn K C = true
  is : (PySem.W.clsIn K C).isSome = true
  ob : PySem.W.mroIn K C (.type "object") = some true
/-- of __class__ itself -/
structure ClsK (K : PySem.W.Frag) : Prop where
  get : PySem.W.specialIn K (.builtin "object.__class__") "__get__" = some (some (.builtin "getset_descriptor.__get__"))
  takes : PySem.W.takesIn K (.builtin "object.__class__") = some true
def tMkV (C : Addr) (sp : Sp) (t : TA) : TE := fun σ H Q => t σ H fun vs H1 => vs.length ≤ 1000 ∧ ∀ a, H1 a = none → sp (.ref a :: vs) (upd H1 a (exo a C none)) (fun v H2 => v = .non ∧ Q (.ref a) H2) E0
section
variable {X : Cx} {C g : Addr} {k : Nat} {fd : FuncData} {ps : List Str} {sp : Sp}
theorem run_excV {pins : List (Addr × Obj)} {σ : L2.St} {H : Hp} {s : Shared} {Q : VK} {us : List Value} {vs : List V} (T : ExK X.K C g) (F : FnOk X.prog X.w X.K X.mg X.base CX0 k g fd ps sp) (room : Room (k + 1) X.A) (b : Binds X.K fd ps [])
    (I : Inv X pins σ H s) (r : Vals vs us) (short : vs.length ≤ 1000) (h : ∀ a, H a = none → sp (.ref a :: vs) (upd H a (exo a C none)) (fun v H2 => v = .non ∧ Q (.ref a) H2) E0) :
    wpAny (model X.prog X.w) X.A (call (.ref C) us) (EP X pins σ Q) X.xe s := by
  obtain ⟨nm, q, N, bs, bm, sn, sub, ab, col, dd, k0, k1, k2, k3, k5, hC, hbm⟩ := T.oex.cls
  obtain ⟨hp, ge, dr, tk, os⟩ := s
  have up : hp.objs.size ≤ hp.objs.size + 1 := Nat.le_succ _
  have ask := h (hp.objs.size + 1) (I.hok.fresh up)
  have made : ((hp.push (PySem.W.kdv_tup us)).push (PySem.HandSPX.excO C hp.objs.size)).get? (hp.objs.size + 1) = some (PySem.HandSPX.excO C hp.objs.size) := by heap_get
  have I2 : Inv X pins σ (upd H (hp.objs.size + 1) (exo (hp.objs.size + 1) C none)) ⟨(hp.push (PySem.W.kdv_tup us)).push (PySem.HandSPX.excO C hp.objs.size), ge, dr, tk, os⟩ :=
    I.laid (t' := tk) (fun _ _ e => Heap.get?_push_of_some _ (Heap.get?_push_of_some _ e)) up (exo_ok made)
  have r2 : Vals (V.ref (hp.objs.size + 1) :: vs) (Value.ref (hp.objs.size + 1) :: us) := .cons rfl r
  have names : (Value.ref (hp.objs.size + 1) :: us).length = ps.length := by rw [← F.len _ _ _ _ ask, r2.length]
  have bound := b ⟨(hp.push (PySem.W.kdv_tup us)).push (PySem.HandSPX.excO C hp.objs.size), ge, dr, tk, os⟩ (Value.ref (hp.objs.size + 1) :: us) I2.kIn (by rw [List.append_nil]; exact names)
  rw [List.append_nil] at bound
  have line : us.length ≤ sizeLine := by
    rw [← Paired.length r, sizeLine_eq]
    omega
  have body := F.run _ X.stack _ _ ⟨Value.ref (hp.objs.size + 1) :: us, []⟩ (Value.ref (hp.objs.size + 1) :: us) (V.ref (hp.objs.size + 1) :: vs) _ E0 (room.make C us []) (I2.env0.make C us []) bound r2 ask
  refine wpAny_call (PySem.HandSPX.call_own PySem.F.excBase_ValueError (fun Y => PySem.HandSPX.refsVE_contains Y bm hbm) (I.kIn _ _ hC) (PySem.W.looks_findIn I.kIn T.init) (fun self => PySem.W.bind_fn I.kIn self T.ifn) line (codeAny_mono body fun res s2 got => ?_))
  cases res with
  | error _ => exact False.elim got
  | ok fl =>
    cases fl with
    | ret u =>
      obtain ⟨v, H2, J, rv, ev, q2⟩ := I2.after got
      subst ev
      exact ⟨rv, .ref (hp.objs.size + 1), H2, J, rfl, q2⟩
    | next => exact False.elim got
    | brk => exact False.elim got
    | cont => exact False.elim got
variable {x : Str} {p pos : Pos} {e : Expr} {es : List Expr} {t : TA} {te : TE} {nm : Str}
/-- C(e, ..) as a value -/
theorem pe_excV (T : ExK X.K C g) (F : FnOk X.prog X.w X.K X.mg X.base CX0 k g fd ps sp) (room : Room (k + 1) X.A) (b : Binds X.K fd ps []) (gl : Gl X x) (at_ : X.mg x = some (.ref C)) (ha : PA X (e :: es) t) (ndb : (x == ("__debug__" : Str)) = false := by decide)
    (se : starEach (e :: es) X.env = (false, eval e X.env) :: starEach es X.env := by rfl) (ns : (backTo pos (starEach es X.env)).any (·.1) = false := by rfl) : PE X (.Call (.Name x p) (e :: es) [] pos) (tMkV C sp t) := by
  refine ⟨fun pins s σ H Q I h => wpAny_Call_Name_kw (ld_glob I gl at_ ?_ ndb)⟩
  refine PySem.W.callWith_K (h₀ := X.base) I.ok.mod.kin T.oex.kC (thn (ha.run pos pins s σ H _ I h) fun us s1 hh => ?_) se ns
  obtain ⟨vs, H1, I1, r1, short, q1⟩ := hh
  exact ⟨I1.kIn, run_excV T F room b I1 r1 short q1⟩
/-- C() as a value -/
theorem pe_excV0 (T : ExK X.K C g) (F : FnOk X.prog X.w X.K X.mg X.base CX0 k g fd ps sp) (room : Room (k + 1) X.A) (b : Binds X.K fd ps []) (gl : Gl X x) (at_ : X.mg x = some (.ref C)) (ndb : (x == ("__debug__" : Str)) = false := by decide) :
    PE X (.Call (.Name x p) [] [] pos) (tMkV C sp tNil) := by
  refine ⟨fun pins s σ H Q I h => wpAny_Call_Name_kw (ld_glob I gl at_ ?_ ndb)⟩
  exact PySem.W.callWith_K0 I.kIn T.oex.kC (run_excV (us := []) T F room b I .nil h.1 h.2)
/-- e.nm, e such an exception with that attribute of its own -/
def tAtt (K : PySem.W.Frag) (nm : Str) (te : TE) : TE := fun σ H Q => te σ H fun y H1 => ∃ (a C g d : Addr) (fs : List (Str × V)) (v : V), y = .ref a ∧ ExK K C g ∧ PySem.W.findIn K (.ref C) nm = some none ∧ H1 a = some (exo a C (some d)) ∧ H1 d = some (exd d fs) ∧ fs.lookup nm = some v ∧ Q v H1
theorem pe_att (he : PE X e te) (hb : attributeBase e nm X.env (eval e X.env) = eval e X.env := by rfl) : PE X (.Attribute e nm pos) (tAtt X.K nm te) := by
  refine ⟨fun pins s σ H Q I h => attr_of hb (thn (he.run pins s σ H _ I h) fun u s1 hh => ?_)⟩
  obtain ⟨y, H1, I1, ry, a, C, g, d, fs, v, rfl, T, no, ea, ed, l, q⟩ := hh
  cases (ry : u = .ref a)
  obtain ⟨t1, ha⟩ := exo_at I1.hok ea
  obtain ⟨mA, hns, rel⟩ := exd_at I1.hok ed
  obtain ⟨od, ho, hl⟩ := lookIn_ns hns
  obtain ⟨z, hz, rz⟩ := RelO.some_of (v := v) (o := mA nm) (by rw [← l]; exact rel nm)
  have J : PySem.W.InstAt s1.heap a _ C (some od) := ⟨ha, rfl, rfl, ho⟩
  exact HandSPX.exc_get I1.kIn J T.ga T.gg T.oex.exC (PySem.W.findObj_own T.dct no rfl (by rw [hl, hz])) (handed_of rz) ⟨v, H1, I1.tok _, rz, q⟩
/-- isinstance(e, c), isinstance(e, (c, ..)) of such an exception -/
def rIsX (K : PySem.W.Frag) : List V → Hp → VK → Prop := fun xs H Q => ∃ (a C g : Addr) (d : Option Addr) (c : V) (cv : Value) (k : Bool), xs = [.ref a, c] ∧ ExK K C g ∧ ClsK K ∧ H a = some (exo a C d) ∧ (∀ dd, d = some dd → ∃ fs, H dd = some (exd dd fs)) ∧ ClsV c cv ∧ PySem.W.kitOne K (.ref C) cv = some k ∧ Q (.bl k) H
theorem inst_at {pins : List (Addr × Obj)} {σ : L2.St} {H : Hp} {s : Shared} {a C : Addr} {d : Option Addr} (I : Inv X pins σ H s) (ea : H a = some (exo a C d)) (ed : ∀ dd, d = some dd → ∃ fs, H dd = some (exd dd fs)) :
    ∃ ox od, PySem.W.InstAt s.heap a ox C od := by
  obtain ⟨t1, ha⟩ := exo_at I.hok ea
  cases d with
  | none => exact ⟨_, none, ha, rfl, rfl, trivial⟩
  | some dd =>
    obtain ⟨fs, hd⟩ := ed dd rfl
    obtain ⟨mA, hns, rel⟩ := exd_at I.hok hd
    obtain ⟨od, ho, hl⟩ := lookIn_ns hns
    exact ⟨_, some od, ha, rfl, rfl, ho⟩
theorem call_isX : CallR X (.builtin "isinstance") (rIsX X.K) := by
  intro pins s σ H xs us Q I r h
  obtain ⟨a, C, g, d, c, cv, kk, rfl, T, Z, ea, ed, hc, e, q⟩ := h
  cases r with
  | cons ra rr =>
    cases rr with
    | cons rc rr =>
      cases rr
      cases ra
      obtain rfl := hc.eq rc
      obtain ⟨ox, od, J⟩ := inst_at I ea ed
      exact PySem.W.kia_one (PySem.W.kitx_exc T.is T.ga T.gg T.oex.exC T.cls Z.get Z.takes T.ob) I.kIn J e (fun z => nomatch z) fun tk => ⟨.bl kk, H, I.kept (t' := tk) fun _ _ z => z, rfl, q⟩
def rIsXT (K : PySem.W.Frag) : List V → Hp → VK → Prop := fun xs H Q => ∃ (a C g tp : Addr) (d : Option Addr) (cs : List V) (cvs : List Value) (k : Bool), xs = [.ref a, .ref tp] ∧ ExK K C g ∧ ClsK K ∧ H a = some (exo a C d) ∧ (∀ dd, d = some dd → ∃ fs, H dd = some (exd dd fs)) ∧
  H tp = some (.tup cs) ∧ Paired ClsV cs cvs ∧ PySem.W.kitAny K (.ref C) cvs = some k ∧ Q (.bl k) H
theorem call_isXT : CallR X (.builtin "isinstance") (rIsXT X.K) := by
  intro pins s σ H xs us Q I r h
  obtain ⟨a, C, g, tp, d, cs, cvs, kk, rfl, T, Z, ea, ed, et, hc, e, q⟩ := h
  cases r with
  | cons ra rr =>
    cases rr with
    | cons rc rr =>
      cases rr
      cases ra
      cases rc
      obtain ⟨_, its, rv, o, ho, oc, n, od0⟩ := (show ObjOk X.prog X.w H s.heap tp (.tup cs) from I.hok tp _ et)
      obtain rfl := ClsV.all hc rv
      obtain ⟨cc, dd, dat, sl⟩ := o
      cases (oc : cc = _)
      cases (od0 : dat = _)
      obtain ⟨ox, odd, J⟩ := inst_at I ea ed
      exact PySem.W.kia_tup (PySem.W.kitx_exc T.is T.ga T.gg T.oex.exC T.cls Z.get Z.takes T.ob) I.kIn J ho e (fun z => nomatch z) fun tk => ⟨.bl kk, H, I.kept (t' := tk) fun _ _ z => z, rfl, q⟩
end
end Lx
namespace Lx
open PySem PySem.Spec PyProof.Rows L2
/-! ### repr of a list of such data, dicts among them -/
section
variable {X : Cx} {pins : List (Addr × Obj)} {σ : L2.St} {H : Hp} {s : Shared}
theorem show_all (I : Inv X pins σ H s) : ∀ {xs : List V} {us : List Value} {ds : List PyData}, Vals xs us → Paired (ShowAt X.K H) xs ds → PyData.showableAll ds = true → (∀ t ∈ PyData.shownAll ds, t.length ≤ sizeLine) →
    ∃ as bs, ReadsAll s.heap us ds as ∧ ReadAtMost s.heap (PyData.depthAll ds) bs ∧ ReprAllK X.prog X.w bs s.heap (PyData.depthAll ds) us (PyData.shownAll ds)
  | _, _, _, .nil, .nil, _, _ => ⟨[], [], .nil, (fun _ h => nomatch h), by simp only [PyData.shownAll]; exact .nil⟩
  | _, _, _, .cons r rs, .cons (b := d) (l₂ := ds) f fs, sh, sz => by
    have sh' : d.showable = true ∧ PyData.showableAll ds = true := by simpa [PyData.showableAll] using sh
    obtain ⟨as, rd, hsm⟩ := f.reads I r
    have z1 : d.shown.length ≤ sizeLine := sz _ (by simp only [PyData.shownAll]; exact List.mem_cons_self ..)
    obtain ⟨bs, rb, rk⟩ := ReprK.of_reads (prog := X.prog) (w := X.w) rd sh'.1 hsm z1
    obtain ⟨as2, bs2, rd2, rb2, rk2⟩ := show_all I rs fs sh'.2 fun t ht => sz t (by simp only [PyData.shownAll]; exact List.mem_cons_of_mem _ ht)
    have m1 : d.depth ≤ PyData.depthAll (d :: ds) := by
      simp only [PyData.depthAll]
      omega
    have m2 : PyData.depthAll ds ≤ PyData.depthAll (d :: ds) := by
      simp only [PyData.depthAll]
      omega
    refine ⟨as ++ as2, bs ++ bs2, .cons rd rd2, fun b hb => ?_, ?_⟩
    · rcases List.mem_append.mp hb with h | h
      · obtain ⟨d', q, e, le⟩ := rb b h
        exact ⟨d', q, e, Nat.le_trans le m1⟩
      · obtain ⟨d', q, e, le⟩ := rb2 b h
        exact ⟨d', q, e, Nat.le_trans le m2⟩
    · simp only [PyData.shownAll]
      exact .cons ((rk.more fun b hb => List.mem_append_left _ hb).level_le m1) (rk2.more_le (fun b hb => List.mem_append_right _ hb) m2)
/-- repr(a list of such data) -/
theorem call_reprL (calm : Calm X.A) (hu : X.A.units + 64 < cLine) : CallR X (.builtin "repr") (fun xs H Q => ∃ (a : Addr) (ys : List V) (ds : List PyData), xs = [.ref a] ∧ SqL X.K H a ys ∧ Paired (ShowAt X.K H) ys ds ∧ PyData.showableAll ds = true ∧ PyData.depthAll ds ≤ 50 ∧
    (PyData.shown (.list ds)).length ≤ sizeLine ∧ Q (.str (PyData.shown (.list ds))) H) := by
  intro pins s σ H xs us Q I r h
  obtain ⟨a, ys, ds, rfl, sq, f, sh, dp, sz, q⟩ := h
  cases r with
  | cons ra rr =>
    cases rr
    cases ra
    obtain ⟨its, rv, ⟨o, n, h1, h2, _, h3⟩, _⟩ := I.list sq
    have sz' : (listText (PyData.shownAll ds)).length ≤ sizeLine := by simpa only [PyData.shown] using sz
    obtain ⟨as, bs, ra, rb, rk⟩ := show_all I rv f sh fun t ht => Nat.le_trans (listText_mem_le ht) sz'
    have rd : Reads s.heap (.ref a) (.list ds) (a :: as) := .list h1 h2 h3 ra
    have apart : a ∉ bs := not_mem_of_deeper rd (by simp only [PyData.depth]; omega) rb
    have done : ∀ (h' : Heap) (t : Tok) (tk : Nat), (∀ b o, s.heap.get? b = some o → h'.get? b = some o) → EP X pins σ Q (.str (PyData.shown (.list ds)) t) { s with heap := h', toks := tk } := fun h' t tk k => ⟨.str _, H, I.kept (t' := tk) k, ⟨_, rfl⟩, q⟩
    have ty : s.TypeIs (.ref a) "list" := ⟨o, h1, h2⟩
    refine call_repr_slot (by omega) ty F.slot_list_repr.toG ?_
    simp only [PyData.shown] at done
    cases its with
    | nil =>
      cases ra
      simp only [PyData.shownAll, listText_nil] at done
      exact call_list_repr_empty ty h1 h3 ⟨_, _, rfl, done s.heap _ _ fun _ _ e => e⟩
    | cons x l =>
      refine call_list_reprK h1 h2 h3 apart (by simpa using rk.length_eq) (fun i y e => rk.item i y (by simpa using e)) (show (X.A.in1).guards = some [] from calm) (fun b _ => Clear.nil b) ?_ (fun _ _ e => e) (fun h' u tk k => ⟨_, _, rfl, done h' u tk k⟩) sz'
      show X.A.units + 1 + (PyData.depthAll ds + 1) < cLine
      omega
end
end Lx
namespace Lx
open PySem PySem.Spec PyProof.Rows L2
/-! ### enumerate of a tuple -/
set_option maxHeartbeats 1000000 in
theorem meets_enum1 {v : Value} {o : Obj} {H : Heap → Prop} (B : Begins v o H) :
    Meets (Builtin.«enumerate.__new__» ⟨[.type "enumerate", v], []⟩) (fun _ R s => H s.heap ∧
      R (.ok (.ret (.ref (s.heap.push o).objs.size))) { s with heap := (s.heap.push o).push { cls := .type "enumerate", data := .fields #[.none, .bool false, .ref s.heap.objs.size, rawInt 0, .none, .none] } }) :=
  .of_wp fun prog w A R s h => by
    obtain ⟨hp, g, d, tk, os⟩ := s
    obtain ⟨h1, h⟩ := h
    have hsub := sub_enumerate
    have q1 : ∀ {A' : Around} {E : Value → Shared → Prop} {Q : Value → Shared → Prop}, Q (.ref hp.objs.size) ⟨hp.push o, g, d, tk, os⟩ → wpAny (model prog w) A' (pyIter v) Q E ⟨hp, g, d, tk, os⟩ :=
      fun q => B.iter prog w _ _ ⟨hp, g, d, tk, os⟩ _ h1 q
    wp_walk using q1
    refine wpAny_stack_any fun st => wpAny_pure ?_
    split
    · rename_i c _ _ _ _ _
      cases (c == Value.type "enumerate")
      · wp_walk using q1
        exact ⟨_, rfl, h⟩
      · wp_walk using q1
        exact ⟨_, rfl, h⟩
    · wp_walk using q1
      exact ⟨_, rfl, h⟩
theorem enum1_begins {prog : Program} {w : World} {A : Around} {E : Value → Shared → Prop} {s : Shared} {v : Value} {o : Obj} {H : Heap → Prop} {Q : Value → Shared → Prop} (B : Begins v o H) (h1 : H s.heap)
    (h : ∀ h', IsEnum h' (s.heap.objs.size + 1) s.heap.objs.size 0 .none → h'.get? s.heap.objs.size = some o → h'.objs.size = s.heap.objs.size + 2 →
      (∀ b o, s.heap.get? b = some o → h'.get? b = some o) → Q (.ref (s.heap.objs.size + 1)) { s with heap := h' }) :
    wpAny (model prog w) A (call (.type "enumerate") [v]) Q E s := by
  refine callType_new F.called_enumerate (by decide) (F.typeCall_enumerate_1 _) (F.newCall_enumerate_1 _) (fun obj => F.args_object_init_2 obj _) F.entry_enumerate_new
    (meets_enum1 B) ⟨h1, ?_⟩
  have hz : (s.heap.push o).objs.size = s.heap.objs.size + 1 := Heap.size_push ..
  show _ ∧ _
  rw [hz]
  have he : IsEnum ((s.heap.push o).push { cls := .type "enumerate", data := .fields #[.none, .bool false, .ref s.heap.objs.size, rawInt 0, .none, .none] }) (s.heap.objs.size + 1) s.heap.objs.size 0 .none := by
    have := Heap.get?_push_size (s.heap.push o) (o := { cls := .type "enumerate", data := .fields #[.none, .bool false, .ref s.heap.objs.size, rawInt 0, .none, .none] }) rfl
    rw [hz] at this
    exact this
  refine ⟨⟨_, he, rfl⟩, h _ he (Heap.get?_push_of_some _ (Heap.get?_push_size _ B.free)) (by rw [Heap.size_push, hz]) fun b o x => Heap.get?_push_of_some _ (Heap.get?_push_of_some _ x)⟩
/-- the tuple at a, each item in a new pair -/
def IteT (K : PySem.W.Frag) (a : Addr) (xs : List V) : It :=
  ⟨fun i H => SqT K H a xs ∧ i < xs.length, fun i H v H' => ∃ T x, v = .ref T ∧ H T = none ∧ H' = upd H T (.tup [.int (i : Nat), x]) ∧ xs[i]? = some x, fun i H => SqT K H a xs ∧ xs.length ≤ i⟩
theorem turn_enumT {P : Program} {w : World} {K : PySem.W.Frag} {elts : List Expr} {kk : Nat} {tpos : Pos} (a e it : Addr) (xs : List V) :
    Turn P w K (.Tuple elts kk tpos) (IteT K a xs) [e, it] e (fun i h => (∃ old, IsEnum h e it ((i : Nat) : Int) old) ∧ h.IsTupleIter it a i ∧ e ≠ it ∧ e ≠ a ∧ a ≠ it ∧ i ≤ xs.length) where
  mem := by simp
  obj := fun i h st b hb => by
    obtain ⟨⟨old, he⟩, ⟨o, ho, hc, hd⟩, _⟩ := st
    have e' : b = e ∨ b = it := by simpa using hb
    rcases e' with z | z
    · rw [z]
      exact ⟨_, he, fun v q => nomatch q⟩
    · rw [z]
      exact ⟨o, ho, fun v q => by rw [hd] at q; cases q⟩
  keep := fun i h h' st k => let ⟨⟨old, he⟩, hi, hne⟩ := st; ⟨⟨old, k e (by simp) _ he⟩, hi.at fun o q => k it (by simp) o q, hne⟩
  item := by
    intro X hP hw hK hc i pins s σ H E I hf st hg
    subst hP hw hK
    obtain ⟨⟨old, he⟩, hit, hne, hna, hai, hle⟩ := st
    obtain ⟨hq, hil⟩ := hg
    obtain ⟨x, hx⟩ : ∃ x, xs[i]? = some x := ⟨_, List.getElem?_eq_getElem hil⟩
    obtain ⟨its, rv, p, hz⟩ := I.tuple hq
    obtain ⟨u, hu, ru⟩ := rv.get hx
    have hel : e < s.heap.objs.size := Heap.lt_size he
    have hitl : it < s.heap.objs.size := by obtain ⟨_, q, _⟩ := hit; exact Heap.lt_size q
    have hlt : i < its.toArray.size := by
      rw [List.size_toArray]
      exact (List.getElem?_eq_some_iff.mp hu).1
    refine wpAny_pyNext_enum_itemD (Draws.tuple (A := X.A.in1) (I.ok.hd hc) it a hai its.toArray) he ⟨hit, p⟩ hlt hne (by simp [hne, hna]) fun y h' tk hy ho hst' hT hsz hk => ?_
    obtain rfl : y = u := by
      have : its[i]? = some y := by simpa using hy
      rw [hu] at this
      exact (Option.some.inj this).symm
    refine ⟨_, rfl, wpAny_letOwnedTupleGo_enum (s := { s with heap := h', toks := tk + 1 }) ho fun h'' he' sb => ?_⟩
    have hT2 : h''.get? s.heap.objs.size = some { cls := .type "tuple", data := .seq #[.int i tk, y] } := (sb.2 _ (Nat.ne_of_gt hel)).trans hT
    have new : ObjOk X.prog X.w (upd H s.heap.objs.size (.tup [.int (i : Nat), x])) h'' s.heap.objs.size (.tup [.int (i : Nat), x]) :=
      ⟨by show 2 ≤ sizeLine; decide, [.int i tk, y], .cons ⟨_, rfl⟩ (.cons ru .nil), ⟨_, hT2, rfl, _, rfl⟩⟩
    have I1 : Inv X pins σ (upd H s.heap.objs.size (.tup [.int (i : Nat), x])) { s with heap := h'', toks := tk + 1 } :=
      I.turnedNew (ch := [e, it]) (fun b ob hb q => (sb.2 b (fun z => hb (by simp [z]))).trans (hk b ob (fun z => hb (by simp [z])) (fun z => hb (by simp [z])) q)) hf (Nat.le_refl _) new
    refine ⟨.ref s.heap.objs.size, _, I1, rfl, ⟨_, x, rfl, I.hok.fresh (Nat.le_refl _), rfl, hx⟩, ⟨⟨y, ?_⟩, hst'.1.at fun o q => (sb.2 it (Ne.symm hne)).trans q, hne, hna, hai, hil⟩, fun b hb => ?_⟩
    · have e1 : ((i + 1 : Nat) : Int) = (i : Int) + 1 := by omega
      rw [e1]
      exact he'
    · have hb' : b < s.heap.objs.size := by
        have e' : b = e ∨ b = it := by simpa using hb
        rcases e' with z | z
        · rw [z]
          exact hel
        · rw [z]
          exact hitl
      rw [upd_ne (Nat.ne_of_lt hb')]
      exact (hf b hb).1
  done := by
    intro X hP hw hK hc i pins s σ H E I hf st hg
    subst hP hw hK
    obtain ⟨⟨old, he⟩, hit, hne, hna, hai, hle⟩ := st
    obtain ⟨hq, hx⟩ := hg
    obtain ⟨its, rv, p, hz⟩ := I.tuple hq
    obtain ⟨f0, f1, f2, f3, f4, f5⟩ := hf it (by simp)
    have hl := rv.length
    obtain rfl : i = its.toArray.size := by
      rw [List.size_toArray]
      omega
    exact wpAny_pyNext_enum_endD (Draws.tuple (A := X.A.in1) (I.ok.hd hc) it a hai its.toArray) he ⟨hit, p⟩ fun h' eb => ⟨rfl, I.turned (t' := s.toks) (fun b o hb e => eb b o hb e) f0 f1 f3 f4 f5⟩
  self := fun A i s Q E st h => let ⟨⟨_, he⟩, _⟩ := st; wpAny_pyIter_enum he h
theorem walk_enumT {K : PySem.W.Frag} {a : Addr} {xs : List V} : Walk (IteT K a xs) xs.length (fun H => SqT K H a xs) (YPair (fun i => some (.int (i : Nat))) (fun i => xs[i]?)) := by
  refine ⟨fun i _ hi q => ⟨q, hi⟩, fun _ q => ⟨q, Nat.le_refl _⟩, fun i H v H' _ q y => ?_⟩
  obtain ⟨T, x, h1, h2, h3, h4⟩ := y
  exact ⟨T, .int (i : Nat), x, h1, h2, h3, rfl, h4⟩
def iEnumT (K : PySem.W.Frag) (ta : TA) : TI := fun σ H R => ta σ H fun vs H1 => ∃ a xs, vs = [.ref a] ∧ SqT K H1 a xs ∧ R (IteT K a xs) H1
theorem pi_enumT {X : Cx} {e : Expr} {ta : TA} {p pos tpos : Pos} {elts : List Expr} {kk : Nat} (hg : Gl X "enumerate") (hm : X.mg "enumerate" = none) (ha : PA X [e] ta) (hs : starEach [e] X.env = [(false, eval e X.env)] := by rfl) :
    PI X (.Tuple elts kk tpos) (.Call (.Name "enumerate" p) [e] [] pos) (iEnumT X.K ta) := by
  refine ⟨fun pins s σ H R I h => ?_⟩
  refine Call_ (ld_blt I hg hm boot_enumerate (PyProof.Rows.callWith_type1 (thn (ha.run pos pins s σ H _ I h) fun us s1 ⟨vs, H1, I1, r1, q1⟩ => ?_) hs rfl))
  obtain ⟨a, xs, ex, hq, q⟩ := q1
  subst ex
  cases r1 with
  | cons r rr =>
    cases rr
    cases r
    obtain ⟨its, rv, p', hz⟩ := I1.tuple hq
    have hal : a < s1.heap.objs.size := by
      obtain ⟨o, ho, _⟩ := p'
      exact Heap.lt_size ho
    refine enum1_begins (begins_tuple a its.toArray) p' fun h' he hit hsz hk => wpAny_pyIter_enum he ?_
    have I2 : Inv X pins σ H1 { s1 with heap := h' } := I1.kept (t' := s1.toks) hk
    refine ⟨s1.heap.objs.size + 1, [s1.heap.objs.size + 1, s1.heap.objs.size], _, _, H1, rfl, I2, turn_enumT a (s1.heap.objs.size + 1) s1.heap.objs.size xs, ⟨⟨.none, he⟩, ⟨_, hit, rfl, rfl⟩, Nat.succ_ne_self _, Nat.ne_of_gt (Nat.lt_succ_of_lt hal), Nat.ne_of_lt hal, Nat.zero_le _⟩, fun b hb => ?_, q⟩
    have e' : b = s1.heap.objs.size + 1 ∨ b = s1.heap.objs.size := by simpa using hb
    have hle : s1.heap.objs.size ≤ b := by
      rcases e' with z | z
      · rw [z]
        exact Nat.le_add_right _ _
      · rw [z]
        exact Nat.le_refl _
    exact I1.fpOk hle (I1.hok.fresh hle)

/-! ### a class held in a local name, called (with starred arguments or without) -/
/-- x(..), x a local name that holds the class C -/
def tMakeV (C : Addr) (sp : Sp) (E : XK) (tv : TE) (t : TA) : TE := fun σ H Q => tv σ H fun y H0 => y = .ref C ∧ StX.tMakeR C sp E t σ H0 Q
section
variable {X : Cx} {CX : CXT} {k : Nat} {f C : Addr} {sp : Sp} {E : XK} {x : Str} {e : Expr} {es : List Expr} {tv : TE} {t : TA} {p pos : Pos}
theorem pe_makeV (M : Mk X.K C f) (F : FnR X.prog X.w X.K X.mg X.base CX k f sp) (hr : Room (k + 1) X.A) (hv : PE X (.Name x p) tv) (hx : Passes CX X E) (ha : PA X (e :: es) t)
    (he : starEach (e :: es) X.env = (false, eval e X.env) :: starEach es X.env := by rfl) (hpl : (backTo pos (starEach es X.env)).any (·.1) = false := by rfl) : PE X (.Call (.Name x p) (e :: es) [] pos) (tMakeV C sp E tv t) := by
  refine ⟨fun pins s σ H Q I h => ?_⟩
  refine wpAny_Call_Name_kw (thn (hv.run pins s σ H _ I h) fun u s0 ⟨y, H0, I0, r0, e0, q0⟩ => ?_)
  subst e0
  obtain rfl : u = Value.ref C := r0
  refine PySem.W.callWith_K (h₀ := X.base) I0.ok.mod.kin M.kp (thn (ha.run pos pins s0 σ H0 _ I0 q0) fun us s1 ⟨vs, H1, I1, r, q⟩ => ⟨I1.kIn, ?_⟩) he hpl
  exact StX.run_makeR M F hr hx I1 r q
/-- .. with a star behind the first argument -/
theorem pe_makeVS (M : Mk X.K C f) (F : FnR X.prog X.w X.K X.mg X.base CX k f sp) (hr : Room (k + 1) X.A) (hv : PE X (.Name x p) tv) (hx : Passes CX X E) (ha : PA X (e :: es) t)
    (he : starEach (e :: es) X.env = (false, eval e X.env) :: starEach es X.env := by rfl) (hst : (backTo pos (starEach es X.env)).any (·.1) = true := by rfl) : PE X (.Call (.Name x p) (e :: es) [] pos) (tMakeV C sp E tv t) := by
  refine ⟨fun pins s σ H Q I h => ?_⟩
  refine wpAny_Call_Name_kw (thn (hv.run pins s σ H _ I h) fun u s0 ⟨y, H0, I0, r0, e0, q0⟩ => ?_)
  subst e0
  obtain rfl : u = Value.ref C := r0
  refine PySem.W.callWith_S2 (h₀ := X.base) I0.ok.mod.kin M.kp (thn (ha.run pos pins s0 σ H0 _ I0 q0) fun us s1 ⟨vs, H1, I1, r, q⟩ => ⟨I1.kIn, ?_⟩) he hst
  exact StX.run_makeR M F hr hx I1 r q
end
end Lx
namespace Lx
open PySem PySem.Spec PyProof.Rows L2
open AutoSeq1 (wpAny_loadPart')
/-! ### == of a text and a dict; a text among things of any kind -/
theorem str_eq_declines_dict (b : Str) (u : Tok) (l : Addr) (c : Value) (es : Array DictEntry) (n : Nat) (dd : Option Addr) (sl : Array (Option Value)) :
    Meets (Builtin.«str.__eq__» ⟨[.str b u, .ref l], []⟩) (fun _ R s => s.heap.get? l = some { cls := c, dict := dd, data := .dict es n, slots := sl } ∧ R (.ok (.ret .notImplemented)) s) :=
  .of_wp fun prog w A R s h => by obtain ⟨hp, g, d, tk, os⟩ := s; obtain ⟨hl, h⟩ := h; wp_walk using wpAny_loadPart' hl, wpAny_load hl; exact ⟨_, rfl, h⟩
/-- a dict stands at a -/
def IsD (h : Heap) (a : Addr) : Prop := ∃ o es ep, h.get? a = some o ∧ o.cls = .type "dict" ∧ o.data = .dict es ep
section
variable {prog : Program} {w : World} {A : Around} {E : Value → Shared → Prop} {s : Shared} {Q : Value → Shared → Prop} {l : Addr}
theorem IsD.typeIs (h : IsD s.heap l) : s.TypeIs (.ref l) "dict" := by
  obtain ⟨o, es, ep, ho, hc, _⟩ := h
  exact ⟨o, ho, hc⟩
theorem dict_eq_str (b : Str) (u : Tok) (hl : IsD s.heap l) (h : Q .notImplemented s) : wpAny (model prog w) A (call (.builtin "dict.__eq__") [.ref l, .str b u]) Q E s := by
  refine wpAny_call_entry PySem.F.slot_dict_eq hl.typeIs PySem.F.entry_dict_eq ?_ (PySem.F.args_dict_eq_2 _ _)
  show wpAny _ _ (Builtin.Dict.dictSlotArgs "__eq__" ⟨[.ref l, .str b u], []⟩ >>= _) _ _ s
  refine wpAny_bind ?_
  unfold Builtin.Dict.dictSlotArgs
  refine wpAny_bind (wpAny_notOrdered_dict hl.typeIs ?_)
  show wpAny _ _ (pure (Value.ref l, Value.str b u)) _ _ s
  refine wpAny_pure ?_
  refine wpAny_bind (wpAny_isInstance (T := "str") (typeIs_str s b u) PySem.F.sub_str_dict ?_)
  simp only [Bool.not_false, if_true]
  exact wpAny_bind (wpAny_rule (wpAny_bind (wpAny_pure (wpAny_pure ⟨_, rfl, h⟩))))
theorem str_eq_dict (b : Str) (u : Tok) (hl : IsD s.heap l) (h : Q .notImplemented s) : wpAny (model prog w) A (call (.builtin "str.__eq__") [.str b u, .ref l]) Q E s := by
  obtain ⟨⟨cls, dd, data, sl⟩, es, ep, ho, hx, hd⟩ := hl
  simp only at hd
  subst hd
  exact call_meets F.slot_str_eq (typeIs_str s b u) F.entry_str_eq (F.args_str_eq_2 _ _) (str_eq_declines_dict b u l cls es ep dd sl) ⟨ho, h⟩
theorem eqAt_dict_str {A : Around} (b : Str) (u : Tok) (hl : IsD s.heap l) (hu : A.units < cLine) : SeqAt.EqAt A s (.ref l) (.str b u) false := fun prog w E Q h => by
  unfold eqBool
  refine wpAny_holding ?_
  refine wpAny_ite_split (fun hab => absurd (eq_of_beq hab) nofun) (fun _ => ?_)
  exact wpAny_bind (SeqAt.rc_eq_decline_or (k := false) hl.typeIs (typeIs_str s b u) (by decide) F.sub_str_dict F.slot_dict_eq F.slot_str_eq_refl
    (fun _ hq => dict_eq_str b u hl hq) (fun _ hq => str_eq_dict b u hl hq) (fun _ hq => wpAny_of_eq (rfl : isSame (.ref l) (.str b u) = pure false) hq) (.inr hu) (wpAny_truthy_bool h))
theorem eqAt_str_dict {A : Around} (b : Str) (u : Tok) (hl : IsD s.heap l) (hu : A.units < cLine) : SeqAt.EqAt A s (.str b u) (.ref l) false := fun prog w E Q h => by
  unfold eqBool
  refine wpAny_holding ?_
  refine wpAny_ite_split (fun hab => absurd (eq_of_beq hab) nofun) (fun _ => ?_)
  exact wpAny_bind (SeqAt.rc_eq_decline_or (k := false) (typeIs_str s b u) hl.typeIs (by decide) F.sub_dict_str F.slot_str_eq F.slot_dict_eq_refl
    (fun _ hq => str_eq_dict b u hl hq) (fun _ hq => dict_eq_str b u hl hq) (fun _ hq => wpAny_of_eq (rfl : isSame (.str b u) (.ref l) = pure false) hq) (.inr hu) (wpAny_truthy_bool h))
end
/-- a thing of the kinds that a text may be compared with, and whether it is that text -/
inductive Any (K : PySem.W.Frag) (H : Hp) : V → Prop
  | flat (v : V) (h : flatV v = true) : Any K H v
  | lst {a : Addr} {xs : List V} (h : SqL K H a xs) : Any K H (.ref a)
  | tup {a : Addr} {xs : List V} (h : SqT K H a xs) : Any K H (.ref a)
  | dK {a : Addr} {ks : List (Key × V)} (h : H a = some (.dK ks)) : Any K H (.ref a)
def isStr (z : Str) : V → Bool
  | .str y => y == z
  | _ => false
theorem isStr_eqV {v : V} (h : flatV v = true) (z : Str) : eqV v (.str z) = isStr z v := by
  cases v with
  | non => rfl
  | bl b => rfl
  | int i => rfl
  | str y => rfl
  | _ => exact absurd (show false = true from h) Bool.false_ne_true
theorem isStr_eqV' {v : V} (h : flatV v = true) (z : Str) : eqV (.str z) v = isStr z v := by
  cases v with
  | non => rfl
  | bl b => rfl
  | int i => rfl
  | str y =>
    show (z == y) = (y == z)
    exact Bool.eq_iff_iff.mpr ⟨fun h => by rw [eq_of_beq h]; exact beq_self_eq_true _, fun h => by rw [eq_of_beq h]; exact beq_self_eq_true _⟩
  | _ => exact absurd (show false = true from h) Bool.false_ne_true
section
variable {X : Cx} {pins : List (Addr × Obj)} {σ : L2.St} {H : Hp} {s : Shared}
theorem dict_at {a : Addr} {ks : List (Key × V)} (I : Inv X pins σ H s) (h : H a = some (.dK ks)) : IsD s.heap a := by
  obtain ⟨_, ya, va, ra, o, es, ep, ho, hx, hd, _⟩ := (show ObjOk X.prog X.w H s.heap a (.dK ks) from I.hok a _ h)
  exact ⟨o, es, ep, ho, hx.1, hd⟩
theorem Any.eqL (I : Inv X pins σ H s) {A : Around} (hu : A.units < cLine) {v : V} {u : Value} (z : Str) (t : Tok) (a : Any X.K H v) (r : RelV v u) : SeqAt.EqAt A s u (.str z t) (isStr z v) := by
  cases a with
  | flat _ h =>
    have q := eqAt_V (A := A) (s := s) r (show RelV (.str z) (.str z t) from ⟨t, rfl⟩) h rfl
    rw [isStr_eqV h] at q
    exact q
  | lst h =>
    cases r
    obtain ⟨its, _, p, _⟩ := I.list h
    exact SeqAt.EqAt.list_str z t p.isList hu
  | tup h =>
    cases r
    obtain ⟨its, _, p, _⟩ := I.tuple h
    exact SeqAt.EqAt.tuple_str z t p hu
  | dK h =>
    cases r
    exact eqAt_dict_str z t (dict_at I h) hu
theorem Any.eqR (I : Inv X pins σ H s) {A : Around} (hu : A.units < cLine) {v : V} {u : Value} (z : Str) (t : Tok) (a : Any X.K H v) (r : RelV v u) : SeqAt.EqAt A s (.str z t) u (isStr z v) := by
  cases a with
  | flat _ h =>
    have q := eqAt_V (A := A) (s := s) (show RelV (.str z) (.str z t) from ⟨t, rfl⟩) r rfl h
    rw [isStr_eqV' h] at q
    exact q
  | lst h =>
    cases r
    obtain ⟨its, _, p, _⟩ := I.list h
    exact SeqAt.EqAt.str_list z t p.isList hu
  | tup h =>
    cases r
    obtain ⟨its, _, p, _⟩ := I.tuple h
    exact SeqAt.EqAt.str_tuple z t p hu
  | dK h =>
    cases r
    exact eqAt_str_dict z t (dict_at I h) hu
end
def strU (z : Str) : Value → Bool
  | .str y _ => y == z
  | _ => false
theorem strU_of {v : V} {u : Value} (z : Str) (r : RelV v u) (a : flatV v = true ∨ ∃ p, v = .ref p) : strU z u = isStr z v := by
  rcases a with a | ⟨p, rfl⟩
  · cases v with
    | non => cases r; rfl
    | bl b => cases r; rfl
    | int i => obtain ⟨t, rfl⟩ := r; rfl
    | str y => obtain ⟨t, rfl⟩ := r; rfl
    | _ => exact absurd (show false = true from a) Bool.false_ne_true
  · cases r
    rfl
theorem Any.two {K : PySem.W.Frag} {H : Hp} {v : V} (a : Any K H v) : flatV v = true ∨ ∃ p, v = .ref p := by
  cases a with
  | flat _ h => exact .inl h
  | lst h => exact .inr ⟨_, rfl⟩
  | tup h => exact .inr ⟨_, rfl⟩
  | dK h => exact .inr ⟨_, rfl⟩
theorem any_strU {K : PySem.W.Frag} {H : Hp} (z : Str) : ∀ {xs : List V} {us : List Value}, Vals xs us → (∀ v ∈ xs, Any K H v) → us.any (strU z) = xs.any (isStr z)
  | _, _, .nil, _ => rfl
  | x :: xs, u :: us, .cons r t, f => by
    rw [List.any_cons, List.any_cons, strU_of z r (f x List.mem_cons_self).two, any_strU z t fun v h => f v (List.mem_cons_of_mem _ h)]
/-- the text among them -/
def hasV (v : V) (xs : List V) : Bool := xs.any fun y => match y with
  | .str z => isStr z v
  | _ => false
def hasU (v : V) : Value → Bool
  | .str z _ => isStr z v
  | _ => false
theorem any_hasU (v : V) : ∀ {xs : List V} {us : List Value}, Vals xs us → (∀ y ∈ xs, ∃ z, y = .str z) → us.any (hasU v) = hasV v xs
  | _, _, .nil, _ => rfl
  | x :: xs, u :: us, .cons r t, f => by
    obtain ⟨z, rfl⟩ := f x List.mem_cons_self
    obtain ⟨tk, rfl⟩ := r
    have ih := any_hasU v t fun y h => f y (List.mem_cons_of_mem _ h)
    show (isStr z v || us.any (hasU v)) = (isStr z v || hasV v xs)
    rw [ih]
section
variable {X : Cx} {pins : List (Addr × Obj)} {σ : L2.St} {H : Hp} {s : Shared}
theorem mem_eqL (I : Inv X pins σ H s) {A : Around} (hu : A.units < cLine) (z : Str) (t : Tok) : ∀ {xs : List V} {us : List Value}, Vals xs us → (∀ v ∈ xs, Any X.K H v) → ∀ u ∈ us, SeqAt.EqAt A s u (.str z t) (strU z u)
  | _, _, .nil, _ => fun u hu => by cases hu
  | x :: xs, u :: us, .cons r tl, f => fun u' hm => by
    rcases List.mem_cons.mp hm with rfl | hm
    · rw [strU_of z r (f x List.mem_cons_self).two]
      exact (f x List.mem_cons_self).eqL I hu z t r
    · exact mem_eqL I hu z t tl (fun v h => f v (List.mem_cons_of_mem _ h)) u' hm
theorem mem_eqR (I : Inv X pins σ H s) {A : Around} (hu : A.units < cLine) {v : V} {w : Value} (a : Any X.K H v) (rv : RelV v w) : ∀ {xs : List V} {us : List Value}, Vals xs us → (∀ y ∈ xs, ∃ z, y = .str z) → ∀ u ∈ us, SeqAt.EqAt A s u w (hasU v u)
  | _, _, .nil, _ => fun u hu => by cases hu
  | x :: xs, u :: us, .cons r tl, f => fun u' hm => by
    rcases List.mem_cons.mp hm with rfl | hm
    · obtain ⟨z, rfl⟩ := f x List.mem_cons_self
      obtain ⟨tk, rfl⟩ := r
      exact a.eqR I hu z tk rv
    · exact mem_eqR I hu a rv tl (fun y h => f y (List.mem_cons_of_mem _ h)) u' hm
end
/-- a text in a list or tuple of things of any kind -/
def rInA (K : PySem.W.Frag) (neg : Bool) : R2 := fun x y H Q => ∃ z p xs, x = .str z ∧ y = .ref p ∧ (SqL K H p xs ∨ SqT K H p xs) ∧ (∀ v ∈ xs, Any K H v) ∧ Q (.bl (if neg then !xs.any (isStr z) else xs.any (isStr z))) H
/-- a thing of any kind in a list or tuple of texts -/
def rInT (K : PySem.W.Frag) (neg : Bool) : R2 := fun x y H Q => ∃ p xs, y = .ref p ∧ (SqL K H p xs ∨ SqT K H p xs) ∧ Any K H x ∧ (∀ v ∈ xs, ∃ z, v = .str z) ∧ Q (.bl (if neg then !hasV x xs else hasV x xs)) H
section
variable {X : Cx}
theorem op_inA (hu : X.A.units + 64 < cLine) : OpR X (compareOp .In) (rInA X.K false) := by
  intro pins s σ H x y v u Q I rx ry h
  obtain ⟨z, p, xs, rfl, rfl, hq, f, q⟩ := h
  obtain ⟨t, rfl⟩ := rx
  cases ry
  have hu' : X.A.in1.units < cLine := by show X.A.units + 1 < cLine; omega
  rcases hq with hq | hq
  · obtain ⟨its, r, pl, hz⟩ := I.list hq
    refine SeqAt.in_listAt (strU z) pl.isList (fun w hw => mem_eqL I hu' z t r f w (by simpa using hw)) ⟨.bl _, H, I, rfl, ?_⟩
    rw [show its.toArray.any (strU z) = its.any (strU z) by simp, any_strU z r f]
    exact q
  · obtain ⟨its, r, pl, hz⟩ := I.tuple hq
    refine SeqAt.in_tupleAt (strU z) pl (fun w hw => mem_eqL I hu' z t r f w (by simpa using hw)) ⟨.bl _, H, I, rfl, ?_⟩
    rw [show its.toArray.any (strU z) = its.any (strU z) by simp, any_strU z r f]
    exact q
theorem op_inT (hu : X.A.units + 64 < cLine) : OpR X (compareOp .In) (rInT X.K false) := by
  intro pins s σ H x y v u Q I rx ry h
  obtain ⟨p, xs, rfl, hq, a, f, q⟩ := h
  cases ry
  have hu' : X.A.in1.units < cLine := by show X.A.units + 1 < cLine; omega
  rcases hq with hq | hq
  · obtain ⟨its, r, pl, hz⟩ := I.list hq
    refine SeqAt.in_listAt (hasU x) pl.isList (fun w hw => mem_eqR I hu' a rx r f w (by simpa using hw)) ⟨.bl _, H, I, rfl, ?_⟩
    rw [show its.toArray.any (hasU x) = its.any (hasU x) by simp, any_hasU x r f]
    exact q
  · obtain ⟨its, r, pl, hz⟩ := I.tuple hq
    refine SeqAt.in_tupleAt (hasU x) pl (fun w hw => mem_eqR I hu' a rx r f w (by simpa using hw)) ⟨.bl _, H, I, rfl, ?_⟩
    rw [show its.toArray.any (hasU x) = its.any (hasU x) by simp, any_hasU x r f]
    exact q
theorem op_notInT (hu : X.A.units + 64 < cLine) : OpR X (compareOp .NotIn) (rInT X.K true) := by
  intro pins s σ H x y v u Q I rx ry h
  obtain ⟨p, xs, rfl, hq, a, f, q⟩ := h
  cases ry
  have hu' : X.A.in1.units < cLine := by show X.A.units + 1 < cLine; omega
  rcases hq with hq | hq
  · obtain ⟨its, r, pl, hz⟩ := I.list hq
    refine SeqAt.notIn_listAt (hasU x) pl.isList (fun w hw => mem_eqR I hu' a rx r f w (by simpa using hw)) ⟨.bl _, H, I, rfl, ?_⟩
    rw [show its.toArray.any (hasU x) = its.any (hasU x) by simp, any_hasU x r f]
    exact q
  · obtain ⟨its, r, pl, hz⟩ := I.tuple hq
    refine SeqAt.notIn_tupleAt (hasU x) pl (fun w hw => mem_eqR I hu' a rx r f w (by simpa using hw)) ⟨.bl _, H, I, rfl, ?_⟩
    rw [show its.toArray.any (hasU x) = its.any (hasU x) by simp, any_hasU x r f]
    exact q
end
end Lx
namespace Lx
open PySem PySem.Spec PyProof.Rows L2
/-! ### isinstance of the exception that a suite holds, with a dict of its own -/
/-- what a caught exception's dict must be -/
def XdAt (H : Hp) (d : Option Addr) : Prop := ∀ dd, d = some dd → ∃ fs, H dd = some (.xd fs)
def rIsS (K : PySem.W.Frag) (a : Addr) (cls : Value) (d : Option Addr) : List V → Hp → VK → Prop := fun xs H Q => ∃ (C g : Addr) (c : V) (cv : Value) (k : Bool), xs = [.ref a, c] ∧ cls = .ref C ∧ ExK K C g ∧ ClsK K ∧ XdAt H d ∧ ClsV c cv ∧ PySem.W.kitOne K (.ref C) cv = some k ∧ Q (.bl k) H
theorem call_isS {X : Cx} {a : Addr} {oe : Obj} {cls : Value} {d : Option Addr} {pn : List (Addr × Obj)} (hz : Zc cls d oe) (hf : ∃ vs, oe.data = .fields vs) : CallR (X.suite a ((a, oe) :: pn)) (.builtin "isinstance") (rIsS X.K a cls d) := by
  intro pins s σ H xs us Q I r h
  obtain ⟨C, g, c, cv, kk, rfl, rfl, T, Z, hd, hc, e, q⟩ := h
  cases r with
  | cons ra rr =>
    cases rr with
    | cons rc rr =>
      cases rr
      cases ra
      obtain rfl := hc.eq rc
      obtain ⟨ha, _⟩ := I.pin (a, oe) (List.mem_append_left _ List.mem_cons_self)
      obtain ⟨vs, hv⟩ := hf
      have J : ∃ od, PySem.W.InstAt s.heap a oe C od := by
        cases d with
        | none => exact ⟨none, ha, hz.1, by unfold PySem.W.notCls; rw [hv] <;> rfl, by rw [hz.2]; trivial⟩
        | some dd =>
          obtain ⟨fs, hdd⟩ := hd dd rfl
          have hx : ObjOk X.prog X.w H s.heap dd (.xd fs) := I.hok dd _ hdd
          obtain ⟨mA, hns, _⟩ := hx
          obtain ⟨od, ho, _⟩ := lookIn_ns hns
          exact ⟨some od, ha, hz.1, by unfold PySem.W.notCls; rw [hv] <;> rfl, by rw [hz.2]; exact ho⟩
      obtain ⟨od, J⟩ := J
      exact PySem.W.kia_one (PySem.W.kitx_exc T.is T.ga T.gg T.oex.exC T.cls Z.get Z.takes T.ob) I.kIn J e (fun z => nomatch z) fun tk => ⟨.bl kk, H, I.kept (t' := tk) fun _ _ z => z, rfl, q⟩
end Lx
namespace Lx
open PySem PySem.Spec PyProof.Rows L2
/-! ### set(..) of a tuple of texts that are all different -/
/-- the first i of the texts -/
def metS (xs : List Str) (i : Nat) : Str → Bool := fun k => decide (k ∈ xs.take i)
theorem metS_add {xs : List Str} {i : Nat} {x : Str} (hx : xs[i]? = some x) (k : Str) : (metS xs i k || decide (k = x)) = metS xs (i + 1) k := by
  unfold metS
  rw [List.take_add_one, hx]
  by_cases h : k ∈ xs.take i
  · simp [h]
  · by_cases h' : k = x <;> simp [h, h']
theorem metS_new {xs : List Str} {i : Nat} {x : Str} (nd : xs.Nodup) (hx : xs[i]? = some x) : metS xs i x = false := by
  refine decide_eq_false fun h => ?_
  obtain ⟨j, hj⟩ := List.mem_iff_getElem?.mp h
  rw [List.getElem?_take] at hj
  split at hj
  · rename_i hji
    have hi := (List.getElem?_eq_some_iff.mp hx).1
    have e : j = i := (List.getElem?_inj (by omega) nd).mp (hj.trans hx.symm)
    omega
  · cases hj
section
variable {prog : Program} {w : World} {A : Around} {R : Result → Shared → Prop} {I : Addr} {fp wr : List Addr} {G : Array GenState → Array GenState → Prop} {n : Nat} {P : Nat → Value → Prop} {St : Nat → Shared → Prop}
theorem set_loop (W : WalksS prog w A.in1 I fp wr G n P St) {S : Addr} (far : S ∉ fp) {xs : List Str} (hl : xs.length = n) (nd : xs.Nodup) (few : n < 4000) (val : ∀ i v, P i v → ∃ x t, xs[i]? = some x ∧ v = .str x t) :
    ∀ (k i : Nat) (s : Shared), i + k = n → St i s → s.heap.SetOf (PySem.strKind prog w) S (metS xs i) i →
      (∀ s', Moved (S :: wr) G s s' → s'.heap.SetOf (PySem.strKind prog w) S (metS xs n) n → R (.ok (.ret .none)) s') →
      codeAny (model prog w) A (.builtin "set.update.loop" ⟨[.ref S, .ref I], []⟩) R s := by
  have out : S ∉ wr := fun h => far (W.sub _ h)
  have more : ∀ b ∈ wr, b ∈ S :: wr := fun b hb => List.mem_cons_of_mem _ hb
  have stays : ∀ {s s' : Shared} {T : Str → Bool} {m : Nat}, Moved wr G s s' → s.heap.SetOf (PySem.strKind prog w) S T m → s'.heap.SetOf (PySem.strKind prog w) S T m := fun hm ⟨o, es, ep, tb, ho, rest⟩ => ⟨o, es, ep, tb, hm.heap S _ out ho, rest⟩
  intro k
  induction k with
  | zero =>
    intro i s hk st hS hR
    obtain rfl : i = n := hk
    refine codeAny_builtin PyProof.Rows.F.entry_set_update_loop ?_
    rw [Around.under_plainId PyProof.Rows.F.plain_set_update_loop _]
    show wpAny _ A.in1 (pyNext (.ref I) >>= _) _ _ s
    exact wpAny_bind (W.done s _ _ st fun s' hm => wpAny_pure (hR s' (hm.mono more) (stays hm hS)))
  | succ k ih =>
    intro i s hk st hS hR
    have lt : i < n := by omega
    refine codeAny_builtin PyProof.Rows.F.entry_set_update_loop ?_
    rw [Around.under_plainId PyProof.Rows.F.plain_set_update_loop _]
    show wpAny _ A.in1 (pyNext (.ref I) >>= _) _ _ s
    refine wpAny_bind (W.item i s _ _ lt st fun v s' hP st' hm => ?_)
    obtain ⟨x, t, hx, rfl⟩ := val i v hP
    have hS1 := stays hm hS
    show wpAny _ A.in1 (holding [Value.str x t] (setAdd S (.str x t)) >>= _) _ _ s'
    refine wpAny_bind (wpAny_holding ?_)
    unfold setAdd
    refine wpAny_holding (wpAny_bind ((PySem.strKind prog w).pyHash (k := x) (strKind_is _ _ _ _) ?_))
    refine wpAny_setAddHashed_of (knd := PySem.strKind prog w) (s := { s' with toks := s'.toks + 1 }) (strKind_is _ _ _ _) rfl hS1 (by unfold scanBound; omega) fun h' sb hS2 => ?_
    rw [metS_new nd hx] at hS2
    have hS3 : h'.SetOf (PySem.strKind prog w) S (metS xs (i + 1)) (i + 1) := PyProof.Rows.SetOf_congr hS2 (fun k' => metS_add hx k') (by simp)
    refine wpAny_pure ⟨plainId_quiet PyProof.Rows.F.plain_set_update_loop _, ih (i + 1) _ (by omega) (W.frame _ s' _ _ st' (Nat.le_succ _) fun b hb o e => ?_) hS3 fun s'' hm2 hS4 => ?_⟩
    · rw [sb.2 b (fun q : b = S => far (by rw [← q]; exact hb))]
      exact e
    · refine hR s'' (Moved.trans W.gtrans ((hm.mono more).then_heap (Nat.le_succ _) fun b o hb e => ?_) hm2) hS4
      rw [sb.2 b (fun q : b = S => hb (by rw [q]; exact List.mem_cons_self))]
      exact e
end
/-- the tuple's length: how many there are -/
abbrev freshSet (led : Bool) : Obj := { cls := .type "set", dict := none, data := .set #[] 0 (.fresh 0 0 led) }
section
variable {prog : Program} {w : World} {A : Around} {E : Value → Shared → Prop} {s : Shared}
theorem strs_val {its : List Value} {xs : List Str} (r : Vals (xs.map V.str) its) (i : Nat) (v : Value) (h : its[i]? = some v) : ∃ x t, xs[i]? = some x ∧ v = .str x t := by
  have hl := r.length
  have hi := (List.getElem?_eq_some_iff.mp h).1
  have hx : i < xs.length := by
    rw [List.length_map] at hl
    omega
  obtain ⟨u, hu, ru⟩ := r.get (i := i) (x := .str xs[i]) (by rw [List.getElem?_map, List.getElem?_eq_getElem hx]; rfl)
  rw [h] at hu
  obtain ⟨t, e⟩ := ru
  exact ⟨_, t, List.getElem?_eq_getElem hx, (Option.some.inj hu).trans e⟩
theorem set_init {l : Addr} {items : Array Value} {xs : List Str} {led : Bool} {Q : Fin → Shared → Prop} (hh : A.handled = none) (hl : s.heap.IsTuple l items) (r : Vals (xs.map V.str) items.toList) (nd : xs.Nodup) (few : xs.length < 4000)
    (h : ∀ (h' : Heap) (tk : Nat), h'.SetOf (PySem.strKind prog w) s.heap.objs.size (metS xs xs.length) xs.length → (∀ b o, b < s.heap.objs.size → s.heap.get? b = some o → h'.get? b = some o) → Q (.done (.ret .none)) { s with heap := h', toks := tk }) :
    wpAny (model prog w) A (Builtin.«set.__init__» ⟨[.ref s.heap.objs.size, .ref l], []⟩) Q E { s with heap := s.heap.push (freshSet led) } := by
  obtain ⟨⟨c, dd, dt, sl⟩, hol, hc, nl, hd⟩ := hl
  dsimp only at hc hd
  subst hc hd
  have ls : l < s.heap.objs.size := Heap.lt_size hol
  have at_ : (s.heap.push (freshSet led)).get? l = some { cls := .type "tuple", dict := dd, data := .seq items nl, slots := sl } := Heap.get?_push_of_some _ hol
  have tup : (s.heap.push (freshSet led)).IsTuple l items := ⟨_, at_, rfl, nl, rfl⟩
  have no1 := PySem.F.sub_tuple_set
  have no2 := PySem.F.sub_tuple_frozenset
  have no3 : (Value.type "tuple" == Value.type "dict") = false := by decide
  have sz : (s.heap.push (freshSet led)).objs.size = s.heap.objs.size + 1 := Heap.size_push ..
  have len : items.size = xs.length := by
    have := r.length
    rw [List.length_map, Array.length_toList] at this
    exact this.symm
  unfold Builtin.«set.__init__» noKeywords Builtin.Frozenset.updateFrom
  generalize hPI : pyIter = PI
  wp_walk
  subst hPI
  refine wpAny_pyIter_tuple tup (wpAny_bind (wpAny_runValue ?_))
  have apart : l ≠ (s.heap.push (freshSet led)).objs.size := by
    rw [sz]
    exact Nat.ne_of_lt (Nat.lt_succ_of_lt ls)
  refine set_loop ((Walks.tuple (A := A.in1) (by simp [hh]) _ l apart items).toS) (S := s.heap.objs.size) ?far (xs := xs) len.symm nd (by omega) (fun i v hv => strs_val r i v (by rw [Array.getElem?_toList]; exact hv)) items.size 0 _ (by omega) ?st ?start ?fin
  case st => exact ⟨⟨_, Heap.get?_push_size _ rfl, rfl, rfl⟩, tup.push _⟩
  case far =>
    rw [sz]
    simp only [List.mem_cons, List.not_mem_nil, or_false, not_or]
    exact ⟨Nat.ne_of_lt (Nat.lt_succ_self _), Nat.ne_of_gt ls⟩
  case start =>
    have g0 : ((s.heap.push (freshSet led)).push { cls := .type "tuple_iterator", data := .fields #[.ref l, .int 0 0] }).get? s.heap.objs.size = some (freshSet led) := Heap.get?_push_of_some _ (Heap.get?_push_size _ rfl)
    exact PyProof.Rows.SetOf_congr ((PyProof.Rows.setObjOf_fresh (knd := PySem.strKind prog w) led).setOf g0 (by unfold scanBound; omega)) (fun _ => by simp [metS]) rfl
  case fin =>
    intro s' hm hS
    obtain ⟨h', g', d', tk', os'⟩ := s'
    obtain rfl : g' = s.gens := hm.gens
    obtain rfl : d' = s.drawn := hm.drawn
    obtain rfl : os' = s.os := hm.os
    refine wpAny_pure (wpAny_pure ?_)
    rw [len] at hS
    have z := h h' tk' hS fun b o hb e => hm.heap b o (by rw [sz]; simp only [List.mem_cons, List.not_mem_nil, or_false, not_or]; exact ⟨Nat.ne_of_lt hb, Nat.ne_of_lt (Nat.lt_succ_of_lt hb)⟩) (Heap.get?_push_of_some _ (Heap.get?_push_of_some _ e))
    exact z
set_option maxHeartbeats 3200000 in
theorem set_texts {l : Addr} {items : Array Value} {xs : List Str} {Q : Value → Shared → Prop} (hh : A.handled = none) (hl : s.heap.IsTuple l items) (r : Vals (xs.map V.str) items.toList) (nd : xs.Nodup) (few : xs.length < 4000)
    (h : ∀ (h' : Heap) (tk : Nat), h'.SetOf (PySem.strKind prog w) s.heap.objs.size (metS xs xs.length) xs.length → (∀ b o, b < s.heap.objs.size → s.heap.get? b = some o → h'.get? b = some o) → Q (.ref s.heap.objs.size) { s with heap := h', toks := tk }) :
    wpAny (model prog w) A (call (.type "set") [.ref l]) Q E s := by
  have ft := PySem.F.called_set
  obtain ⟨c, tl, mro⟩ := ft.mro
  have made := ft.made
  have sub := ft.sub
  have nt := ft.notType
  have cc := ft.canCreate
  have tc := PySem.F.typeCall_set_1 (.ref l)
  refine wpAny_call (codeAny_of_tree ?_)
  show wpAny _ _ (callAny (.type "set") _) _ _ _
  refine wpAny_pure ⟨Code.quiet_builtin _ (by decide +kernel), codeAny_builtin PySem.F.entry_type_call ?_⟩
  rw [Around.under_plain (weight_type_call_type "set" [.ref l] []) rfl]
  repeat (any_goals (first | assumption | wp_step))
  refine codeAny_mono (PySem.code_set_new_1 (.ref l) (E := E) (Q₁ := fun o s₁ => ∃ led : Bool, o = .ref s.heap.objs.size ∧ s₁ = { s with heap := s.heap.push (freshSet led) }) fun led => ⟨led, rfl, rfl⟩) fun q s₁ hq => ?_
  cases q with
  | error e => exact hq
  | ok fl =>
    cases fl with
    | ret o =>
      obtain ⟨led, rfl, rfl⟩ := hq
      have ty : Shared.TypeIs { s with heap := s.heap.push (freshSet led) } (.ref s.heap.objs.size) "set" := ⟨_, Heap.get?_push_size _ rfl, rfl⟩
      have il := ft.init.lookup
      have ib := ft.init.bind (.ref s.heap.objs.size)
      repeat (any_goals (first | assumption | wp_step))
      refine codeAny_mono (codeAny_call_builtin (R := wants (fun v s₂ => v = .none ∧ Q (.ref s.heap.objs.size) s₂) E) ft.init.plain PySem.F.entry_set_init (PySem.check_set_init_1 ty ?_)) fun q₂ s₂ hq₂ => ?_
      · refine wpAny_mono (set_init (E := E) (Q := fun fin s' => fin = .done (.ret .none) ∧ Q (.ref s.heap.objs.size) s') (by simp [hh]) hl r nd few fun h' tk hS hk => ⟨rfl, h h' tk hS hk⟩) (fun fin s' hf => ?_) fun e s' he => he
        obtain ⟨rfl, q⟩ := hf
        exact ⟨rfl, q⟩
      · cases q₂ with
        | error e => exact hq₂
        | ok fl₂ =>
          cases fl₂ with
          | ret v =>
            obtain ⟨rfl, q⟩ := hq₂
            repeat (any_goals (first | assumption | wp_step))
          | _ => exact hq₂.elim
    | _ => exact hq.elim
end
/-- len(set(t)) of a tuple of texts that are all different -/
def tLenSetT (K : PySem.W.Frag) (ta : TE) : TE := fun σ H Q => ta σ H fun x H1 => ∃ (l : Addr) (xs : List Str), x = .ref l ∧ SqT K H1 l (xs.map V.str) ∧ xs.Nodup ∧ xs.length < 4000 ∧ Q (.int xs.length) H1
theorem pe_lenSetT {X : Cx} {a : Expr} {ta : TE} {p p2 q pos : Pos} (hc : X.calm = true) (hg : Gl X "len") (hm : X.mg "len" = none) (hg2 : Gl X "set") (hm2 : X.mg "set" = none) (ha : PE X a ta)
    (na : starEach [a] X.env = (false, eval a X.env) :: starEach [] X.env := by rfl) : PE X (.Call (.Name "len" p) [.Call (.Name "set" p2) [a] [] q] [] pos) (tLenSetT X.K ta) := by
  refine ⟨fun pins s σ H Q I h => ?_⟩
  refine Call_ (ld_blt I hg hm boot_len (PyProof.Rows.callWith_builtin1 (PyProof.Rows.args_cons ?_ rfl) rfl rfl))
  refine Call_ (ld_blt I hg2 hm2 boot_set (PyProof.Rows.callWith_type1 (PyProof.Rows.args_cons (thn (ha.run pins s σ H _ I h) fun v s1 ⟨x, H1, I1, r1, q1⟩ => PyProof.Rows.args_nil ?_) na) na rfl))
  obtain ⟨l, xs, rfl, hq, nd, few, q1⟩ := q1
  cases r1
  obtain ⟨its, r, pl, hz⟩ := I1.tuple hq
  refine set_texts (I1.ok.hd hc) pl (by simpa using r) nd few fun h' tk hS hk => PyProof.Rows.args_nil ?_
  obtain ⟨o, es, ep, t, ho, hex, hd, _, _, _, hf, hn⟩ := hS
  have I2 : Inv X pins σ H1 { s1 with heap := h', toks := tk } := I1.kept fun b o e => hk b o (Heap.lt_size e) e
  exact call_len_set ho hex hd hf (by rw [hn]; omega) ⟨.int xs.length, H1, I2.tok _, ⟨_, by rw [hn]⟩, q1⟩
end Lx
namespace Lx
open PySem PySem.Spec PyProof.Rows L2
/-! ### o.m() by a positional promise -/
theorem pe_methR0 {X : Cx} {CX : CXT} {k : Nat} {C f : Addr} {m : Str} {sp : Sp} {E : XK} {o : Expr} {ta : TE} {apos pos : Pos} {pl : Sem Bool} (he : PE X o ta) (c : Cls X.K C) (hm : Meth X.K C m f)
    (F : FnR X.prog X.w X.K X.mg X.base CX k f sp) (hr : Room k X.A) (hx : Passes CX X E)
    (ht : eval (.Call (.Attribute o m apos) [] [] pos) X.env = (do
      let ov ← eval o X.env
      standAt apos.atName
      let (f, first) ← holding [ov] (getMethod ov m pl)
      callWith pos f first (backTo pos (starEach [] X.env)) (backToKw pos (keywordEach [] X.env))) := by rfl) :
    PE X (.Call (.Attribute o m apos) [] [] pos) (tMethR C m sp E ta tNil) := by
  refine ⟨fun pins s σ H Q I h => PySem.W.methodCall_KW (pl := pl) (thn (he.run pins s σ H _ I h) fun u s1 ⟨x, H1, I1, rx, a, dx, fs, ex, ea, l, q⟩ => ?_) ht⟩
  subst ex
  obtain rfl : u = Value.ref a := rx
  exact getmeth_ok I1 ea c hm l (PySem.W.callWith_K0 (first := [.ref a]) I1.kIn hm.kp (wpAny_call (run_fnR (us := [.ref a]) (vs := [.ref a]) F hr hx I1 (.cons rfl .nil) q)))
/-! ### o.m(e, ..) in a try: what it lets out is told at the slots that stand -/
def tMethA (C : Addr) (m : Str) (sp : Sp) (E : L2.St → XK) (ta : TE) (t : TA) : TE := fun σ H Q => ta σ H fun x H1 => ∃ a dx fs, x = .ref a ∧ H1 a = some (.ins C dx fs) ∧ fs.lookup m = none ∧ t σ H1 fun vs H2 => sp (x :: vs) H2 Q (E σ)
theorem pe_methA {X : Cx} {CX : CXT} {k : Nat} {C f : Addr} {m : Str} {sp : Sp} {E : L2.St → XK} {o e : Expr} {es : List Expr} {ta : TE} {t : TA} {apos pos : Pos} {pl : Sem Bool} (he : PE X o ta) (c : Cls X.K C) (hm : Meth X.K C m f)
    (F : FnR X.prog X.w X.K X.mg X.base CX k f sp) (hr : Room k X.A) (hx : ∀ σ, PassesAt CX X σ (E σ)) (ha : PA X (e :: es) t)
    (hst : starEach (e :: es) X.env = (false, eval e X.env) :: starEach es X.env := by rfl) (hpl : (backTo pos (starEach es X.env)).any (·.1) = false := by rfl)
    (ht : eval (.Call (.Attribute o m apos) (e :: es) [] pos) X.env = (do
      let ov ← eval o X.env
      standAt apos.atName
      let (f, first) ← holding [ov] (getMethod ov m pl)
      callWith pos f first (backTo pos (starEach (e :: es) X.env)) (backToKw pos (keywordEach [] X.env))) := by rfl) :
    PE X (.Call (.Attribute o m apos) (e :: es) [] pos) (tMethA C m sp E ta t) := by
  refine ⟨fun pins s σ H Q I h => PySem.W.methodCall_KW (pl := pl) (thn (he.run pins s σ H _ I h) fun u s1 ⟨x, H1, I1, rx, a, dx, fs, ex, ea, l, q⟩ => ?_) ht⟩
  subst ex
  obtain rfl : u = Value.ref a := rx
  refine getmeth_ok I1 ea c hm l (PySem.W.callWith_K (first := [.ref a]) (h₀ := X.base) I.ok.mod.kin hm.kp (thn (ha.run pos pins s1 σ H1 _ I1 q) fun us s2 ⟨vs, H2, I2, r, q2⟩ => ⟨I2.kIn, ?_⟩) hst hpl)
  refine wpAny_call (codeAny_mono (F X.A X.stack s2 H2 (.ref a :: us) (.ref a :: vs) Q (E σ) hr I2.env0 (.cons rfl r) q2) fun r s' hq => ?_)
  cases r with
  | error e => exact hx σ pins H2 s2 e s' I2 hq
  | ok fl =>
    cases fl with
    | ret u => exact I2.after hq
    | next => exact False.elim hq
    | brk => exact False.elim hq
    | cont => exact False.elim hq
end Lx
namespace Lx
open PySem PySem.Spec PyProof.Rows L2
/-! ### a thing among texts, None and itself -/
section
variable {prog : Program} {w : World} {E : Value → Shared → Prop} {s : Shared} {Q : Value → Shared → Prop} {l : Addr}
theorem dict_eq_none {A : Around} (hl : Lx.IsD s.heap l) (h : Q .notImplemented s) : wpAny (model prog w) A (call (.builtin "dict.__eq__") [.ref l, .none]) Q E s := by
  refine wpAny_call_entry PySem.F.slot_dict_eq hl.typeIs PySem.F.entry_dict_eq ?_ (PySem.F.args_dict_eq_2 _ _)
  show wpAny _ _ (Builtin.Dict.dictSlotArgs "__eq__" ⟨[.ref l, .none], []⟩ >>= _) _ _ s
  refine wpAny_bind ?_
  unfold Builtin.Dict.dictSlotArgs
  refine wpAny_bind (wpAny_notOrdered_dict hl.typeIs ?_)
  show wpAny _ _ (pure (Value.ref l, Value.none)) _ _ s
  refine wpAny_pure (wpAny_bind (wpAny_isInstance (T := "NoneType") rfl PySem.F.sub_NoneType_dict ?_))
  simp only [Bool.not_false, if_true]
  exact wpAny_bind (wpAny_rule (wpAny_bind (wpAny_pure (wpAny_pure ⟨_, rfl, h⟩))))
theorem eqAt_none_dict {A : Around} (hl : Lx.IsD s.heap l) (hu : A.units < cLine) : SeqAt.EqAt A s .none (.ref l) false := fun prog w E Q h => by
  unfold eqBool
  refine wpAny_holding (wpAny_ite_split (fun hab => absurd (eq_of_beq hab) nofun) (fun _ => ?_))
  exact wpAny_bind (SeqAt.rc_eq_decline_or (k := false) rfl hl.typeIs (by decide) PySem.F.sub_dict_NoneType PySem.F.slot_NoneType_eq PySem.F.slot_dict_eq_refl
    (fun _ hq => call_gives PySem.F.slot_NoneType_eq rfl PySem.F.entry_NoneType_eq (PySem.F.args_NoneType_eq_2 _ _) (SeqAt.NoneType___eq___none_ref_0 l) hq) (fun _ hq => dict_eq_none hl hq)
    (fun _ hq => wpAny_of_eq (rfl : isSame .none (.ref l) = pure false) hq) (.inr hu) (wpAny_truthy_bool h))
end
/-- y == x, y a text, None or x itself -/
def eqG (x y : V) : Bool := match y with
  | .str z => isStr z x
  | .non => (match x with | .non => true | _ => false)
  | _ => true
def eqGU (x : V) (u : Value) : Bool := match u with
  | .str z _ => isStr z x
  | .none => (match x with | .non => true | _ => false)
  | _ => true
def Near (x y : V) : Prop := (∃ z, y = .str z) ∨ y = .non ∨ y = x
section
variable {X : Cx} {pins : List (Addr × Obj)} {σ : L2.St} {H : Hp} {s : Shared}
theorem near_eqU {x y : V} {u : Value} (a : Any X.K H x) (n : Near x y) (r : RelV y u) : eqGU x u = eqG x y := by
  rcases n with ⟨z, rfl⟩ | rfl | rfl
  · obtain ⟨t, rfl⟩ := r
    rfl
  · cases r
    rfl
  · cases a with
    | flat _ h =>
      cases y with
      | non => cases r; rfl
      | bl b => cases r; rfl
      | int i => obtain ⟨t, rfl⟩ := r; rfl
      | str z => obtain ⟨t, rfl⟩ := r; rfl
      | _ => exact absurd (show false = true from h) Bool.false_ne_true
    | lst h => cases r; rfl
    | tup h => cases r; rfl
    | dK h => cases r; rfl
theorem near_eqAt (I : Inv X pins σ H s) {A : Around} (hu : A.units < cLine) {x y : V} {u w : Value} (a : Any X.K H x) (n : Near x y) (r : RelV y u) (rx : RelV x w) : SeqAt.EqAt A s u w (eqG x y) := by
  rcases n with ⟨z, rfl⟩ | rfl | rfl
  · obtain ⟨t, rfl⟩ := r
    exact a.eqR I hu z t rx
  · cases a with
    | flat _ h =>
      have q := eqAt_V (A := A) (s := s) r rx rfl h
      cases x with
      | non => exact q
      | bl b => exact q
      | int i => exact q
      | str z => exact q
      | _ => exact absurd (show false = true from h) Bool.false_ne_true
    | lst h =>
      cases r
      cases rx
      obtain ⟨its, _, p, _⟩ := I.list h
      exact SeqAt.EqAt.none_list p.isList hu
    | tup h =>
      cases r
      cases rx
      obtain ⟨its, _, p, _⟩ := I.tuple h
      exact SeqAt.EqAt.none_tuple p hu
    | dK h =>
      cases r
      cases rx
      exact eqAt_none_dict (dict_at I h) hu
  · cases a with
    | flat _ h =>
      have q := eqAt_V (A := A) (s := s) r rx h h
      have e : eqV y y = eqG y y := by
        cases y with
        | non => rfl
        | bl b => exact beq_self_eq_true _
        | int i => exact beq_self_eq_true _
        | str z => rfl
        | _ => exact absurd (show false = true from h) Bool.false_ne_true
      rw [e] at q
      exact q
    | lst h =>
      cases r
      cases rx
      exact SeqAt.EqAt.same _
    | tup h =>
      cases r
      cases rx
      exact SeqAt.EqAt.same _
    | dK h =>
      cases r
      cases rx
      exact SeqAt.EqAt.same _
theorem mem_near (I : Inv X pins σ H s) {A : Around} (hu : A.units < cLine) {x : V} {w : Value} (a : Any X.K H x) (rx : RelV x w) : ∀ {xs : List V} {us : List Value}, Vals xs us → (∀ y ∈ xs, Near x y) → ∀ u ∈ us, SeqAt.EqAt A s u w (eqGU x u)
  | _, _, .nil, _ => fun u hu => by cases hu
  | y :: xs, u :: us, .cons r tl, f => fun u' hm => by
    rcases List.mem_cons.mp hm with rfl | hm
    · rw [near_eqU a (f y List.mem_cons_self) r]
      exact near_eqAt I hu a (f y List.mem_cons_self) r rx
    · exact mem_near I hu a rx tl (fun z h => f z (List.mem_cons_of_mem _ h)) u' hm
theorem any_near {x : V} (a : Any X.K H x) : ∀ {xs : List V} {us : List Value}, Vals xs us → (∀ y ∈ xs, Near x y) → us.any (eqGU x) = xs.any (eqG x)
  | _, _, .nil, _ => rfl
  | y :: xs, u :: us, .cons r tl, f => by
    rw [List.any_cons, List.any_cons, near_eqU a (f y List.mem_cons_self) r, any_near a tl fun z h => f z (List.mem_cons_of_mem _ h)]
end
/-- a thing not in a list of texts, None and itself -/
def rNear (K : PySem.W.Frag) : R2 := fun x y H Q => ∃ p xs, y = .ref p ∧ SqL K H p xs ∧ Any K H x ∧ (∀ v ∈ xs, Near x v) ∧ Q (.bl (!xs.any (eqG x))) H
theorem op_notNear {X : Cx} (hu : X.A.units + 64 < cLine) : OpR X (compareOp .NotIn) (rNear X.K) := by
  intro pins s σ H x y v u Q I rx ry h
  obtain ⟨p, xs, rfl, hq, a, f, q⟩ := h
  cases ry
  have hu' : X.A.in1.units < cLine := by show X.A.units + 1 < cLine; omega
  obtain ⟨its, r, pl, hz⟩ := I.list hq
  refine SeqAt.notIn_listAt (eqGU x) pl.isList (fun w hw => mem_near I hu' a rx r f w (by simpa using hw)) ⟨.bl _, H, I, rfl, ?_⟩
  rw [show its.toArray.any (eqGU x) = its.any (eqGU x) by simp, any_near a r f]
  exact q
end Lx
namespace Lx
open PySem PySem.Spec PyProof.Rows L2
/-! ### t[::-1], t a tuple of two or more -/
section
variable {prog : Program} {w : World} {A : Around} {E : Value → Shared → Prop} {s : Shared}
theorem rev_places (n : Nat) : Builtin.Slice.slicePlaces ((n : Int) - 1) (-1) (-1) = n := by
  unfold Builtin.Slice.slicePlaces
  have h1 : ¬ ((-1 : Int) > 0) := by decide
  simp only [h1, if_false, Int.neg_neg, Int.ediv_one]
  split <;> omega
theorem fm_congr {α β : Type} {f g : α → Option β} : ∀ {l : List α}, (∀ x ∈ l, f x = g x) → l.filterMap f = l.filterMap g
  | [], _ => rfl
  | x :: l, h => by
    rw [List.filterMap_cons, List.filterMap_cons, h x List.mem_cons_self, fm_congr fun y hy => h y (List.mem_cons_of_mem _ hy)]
theorem rev_pick (xs : Array Value) : ((List.range xs.size).filterMap fun (m : Nat) => xs[(((xs.size : Int) - 1) + (m : Int) * (-1)).toNat]?).toArray = xs.toList.reverse.toArray := by
  have e : ((List.range xs.size).filterMap fun (m : Nat) => xs[(((xs.size : Int) - 1) + (m : Int) * (-1)).toNat]?) = ((List.range xs.size).map fun k => xs.size - 1 - k).filterMap (xs[·]?) := by
    rw [List.filterMap_map]
    refine fm_congr fun m hm => ?_
    have := List.mem_range.mp hm
    have : (((xs.size : Int) - 1) + (m : Int) * (-1)).toNat = xs.size - 1 - m := by omega
    rw [this]
    rfl
  rw [e, PySem.W.krv_range, List.filterMap_reverse, PySem.W.krv_all]
theorem getItem_tuple_rev {t sl : Addr} {items : Array Value} {vl vu vs : Value} {Q : Value → Shared → Prop} (ht : IsTup s.heap t items) (hs : s.heap.IsSliceOf sl vl vu vs) (pl : IsPart vl none) (pu : IsPart vu none) (ps : IsPart vs (some (-1))) (h1 : 1 ≤ items.size)
    (h : Q (.ref s.heap.objs.size) { s with heap := s.heap.push { cls := .type "tuple", data := .seq items.toList.reverse.toArray } })
    (hsz : items.size ≤ sizeLine) : wpAny (model prog w) A (getItem (.ref t) (.ref sl)) Q E s := by
  have htake : sizeOk (.seq items.toList.reverse.toArray) := by
    show (items.toList.reverse.toArray).size ≤ sizeLine
    rw [List.size_toArray, List.length_reverse, Array.length_toList]
    exact hsz
  obtain ⟨os, hos, hcs, hds⟩ := id hs
  have hTs : s.TypeIs (.ref sl) "slice" := ⟨os, hos, hcs⟩
  unfold getItem
  try with_reducible refine wpAny_holding ?_
  first | refine wpAny_bind (wpAny_pure ?_) | skip
  refine wpAny_bind (wpAny_sequenceKey ht.typeIs (by decide) ?_)
  refine wpAny_bind (wpAny_callSpecial?_slot (name := Str.ofString "__getitem__") ht.typeIs PyProof.Rows.slot_tuple_getitem
    (wpAny_call_entry PyProof.Rows.slot_tuple_getitem ht.typeIs entry_tuple_getitem ?_ (args_tuple_getitem _ _)))
  show wpAny _ _ (Builtin.Tuple.tupleItemsOf (.ref t) >>= _) _ _ s
  refine wpAny_bind (tupleItemsOf_ ht ?_)
  refine wpAny_bind (wpAny_typeOf hTs ?_)
  rw [if_pos (by decide)]
  refine wpAny_bind (m := Builtin.Slice.sliceApplied (.ref sl) (pure (items.size : Int))) ?_
  unfold Builtin.Slice.sliceApplied Builtin.Slice.sliceFields
  refine wpAny_bind (wpAny_bind (wpAny_field hos hds (x := vl) rfl (wpAny_bind (wpAny_field hos hds (x := vu) rfl (wpAny_bind (wpAny_field hos hds (x := vs) rfl (wpAny_pure ?_)))))))
  refine wpAny_bind (HT.slicePart_ ps ?_)
  show wpAny _ _ (if ((-1 : Int) == 0) = true then _ else _) _ _ s
  rw [if_neg (by decide)]
  refine wpAny_bind (HT.slicePart_ pl (wpAny_bind (HT.slicePart_ pu (wpAny_bind (wpAny_pure ?_)))))
  show wpAny _ _ (pure (((items.size : Int) - 1), (-1 : Int), Builtin.Slice.slicePlaces ((items.size : Int) - 1) (-1) (-1))) _ _ s
  rw [rev_places]
  refine wpAny_pure ?_
  have hno : ¬ ((((items.size : Int) - 1) == 0 && (-1 : Int) == 1 && items.size == items.size) = true) := by simp
  show wpAny _ _ (if (((items.size : Int) - 1) == 0 && (-1 : Int) == 1 && items.size == items.size) = true then _ else _) _ _ s
  rw [if_neg hno, rev_pick]
  first
    | exact wpAny_bind (m := Builtin.Tuple.tupleExact _) (wpAny_newObj_type (wpAny_pure ⟨_, rfl, wpAny_pure h⟩) htake)
    | exact wpAny_bind (m := Builtin.Tuple.tupleExact _) (wpAny_newObj_type (wpAny_bind (wpAny_pure (wpAny_pure ⟨_, rfl, wpAny_pure h⟩))) htake)
    | exact wpAny_bind (wpAny_bind (m := Builtin.Tuple.tupleExact _) (wpAny_newObj_type (wpAny_pure (wpAny_pure ⟨_, rfl, wpAny_pure h⟩)) htake))
    | exact wpAny_bind (wpAny_bind (m := Builtin.Tuple.tupleExact _) (wpAny_newObj_type (wpAny_pure ⟨_, rfl, wpAny_pure h⟩) htake))
end
def tRevT (K : PySem.W.Frag) (te : TE) : TE := fun σ H Q => te σ H fun x H1 => ∃ a xs, x = .ref a ∧ SqT K H1 a xs ∧ 1 ≤ xs.length ∧ ∀ p, H1 p = none → Q (.ref p) (upd H1 p (.tup xs.reverse))
theorem pe_revT {X : Cx} {e : Expr} {te : TE} {k : Nat} {p1 p2 p3 pos : Pos} (he : PE X e te) : PE X (.Subscript e (.Slice none none (some (.UnaryOp .USub (.Constant (.int 1) k p1) p2)) p3) pos) (tRevT X.K te) := by
  refine ⟨fun pins s σ H Q I h => ?_⟩
  refine Subscript_ (thn (he.run pins s σ H _ I h) fun v s1 ⟨x, H1, I1, r1, q1⟩ => ?_)
  obtain ⟨a, xs, ex, hx, l1, q⟩ := q1
  subst ex
  cases r1
  have hst : PO X (some (.UnaryOp .USub (.Constant (.int 1) k p1) p2)) (tPart (tUn (rU fun i => .int (-i)) (tC (.int 1)))) := po_some (pe_un un_neg pe_int)
  refine wpAny_Slice (thn (po_none.run pins s1 σ H1 (fun o H2 => o = none ∧ H2 = H1) I1 ⟨rfl, rfl⟩) fun vl s2 ⟨l, H2, I2, pl, el, e2⟩ => ?_)
  subst el e2
  refine thn (po_none.run pins s2 σ H2 (fun o H3 => o = none ∧ H3 = H2) I2 ⟨rfl, rfl⟩) fun vu s3 ⟨u, H3, I3, pu, eu, e3⟩ => ?_
  subst eu e3
  refine thn (hst.run pins s3 σ H3 (fun o H4 => o = some (-1) ∧ H4 = H3) I3 ⟨1, rfl, -1, rfl, rfl, rfl⟩) fun vs s4 ⟨o, H4, I4, ps, eo, e4⟩ => ?_
  subst eo e4
  have I5 : Inv X pins σ H4 { s4 with heap := s4.heap.push { cls := .type "slice", data := .fields #[vl, vu, vs] } } := I4.kept (t' := s4.toks) fun b ob q => Heap.get?_push_of_some _ q
  obtain ⟨its, r, ht, hz⟩ := I5.tuple hx
  have hlen := r.length
  show wpAny (model X.prog X.w) X.A (subscriptTail e (.Slice none none (some (.UnaryOp .USub (.Constant (.int 1) k p1) p2)) p3) (.ref a) (.ref s4.heap.objs.size)) (EP X pins σ Q) X.xe { s4 with heap := s4.heap.push { cls := .type "slice", data := .fields #[vl, vu, vs] } }
  refine tail_any (ops := [.ref a, .ref s4.heap.objs.size]) ht.typeIs (PyProof.Rows.slot_tuple_getitem.lookup) ?_ (by with_unfolding_all rfl)
  refine getItem_tuple_rev ht (Heap.IsSliceOf.new _ vl vu vs) pl pu ps (by rw [List.size_toArray]; omega) ?_ (by rw [List.size_toArray]; omega)
  refine ⟨.ref _, _, I5.laid (t' := s4.toks) (o := .tup xs.reverse) (fun b ob q => Heap.get?_push_of_some _ q) (Nat.le_refl _) ?_, rfl, q _ (I5.hok.fresh (Nat.le_refl _))⟩
  exact ⟨by rw [List.length_reverse]; exact hz, _, r.reverse, IsTup.new _ _⟩
end Lx
namespace Toy
open PySem L2 Lx
def top (i : Nat) : Stmt := PySem.Challenge.pw_orplaces_k04_numbers_of_rows.main.body.getD i (.Pass ⟨0, 0, 0, 0⟩)
abbrev s_is_name : Stmt := top 11
abbrev N_is_name : List Str := ["value", "sign"]
theorem sc_is_name : FnScope N_is_name ["value"] (defScope s_is_name) := ⟨rfl, rfl, rfl, by decide +kernel, rfl, by decide +kernel, by decide +kernel⟩
abbrev s_are_names : Stmt := top 12
abbrev N_are_names : List Str := ["values", "most", "value"]
theorem sc_are_names : FnScope N_are_names ["values", "most"] (defScope s_are_names) := ⟨rfl, rfl, rfl, by decide +kernel, rfl, by decide +kernel, by decide +kernel⟩
abbrev s_check_conditions : Stmt := top 16
abbrev N_check_conditions : List Str := ["conditions"]
theorem sc_check_conditions : FnScope N_check_conditions ["conditions"] (defScope s_check_conditions) := ⟨rfl, rfl, rfl, by decide +kernel, rfl, by decide +kernel, by decide +kernel⟩
abbrev s_row_with : Stmt := top 17
abbrev N_row_with : List Str := ["conditions", "raised", "condition"]
theorem sc_row_with : FnScope N_row_with ["conditions", "raised"] (defScope s_row_with) := ⟨rfl, rfl, rfl, by decide +kernel, rfl, by decide +kernel, by decide +kernel⟩
abbrev s_row_number : Stmt := top 19
abbrev N_row_number : List Str := ["conditions", "row", "at", "condition"]
theorem sc_row_number : FnScope N_row_number ["conditions", "row"] (defScope s_row_number) := ⟨rfl, rfl, rfl, by decide +kernel, rfl, by decide +kernel, by decide +kernel⟩
abbrev s_is_row : Stmt := top 18
abbrev N_is_row : List Str := ["conditions", "value"]
theorem sc_is_row : FnScope N_is_row ["conditions", "value"] (defScope s_is_row) := ⟨rfl, rfl, rfl, by decide +kernel, rfl, by decide +kernel, by decide +kernel⟩
abbrev s_Rows_number : Stmt := inClass (top 15) 3
abbrev N_Rows_number : List Str := ["self", "row"]
theorem sc_Rows_number : FnScope N_Rows_number ["self", "row"] (defScope s_Rows_number) := ⟨rfl, rfl, rfl, by decide +kernel, rfl, by decide +kernel, by decide +kernel⟩
abbrev s_Rows_having : Stmt := inClass (top 15) 4
abbrev N_Rows_having : List Str := ["self", "names", "name"]
theorem sc_Rows_having : FnScope N_Rows_having ["self", "names"] (defScope s_Rows_having) := ⟨rfl, rfl, rfl, by decide +kernel, rfl, by decide +kernel, by decide +kernel⟩
abbrev s_Rows_init : Stmt := inClass (top 15) 0
abbrev N_Rows_init : List Str := ["self", "conditions", "possible", "rows", "row", "number"]
theorem sc_Rows_init : FnScope N_Rows_init ["self", "conditions", "possible"] (defScope s_Rows_init) := ⟨rfl, rfl, rfl, by decide +kernel, rfl, by decide +kernel, by decide +kernel⟩
abbrev s_Rows_of : Stmt := inClass (top 15) 1
abbrev N_Rows_of : List Str := ["cls", "conditions", "possible"]
theorem sc_Rows_of : FnScope N_Rows_of ["cls", "conditions", "possible"] (defScope s_Rows_of) := ⟨rfl, rfl, rfl, by decide +kernel, rfl, by decide +kernel, by decide +kernel⟩
abbrev s__law_pen : Stmt := top 21
abbrev N__law_pen : List Str := ["_law_script"]
theorem sc__law_pen : FnScope N__law_pen ["_law_script"] (defScope s__law_pen) := ⟨rfl, rfl, rfl, by decide +kernel, rfl, by decide +kernel, by decide +kernel⟩
abbrev s__law_draw : Stmt := top 22
abbrev N__law_draw : List Str := ["_law_pen_here", "_law_many", "_law_digit", "_law_at", "_law_cell", "_law_great", "_law_mixed"]
theorem sc__law_draw : FnScope N__law_draw ["_law_pen_here", "_law_many"] (defScope s__law_draw) := ⟨rfl, rfl, rfl, by decide +kernel, rfl, by decide +kernel, by decide +kernel⟩
abbrev s__law_pick : Stmt := top 23
abbrev N__law_pick : List Str := ["_law_pen_here", "_law_some"]
theorem sc__law_pick : FnScope N__law_pick ["_law_pen_here", "_law_some"] (defScope s__law_pick) := ⟨rfl, rfl, rfl, by decide +kernel, rfl, by decide +kernel, by decide +kernel⟩
abbrev s__law_conditions : Stmt := top 24
abbrev N__law_conditions : List Str := ["_law_pen_here", "_law_most", "_law_names", "_law_found", "_law_k", "_law_name"]
theorem sc__law_conditions : FnScope N__law_conditions ["_law_pen_here", "_law_most"] (defScope s__law_conditions) := ⟨rfl, rfl, rfl, by decide +kernel, rfl, by decide +kernel, by decide +kernel⟩
abbrev s__law_row : Stmt := top 25
abbrev N__law_row : List Str := ["_law_conditions_here", "_law_bits", "_law_at", "_law_name"]
theorem sc__law_row : FnScope N__law_row ["_law_conditions_here", "_law_bits"] (defScope s__law_row) := ⟨rfl, rfl, rfl, by decide +kernel, rfl, by decide +kernel, by decide +kernel⟩
abbrev s__law_having : Stmt := top 27
abbrev N__law_having : List Str := ["_law_made", "_law_names"]
theorem sc__law_having : FnScope N__law_having ["_law_made", "_law_names"] (defScope s__law_having) := ⟨rfl, rfl, rfl, by decide +kernel, rfl, by decide +kernel, by decide +kernel⟩
abbrev s__law_refused : Stmt := top 26
abbrev N__law_refused : List Str := ["_law_made", "_law_thing", "e"]
theorem sc__law_refused : FnScope N__law_refused ["_law_made", "_law_thing"] (defScope s__law_refused) := ⟨rfl, rfl, rfl, by decide +kernel, rfl, by decide +kernel, by decide +kernel⟩
abbrev s__law_told : Stmt := top 28
abbrev N__law_told : List Str := ["_law_made", "_law_names", "e"]
theorem sc__law_told : FnScope N__law_told ["_law_made", "_law_names"] (defScope s__law_told) := ⟨rfl, rfl, rfl, by decide +kernel, rfl, by decide +kernel, by decide +kernel⟩
abbrev s__law_named : Stmt := top 29
abbrev N__law_named : List Str := ["_law_pen_here", "_law_made", "_law_conditions_here", "_law_names", "_law_found", "_law_odd", "_law_at", "_law_later", "_law_k", "_law_name"]
theorem sc__law_named : FnScope N__law_named ["_law_pen_here", "_law_made"] (defScope s__law_named) := ⟨rfl, rfl, rfl, by decide +kernel, rfl, by decide +kernel, by decide +kernel⟩
abbrev s_law : Stmt := top 30
abbrev N_law : List Str := ["_law_script", "_law_pen_here", "_law_turn", "_law_conditions_here", "_law_size", "_law_some", "_law_made", "_law_number", "_law_found", "_law_name", "_law_menu", "_law_k"]
theorem sc_law : FnScope N_law ["_law_script"] (defScope s_law) := ⟨rfl, rfl, rfl, by decide +kernel, rfl, by decide +kernel, by decide +kernel⟩
abbrev s_InvalidRows_init : Stmt := inClass (top 3) 0
abbrev N_InvalidRows_init : List Str := ["self", "part"]
theorem sc_InvalidRows_init : FnScope N_InvalidRows_init ["self", "part"] (defScope s_InvalidRows_init) := ⟨rfl, rfl, rfl, by decide +kernel, rfl, by decide +kernel, by decide +kernel⟩
abbrev s_InvalidRow_init : Stmt := inClass (top 4) 0
abbrev N_InvalidRow_init : List Str := ["self", "value"]
theorem sc_InvalidRow_init : FnScope N_InvalidRow_init ["self", "value"] (defScope s_InvalidRow_init) := ⟨rfl, rfl, rfl, by decide +kernel, rfl, by decide +kernel, by decide +kernel⟩
abbrev s_NoCondition_init : Stmt := inClass (top 5) 0
abbrev N_NoCondition_init : List Str := ["self", "name"]
theorem sc_NoCondition_init : FnScope N_NoCondition_init ["self", "name"] (defScope s_NoCondition_init) := ⟨rfl, rfl, rfl, by decide +kernel, rfl, by decide +kernel, by decide +kernel⟩
/-! ### the pen, a draw, a pick -/
/-- the pen at p: its cells at c, its place i, its rest g -/
def Pen (H : Hp) (p c : Addr) (n : Nat) : Prop := ∃ (ns : List Int) (i : Nat) (g : Int), H p = some (.lst [.ref c, .int (i : Int), .int g]) ∧ H c = some (.lst (ns.map V.int)) ∧ ns.length ≤ 60 ∧ i ≤ n
/-- all but the pen is as it was -/
def Keep (p : Addr) (H H' : Hp) : Prop := ∀ b o, H b = some o → b ≠ p → H' b = some o
theorem Keep.refl (p : Addr) (H : Hp) : Keep p H H := fun _ _ h _ => h
theorem Keep.trans {p : Addr} {H H1 H2 : Hp} (a : Keep p H H1) (b : Keep p H1 H2) : Keep p H H2 := fun c o h n => b c o (a c o h n) n
theorem same_keep {p : Addr} {H H' : Hp} (s : Same H H') : Keep p H H' := fun b o h _ => s b o h
theorem same_upd {H : Hp} {p : Addr} {o : HO} (h : H p = none) : Same H (upd H p o) := fun b x e => by
  rw [upd_ne (ne_of_none e h)]
  exact e
theorem keep_upd {H : Hp} {p : Addr} {o : HO} : Keep p H (upd H p o) := fun b x e n => by
  rw [upd_ne n]
  exact e
theorem cells_ne {H : Hp} {p c : Addr} {ns : List Int} {r : List V} (hc : H c = some (.lst (ns.map V.int))) (hp : H p = some (.lst (.ref c :: r))) : c ≠ p := by
  intro e
  subst e
  rw [hc] at hp
  cases ns with
  | nil => cases hp
  | cons x l => cases hp
theorem Pen.same {H H' : Hp} {p c : Addr} {n : Nat} (P : Pen H p c n) (s : Same H H') : Pen H' p c n := by
  obtain ⟨ns, i, g, hp, hc, hl, hi⟩ := P
  exact ⟨ns, i, g, s _ _ hp, s _ _ hc, hl, hi⟩
theorem Pen.mono {H : Hp} {p c : Addr} {n m : Nat} (P : Pen H p c n) (h : n ≤ m) : Pen H p c m := by
  obtain ⟨ns, i, g, hp, hc, hl, hi⟩ := P
  exact ⟨ns, i, g, hp, hc, hl, Nat.le_trans hi h⟩
theorem Pen.put {H : Hp} {p c : Addr} {ns : List Int} {i : Nat} {g : Int} {n : Nat} {r : List V} (hp : H p = some (.lst (.ref c :: r))) (hc : H c = some (.lst (ns.map V.int))) (hl : ns.length ≤ 60) (hi : i ≤ n) : Pen (upd H p (.lst [.ref c, .int (i : Int), .int g])) p c n :=
  ⟨ns, i, g, upd_same, by rw [upd_ne (cells_ne hc hp)]; exact hc, hl, hi⟩
theorem Pen.ob {H : Hp} {p c : Addr} {n : Nat} (P : Pen H p c n) : ∃ xs, H p = some (.lst xs) := by
  obtain ⟨ns, i, g, hp, _⟩ := P
  exact ⟨_, hp⟩
def spPen (K : PySem.W.Frag) : Sp := fun vs H Q _ => ∃ (a : Addr) (ns : List Int), vs = [.ref a] ∧ SqL K H a (ns.map V.int) ∧ ns.length ≤ 63 ∧ ∀ (p c : Addr) (H' : Hp), H p = none → Same H H' → Pen H' p c 0 → Q (.ref p) H'
def spDraw : Sp := fun vs H Q _ => ∃ (p c : Addr) (m : Int) (n : Nat), vs = [.ref p, .int m] ∧ Pen H p c n ∧ n ≤ 100000 ∧ 1 ≤ m ∧ m < 1073741824 ∧ ∀ (r : Int) (H' : Hp), 0 ≤ r → r < m → Pen H' p c (n + 1) → Keep p H H' → Q (.int r) H'
def spPick (K : PySem.W.Frag) : Sp := fun vs H Q _ => ∃ (p c a : Addr) (xs : List V) (n : Nat), vs = [.ref p, .ref a] ∧ a ≠ p ∧ Pen H p c n ∧ n ≤ 100000 ∧ SqL K H a xs ∧ 1 ≤ xs.length ∧ xs.length ≤ 1000 ∧ ∀ (v : V) (H' : Hp), v ∈ xs → Pen H' p c (n + 1) → Keep p H H' → Q v H'
theorem SqL.keep {K : PySem.W.Frag} {H H' : Hp} {a p : Addr} {xs : List V} (s : Keep p H H') (ne : a ≠ p) (h : SqL K H a xs) : SqL K H' a xs := by
  rcases h with (h | ⟨o, h⟩) | h
  · exact .inl (.inl (s _ _ h ne))
  · exact .inl (.inr ⟨o, s _ _ h ne⟩)
  · exact .inr h
theorem modN {i m : Int} (h : 1 ≤ m) : 0 ≤ i.fmod m ∧ i.fmod m < m := by
  rw [Int.fmod_eq_emod_of_nonneg _ (by omega)]
  exact ⟨Int.emod_nonneg _ (by omega), Int.emod_lt_of_pos _ (by omega)⟩
theorem map_int_at {ns : List Int} {j : Nat} (h : j < ns.length) : ∃ z, (ns.map V.int)[j]? = some (.int z) := by
  refine ⟨ns[j], ?_⟩
  rw [List.getElem?_map, List.getElem?_eq_getElem h]
  rfl
theorem dp_ints {K : PySem.W.Frag} {H : Hp} : ∀ ns : List Int, DpAll K H (ns.map V.int) (ns.map PyData.int)
  | [] => .nil
  | n :: r => .cons (.int n) (dp_ints r)
theorem canLay_ints : ∀ ns : List Int, PyData.canLayAll0 (ns.map PyData.int) = true
  | [] => by simp [PyData.canLayAll0]
  | n :: r => by
    have := canLay_ints r
    simp [PyData.canLayAll0, PyData.canLay0, this]
theorem depth_ints : ∀ ns : List Int, PyData.depthAll (ns.map PyData.int) ≤ 1
  | [] => by simp [PyData.depthAll]
  | n :: r => by
    have := depth_ints r
    simp only [List.map_cons, PyData.depthAll, PyData.depth]
    omega
theorem shaped_ints (ns : List Int) : SeqAt.shaped (.list (ns.map PyData.int)) = true := by
  have h1 := canLay_ints ns
  have h2 := depth_ints ns
  unfold SeqAt.shaped
  have h3 : PyData.depth (.list (ns.map PyData.int)) ≤ 64 := by
    simp only [PyData.depth]
    omega
  simp only [PyData.canLay0, h1, h3, decide_true, Bool.and_self]
theorem eqv_ints_nil (ns : List Int) : PyData.eqv (.list (ns.map PyData.int)) (.list []) = ns.isEmpty := by
  cases ns with
  | nil => simp [PyData.eqv, PyData.eqvAll]
  | cons x r => simp [PyData.eqv, PyData.eqvAll]
theorem cut60 (ns : List Int) : ∃ ms : List Int, cutV (ns.map V.int) none (some 60) = ms.map V.int ∧ ms.length ≤ 60 := by
  refine ⟨ns.take 60, ?_, by rw [List.length_take]; omega⟩
  unfold cutV
  rw [HT.sIx_none, show HT.sIx (ns.map V.int).length (ns.map V.int).length (some 60) = min 60 (ns.map V.int).length from HT.sIx_nat _ _ 60, List.drop_zero, Nat.sub_zero, List.map_take]
  by_cases h : 60 ≤ (ns.map V.int).length
  · rw [Nat.min_eq_left h]
  · rw [Nat.min_eq_right (by omega), List.take_of_length_le (Nat.le_refl _), List.take_of_length_le (by omega)]
theorem abs_nat (x : Int) : 0 ≤ (if x < 0 then -x else x) := by
  split <;> omega
theorem bnd1 {a i b c : Int} (h0 : 0 ≤ a) (h1 : a < 2147483648) (h2 : 0 ≤ i) (h3 : i ≤ 100000) (hb0 : 0 ≤ b) (hb : b ≤ 1000000) (hc0 : 0 ≤ c) (hc : c ≤ 1000000) : (a + b * i + c).natAbs < 2 ^ 64 := by
  have e1 : 0 ≤ b * i := Int.mul_nonneg hb0 h2
  have e2 : b * i ≤ 1000000 * 100000 := Int.mul_le_mul hb h3 h2 (by omega)
  omega
theorem bnd2 {a i b c d : Int} (h0 : 0 ≤ a) (h1 : a < 2147483648) (h2 : 0 ≤ i) (h3 : i ≤ 100000) (hb0 : 0 ≤ b) (hb : b ≤ 1000000) (hc0 : 0 ≤ c) (hc : c ≤ 1000000) (hd0 : 0 ≤ d) (hd : d ≤ 1000000) :
    (a * (2 * i + d) + b * i * i + c).natAbs < 2 ^ 64 := by
  have e1 : 0 ≤ b * i := Int.mul_nonneg hb0 h2
  have e2 : b * i ≤ 1000000 * 100000 := Int.mul_le_mul hb h3 h2 (by omega)
  have e3 : 0 ≤ b * i * i := Int.mul_nonneg e1 h2
  have e4 : b * i * i ≤ 1000000 * 100000 * 100000 := Int.mul_le_mul e2 h3 h2 (by omega)
  have e5 : 0 ≤ a * (2 * i + d) := Int.mul_nonneg h0 (by omega)
  have e6 : a * (2 * i + d) ≤ 2147483648 * 1200000 := Int.mul_le_mul (by omega) (by omega) (by omega) (by omega)
  omega
theorem Pen.upd {H : Hp} {p c f : Addr} {n : Nat} {o : HO} (P : Pen H p c n) (h1 : f ≠ p) (h2 : f ≠ c) : Pen (upd H f o) p c n := by
  obtain ⟨ns, i, g, hp, hc, hl, hi⟩ := P
  exact ⟨ns, i, g, by rw [upd_ne h1.symm]; exact hp, by rw [upd_ne h2.symm]; exact hc, hl, hi⟩
theorem Pen.nec {H : Hp} {p c f : Addr} {n : Nat} (P : Pen H p c n) (h : H f = none) : f ≠ c := by
  obtain ⟨ns, i, g, hp, hc, hl, hi⟩ := P
  exact (ne_of_none hc h).symm
/-! ### the mathematics: what a name is -/
def LET : Str := "abcdefghijklmnopqrstuvwxyz"
def SIG : Str := "abcdefghijklmnopqrstuvwxyz0123456789"
def RES : List V := [.str "to", .str "if", .str "tag", .str "all", .str "none"]
def inS (z : Str) (c : Nat) : Bool := decide (c ∈ z.cps.toList)
def isName (z : Str) : Bool := decide (1 ≤ z.length) && decide (z.length ≤ 8) && (z.cps.toList.head?.any (inS LET)) && !(inV (.str z) RES) && (z.cps.toList.all (inS SIG))
/-- a text of at most n signs -/
structure Tx (n : Nat) (z : Str) : Prop where
  len : z.length ≤ n
  ok : ∀ c ∈ z.cps.toList, c < 1114112
theorem app_list (x y : Str) : (x ++ y).cps.toList = x.cps.toList ++ y.cps.toList := by
  show (x.cps ++ y.cps).toList = _
  simp
theorem str_len (z : Str) : z.cps.toList.length = z.length := by
  rw [Array.length_toList]
  rfl
theorem app_len (x y : Str) : (x ++ y).length = x.length + y.length := by
  rw [← str_len, ← str_len, ← str_len, app_list, List.length_append]
theorem Tx.app {n m : Nat} {x y : Str} (a : Tx n x) (b : Tx m y) : Tx (n + m) (x ++ y) := by
  refine ⟨?_, fun c h => ?_⟩
  · have := app_len x y
    have := a.len
    have := b.len
    omega
  · rw [app_list] at h
    rcases List.mem_append.mp h with h | h
    · exact a.ok c h
    · exact b.ok c h
theorem Tx.mono {n m : Nat} {x : Str} (a : Tx n x) (h : n ≤ m) : Tx m x := ⟨Nat.le_trans a.len h, a.ok⟩
theorem Tx.cut {n : Nat} {x : Str} (a : Tx n x) (lo hi : Option Int) : Tx n (cutS x lo hi) := by
  have e : (cutS x lo hi).cps.toList = (x.cps.toList.drop (HT.sIx x.length 0 lo)).take (HT.sIx x.length x.length hi - HT.sIx x.length 0 lo) := by
    unfold cutS
    simp
  refine ⟨?_, fun c h => ?_⟩
  · rw [← str_len, e, List.length_take, List.length_drop, str_len]
    have := a.len
    omega
  · rw [e] at h
    exact a.ok c (List.mem_of_mem_drop (List.mem_of_mem_take h))
theorem Tx.sign {n : Nat} {z : Str} {c : Nat} (a : Tx n z) (h : c ∈ z.cps.toList) : Tx 1 ⟨#[c]⟩ := by
  refine ⟨Nat.le_refl 1, fun d hd => ?_⟩
  have e : d = c := by simpa using hd
  rw [e]
  exact a.ok c h
theorem Tx.at {n : Nat} {z : Str} (a : Tx n z) {j : Nat} (h : j < z.length) : ∃ c, atI z.cps.toList (j : Int) = some c ∧ Tx 1 ⟨#[c]⟩ := by
  have h' : j < z.cps.toList.length := by rw [str_len]; exact h
  exact ⟨z.cps.toList[j], atI_nat (List.getElem?_eq_getElem h'), a.sign (List.getElem_mem h')⟩
theorem Tx.line {n : Nat} {z : Str} (a : Tx n z) (h : n ≤ 1000000) : z.length ≤ sizeLine := Nat.le_trans a.len (Nat.le_trans h (by decide))
/-- a text or not -/
def isS : V → Bool
  | .str _ => true
  | _ => false
def nameV : V → Bool
  | .str z => isName z
  | _ => false
/-- what may be asked: a text that is not too long, or a thing of another kind (that is not the pen) -/
inductive Tv (p : Addr) (H : Hp) : V → Prop
  | non : Tv p H .non
  | bl (b : Bool) : Tv p H (.bl b)
  | int (i : Int) : Tv p H (.int i)
  | str (z : Str) (h : Tx 20000 z) : Tv p H (.str z)
  | lst {a : Addr} {xs : List V} (e : H a = some (.lst xs)) (n : a ≠ p) : Tv p H (.ref a)
  | tup {a : Addr} {xs : List V} (e : H a = some (.tup xs)) (n : a ≠ p) : Tv p H (.ref a)
  | dK {a : Addr} {xs : List (Key × V)} (e : H a = some (.dK xs)) (n : a ≠ p) : Tv p H (.ref a)
theorem Tv.keep {p : Addr} {H H' : Hp} {v : V} (t : Tv p H v) (k : Keep p H H') : Tv p H' v := by
  cases t with
  | non => exact .non
  | bl b => exact .bl b
  | int i => exact .int i
  | str z h => exact .str z h
  | lst e n => exact .lst (k _ _ e n) n
  | tup e n => exact .tup (k _ _ e n) n
  | dK e n => exact .dK (k _ _ e n) n
theorem Tv.ty {K : PySem.W.Frag} {p : Addr} {H : Hp} {v : V} (t : Tv p H v) : ∃ u, TyX K H v u ∧ PySem.W.kitOne K u (.type "str") = some (isS v) := by
  cases t with
  | non => exact ⟨_, .base .non, kit_ty (r := false) (by decide +kernel)⟩
  | bl b => exact ⟨_, .base (.bl b), kit_ty (r := false) (by decide +kernel)⟩
  | int i => exact ⟨_, .base (.int i), kit_ty (r := false) (by decide +kernel)⟩
  | str z h => exact ⟨_, .base (.str z), kit_ty (r := true) (by decide +kernel)⟩
  | lst e n => exact ⟨_, .base (.lst e), kit_ty (r := false) (by decide +kernel)⟩
  | tup e n => exact ⟨_, .base (.tup e), kit_ty (r := false) (by decide +kernel)⟩
  | dK e n => exact ⟨_, .base (.dK e), kit_ty (r := false) (by decide +kernel)⟩
theorem Tv.cases {p : Addr} {H : Hp} {v : V} (t : Tv p H v) : (∃ z, v = .str z ∧ Tx 20000 z) ∨ (isS v = false ∧ nameV v = false) := by
  cases t with
  | str z h => exact .inl ⟨z, rfl, h⟩
  | non => exact .inr ⟨rfl, rfl⟩
  | bl b => exact .inr ⟨rfl, rfl⟩
  | int i => exact .inr ⟨rfl, rfl⟩
  | lst e n => exact .inr ⟨rfl, rfl⟩
  | tup e n => exact .inr ⟨rfl, rfl⟩
  | dK e n => exact .inr ⟨rfl, rfl⟩
theorem len_line {z : Str} (h : z.length ≤ 20000) : z.length ≤ sizeLine := Nat.le_trans h (by decide)
theorem head_at {z : Str} (h : 1 ≤ z.length) : ∃ c, atI z.cps.toList 0 = some c ∧ z.cps.toList.head? = some c := by
  cases e : z.cps.toList with
  | nil =>
    have := str_len z
    rw [e] at this
    simp at this
    omega
  | cons c r => exact ⟨c, atI_nat (j := 0) rfl, rfl⟩
theorem take_bl {z : Str} {i c : Nat} {f : Nat → V} (h : z.cps[i]? = some c) : (z.cps.toList.take (i + 1)).map f = (z.cps.toList.take i).map f ++ [f c] := by
  rw [List.take_add_one]
  have e : z.cps.toList[i]? = some c := by rw [Array.getElem?_toList]; exact h
  rw [e, List.map_append]
  rfl
def spName : Sp := fun vs H Q _ => ∃ (v : V) (p : Addr), vs = [v] ∧ Tv p H v ∧ ∀ H', Same H H' → Q (.bl (nameV v)) H'
theorem if_pos_of {c : Bool} {A B : Prop} (hc : c = true) (h : A) : if c = true then A else B := by
  rw [if_pos hc]
  exact h
theorem if_neg_of {c : Bool} {A B : Prop} (hc : c = false) (h : B) : if c = true then A else B := by
  rw [hc]
  exact iteF h

theorem foldl_app (x : Array Nat) : ∀ (n : Nat) (a : Array Nat), ((List.replicate n x).foldl (· ++ ·) a).toList = a.toList ++ (List.replicate n x.toList).flatten
  | 0, a => by simp
  | n + 1, a => by
    rw [List.replicate_succ, List.foldl_cons, foldl_app x n, List.replicate_succ, List.flatten_cons, Array.toList_append, List.append_assoc]
/-- one sign, so many times -/
theorem op_mul_strB {X : Cx} : OpR X (binaryOp .Mult) (fun x y H Q => ∃ (i : Str) (k : Int), x = .str i ∧ y = .int k ∧ 0 ≤ k ∧ k ≤ 10000 ∧ i.length = 1 ∧ Tx 1 i ∧ ∀ z : Str, Tx 10000 z → Q (.str z) H) := by
  intro pins s σ H x y v u Q I rx ry h
  obtain ⟨i, k, rfl, rfl, h0, h1, hl, ti, q⟩ := h
  obtain ⟨t, rfl⟩ := rx
  obtain ⟨t', rfl⟩ := ry
  have hs : sizeLine = 16777216 := by decide +kernel
  have flen : ((List.replicate k.toNat i.cps.toList).flatten).length = k.toNat := by
    rw [List.length_flatten, List.map_replicate, List.sum_replicate_nat, str_len, hl, Nat.mul_one]
  refine PySem.P.mul_str (by rw [decide_eq_false (by omega), decide_eq_false (by omega)]; rfl) (fun c1 c2 => ?_) (fun c1 c2 => ?_) ?_
  · rw [hl]
    have e : (1 : Int) ≤ (2 ^ 63 - 1) / k := by
      rw [Int.le_ediv_iff_mul_le (by omega)]
      omega
    have e1 : ((1 : Nat) : Int) = 1 := rfl
    omega
  · unfold Builtin.Str.tooLong
    exact decide_eq_false (by rw [hl, hs]; omega)
  · by_cases c1 : k < 1
    · rw [if_pos c1]
      exact ⟨by decide, ⟨.str Str.empty, H, I.tok _, ⟨_, rfl⟩, q _ ⟨by decide, fun c hc => by simp [Str.empty] at hc⟩⟩⟩
    · rw [if_neg c1]
      by_cases c2 : (k == 1 || i.length == 0) = true
      · rw [if_pos c2]
        exact ⟨.str i, H, I.tok _, ⟨_, rfl⟩, q _ (ti.mono (by decide))⟩
      · rw [if_neg c2]
        have e : ((List.replicate k.toNat i.cps).foldl (· ++ ·) #[]).toList = (List.replicate k.toNat i.cps.toList).flatten := by
          rw [foldl_app]
          rfl
        have l : (⟨(List.replicate k.toNat i.cps).foldl (· ++ ·) #[]⟩ : Str).length = k.toNat := by
          rw [← str_len]
          show (((List.replicate k.toNat i.cps).foldl (· ++ ·) #[]).toList).length = k.toNat
          rw [e, flen]
        refine ⟨by show _ ≤ sizeLine; rw [l, hs]; omega, ⟨.str _, H, I.tok _, ⟨_, rfl⟩, q _ ⟨by rw [l]; omega, fun c hc => ?_⟩⟩⟩
        have hc' : c ∈ (List.replicate k.toNat i.cps.toList).flatten := by
          rw [← e]
          exact hc
        obtain ⟨l', hl', hcl⟩ := List.mem_flatten.mp hc'
        rw [List.eq_of_mem_replicate hl'] at hcl
        exact ti.ok c hcl
/-! ### == of a list of signs and the empty one -/
theorem dp_signs {K : PySem.W.Frag} {H : Hp} : ∀ cs : List Nat, DpAll K H (cs.map fun c => V.str ⟨#[c]⟩) (cs.map fun c => PyData.str ⟨#[c]⟩)
  | [] => .nil
  | c :: r => .cons (.str _) (dp_signs r)
theorem canLay_signs : ∀ cs : List Nat, (∀ c ∈ cs, c < 1114112) → PyData.canLayAll0 (cs.map fun c => PyData.str ⟨#[c]⟩) = true
  | [], _ => by simp [PyData.canLayAll0]
  | c :: r, h => by
    have ih := canLay_signs r fun d hd => h d (List.mem_cons_of_mem _ hd)
    have hc := h c List.mem_cons_self
    simp [PyData.canLayAll0, PyData.canLay0, PyData.strOk, ih, hc]
theorem depth_signs : ∀ cs : List Nat, PyData.depthAll (cs.map fun c => PyData.str ⟨#[c]⟩) ≤ 1
  | [] => by simp [PyData.depthAll]
  | n :: r => by
    have := depth_signs r
    simp only [List.map_cons, PyData.depthAll, PyData.depth]
    omega
theorem shaped_signs (cs : List Nat) (h : ∀ c ∈ cs, c < 1114112) : SeqAt.shaped (.list (cs.map fun c => PyData.str ⟨#[c]⟩)) = true := by
  have h1 := canLay_signs cs h
  have h2 := depth_signs cs
  unfold SeqAt.shaped
  have h3 : PyData.depth (.list (cs.map fun c => PyData.str ⟨#[c]⟩)) ≤ 64 := by
    simp only [PyData.depth]
    omega
  simp only [PyData.canLay0, h1, h3, decide_true, Bool.and_self]
theorem eqv_signs_nil (cs : List Nat) : PyData.eqv (.list (cs.map fun c => PyData.str ⟨#[c]⟩)) (.list []) = cs.isEmpty := by
  cases cs with
  | nil => simp [PyData.eqv, PyData.eqvAll]
  | cons x r => simp [PyData.eqv, PyData.eqvAll]
theorem take_flt {z : Str} {i c : Nat} {p : Nat → Bool} (h : z.cps[i]? = some c) : (z.cps.toList.take (i + 1)).filter p = if p c = true then (z.cps.toList.take i).filter p ++ [c] else (z.cps.toList.take i).filter p := by
  rw [List.take_add_one]
  have e : z.cps.toList[i]? = some c := by rw [Array.getElem?_toList]; exact h
  rw [e, List.filter_append]
  cases q : p c with
  | true => simp [q]
  | false => simp [q]
theorem res_due (z : Str) : inV (.str z) ([.str "", .str "to", .str "if", .str "tag", .str "all", .str "none"] : List V) = ((z == "") || inV (.str z) RES) := by
  show (eqV (.str "") (.str z) || inV (.str z) RES) = _
  congr 1
  show (("" : Str) == z) = (z == ("" : Str))
  exact Bool.eq_iff_iff.mpr ⟨fun h => by rw [eq_of_beq h]; exact beq_self_eq_true _, fun h => by rw [eq_of_beq h]; exact beq_self_eq_true _⟩
theorem empty_len {z : Str} : (z == ("" : Str)) = decide (z.length = 0) := by
  by_cases h : z.length = 0
  · have e : z = ("" : Str) := by
      cases z with
      | mk a =>
        have : a.size = 0 := h
        have : a = #[] := Array.size_eq_zero_iff.mp this
        subst this
        decide +kernel
    rw [e]
    decide +kernel
  · rw [decide_eq_false h]
    refine beq_eq_false_iff_ne.mpr fun e => h ?_
    rw [e]
    decide +kernel
theorem filter_all (f : Nat → Bool) : ∀ l : List Nat, (l.filter fun c => !f c).isEmpty = l.all f
  | [] => rfl
  | c :: r => by
    have ih := filter_all f r
    cases q : f c with
    | true => simp [q, ih]
    | false => simp [q]
def TxV (v : V) : Prop := ∃ z, v = .str z ∧ Tx 100 z
theorem allT_nil : ∀ v ∈ ([] : List V), TxV v := fun v h => by cases h
theorem allT_cons {x : V} {l : List V} (h : TxV x) (t : ∀ v ∈ l, TxV v) : ∀ v ∈ x :: l, TxV v := fun v hv => by
  rcases List.mem_cons.mp hv with e | hv
  · rw [e]; exact h
  · exact t v hv
theorem allV_nil {p : Addr} {H : Hp} : ∀ v ∈ ([] : List V), Tv p H v := fun v h => by cases h
theorem allV_cons {p : Addr} {H : Hp} {x : V} {l : List V} (h : Tv p H x) (t : ∀ v ∈ l, Tv p H v) : ∀ v ∈ x :: l, Tv p H v := fun v hv => by
  rcases List.mem_cons.mp hv with e | hv
  · rw [e]; exact h
  · exact t v hv
theorem allV_app {P : V → Prop} {l m : List V} (h : ∀ v ∈ l, P v) (t : ∀ v ∈ m, P v) : ∀ v ∈ l ++ m, P v := fun v hv => by
  rcases List.mem_append.mp hv with hv | hv
  · exact h v hv
  · exact t v hv
theorem near_word {v : V} (h : v ∈ RES) : ∃ z, v = .str z ∧ Tx 4 z ∧ 2 ≤ z.length := by
  have h' : v = .str "to" ∨ v = .str "if" ∨ v = .str "tag" ∨ v = .str "all" ∨ v = .str "none" := by simpa [RES] using h
  rcases h' with rfl | rfl | rfl | rfl | rfl
  all_goals exact ⟨_, rfl, ⟨by decide +kernel, by decide +kernel⟩, by decide +kernel⟩
theorem Pen.ne {H : Hp} {p c a : Addr} {n : Nat} (P : Pen H p c n) (h : H a = none) : a ≠ p := by
  obtain ⟨xs, e⟩ := P.ob
  exact (ne_of_none e h).symm
theorem line_of {n : Nat} (h : n ≤ 1000000) : n ≤ sizeLine := Nat.le_trans h (by decide)
/-- an exception's own __init__: its fields are the arguments -/
def spIni (C : Addr) (fs : List Str) : Sp := fun xs H Q _ => ∃ (a : Addr) (vs : List V), xs = .ref a :: vs ∧ vs.length = fs.length ∧ H a = some (exo a C none) ∧
  ∀ (d : Addr) (H' : Hp), H d = none → d ≠ a → H' a = some (exo a C (some d)) → H' d = some (exd d (fs.zip vs).reverse) → (∀ b, b ≠ a → b ≠ d → H' b = H b) → Q .non H'
def spIni0 (C : Addr) : Sp := fun xs H Q _ => ∃ a : Addr, xs = [.ref a] ∧ H a = some (exo a C none) ∧ Q .non H
theorem mk_same {a d : Addr} {o : HO} {H H' : Hp} (na : H a = none) (nd : upd H a o d = none) (ne : d ≠ a) (oth : ∀ b, b ≠ a → b ≠ d → H' b = upd H a o b) : Same H H' := fun b u e => by
  have nd' : H d = none := by
    rw [upd_ne ne] at nd
    exact nd
  rw [oth b (ne_of_none e na) (ne_of_none e nd'), upd_ne (ne_of_none e na)]
  exact e
theorem knew {H Hk : Hp} {l : Addr} {o : HO} (S : Same H Hk) (n : Hk l = none) : ∃ H', upd Hk l o = H' ∧ Same H H' ∧ Same Hk H' ∧ H' l = some o := ⟨_, rfl, S.trans (same_upd n), same_upd n, upd_same⟩
/-! ### rows: names in their order -/
theorem takesF {X : Cx} : Takes X (fun _ _ _ _ => False) := fun u s' h => by
  obtain ⟨_, _, _, _, _, _, _, _, _, _, _, _, _, _, _, _, w⟩ := h
  exact w.elim
/-- texts that are names -/
def Nms (ns : List Str) : Prop := ∀ z ∈ ns, isName z = true ∧ Tx 8 z
/-- the names that stand among the things -/
def rowOf (ns : List Str) (xs : List V) : List Str := ns.filter fun z => xs.any (isStr z)
/-- the number of a row: its bits from place i on -/
def bitsOf (xs : List V) : List Str → Nat → List Int
  | [], _ => []
  | z :: r, i => if xs.any (isStr z) then (2 : Int) ^ i :: bitsOf xs r (i + 1) else bitsOf xs r (i + 1)
def numOf (ns : List Str) (xs : List V) : Int := (bitsOf xs ns 0).sum
def spAre (K : PySem.W.Frag) : Sp := fun vs H Q _ => ∃ (a : Addr) (ns : List Str) (m : Int), vs = [.ref a, .int m] ∧ SqT K H a (ns.map V.str) ∧ Nms ns ∧ ns.Nodup ∧ 1 ≤ ns.length ∧ (ns.length : Int) ≤ m ∧ ns.length ≤ 100 ∧ ∀ H', Same H H' → Q (.bl true) H'
def spCheck (K : PySem.W.Frag) : Sp := fun vs H Q _ => ∃ (a : Addr) (ns : List Str), vs = [.ref a] ∧ H a = some (.tup (ns.map V.str)) ∧ Nms ns ∧ ns.Nodup ∧ 1 ≤ ns.length ∧ ns.length ≤ 5 ∧ ∀ H', Same H H' → Q .non H'
def spWith (K : PySem.W.Frag) : Sp := fun vs H Q _ => ∃ (a b : Addr) (ns : List Str) (xs : List V), vs = [.ref a, .ref b] ∧ SqT K H a (ns.map V.str) ∧ SqT K H b xs ∧ (∀ v ∈ xs, Any K H v) ∧ ns.length ≤ 100 ∧ ∀ (p : Addr) (H' : Hp), H p = none → Same H H' → H' p = some (.tup ((rowOf ns xs).map V.str)) → Q (.ref p) H'
def spNum (K : PySem.W.Frag) : Sp := fun vs H Q _ => ∃ (a b : Addr) (ns : List Str) (xs : List V), vs = [.ref a, .ref b] ∧ SqT K H a (ns.map V.str) ∧ SqT K H b xs ∧ (∀ v ∈ xs, Any K H v) ∧ ns.length ≤ 30 ∧ ∀ H', Same H H' → Q (.int (numOf ns xs)) H'
theorem Same.seqT {K : PySem.W.Frag} {H H' : Hp} {a : Addr} {xs : List V} (e : Same H H') (h : SqT K H a xs) : SqT K H' a xs := by
  rcases h with (h | ⟨o, h⟩) | h
  · exact .inl (.inl (e _ _ h))
  · exact .inl (.inr ⟨o, e _ _ h⟩)
  · exact .inr h
theorem iteT' {c A B : Prop} [Decidable c] (hc : c) (h : A) : if c then A else B := by
  rw [if_pos hc]
  exact h
theorem canLay_strs : ∀ zs : List Str, (∀ z ∈ zs, Tx 8 z) → PyData.canLayAll0 (zs.map PyData.str) = true
  | [], _ => by simp [PyData.canLayAll0]
  | z :: r, h => by
    have ih := canLay_strs r fun d hd => h d (List.mem_cons_of_mem _ hd)
    have hz := (h z List.mem_cons_self).ok
    have e : PyData.canLay0 (.str z) = true := by
      have e1 : (z.cps.all fun c => decide (c < 1114112)) = true := by
        rw [Array.all_eq_true_iff_forall_mem]
        intro c hc
        exact decide_eq_true (hz c (by simpa using hc))
      simpa [PyData.canLay0, PyData.strOk] using e1
    simp [PyData.canLayAll0, e, ih]
theorem depth_strs : ∀ zs : List Str, PyData.depthAll (zs.map PyData.str) ≤ 1
  | [] => by simp [PyData.depthAll]
  | n :: r => by
    have := depth_strs r
    simp only [List.map_cons, PyData.depthAll, PyData.depth]
    omega
theorem shaped_strs (zs : List Str) (h : ∀ z ∈ zs, Tx 8 z) : SeqAt.shaped (.tuple (zs.map PyData.str)) = true := by
  have h1 := canLay_strs zs h
  have h2 := depth_strs zs
  unfold SeqAt.shaped
  have h3 : PyData.depth (.tuple (zs.map PyData.str)) ≤ 64 := by
    simp only [PyData.depth]
    omega
  simp only [PyData.canLay0, h1, h3, decide_true, Bool.and_self]
theorem dp_strs {K : PySem.W.Frag} {H : Hp} : ∀ zs : List Str, DpAll K H (zs.map V.str) (zs.map PyData.str)
  | [] => .nil
  | z :: r => .cons (.str z) (dp_strs r)
theorem rowOf_mem {ns : List Str} {xs : List V} {z : Str} (h : z ∈ rowOf ns xs) : z ∈ ns := (List.mem_filter.mp h).1
/-- a value asked whether it is a row, and the answer -/
inductive RowV (K : PySem.W.Frag) (H : Hp) (ns : List Str) : V → Bool → Prop
  | no {v : V} {t : Value} (ty : TyX K H v t) (k : PySem.W.kitOne K t (.type "tuple") = some false) : RowV K H ns v false
  | tup {b : Addr} {xs : List V} {ds : List PyData} (h : H b = some (.tup xs)) (any : ∀ v ∈ xs, Any K H v) (dp : ∀ H', Same H H' → DpAll K H' xs ds) (sh : SeqAt.shaped (.tuple ds) = true) : RowV K H ns (.ref b) (PyData.eqv (.tuple ds) (.tuple ((rowOf ns xs).map PyData.str)))
/-- what number gives, and what it lets out -/
def spNumb (K : PySem.W.Frag) (C CE : Addr) : Sp := fun vs H Q E => ∃ (x a dx : Addr) (fs : List (Str × V)) (v : V) (ns : List Str) (r : Bool), vs = [.ref x, v] ∧ H x = some (.ins C dx fs) ∧ fs.lookup ("conditions" : Str) = some (V.ref a) ∧ SqT K H a (ns.map V.str) ∧ Nms ns ∧ ns.length ≤ 5 ∧ RowV K H ns v r ∧
  (r = true → ∃ (b : Addr) (xs : List V), v = .ref b ∧ SqT K H b xs ∧ (∀ u ∈ xs, Any K H u) ∧ ∀ H', Same H H' → Q (.int (numOf ns xs)) H') ∧
  (r = false → ∀ (d : Addr) (H' : Hp), H d = none → Same H H' → H' d = some (.xd [(("value" : Str), v)]) → E (.ref CE) (some d) H')
theorem raised {H H2 : Hp} {a d : Addr} {o u : HO} (na : H a = none) (nd : H d = none) (hb : ∀ b, b ≠ a → b ≠ d → H2 b = upd H a o b) : Same H (upd (del H2 a) d u) := fun b z e => by
  have n1 := ne_of_none e na
  have n2 := ne_of_none e nd
  rw [upd_ne n2, del_ne n1, hb b n1 n2, upd_ne n1]
  exact e
/-- having: the things asked for, behind the object -/
def spHave (K : PySem.W.Frag) (C CE : Addr) : Sp := fun vs H Q E => ∃ (x a p dx : Addr) (fs : List (Str × V)) (ns : List Str) (xs : List V), vs = [.ref x, .ref p] ∧ H x = some (.ins C dx fs) ∧ fs.lookup ("conditions" : Str) = some (V.ref a) ∧ SqT K H a (ns.map V.str) ∧ ns.length ≤ 5 ∧ SqT K H p xs ∧ (∀ u ∈ xs, Any K H u) ∧
  ((∀ v ∈ xs, hasV v (ns.map V.str) = true) → ∀ (l : Addr) (H' : Hp), H l = none → Same H H' → H' l = some (.tup ((rowOf ns xs).map V.str)) → Q (.ref l) H') ∧
  (∀ (i : Nat) (v : V), xs[i]? = some v → (∀ u ∈ xs.take i, hasV u (ns.map V.str) = true) → hasV v (ns.map V.str) = false → ∀ (d : Addr) (H' : Hp), H d = none → Same H H' → H' d = some (.xd [(("name" : Str), v)]) → E (.ref CE) (some d) H')
/-- a def with a star parameter -/
theorem starX {P : Program} {w : World} {K : PySem.W.Frag} {mg : Str → Option Value} {base : Heap} {x qual pv : Str} {st : Stmt} {f : Addr} {fd : FuncData} {N ps : List Str} {k : Nat} {sp : Sp} (F : Fun K x qual st f fd) (S : FnScope N (ps ++ [pv]) (defScope st))
    (hb : ∀ (kV doc pm : Value) (an : Option Addr) (cdv ct : Value) (us rest : List Value), us.length = ps.length → bindArgs (PySem.W.fnOf x qual (defArgs st) (defBody st) (defScope st) .none kV doc pm an cdv ct) ⟨us ++ rest, []⟩ = (newTuple rest >>= fun t => pure (ps.zip us ++ [(pv, t)])))
    (hbody : ∀ (cdv : Value) (A : Around) (outer : List Env) (s : Shared) (H : Hp) (vs : List V) (Q : VK) (E : XK), Room k (A.deeper (PyProof.Rows.envOfC qual (defScope st) s.heap.objs.size f cdv)) → sp vs H Q E →
      ∃ t, PSs (cxOf (L2.CX P w) P w K mg base N qual (defScope st) f cdv A outer s H E) (defBody st) t ∧ t { nx := fun _ H' => Q .non H', rt := Q } (L2.start N vs) H) :
    FnR P w K mg base (L2.CX P w) (k + 1) f (fun vs H Q E => ∃ ws rest, vs = ws ++ rest ∧ ws.length = ps.length ∧ rest.length ≤ sizeLine ∧ ∀ p, H p = none → sp (ws ++ [V.ref p]) (upd H p (.tup rest)) Q E) := by
  obtain ⟨oc, od, kV, doc, pm, an, cdv, ct, osl, rfl, lk, hcd⟩ := F.ex
  exact StX.fn_star lk hcd S StX.cxUp (hb kV doc pm an cdv ct) fun A outer s H vs Q E hr hsp => hbody cdv A outer s H vs Q E hr hsp
theorem take_all {α : Type} {p : α → Prop} {xs : List α} {i : Nat} {v : α} (h : xs[i]? = some v) (a : ∀ u ∈ xs.take i, p u) (hv : p v) : ∀ u ∈ xs.take (i + 1), p u := fun u hu => by
  rw [List.take_add_one, h] at hu
  rcases List.mem_append.mp hu with hu | hu
  · exact a u hu
  · rw [show u = v by simpa using hu]
    exact hv
def spRow (K : PySem.W.Frag) : Sp := fun vs H Q _ => ∃ (a : Addr) (v : V) (ns : List Str) (r : Bool), vs = [.ref a, v] ∧ SqT K H a (ns.map V.str) ∧ Nms ns ∧ ns.length ≤ 5 ∧ RowV K H ns v r ∧ ∀ H', Same H H' → Q (.bl r) H'
/-- a tuple of things that is a row -/
def Good (K : PySem.W.Frag) (H : Hp) (ns : List Str) (b : Addr) (xs : List V) : Prop := H b = some (.tup xs) ∧ (∀ u ∈ xs, Any K H u) ∧ ∃ ds, (∀ H', Same H H' → DpAll K H' xs ds) ∧ SeqAt.shaped (.tuple ds) = true ∧ PyData.eqv (.tuple ds) (.tuple ((rowOf ns xs).map PyData.str)) = true
theorem Good.rowV {K : PySem.W.Frag} {H : Hp} {ns : List Str} {b : Addr} {xs : List V} (g : Good K H ns b xs) : RowV K H ns (.ref b) true := by
  obtain ⟨h, an, ds, dp, sh, e⟩ := g
  have z := RowV.tup (ns := ns) h an dp sh
  rw [e] at z
  exact z
/-- the table of rows by their numbers -/
def tabOf (num : Addr → Int) (bs : List Addr) : List (Key × V) := bs.foldl (fun t b => putK t (Sum.inl (num b)) (V.ref b)) []
theorem tabOf_succ {num : Addr → Int} {bs : List Addr} {i : Nat} {b : Addr} (h : bs[i]? = some b) : tabOf num (bs.take (i + 1)) = putK (tabOf num (bs.take i)) (Sum.inl (num b)) (V.ref b) := by
  unfold tabOf
  rw [List.take_add_one, h, List.foldl_append]
  rfl
theorem putK_keys {t : List (Key × V)} {ks : List Int} (e : t.map (·.1) = ks.map Sum.inl) (k : Int) (v : V) : ∃ ks' : List Int, (putK t (Sum.inl k) v).map (·.1) = ks'.map Sum.inl ∧ ks'.length ≤ ks.length + 1 ∧ 1 ≤ ks'.length := by
  unfold putK
  split
  · rename_i hh
    refine ⟨ks, ?_, by omega, ?_⟩
    · rw [List.map_map, ← e]
      refine List.map_congr_left fun p hp => ?_
      show (if p.1 = Sum.inl k then (p.1, v) else p).1 = p.1
      split <;> rfl
    · obtain ⟨p, hp, _⟩ := List.any_eq_true.mp hh
      have := congrArg List.length e
      rw [List.length_map, List.length_map] at this
      have := List.length_pos_of_mem hp
      omega
  · refine ⟨ks ++ [k], ?_, by simp, by simp⟩
    rw [List.map_append, e, List.map_append]
    rfl
theorem fold_keys (num : Addr → Int) : ∀ (bs : List Addr) (t : List (Key × V)) (ks : List Int), t.map (·.1) = ks.map Sum.inl → ∃ ks' : List Int, (bs.foldl (fun t b => putK t (Sum.inl (num b)) (V.ref b)) t).map (·.1) = ks'.map Sum.inl ∧ ks'.length ≤ ks.length + bs.length ∧ (1 ≤ bs.length ∨ 1 ≤ ks.length → 1 ≤ ks'.length)
  | [], t, ks, e => ⟨ks, e, by simp, fun h => by simpa using h⟩
  | b :: r, t, ks, e => by
    obtain ⟨k1, e1, n1, p1⟩ := putK_keys e (num b) (V.ref b)
    obtain ⟨k2, e2, n2, p2⟩ := fold_keys num r _ k1 e1
    exact ⟨k2, e2, by rw [List.length_cons]; omega, fun _ => p2 (.inr p1)⟩
theorem tab_keys (num : Addr → Int) (bs : List Addr) : ∃ ks : List Int, (tabOf num bs).map (·.1) = ks.map Sum.inl ∧ ks.length ≤ bs.length ∧ (1 ≤ bs.length → 1 ≤ ks.length) := by
  obtain ⟨ks, e, n, p⟩ := fold_keys num bs [] [] rfl
  exact ⟨ks, e, by simpa using n, fun h => p (.inl h)⟩
theorem valV_mem {k : Key} : ∀ {t : List (Key × V)}, k ∈ t.map (·.1) → ∃ v, valV t k = some v
  | p :: r, h => by
    by_cases e : p.1 = k
    · exact ⟨_, valV_pos e⟩
    · have h' : k ∈ r.map (·.1) := by
        rcases List.mem_cons.mp h with h | h
        · exact absurd h.symm e
        · exact h
      obtain ⟨v, hv⟩ := valV_mem h'
      refine ⟨v, ?_⟩
      unfold valV at hv ⊢
      rw [List.find?_cons_of_neg (by simpa using e)]
      exact hv
/-- what stands in possible -/
def possOf (num : Addr → Int) (bs : List Addr) (ys : List Int) : List V := ys.map fun y => (valV (tabOf num bs) (Sum.inl y)).getD .non
def spInit (K : PySem.W.Frag) (C : Addr) : Sp := fun vs H Q _ => ∃ (x a p dx : Addr) (ns : List Str) (bs : List Addr) (num : Addr → Int), vs = [.ref x, .ref a, .ref p] ∧ H x = some (.ins C dx []) ∧ H a = some (.tup (ns.map V.str)) ∧ Nms ns ∧ ns.Nodup ∧ 1 ≤ ns.length ∧ ns.length ≤ 5 ∧
  SqT K H p (bs.map V.ref) ∧ 1 ≤ bs.length ∧ bs.length ≤ 60 ∧ (∀ b ∈ bs, ∃ xs, Good K H ns b xs ∧ num b = numOf ns xs) ∧
  ∀ (ys ks : List Int) (q : Addr) (H' : Hp), (tabOf num bs).map (·.1) = ks.map Sum.inl → ys.Perm ks → ys.Pairwise (· ≤ ·) → H q = none → Keep x H H' → H' q = some (.tup (possOf num bs ys)) →
    H' x = some (.ins C dx (putF "possible" (.ref q) (putF "conditions" (.ref a) []))) → Q .non H'
def spOf (K : PySem.W.Frag) (C : Addr) : Sp := fun vs H Q _ => ∃ (a l : Addr) (ns : List Str) (bs : List Addr) (num : Addr → Int), vs = [.ref C, .ref a, .ref l] ∧ H a = some (.tup (ns.map V.str)) ∧ Nms ns ∧ ns.Nodup ∧ 1 ≤ ns.length ∧ ns.length ≤ 5 ∧
  SqL K H l (bs.map V.ref) ∧ 1 ≤ bs.length ∧ bs.length ≤ 60 ∧ (∀ b ∈ bs, ∃ xs, Good K H ns b xs ∧ num b = numOf ns xs) ∧
  ∀ (ys ks : List Int) (x dx q : Addr) (H' : Hp), (tabOf num bs).map (·.1) = ks.map Sum.inl → ys.Perm ks → ys.Pairwise (· ≤ ·) → H x = none → H q = none → Same H H' → H' q = some (.tup (possOf num bs ys)) →
    H' x = some (.ins C dx (putF "possible" (.ref q) (putF "conditions" (.ref a) []))) → Q (.ref x) H'
theorem iteN' {c A B : Prop} [Decidable c] (hc : ¬ c) (h : B) : if c then A else B := by
  rw [if_neg hc]
  exact h
theorem anySame {K : PySem.W.Frag} {H H' : Hp} {v : V} (a : Any K H v) (s : Same H H') : Any K H' v := by
  cases a with
  | flat _ h => exact .flat _ h
  | lst h => exact .lst (s.seq h)
  | tup h => exact .tup (Same.seqT s h)
  | dK h => exact .dK (s _ _ h)
theorem Good.same {K : PySem.W.Frag} {H H' : Hp} {ns : List Str} {b : Addr} {xs : List V} (g : Good K H ns b xs) (s : Same H H') : Good K H' ns b xs := by
  obtain ⟨h, an, ds, dp, sh, e⟩ := g
  exact ⟨s _ _ h, fun u hu => anySame (an u hu) s, ds, fun H2 s2 => dp H2 (s.trans s2), sh, e⟩
theorem map_int_at' {bs : List Int} {i : Nat} {v : V} (h : (bs.map V.int)[i]? = some v) : ∃ b, bs[i]? = some b ∧ v = .int b := by
  rw [List.getElem?_map] at h
  cases e : bs[i]? with
  | none => rw [e] at h; cases h
  | some z =>
    rw [e] at h
    exact ⟨z, rfl, (Option.some.inj h).symm⟩
theorem map_ref_at {bs : List Addr} {i : Nat} {v : V} (h : (bs.map V.ref)[i]? = some v) : ∃ b, bs[i]? = some b ∧ v = .ref b := by
  rw [List.getElem?_map] at h
  cases e : bs[i]? with
  | none => rw [e] at h; cases h
  | some z =>
    rw [e] at h
    exact ⟨z, rfl, (Option.some.inj h).symm⟩
theorem rowOf_succ {ns : List Str} {xs : List V} {i : Nat} {z : Str} (h : ns[i]? = some z) : rowOf (ns.take (i + 1)) xs = if xs.any (isStr z) then rowOf (ns.take i) xs ++ [z] else rowOf (ns.take i) xs := by
  unfold rowOf
  rw [List.take_add_one, h, List.filter_append]
  cases q : xs.any (isStr z) <;> simp [q]
theorem bitsOf_append (xs : List V) : ∀ (ns ms : List Str) (i : Nat), bitsOf xs (ns ++ ms) i = bitsOf xs ns i ++ bitsOf xs ms (i + ns.length)
  | [], ms, i => rfl
  | z :: r, ms, i => by
    have ih := bitsOf_append xs r ms (i + 1)
    have e : i + 1 + r.length = i + (z :: r).length := by rw [List.length_cons]; omega
    simp only [List.cons_append, bitsOf]
    rw [ih, e]
    split <;> rfl
theorem bitsOf_succ {ns : List Str} {xs : List V} {i : Nat} {z : Str} (h : ns[i]? = some z) : bitsOf xs (ns.take (i + 1)) 0 = if xs.any (isStr z) then bitsOf xs (ns.take i) 0 ++ [(2 : Int) ^ i] else bitsOf xs (ns.take i) 0 := by
  have li := (List.getElem?_eq_some_iff.mp h).1
  have e : 0 + (ns.take i).length = i := by rw [List.length_take]; omega
  rw [List.take_add_one, h, bitsOf_append, e]
  show _ ++ bitsOf xs [z] i = _
  have e2 : bitsOf xs [z] i = if xs.any (isStr z) then [(2 : Int) ^ i] else [] := rfl
  rw [e2]
  cases xs.any (isStr z)
  · exact List.append_nil _
  · rfl
theorem bitsOf_len (xs : List V) : ∀ (ns : List Str) (i : Nat), (bitsOf xs ns i).length ≤ ns.length
  | [], _ => Nat.le_refl _
  | z :: r, i => by
    have ih := bitsOf_len xs r (i + 1)
    unfold bitsOf
    split <;> simp only [List.length_cons] <;> omega
theorem map_str_at {ns : List Str} {i : Nat} {v : V} (h : (ns.map V.str)[i]? = some v) : ∃ z, ns[i]? = some z ∧ v = .str z := by
  rw [List.getElem?_map] at h
  cases e : ns[i]? with
  | none => rw [e] at h; cases h
  | some z =>
    rw [e] at h
    exact ⟨z, rfl, (Option.some.inj h).symm⟩
/-- what the top has written -/
structure Txt (K : PySem.W.Frag) (mg : Str → Option Value) where
  f_is_name : Addr
  fd_is_name : FuncData
  F_is_name : Fun K "is_name" "is_name" s_is_name f_is_name fd_is_name
  b_is_name : Binds K fd_is_name ["value"] []
  m_is_name : mg "is_name" = some (.ref f_is_name)
  f_are_names : Addr
  fd_are_names : FuncData
  F_are_names : Fun K "are_names" "are_names" s_are_names f_are_names fd_are_names
  b_are_names : Binds K fd_are_names ["values", "most"] []
  m_are_names : mg "are_names" = some (.ref f_are_names)
  f_check_conditions : Addr
  fd_check_conditions : FuncData
  F_check_conditions : Fun K "check_conditions" "check_conditions" s_check_conditions f_check_conditions fd_check_conditions
  b_check_conditions : Binds K fd_check_conditions ["conditions"] []
  m_check_conditions : mg "check_conditions" = some (.ref f_check_conditions)
  f_row_with : Addr
  fd_row_with : FuncData
  F_row_with : Fun K "row_with" "row_with" s_row_with f_row_with fd_row_with
  b_row_with : Binds K fd_row_with ["conditions", "raised"] []
  m_row_with : mg "row_with" = some (.ref f_row_with)
  f_row_number : Addr
  fd_row_number : FuncData
  F_row_number : Fun K "row_number" "row_number" s_row_number f_row_number fd_row_number
  b_row_number : Binds K fd_row_number ["conditions", "row"] []
  m_row_number : mg "row_number" = some (.ref f_row_number)
  f_is_row : Addr
  fd_is_row : FuncData
  F_is_row : Fun K "is_row" "is_row" s_is_row f_is_row fd_is_row
  b_is_row : Binds K fd_is_row ["conditions", "value"] []
  m_is_row : mg "is_row" = some (.ref f_is_row)
  f_Rows_number : Addr
  fd_Rows_number : FuncData
  F_Rows_number : Fun K "number" "Rows.number" s_Rows_number f_Rows_number fd_Rows_number
  b_Rows_number : Binds K fd_Rows_number ["self", "row"] []
  f_Rows_having : Addr
  fd_Rows_having : FuncData
  F_Rows_having : Fun K "having" "Rows.having" s_Rows_having f_Rows_having fd_Rows_having
  f_Rows_init : Addr
  fd_Rows_init : FuncData
  F_Rows_init : Fun K "__init__" "Rows.__init__" s_Rows_init f_Rows_init fd_Rows_init
  f_Rows_of : Addr
  fd_Rows_of : FuncData
  F_Rows_of : Fun K "of" "Rows.of" s_Rows_of f_Rows_of fd_Rows_of
  b_Rows_of : Binds K fd_Rows_of ["cls", "conditions", "possible"] []
  f__law_pen : Addr
  fd__law_pen : FuncData
  F__law_pen : Fun K "_law_pen" "_law_pen" s__law_pen f__law_pen fd__law_pen
  b__law_pen : Binds K fd__law_pen ["_law_script"] []
  m__law_pen : mg "_law_pen" = some (.ref f__law_pen)
  f__law_draw : Addr
  fd__law_draw : FuncData
  F__law_draw : Fun K "_law_draw" "_law_draw" s__law_draw f__law_draw fd__law_draw
  b__law_draw : Binds K fd__law_draw ["_law_pen_here", "_law_many"] []
  m__law_draw : mg "_law_draw" = some (.ref f__law_draw)
  f__law_pick : Addr
  fd__law_pick : FuncData
  F__law_pick : Fun K "_law_pick" "_law_pick" s__law_pick f__law_pick fd__law_pick
  b__law_pick : Binds K fd__law_pick ["_law_pen_here", "_law_some"] []
  m__law_pick : mg "_law_pick" = some (.ref f__law_pick)
  f__law_conditions : Addr
  fd__law_conditions : FuncData
  F__law_conditions : Fun K "_law_conditions" "_law_conditions" s__law_conditions f__law_conditions fd__law_conditions
  b__law_conditions : Binds K fd__law_conditions ["_law_pen_here", "_law_most"] []
  m__law_conditions : mg "_law_conditions" = some (.ref f__law_conditions)
  f__law_row : Addr
  fd__law_row : FuncData
  F__law_row : Fun K "_law_row" "_law_row" s__law_row f__law_row fd__law_row
  b__law_row : Binds K fd__law_row ["_law_conditions_here", "_law_bits"] []
  m__law_row : mg "_law_row" = some (.ref f__law_row)
  f__law_having : Addr
  fd__law_having : FuncData
  F__law_having : Fun K "_law_having" "_law_having" s__law_having f__law_having fd__law_having
  b__law_having : Binds K fd__law_having ["_law_made", "_law_names"] []
  m__law_having : mg "_law_having" = some (.ref f__law_having)
  f__law_refused : Addr
  fd__law_refused : FuncData
  F__law_refused : Fun K "_law_refused" "_law_refused" s__law_refused f__law_refused fd__law_refused
  b__law_refused : Binds K fd__law_refused ["_law_made", "_law_thing"] []
  m__law_refused : mg "_law_refused" = some (.ref f__law_refused)
  f__law_told : Addr
  fd__law_told : FuncData
  F__law_told : Fun K "_law_told" "_law_told" s__law_told f__law_told fd__law_told
  b__law_told : Binds K fd__law_told ["_law_made", "_law_names"] []
  m__law_told : mg "_law_told" = some (.ref f__law_told)
  f__law_named : Addr
  fd__law_named : FuncData
  F__law_named : Fun K "_law_named" "_law_named" s__law_named f__law_named fd__law_named
  b__law_named : Binds K fd__law_named ["_law_pen_here", "_law_made"] []
  m__law_named : mg "_law_named" = some (.ref f__law_named)
  f_law : Addr
  fd_law : FuncData
  F_law : Fun K "law" "law" s_law f_law fd_law
  b_law : Binds K fd_law ["_law_script"] []
  m_law : mg "law" = some (.ref f_law)
  n_abs : mg "abs" = none
  n_all : mg "all" = none
  n_bool : mg "bool" = none
  n_classmethod : mg "classmethod" = none
  n_enumerate : mg "enumerate" = none
  n_int : mg "int" = none
  n_isinstance : mg "isinstance" = none
  n_len : mg "len" = none
  n_list : mg "list" = none
  n_range : mg "range" = none
  n_repr : mg "repr" = none
  n_set : mg "set" = none
  n_sorted : mg "sorted" = none
  n_str : mg "str" = none
  n_sum : mg "sum" = none
  n_tuple : mg "tuple" = none
  v_LETTERS : Value
  g_LETTERS : mg "LETTERS" = some v_LETTERS
  r_LETTERS : RelV (.str "abcdefghijklmnopqrstuvwxyz") v_LETTERS
  v_MOST_CONDITIONS : Value
  g_MOST_CONDITIONS : mg "MOST_CONDITIONS" = some v_MOST_CONDITIONS
  r_MOST_CONDITIONS : RelV (.int 5) v_MOST_CONDITIONS
  v_MOST_SIGNS : Value
  g_MOST_SIGNS : mg "MOST_SIGNS" = some v_MOST_SIGNS
  r_MOST_SIGNS : RelV (.int 8) v_MOST_SIGNS
  a_RESERVED : Addr
  g_RESERVED : mg "RESERVED" = some (.ref a_RESERVED)
  r_RESERVED : RelV (.ref a_RESERVED) (.ref a_RESERVED)
  t_RESERVED : ∀ H, SqT K H a_RESERVED [.str "to", .str "if", .str "tag", .str "all", .str "none"]
  v_SIGNS : Value
  g_SIGNS : mg "SIGNS" = some v_SIGNS
  r_SIGNS : RelV (.str "abcdefghijklmnopqrstuvwxyz0123456789") v_SIGNS
  c_InvalidRows : Addr
  f_InvalidRows_init : Addr
  fd_InvalidRows_init : FuncData
  F_InvalidRows_init : Fun K "__init__" "InvalidRows.__init__" s_InvalidRows_init f_InvalidRows_init fd_InvalidRows_init
  b_InvalidRows_init : Binds K fd_InvalidRows_init ["self", "part"] []
  m_InvalidRows : mg "InvalidRows" = some (.ref c_InvalidRows)
  ex_InvalidRows : ExK K c_InvalidRows f_InvalidRows_init
  no_InvalidRows_part : PySem.W.findIn K (.ref c_InvalidRows) "part" = some none
  c_InvalidRow : Addr
  f_InvalidRow_init : Addr
  fd_InvalidRow_init : FuncData
  F_InvalidRow_init : Fun K "__init__" "InvalidRow.__init__" s_InvalidRow_init f_InvalidRow_init fd_InvalidRow_init
  b_InvalidRow_init : Binds K fd_InvalidRow_init ["self", "value"] []
  m_InvalidRow : mg "InvalidRow" = some (.ref c_InvalidRow)
  ex_InvalidRow : ExK K c_InvalidRow f_InvalidRow_init
  no_InvalidRow_value : PySem.W.findIn K (.ref c_InvalidRow) "value" = some none
  c_NoCondition : Addr
  f_NoCondition_init : Addr
  fd_NoCondition_init : FuncData
  F_NoCondition_init : Fun K "__init__" "NoCondition.__init__" s_NoCondition_init f_NoCondition_init fd_NoCondition_init
  b_NoCondition_init : Binds K fd_NoCondition_init ["self", "name"] []
  m_NoCondition : mg "NoCondition" = some (.ref c_NoCondition)
  ex_NoCondition : ExK K c_NoCondition f_NoCondition_init
  no_NoCondition_name : PySem.W.findIn K (.ref c_NoCondition) "name" = some none
  c_Rows : Addr
  m_Rows : mg "Rows" = some (.ref c_Rows)
  mc_Rows : Value
  q_of : Addr
  cr_Rows : ClX.CRead K c_Rows mc_Rows
  cm_of : ClX.CMet K c_Rows mc_Rows "of" q_of f_Rows_of
  k_Rows : Cls K c_Rows
  mk_Rows : Mk K c_Rows f_Rows_init
  na_conditions : NoAttr K c_Rows "conditions"
  na_possible : NoAttr K c_Rows "possible"
  c_OrError : Addr
  m_OrError : mg "OrError" = some (.ref c_OrError)
  Z : ClsK K
  xm_IR : PySem.W.exmOne K (.ref c_InvalidRow) (.ref c_InvalidRow) = some true
  ko_IR1 : PySem.W.kitOne K (.ref c_InvalidRow) (.ref c_OrError) = some true
  ko_IR2 : PySem.W.kitOne K (.ref c_InvalidRow) (.ref c_NoCondition) = some false
  xm_NC : PySem.W.exmOne K (.ref c_NoCondition) (.ref c_NoCondition) = some true
  ko_NC1 : PySem.W.kitOne K (.ref c_NoCondition) (.ref c_OrError) = some true
  ko_NC2 : PySem.W.kitOne K (.ref c_NoCondition) (.ref c_InvalidRow) = some false
  mt_having : Meth K c_Rows "having" f_Rows_having
  mt_number : Meth K c_Rows "number" f_Rows_number
section
variable {P : Program} {w : World} {K : PySem.W.Frag} {mg : Str → Option Value} {base : Heap}
theorem ok_InvalidRows_init (T : Txt K mg) : FnOk P w K mg base CX0 1 T.f_InvalidRows_init T.fd_InvalidRows_init ["self", "part"] (spIni T.c_InvalidRows ["part"]) := by
  refine T.F_InvalidRows_init.ok sc_InvalidRows_init (fun vs H Q E h => ?_) (fun cdv A outer s H vs Q E hr h => ?_)
  · obtain ⟨a, vs, rfl, hl, _⟩ := h
    show vs.length + 1 = _
    rw [hl]
    rfl
  · obtain ⟨a, vs, rfl, hl, h1, q⟩ := h
    obtain ⟨v0, rfl⟩ : ∃ v0, vs = [v0] := match vs, hl with | [v0], _ => ⟨_, rfl⟩
    refine ⟨_, pss_one (ps_ost (pv 0) (pv 1)), ?_⟩
    refine ⟨_, rfl, _, rfl, a, T.c_InvalidRows, rfl, T.ex_InvalidRows.oex, T.no_InvalidRows_part, .inl ⟨h1, fun d nd ne => ?_⟩⟩
    have n1 : a ≠ d := ne.symm
    refine q d _ nd ne ?_ ?_ (fun b n2 n3 => ?_)
    all_goals (try simp only [upd_same, upd_ne n1, upd_ne ne])
    all_goals first
      | rfl
      | (simp only [upd, if_neg n2, if_neg n3])
theorem ok_InvalidRow_init (T : Txt K mg) : FnOk P w K mg base CX0 1 T.f_InvalidRow_init T.fd_InvalidRow_init ["self", "value"] (spIni T.c_InvalidRow ["value"]) := by
  refine T.F_InvalidRow_init.ok sc_InvalidRow_init (fun vs H Q E h => ?_) (fun cdv A outer s H vs Q E hr h => ?_)
  · obtain ⟨a, vs, rfl, hl, _⟩ := h
    show vs.length + 1 = _
    rw [hl]
    rfl
  · obtain ⟨a, vs, rfl, hl, h1, q⟩ := h
    obtain ⟨v0, rfl⟩ : ∃ v0, vs = [v0] := match vs, hl with | [v0], _ => ⟨_, rfl⟩
    refine ⟨_, pss_one (ps_ost (pv 0) (pv 1)), ?_⟩
    refine ⟨_, rfl, _, rfl, a, T.c_InvalidRow, rfl, T.ex_InvalidRow.oex, T.no_InvalidRow_value, .inl ⟨h1, fun d nd ne => ?_⟩⟩
    have n1 : a ≠ d := ne.symm
    refine q d _ nd ne ?_ ?_ (fun b n2 n3 => ?_)
    all_goals (try simp only [upd_same, upd_ne n1, upd_ne ne])
    all_goals first
      | rfl
      | (simp only [upd, if_neg n2, if_neg n3])
theorem ok_NoCondition_init (T : Txt K mg) : FnOk P w K mg base CX0 1 T.f_NoCondition_init T.fd_NoCondition_init ["self", "name"] (spIni T.c_NoCondition ["name"]) := by
  refine T.F_NoCondition_init.ok sc_NoCondition_init (fun vs H Q E h => ?_) (fun cdv A outer s H vs Q E hr h => ?_)
  · obtain ⟨a, vs, rfl, hl, _⟩ := h
    show vs.length + 1 = _
    rw [hl]
    rfl
  · obtain ⟨a, vs, rfl, hl, h1, q⟩ := h
    obtain ⟨v0, rfl⟩ : ∃ v0, vs = [v0] := match vs, hl with | [v0], _ => ⟨_, rfl⟩
    refine ⟨_, pss_one (ps_ost (pv 0) (pv 1)), ?_⟩
    refine ⟨_, rfl, _, rfl, a, T.c_NoCondition, rfl, T.ex_NoCondition.oex, T.no_NoCondition_name, .inl ⟨h1, fun d nd ne => ?_⟩⟩
    have n1 : a ≠ d := ne.symm
    refine q d _ nd ne ?_ ?_ (fun b n2 n3 => ?_)
    all_goals (try simp only [upd_same, upd_ne n1, upd_ne ne])
    all_goals first
      | rfl
      | (simp only [upd, if_neg n2, if_neg n3])
theorem ok_is_name (T : Txt K mg) : FnOk P w K mg base CX0 1 T.f_is_name T.fd_is_name ["value"] (spName) := by
  have nd := sc_is_name.nd
  refine T.F_is_name.ok sc_is_name (fun vs H Q E h => ?_) (fun cdv A outer s H vs Q E hr h => ?_)
  · obtain ⟨v, p, rfl, _⟩ := h; rfl
  · obtain ⟨v, p, rfl, tv, q⟩ := h
    have hu := hu_of hr
    refine ⟨_, (pss_cons (ps_if (PW.pt (pw_or (pt_not (pt_val (pe_callB call_isi (by rfl) T.n_isinstance (by decide +kernel) (pa_cons (pv 0) (pa_cons (pe_bltn (v := .ty "str") (u := .type "str") (by rfl) T.n_str (by decide +kernel) rfl) pa_nil))))) (pw_or1 (pt_not (pt_chain op_le op_le pe_int (pe_callB call_len_str (by rfl) T.n_len (by decide +kernel) (pa_cons (pv 0) pa_nil)) (pe_glob (by rfl) T.g_MOST_SIGNS T.r_MOST_SIGNS)))))) (pss_one (ps_ret pe_bl)) pss_nil)
        (pss_cons (ps_if (PW.pt (pw_or (pt_cmpR op_notIn_sign (pe_ix ix_str (pv 0) pe_int (fun _ _ => rfl)) (pe_glob (by rfl) T.g_LETTERS T.r_LETTERS) (by rfl)) (pw_or1 (pt_cmpR op_in_seq (pv 0) (pe_glob (by rfl) T.g_RESERVED T.r_RESERVED) (by rfl))))) (pss_one (ps_ret pe_bl)) pss_nil)
        (pss_one (ps_ret (pe_callB (cr_all rfl) (by rfl) T.n_all (by decide +kernel) (pa_cons (pe_lc (own := [("sign", 1)]) (g := gName 1) rfl nd (pi_str (pv 0)) (blkOk_by (own := [("sign", 1)]) (N := N_is_name) (sc := defScope s_is_name) (by decide +kernel)) (fun _ _ _ _ _ => pg_name (i := 1) nd rfl (Or.inl rfl)) (fun _ _ _ _ _ => pts_nil) (fun _ _ _ _ _ => (pe_cmpR op_in_sign (pv 1) (pe_glob (by rfl) T.g_SIGNS T.r_SIGNS) (by rfl)))) pa_nil)))))), ?_⟩
    obtain ⟨u, hu1, hu2⟩ := tv.ty (K := K)
    refine ⟨_, rfl, _, _, _, _, _, rfl, .ty _, hu1, hu2, _, rfl, ?_⟩
    rcases tv.cases with ⟨z, rfl, hz⟩ | ⟨e1, e2⟩
    · refine iteF ?_
      refine ⟨_, rfl, _, rfl, hz.line (by decide), _, _, rfl, rfl, _, rfl, ?_⟩
      have bad : isName z = false → Q (.bl false) H := fun e => by
        have := q H (Same.refl H)
        rw [show nameV (.str z) = isName z from rfl, e] at this
        exact this
      refine ite2 (fun c1 => ?_) (fun c1 => ?_)
      · refine ⟨_, _, rfl, rfl, _, rfl, ?_⟩
        have l1 : (1 : Int) ≤ (z.length : Int) := of_decide_eq_true c1
        by_cases l2 : z.length ≤ 8
        · refine iteNS (by show (z.length : Int) ≤ 8; omega) ?_
          obtain ⟨c, hc1, hc2⟩ := head_at (z := z) (by omega)
          refine ⟨_, rfl, _, _, c, rfl, rfl, hz.line (by decide), hc1, c, _, rfl, rfl, _, rfl, ?_⟩
          cases hL : inS LET c with
          | false =>
            have hL' : (!decide (c ∈ (("abcdefghijklmnopqrstuvwxyz" : Str)).cps.toList)) = true := by
              rw [show decide (c ∈ (("abcdefghijklmnopqrstuvwxyz" : Str)).cps.toList) = false from hL]
              rfl
            refine if_pos_of hL' ?_
            exact bad (by simp [isName, hc2, hL])
          | true =>
            have hL' : (!decide (c ∈ (("abcdefghijklmnopqrstuvwxyz" : Str)).cps.toList)) = false := by
              rw [show decide (c ∈ (("abcdefghijklmnopqrstuvwxyz" : Str)).cps.toList) = true from hL]
              rfl
            refine if_neg_of hL' ?_
            refine ⟨_, rfl, T.a_RESERVED, RES, rfl, .inr (T.t_RESERVED H), rfl, by decide +kernel, _, rfl, ?_⟩
            cases hR : inV (.str z) RES with
            | true =>
              refine iteT ?_
              exact bad (by simp [isName, hR])
            | false =>
              refine iteF ?_
              refine ⟨_, rfl, _, rfl, fun D nD => lc_it walk_str (fun i H2 => Same H H2 ∧ H2 D = some (.lst ((z.cps.toList.take i).map fun c => V.bl (inS SIG c)))) ⟨same_upd nD, upd_same⟩ (fun _ _ _ _ => trivial) ?_ ?_⟩
              · rintro i x H2 H3 hi ⟨s1, h2⟩ ⟨rfl, c', hc', rfl⟩
                refine ⟨rfl, ?_⟩
                refine iteT (B := True) ?_
                refine ⟨_, rfl, c', _, rfl, rfl, _, h2, ?_, fun b o e => ?_, ?_⟩
                · rw [List.length_map, List.length_take]
                  have : sizeLine = 16777216 := by decide +kernel
                  rw [str_len]
                  omega
                · rw [upd_ne (ne_of_none e nD)]
                  exact s1 b o e
                · rw [upd_same, take_bl hc']
                  rfl
              · rintro H2 ⟨s1, h2⟩
                refine ⟨D, (z.cps.toList).map (inS SIG), rfl, ?_, ?_⟩
                · refine SqL.of (h2.trans ?_)
                  rw [List.take_of_length_le (by simp), List.map_map]
                  rfl
                · have e : ((z.cps.toList).map (inS SIG)).all id = isName z := by
                    simp [isName, hc2, hL, hR, l2, show 1 ≤ z.length by omega, List.all_map]
                  rw [e]
                  exact q _ s1
        · refine if_pos_of (by rw [show decide ((z.length : Int) ≤ 8) = false from decide_eq_false (by omega)]; rfl) ?_
          exact bad (by simp [isName, l2])
      · refine ⟨_, rfl, ?_⟩
        refine iteT ?_
        exact bad (by
          have : ¬ 1 ≤ z.length := fun h => c1 (decide_eq_true (by omega))
          simp [isName, this])
    · rw [e1]
      refine iteT ?_
      have := q H (Same.refl H)
      rw [e2] at this
      exact this
theorem ok_are_names (T : Txt K mg) : FnOk P w K mg base CX0 2 T.f_are_names T.fd_are_names ["values", "most"] (spAre K) := by
  have G_is_name := ok_is_name (P := P) (w := w) (base := base) T
  have nd := sc_are_names.nd
  refine T.F_are_names.ok sc_are_names (fun vs H Q E h => ?_) (fun cdv A outer s H vs Q E hr h => ?_)
  · obtain ⟨a, ns, m, rfl, _⟩ := h; rfl
  · obtain ⟨a, ns, m, rfl, hS, hn, nd2, l1, l2, l3, q⟩ := h
    have hu := hu_of hr
    refine ⟨_, (pss_cons (ps_if (pt_not (pt_chain op_le op_le pe_int (pe_callB call_len_seq (by rfl) T.n_len (by decide +kernel) (pa_cons (pv 0) pa_nil)) (pv 1))) (pss_one (ps_ret pe_bl)) pss_nil)
        (pss_cons (ps_if (pt_not (pt_val (pe_callB (cr_all rfl) (by rfl) T.n_all (by decide +kernel) (pa_cons (pe_lc (own := [("value", 2)]) (g := gName 2) rfl nd (pi_tup (pv 0)) (blkOk_by (own := [("value", 2)]) (N := N_are_names) (sc := defScope s_are_names) (by decide +kernel)) (fun _ _ _ _ _ => pg_name (i := 2) nd rfl (Or.inl rfl)) (fun _ _ _ _ _ => pts_nil) (fun _ _ _ _ _ => (pe_call (G_is_name) (hr.mono (by decide)) (by rfl) T.m_is_name T.F_is_name.kp T.b_is_name .nil pass0 (pa_cons (pv 2) pa_nil)))) pa_nil)))) (pss_one (ps_ret pe_bl)) pss_nil)
        (pss_one (ps_ret (pe_cmpR op_eq (pe_lenSetT rfl (by rfl) T.n_len (by rfl) T.n_set (pv 0)) (pe_callB call_len_seq (by rfl) T.n_len (by decide +kernel) (pa_cons (pv 0) pa_nil)) (nomark _)))))), ?_⟩
    refine ⟨_, rfl, a, _, rfl, .inr hS, _, _, rfl, rfl, _, rfl, ?_⟩
    rw [List.length_map]
    refine iteT' (decide_eq_true (by omega)) ?_
    refine ⟨_, rfl, _, _, rfl, rfl, _, rfl, ?_⟩
    refine iteNS l2 ?_
    refine ⟨_, rfl, a, rfl, ⟨_, hS⟩, fun D nD => lc_it walk_tup (fun i H2 => Same H H2 ∧ H2 D = some (.lst (List.replicate i (.bl true)))) ⟨same_upd nD, upd_same⟩ (fun _ _ _ h => Same.seqT h.1 hS) ?_ ?_⟩
    · rintro i x H2 H3 hi ⟨s1, h2⟩ ⟨rfl, hx⟩
      obtain ⟨z, hz, rfl⟩ := map_str_at hx
      have hzn := hn z (List.mem_of_getElem? hz)
      refine ⟨rfl, ?_⟩
      refine iteT (B := True) ?_
      refine ⟨_, rfl, .str z, a, rfl, .str z (hzn.2.mono (by decide)), fun H4 s4 => ?_⟩
      rw [show nameV (.str z) = true from hzn.1]
      refine ⟨_, s4 _ _ h2, ?_, fun b o e => ?_, ?_⟩
      · rw [List.length_replicate]
        rw [List.length_map] at hi
        exact Nat.lt_of_lt_of_le hi (line_of (by omega))
      · rw [upd_ne (ne_of_none e nD)]
        exact s4 _ _ (s1 b o e)
      · rw [upd_same, List.replicate_succ']
    · rintro H2 ⟨s1, h2⟩
      refine ⟨D, List.replicate ns.length true, rfl, SqL.of ?_, ?_⟩
      · rw [h2, List.length_map, List.map_replicate]
      · refine ⟨_, rfl, ?_⟩
        rw [show (List.replicate ns.length true).all id = true by simp]
        refine iteF ?_
        refine ⟨_, rfl, a, ns, rfl, Same.seqT s1 hS, nd2, by omega, ?_⟩
        refine ⟨_, rfl, a, _, rfl, .inr (Same.seqT s1 hS), ?_⟩
        rw [List.length_map]
        simp only [rEq, decide_true]
        exact ⟨rfl, q _ s1⟩
theorem ok_check_conditions (T : Txt K mg) : FnOk P w K mg base CX0 3 T.f_check_conditions T.fd_check_conditions ["conditions"] (spCheck K) := by
  have G_are_names := ok_are_names (P := P) (w := w) (base := base) T
  have nd := sc_check_conditions.nd
  refine T.F_check_conditions.ok sc_check_conditions (fun vs H Q E h => ?_) (fun cdv A outer s H vs Q E hr h => ?_)
  · obtain ⟨a, ns, rfl, _⟩ := h; rfl
  · obtain ⟨a, ns, rfl, hS, hn, nd2, l1, l2, q⟩ := h
    have hu := hu_of hr
    refine ⟨_, (pss_one (ps_if (PW.pt (pw_or (pt_not (pt_val (pe_callB call_isi (by rfl) T.n_isinstance (by decide +kernel) (pa_cons (pv 0) (pa_cons (pe_bltn (v := .ty "tuple") (u := .type "tuple") (by rfl) T.n_tuple (by decide +kernel) rfl) pa_nil))))) (pw_or1 (pt_not (pt_val (pe_call (G_are_names) (hr.mono (by decide)) (by rfl) T.m_are_names T.F_are_names.kp T.b_are_names .nil pass0 (pa_cons (pv 0) (pa_cons (pe_glob (by rfl) T.g_MOST_CONDITIONS T.r_MOST_CONDITIONS) pa_nil)))))))) (pss_one (ps_raise rfl takesF (pmk_oex T.ex_InvalidRows.oex T.ex_InvalidRows.init T.ex_InvalidRows.ifn (ok_InvalidRows_init T) (hr.mono (by decide)) T.b_InvalidRows_init .nil pass0 (by rfl) T.m_InvalidRows (pa_cons pe_str pa_nil)))) pss_nil)), ?_⟩
    refine ⟨_, rfl, _, _, _, _, _, rfl, .ty _, .base (.tup hS), kit_ty (r := true) (by decide +kernel), _, rfl, ?_⟩
    refine iteF ?_
    refine ⟨_, rfl, a, ns, 5, rfl, SqT.of hS, hn, nd2, l1, by omega, by omega, fun H1 s1 => ?_⟩
    refine ⟨_, rfl, ?_⟩
    refine iteF ?_
    exact q _ s1
theorem ok_row_with (T : Txt K mg) : FnOk P w K mg base CX0 1 T.f_row_with T.fd_row_with ["conditions", "raised"] (spWith K) := by
  have nd := sc_row_with.nd
  refine T.F_row_with.ok sc_row_with (fun vs H Q E h => ?_) (fun cdv A outer s H vs Q E hr h => ?_)
  · obtain ⟨a, b, ns, xs, rfl, _⟩ := h; rfl
  · obtain ⟨a, b, ns, xs, rfl, hS, hX, hA, l1, q⟩ := h
    have hu := hu_of hr
    refine ⟨_, (pss_one (ps_ret (pe_callTy call_tuple_of (by rfl) T.n_tuple (by decide +kernel) (pa_cons (pe_lc (own := [("condition", 2)]) (g := gName 2) rfl nd (pi_tup (pv 0)) (blkOk_by (own := [("condition", 2)]) (N := N_row_with) (sc := defScope s_row_with) (by decide +kernel)) (fun _ _ _ _ _ => pg_name (i := 2) nd rfl (Or.inl rfl)) (fun _ _ _ _ _ => pts_one (pt_cmpR (r := rInA K false) (by refine op_inA ?_; exact hr.units) (pv 2) (pv 1) (by rfl))) (fun _ _ _ _ _ => (pv 2))) pa_nil)))), ?_⟩
    refine ⟨_, rfl, a, rfl, ⟨_, hS⟩, fun D nD => lc_it walk_tup (fun i H2 => Same H H2 ∧ H2 D = some (.lst ((rowOf (ns.take i) xs).map V.str))) ⟨same_upd nD, upd_same⟩ (fun _ _ _ h => Same.seqT h.1 hS) ?_ ?_⟩
    · rintro i x H2 H3 hi ⟨s1, h2⟩ ⟨rfl, hx⟩
      obtain ⟨z, hz, rfl⟩ := map_str_at hx
      refine ⟨rfl, _, rfl, _, rfl, z, b, xs, rfl, rfl, .inr (Same.seqT s1 hX), fun v hv => anySame (hA v hv) s1, _, rfl, ?_⟩
      rw [rowOf_succ hz]
      cases hh : xs.any (isStr z) with
      | false =>
        refine iteF ⟨s1, ?_⟩
        rw [h2]
        rfl
      | true =>
        refine iteT (B := (fun _ => True) H3) ?_
        refine ⟨_, rfl, _, h2, ?_, fun b' o e => ?_, ?_⟩
        · have e1 := List.length_filter_le (fun z => xs.any (isStr z)) (ns.take i)
          have : sizeLine = 16777216 := by decide +kernel
          rw [List.length_map]
          show (List.filter _ (ns.take i)).length < _
          rw [List.length_take] at e1
          omega
        · rw [upd_ne (ne_of_none e nD)]
          exact s1 b' o e
        · rw [upd_same, if_pos rfl, List.map_append]
          rfl
    · rintro H2 ⟨s1, h2⟩
      rw [List.length_map, List.take_of_length_le (Nat.le_refl _)] at h2
      refine ⟨D, _, rfl, .inl ⟨SqL.of h2, fun l nl => ?_⟩⟩
      exact q l _ (s1.free nl) (s1.trans (same_upd nl)) upd_same
theorem ok_row_number (T : Txt K mg) : FnOk P w K mg base CX0 1 T.f_row_number T.fd_row_number ["conditions", "row"] (spNum K) := by
  have nd := sc_row_number.nd
  refine T.F_row_number.ok sc_row_number (fun vs H Q E h => ?_) (fun cdv A outer s H vs Q E hr h => ?_)
  · obtain ⟨a, b, ns, xs, rfl, _⟩ := h; rfl
  · obtain ⟨a, b, ns, xs, rfl, hS, hX, hA, l1, q⟩ := h
    have hu := hu_of hr
    refine ⟨_, (pss_one (ps_ret (pe_callB (cr_sum rfl) (by rfl) T.n_sum (by decide +kernel) (pa_cons (pe_lc (own := [("at", 2), ("condition", 3)]) (g := gTup K 2 (gCons (gName 2) (gCons (gName 3) gNil))) rfl nd (pi_enumT (by rfl) T.n_enumerate (pa_cons (pv 0) pa_nil)) (blkOk_by (own := [("at", 2), ("condition", 3)]) (N := N_row_number) (sc := defScope s_row_number) (by decide +kernel)) (fun _ _ _ _ _ => pg_tup rfl (pgs_cons (pg_name (i := 2) nd rfl (Or.inl rfl)) (pgs_cons (pg_name (i := 3) nd rfl (Or.inl rfl)) pgs_nil))) (fun _ _ _ _ _ => pts_one (pt_cmpR (r := rInA K false) (by refine op_inA ?_; exact hr.units) (pv 3) (pv 1) (by rfl))) (fun _ _ _ _ _ => (pe_op op_shl pe_int (pv 2)))) pa_nil)))), ?_⟩
    refine ⟨_, rfl, a, _, rfl, hS, fun D nD => lc_it walk_enumT (fun i H2 => Same H H2 ∧ H2 D = some (.lst ((bitsOf xs (ns.take i) 0).map V.int))) ⟨same_upd nD, upd_same⟩ (fun _ _ _ h => Same.seqT h.1 hS) ?_ ?_⟩
    · rintro i x H2 H3 hi ⟨s1, h2⟩ ⟨t, x1, x2, rfl, nt, rfl, hx, hy⟩
      obtain rfl : x1 = .int (i : Int) := (Option.some.inj hx).symm
      obtain ⟨z, hz, rfl⟩ := map_str_at hy
      obtain ⟨H3, hh, s3, t3, e3⟩ := knew (o := .tup [.int (i : Int), .str z]) s1 nt
      rw [hh]
      clear hh
      have h3 := t3 _ _ h2
      refine ⟨t, _, rfl, SqT.of e3, rfl, _, _, rfl, _, _, rfl, rfl, rfl, _, rfl, _, rfl, z, b, xs, rfl, rfl, .inr (Same.seqT s3 hX), fun v hv => anySame (hA v hv) s3, _, rfl, ?_⟩
      rw [bitsOf_succ hz]
      cases hh : xs.any (isStr z) with
      | false =>
        refine iteF ⟨s3, ?_⟩
        rw [h3]
        rfl
      | true =>
        refine iteT (B := (fun _ => True) H3) ?_
        rw [List.length_map] at hi
        refine ⟨_, rfl, _, _, rfl, rfl, ⟨by omega, by omega, by decide⟩, _, h3, ?_, fun b' o e => ?_, ?_⟩
        · have e1 := bitsOf_len xs (ns.take i) 0
          have : sizeLine = 16777216 := by decide +kernel
          rw [List.length_take] at e1
          rw [List.length_map]
          omega
        · rw [upd_ne (ne_of_none e nD)]
          exact s3 b' o e
        · rw [upd_same, if_pos rfl, List.map_append]
          show some (HO.lst (_ ++ [V.int (1 * 2 ^ ((i : Int)).toNat)])) = _
          rw [Int.one_mul, Int.toNat_natCast]
          rfl
    · rintro H2 ⟨s1, h2⟩
      rw [List.length_map, List.take_of_length_le (Nat.le_refl _)] at h2
      exact ⟨D, _, rfl, SqL.of h2, q _ s1⟩
theorem ok_is_row (T : Txt K mg) : FnOk P w K mg base CX0 2 T.f_is_row T.fd_is_row ["conditions", "value"] (spRow K) := by
  have G_row_with := ok_row_with (P := P) (w := w) (base := base) T
  have nd := sc_is_row.nd
  refine T.F_is_row.ok sc_is_row (fun vs H Q E h => ?_) (fun cdv A outer s H vs Q E hr h => ?_)
  · obtain ⟨a, v, ns, r, rfl, _⟩ := h; rfl
  · obtain ⟨a, v, ns, r, rfl, hS, hn, l1, hv, q⟩ := h
    have hu := hu_of hr
    refine ⟨_, (pss_one (ps_ret (pe_and (pe_callB call_isi (by rfl) T.n_isinstance (by decide +kernel) (pa_cons (pv 1) (pa_cons (pe_bltn (v := .ty "tuple") (u := .type "tuple") (by rfl) T.n_tuple (by decide +kernel) rfl) pa_nil))) (pe_one (pe_cmpR (op_eqD hr.units) (pv 1) (pe_call (G_row_with) (hr.mono (by decide)) (by rfl) T.m_row_with T.F_row_with.kp T.b_row_with .nil pass0 (pa_cons (pv 0) (pa_cons (pv 1) pa_nil))) (nomark _)))))), ?_⟩
    cases hv with
    | no ty k =>
      refine ⟨_, rfl, _, _, _, _, _, rfl, .ty _, ty, k, _, rfl, ?_⟩
      refine iteF ?_
      exact q _ (Same.refl H)
    | @tup b xs ds h any dp sh =>
      refine ⟨_, rfl, _, _, _, _, _, rfl, .ty _, .base (.tup h), kit_ty (r := true) (by decide +kernel), _, rfl, ?_⟩
      refine iteT ?_
      refine ⟨_, rfl, _, rfl, _, rfl, a, b, ns, xs, rfl, hS, SqT.of h, any, by omega, fun p H' hp s1 e => ?_⟩
      exact ⟨.tuple ds, .tuple _, .tup (SqT.of (s1 _ _ h)) (dp _ s1), .tup (SqT.of e) (dp_strs _), sh, shaped_strs _ fun z hz => (hn z (rowOf_mem hz)).2, q _ s1⟩
theorem ok_Rows_number (T : Txt K mg) : FnOk P w K mg base (L2.CX P w) 3 T.f_Rows_number T.fd_Rows_number ["self", "row"] (spNumb K T.c_Rows T.c_InvalidRow) := by
  have G_is_row := ok_is_row (P := P) (w := w) (base := base) T
  have G_row_number := ok_row_number (P := P) (w := w) (base := base) T
  have nd := sc_Rows_number.nd
  refine T.F_Rows_number.okX sc_Rows_number (fun vs H Q E h => ?_) (fun cdv A outer s H vs Q E hr h => ?_)
  · obtain ⟨x, a, dx, fs, v, ns, r, rfl, _⟩ := h; rfl
  · obtain ⟨x, a, dx, fs, v, ns, r, rfl, hx, hf, hS, hn, l1, hv, qt, qf⟩ := h
    have hu := hu_of hr
    refine ⟨_, (pss_cons (ps_if (pt_not (pt_val (pe_call (G_is_row) (hr.mono (by decide)) (by rfl) T.m_is_row T.F_is_row.kp T.b_is_row .nil pass0 (pa_cons (pe_fld (pv 0) (by rfl)) (pa_cons (pv 1) pa_nil))))) (pss_one (ps_raise rfl (takes_of rfl rfl rfl rfl) (pmk_oex T.ex_InvalidRow.oex T.ex_InvalidRow.init T.ex_InvalidRow.ifn (ok_InvalidRow_init T) (hr.mono (by decide)) T.b_InvalidRow_init .nil pass0 (by rfl) T.m_InvalidRow (pa_cons (pv 1) pa_nil)))) pss_nil)
        (pss_one (ps_ret (pe_call (G_row_number) (hr.mono (by decide)) (by rfl) T.m_row_number T.F_row_number.kp T.b_row_number .nil pass0 (pa_cons (pe_fld (pv 0) (by rfl)) (pa_cons (pv 1) pa_nil)))))), ?_⟩
    refine ⟨_, rfl, x, T.c_Rows, dx, fs, _, rfl, hx, T.k_Rows, T.na_conditions, hf, _, rfl, a, v, ns, r, rfl, hS, hn, l1, hv, fun H1 s1 => ?_⟩
    refine ⟨_, rfl, ?_⟩
    cases r with
    | true =>
      refine iteF ?_
      obtain ⟨b, xs, rfl, hX, hA, q⟩ := qt rfl
      refine ⟨_, rfl, x, T.c_Rows, dx, fs, _, rfl, s1 _ _ hx, T.k_Rows, T.na_conditions, hf, _, rfl, a, b, ns, xs, rfl, Same.seqT s1 hS, Same.seqT s1 hX, fun u hu => anySame (hA u hu) s1, by omega, fun H2 s2 => ?_⟩
      exact q _ (s1.trans s2)
    | false =>
      refine iteT ?_
      refine ⟨_, rfl, (by show 1 ≤ 1000; decide), fun e ne => ⟨e, [v], rfl, rfl, upd_same, fun d H' nd hde h1 h2 h3 => ?_⟩⟩
      have nd1 : H1 d = none := by
        rw [upd_ne hde] at nd
        exact nd
      refine ⟨rfl, d, _, h1, h2, nd1, ?_⟩
      exact qf rfl d _ (s1.free nd1) (s1.trans (raised ne nd1 h3)) upd_same
theorem ok_Rows_having (T : Txt K mg) : FnR P w K mg base (L2.CX P w) 3 T.f_Rows_having (fun vs H Q E => ∃ ws rest, vs = ws ++ rest ∧ ws.length = 1 ∧ rest.length ≤ sizeLine ∧ ∀ p, H p = none → (spHave K T.c_Rows T.c_NoCondition) (ws ++ [V.ref p]) (upd H p (.tup rest)) Q E) := by
  have G_row_with := ok_row_with (P := P) (w := w) (base := base) T
  have nd := sc_Rows_having.nd
  refine starX (ps := ["self"]) (pv := "names") T.F_Rows_having sc_Rows_having (fun kV doc pm an cdv ct => StX.bind_star1 (B := fun us => bindArgs (PySem.W.fnOf "having" "Rows.having" (defArgs s_Rows_having) (defBody s_Rows_having) (defScope s_Rows_having) .none kV doc pm an cdv ct) ⟨us, []⟩) (fun _ => rfl) (fun _ _ _ => rfl)) (fun cdv A outer s H vs Q E hr h => ?_)
  · obtain ⟨x, a, p, dx, fs, ns, xs, rfl, hx, hf, hS, l1, hP, hA, qt, qf⟩ := h
    have hu := hu_of hr
    refine ⟨_, (pss_cons (ps_for (passes_of rfl) rfl (pi_tup (pv 1)) (pg_name (i := 2) nd rfl (Or.inl rfl)) (pss_one (ps_if (pt_cmpR (op_notInT hr.units) (pv 2) (pe_fld (pv 0) (by rfl)) (by rfl)) (pss_one (ps_raise rfl (takes_of rfl rfl rfl rfl) (pmk_oex T.ex_NoCondition.oex T.ex_NoCondition.init T.ex_NoCondition.ifn (ok_NoCondition_init T) (hr.mono (by decide)) T.b_NoCondition_init .nil pass0 (by rfl) T.m_NoCondition (pa_cons (pv 2) pa_nil)))) pss_nil)))
        (pss_one (ps_ret (pe_call (G_row_with) (hr.mono (by decide)) (by rfl) T.m_row_with T.F_row_with.kp T.b_row_with .nil pass0 (pa_cons (pe_fld (pv 0) (by rfl)) (pa_cons (pv 1) pa_nil)))))), ?_⟩
    have txs : ∀ u ∈ ns.map V.str, ∃ z, u = V.str z := fun u hu => by
      obtain ⟨z, _, rfl⟩ := List.mem_map.mp hu
      exact ⟨z, rfl⟩
    refine ⟨_, rfl, p, rfl, ⟨_, hP⟩, for_tup (K := K) (a := p) (xs := xs) (fun i σ H2 => ∃ (v : Option V), σ = [some (.ref x), some (.ref p), v] ∧ (∀ u ∈ xs.take i, hasV u (ns.map V.str) = true) ∧ Same H H2) ⟨_, rfl, fun u hu => by simp at hu, Same.refl H⟩ (fun _ _ _ _ ⟨_, _, _, s1⟩ => Same.seqT s1 hP) ?_ ?_⟩
    · rintro i v σ H2 hv ⟨v0, rfl, hal, s1⟩
      refine ⟨_, rfl, _, rfl, x, T.c_Rows, dx, fs, _, rfl, s1 _ _ hx, T.k_Rows, T.na_conditions, hf, a, _, rfl, .inr (Same.seqT s1 hS), anySame (hA v (List.mem_of_getElem? hv)) s1, txs, _, rfl, ?_⟩
      cases hh : hasV v (ns.map V.str) with
      | true =>
        refine iteF ?_
        exact ⟨_, rfl, take_all hv hal hh, s1⟩
      | false =>
        refine iteT ?_
        refine ⟨_, rfl, (by show 1 ≤ 1000; decide), fun e ne => ⟨e, [v], rfl, rfl, upd_same, fun d H' nd hde h1 h2 h3 => ?_⟩⟩
        have nd1 : H2 d = none := by
          rw [upd_ne hde] at nd
          exact nd
        refine ⟨rfl, d, _, h1, h2, nd1, ?_⟩
        exact qf i v hv hal hh d _ (s1.free nd1) (s1.trans (raised ne nd1 h3)) upd_same
    · rintro σ H2 ⟨v0, rfl, hal, s1⟩
      rw [List.take_of_length_le (Nat.le_refl _)] at hal
      refine ⟨_, rfl, x, T.c_Rows, dx, fs, _, rfl, s1 _ _ hx, T.k_Rows, T.na_conditions, hf, _, rfl, a, p, ns, xs, rfl, Same.seqT s1 hS, Same.seqT s1 hP, fun u hu => anySame (hA u hu) s1, by omega, fun l H' nl s2 e => ?_⟩
      exact qt hal l H' (s1.free nl) (s1.trans s2) e
theorem ok_Rows_init (T : Txt K mg) : FnR P w K mg base (L2.CX P w) 5 T.f_Rows_init (fun vs H Q E => ∃ ws rest, vs = ws ++ rest ∧ ws.length = 2 ∧ rest.length ≤ sizeLine ∧ ∀ p, H p = none → (spInit K T.c_Rows) (ws ++ [V.ref p]) (upd H p (.tup rest)) Q E) := by
  have G_check_conditions := ok_check_conditions (P := P) (w := w) (base := base) T
  have G_is_row := ok_is_row (P := P) (w := w) (base := base) T
  have G_row_number := ok_row_number (P := P) (w := w) (base := base) T
  have nd := sc_Rows_init.nd
  refine starX (ps := ["self", "conditions"]) (pv := "possible") T.F_Rows_init sc_Rows_init (fun kV doc pm an cdv ct => StX.bind_star2 (B := fun us => bindArgs (PySem.W.fnOf "__init__" "Rows.__init__" (defArgs s_Rows_init) (defBody s_Rows_init) (defScope s_Rows_init) .none kV doc pm an cdv ct) ⟨us, []⟩) (fun _ _ => rfl) (fun _ _ _ _ => rfl)) (fun cdv A outer s H vs Q E hr h => ?_)
  · obtain ⟨x, a, p, dx, ns, bs, num, rfl, hx, ha, hn, nd2, l1, l5, hP, b1, b2, hB, q⟩ := h
    have hu := hu_of hr
    refine ⟨_, (pss_cons (ps_expr (pe_call (G_check_conditions) (hr.mono (by decide)) (by rfl) T.m_check_conditions T.F_check_conditions.kp T.b_check_conditions .nil pass0 (pa_cons (pv 1) pa_nil)))
        (pss_cons (ps_set (i := 3) nd rfl (Or.inr rfl) pe_dnewK)
        (pss_cons (ps_for (passes_of rfl) rfl (pi_tup (pv 2)) (pg_name (i := 4) nd rfl (Or.inl rfl)) (pss_cons (ps_if (pt_not (pt_val (pe_call (G_is_row) (hr.mono (by decide)) (by rfl) T.m_is_row T.F_is_row.kp T.b_is_row .nil pass0 (pa_cons (pv 1) (pa_cons (pv 4) pa_nil))))) (pss_one (ps_raise rfl (takes_of rfl rfl rfl rfl) (pmk_oex T.ex_InvalidRow.oex T.ex_InvalidRow.init T.ex_InvalidRow.ifn (ok_InvalidRow_init T) (hr.mono (by decide)) T.b_InvalidRow_init .nil pass0 (by rfl) T.m_InvalidRow (pa_cons (pv 4) pa_nil)))) pss_nil)
        (pss_one (ps_dput hu (pv 3) (pe_call (G_row_number) (hr.mono (by decide)) (by rfl) T.m_row_number T.F_row_number.kp T.b_row_number .nil pass0 (pa_cons (pv 1) (pa_cons (pv 4) pa_nil))) (pv 4) (by rfl)))))
        (pss_cons (ps_if (pt_not (pt_truth (pv 3) (fun _ => rfl))) (pss_one (ps_raise rfl (takes_of rfl rfl rfl rfl) (pmk_oex T.ex_InvalidRows.oex T.ex_InvalidRows.init T.ex_InvalidRows.ifn (ok_InvalidRows_init T) (hr.mono (by decide)) T.b_InvalidRows_init .nil pass0 (by rfl) T.m_InvalidRows (pa_cons pe_str pa_nil)))) pss_nil)
        (pss_cons (ps_fld (pv 0) (pv 1) (by rfl))
        (pss_one (ps_fld (pv 0) (pe_callTy call_tuple_of (by rfl) T.n_tuple (by decide +kernel) (pa_cons (pe_lc (own := [("number", 5)]) (g := gName 5) rfl nd (pi_list (pe_callB (call_sortedDI rfl) (by rfl) T.n_sorted (by decide +kernel) (pa_cons (pv 3) pa_nil))) (blkOk_by (own := [("number", 5)]) (N := N_Rows_init) (sc := defScope s_Rows_init) (by decide +kernel)) (fun _ _ _ _ _ => pg_name (i := 5) nd rfl (Or.inl rfl)) (fun _ _ _ _ _ => pts_nil) (fun _ _ _ _ _ => (pe_dget (by exact hu) (pv 3) (pv 5) (fun _ _ => rfl)))) pa_nil)) (by rfl)))))))), ?_⟩
    refine ⟨_, rfl, a, ns, rfl, ha, hn, nd2, l1, l5, fun H1 s1 => ?_⟩
    refine fun D nD => ?_
    have s2 : Same H (upd H1 D (.dK [])) := s1.trans (same_upd nD)
    refine ⟨_, rfl, p, rfl, ⟨_, Same.seqT s2 hP⟩, for_tup (K := K) (a := p) (xs := bs.map V.ref) (fun i σ H2 => ∃ (v w : Option V), σ = [some (.ref x), some (.ref a), some (.ref p), some (.ref D), v, w] ∧ Same H1 H2 ∧ H2 D = some (.dK (tabOf num (bs.take i)))) ⟨_, _, rfl, same_upd nD, upd_same⟩ (fun _ _ _ _ ⟨_, _, _, s3, _⟩ => Same.seqT (s1.trans s3) hP) ?_ ?_⟩
    · rintro i v σ H2 hv ⟨v0, w0, rfl, s3, hD⟩
      obtain ⟨b, hb, rfl⟩ := map_ref_at hv
      obtain ⟨xs, hg, hnum⟩ := hB b (List.mem_of_getElem? hb)
      have s4 := s1.trans s3
      have g4 := hg.same s4
      refine ⟨_, rfl, _, rfl, a, .ref b, ns, true, rfl, SqT.of (s4 _ _ ha), hn, l5, g4.rowV, fun H3 s5 => ?_⟩
      refine ⟨_, rfl, ?_⟩
      refine iteF ?_
      have s6 := s4.trans s5
      have g6 := hg.same s6
      refine ⟨_, rfl, _, rfl, _, rfl, _, rfl, a, b, ns, xs, rfl, SqT.of (s6 _ _ ha), SqT.of g6.1, g6.2.1, by omega, fun H4 s7 => ?_⟩
      have hD4 := s7 _ _ (s5 _ _ hD)
      obtain ⟨ks, ek, nk, _⟩ := tab_keys num (bs.take i)
      have lk : (tabOf num (bs.take i)).length < sizeLine := by
        have e1 := congrArg List.length ek
        rw [List.length_map, List.length_map] at e1
        rw [List.length_take] at nk
        have : sizeLine = 16777216 := by decide +kernel
        omega
      refine ⟨D, _, rfl, DPut.k (k := Sum.inl (numOf ns xs)) hD4 lk, ?_⟩
      refine ⟨_, _, rfl, fun c o e => ?_, ?_⟩
      · rw [upd_ne (ne_of_none e nD)]
        exact s7 _ _ (s5 _ _ (s3 _ _ e))
      · rw [upd_same, tabOf_succ hb, hnum]
    · rintro σ H2 ⟨v0, w0, rfl, s3, hD⟩
      rw [List.length_map, List.take_of_length_le (Nat.le_refl _)] at hD
      obtain ⟨ks, ek, nk, pk⟩ := tab_keys num bs
      have el := congrArg List.length ek
      rw [List.length_map, List.length_map] at el
      refine ⟨_, rfl, true, .inr (.inr ⟨_, hD, ?_⟩), ?_⟩
      · cases et : tabOf num bs with
        | nil =>
          rw [et] at el
          have := pk b1
          simp at el
          omega
        | cons _ _ => rfl
      refine iteF ?_
      have s8 : Same H H2 := s1.trans s3
      refine ⟨_, rfl, _, rfl, x, T.c_Rows, dx, [], rfl, s8 _ _ hx, T.k_Rows, T.na_conditions, (by decide), ?_⟩
      obtain ⟨H3, hh, e3, k3⟩ : ∃ H3, upd H2 x (.ins T.c_Rows dx (putF "conditions" (.ref a) [])) = H3 ∧ H3 x = some (.ins T.c_Rows dx [("conditions", .ref a)]) ∧ Keep x H2 H3 := ⟨_, rfl, upd_same, keep_upd⟩
      rw [hh]
      clear hh
      have nDx : D ≠ x := ne_of hD (s8 _ _ hx) (by intro z; cases z)
      have hD3 := k3 _ _ hD nDx
      refine ⟨_, rfl, D, _, ks, rfl, Rd.of hD3, ek, by omega, fun ys l hp hso nl => ?_⟩
      have s9 : Same H3 (upd H3 l (.lst (ys.map V.int))) := same_upd nl
      have el9 : (upd H3 l (.lst (ys.map V.int))) l = some (.lst (ys.map V.int)) := upd_same
      obtain ⟨H5, hh, s9, el9⟩ : ∃ H5, upd H3 l (.lst (ys.map V.int)) = H5 ∧ Same H3 H5 ∧ H5 l = some (.lst (ys.map V.int)) := ⟨_, rfl, s9, el9⟩
      rw [hh]
      clear hh
      refine ⟨l, rfl, ⟨_, SqL.of el9⟩, fun D2 nD2 => lc_list (K := K) (a := l) (xs := ys.map V.int) (fun i H' => Same H5 H' ∧ H' D2 = some (.lst (possOf num bs (ys.take i)))) ⟨same_upd nD2, upd_same⟩ (fun _ _ _ h => h.1.seq (SqL.of el9)) ?_ ?_⟩
      · rintro i v H6 hv ⟨s10, hD2⟩
        obtain ⟨y, hy, rfl⟩ := map_int_at' hv
        have hm : (Sum.inl y : Key) ∈ (tabOf num bs).map (·.1) := by
          rw [ek]
          exact List.mem_map.mpr ⟨y, hp.subset (List.mem_of_getElem? hy), rfl⟩
        obtain ⟨u, hu2⟩ := valV_mem hm
        have hD6 := s10 _ _ (s9 _ _ hD3)
        have dg : DGet H6 D (.int y) (some u) := by
          have z := DGet.k (k := Sum.inl y) hD6
          rw [hu2] at z
          exact z
        refine ⟨rfl, ?_⟩
        refine iteT (B := True) ?_
        refine ⟨_, rfl, _, rfl, D, u, rfl, dg, _, hD2, ?_, fun c o e => ?_, ?_⟩
        · have hlt := (List.getElem?_eq_some_iff.mp hv).1
          have hpl := hp.length_eq
          have : sizeLine = 16777216 := by decide +kernel
          unfold possOf
          rw [List.length_map, List.length_take]
          omega
        · rw [upd_ne (ne_of_none e nD2)]
          exact s10 _ _ e
        · rw [upd_same]
          unfold possOf
          rw [List.take_add_one, hy, List.map_append]
          show _ = some (HO.lst (_ ++ [(valV (tabOf num bs) (Sum.inl y)).getD .non]))
          rw [hu2]
          rfl
      · rintro H6 ⟨s10, hD2⟩
        rw [List.length_map, List.take_of_length_le (Nat.le_refl _)] at hD2
        refine ⟨D2, _, rfl, .inl ⟨SqL.of hD2, fun qq nq => ?_⟩⟩
        have hx6 := s10 _ _ (s9 _ _ e3)
        have nxq : x ≠ qq := ne_of_none hx6 nq
        refine ⟨_, rfl, x, T.c_Rows, dx, [("conditions", .ref a)], rfl, (upd_ne nxq).trans hx6, T.k_Rows, T.na_possible, (by show 1 < 1000; decide), ?_⟩
        have up : ∀ c o, c ≠ x → H c = some o → H6 c = some o := fun c o n e => s10 _ _ (s9 _ _ (k3 _ _ (s8 _ _ e) n))
        refine q ys ks qq _ ek hp hso ?_ (fun c o e n => ?_) ?_ upd_same
        · cases e : H qq with
          | none => rfl
          | some o =>
            have := up qq o nxq.symm e
            rw [nq] at this
            cases this
        · rw [upd_ne n, upd_ne (ne_of_none (up c o n e) nq)]
          exact up c o n e
        · rw [upd_ne nxq.symm, upd_same]
theorem ok_Rows_of (T : Txt K mg) : FnOk P w K mg base CX0 7 T.f_Rows_of T.fd_Rows_of ["cls", "conditions", "possible"] (spOf K T.c_Rows) := by
  have G_Rows_init := ok_Rows_init (P := P) (w := w) (base := base) T
  have nd := sc_Rows_of.nd
  refine T.F_Rows_of.ok sc_Rows_of (fun vs H Q E h => ?_) (fun cdv A outer s H vs Q E hr h => ?_)
  · obtain ⟨a, l, ns, bs, num, rfl, _⟩ := h; rfl
  · obtain ⟨a, l, ns, bs, num, rfl, ha, hn, nd2, l1, l5, hL, b1, b2, hB, q⟩ := h
    have hu := hu_of hr
    refine ⟨_, (pss_one (ps_ret (pe_makeVS T.mk_Rows G_Rows_init (hr.mono (by decide)) (pv 0) passL (pa_cons (pv 1) (StX.pa_star (pv 2) pa_nil))))), ?_⟩
    refine ⟨_, rfl, rfl, _, rfl, _, rfl, l, _, rfl, .inr hL, fun x dx nx ndx ne => ?_⟩
    have sx : Same H (upd (upd H dx (.own x)) x (.ins T.c_Rows dx [])) := (same_upd ndx).trans (same_upd (by rw [upd_ne ne.symm]; exact nx))
    refine ⟨[.ref x, .ref a], bs.map V.ref, by simp, rfl, by rw [List.length_map]; exact line_of (by omega), fun p np => ?_⟩
    have ex0 : (upd (upd H dx (.own x)) x (.ins T.c_Rows dx [])) x = some (.ins T.c_Rows dx []) := upd_same
    obtain ⟨H1, hh, s1, ex1⟩ : ∃ H1, upd (upd H dx (.own x)) x (.ins T.c_Rows dx []) = H1 ∧ Same H H1 ∧ H1 x = some (.ins T.c_Rows dx []) := ⟨_, rfl, sx, ex0⟩
    rw [hh] at np ⊢
    clear hh
    have s2 := s1.trans (same_upd (o := .tup (bs.map V.ref)) np)
    refine ⟨x, a, p, dx, ns, bs, num, rfl, same_upd np _ _ ex1, s2 _ _ ha, hn, nd2, l1, l5, SqT.of upd_same, b1, b2, fun b hb => ?_, fun ys ks qq H' ek hp hso nq kx hq hx => ⟨rfl, ?_⟩⟩
    · obtain ⟨xs, g1, g2⟩ := hB b hb
      exact ⟨xs, g1.same s2, g2⟩
    · exact q ys ks x dx qq H' ek hp hso nx (s2.free nq) (fun c o e => kx c o (s2 _ _ e) (ne_of_none e nx)) hq hx
theorem ok__law_pen (T : Txt K mg) : FnOk P w K mg base CX0 1 T.f__law_pen T.fd__law_pen ["_law_script"] (spPen K) := by
  have nd := sc__law_pen.nd
  refine T.F__law_pen.ok sc__law_pen (fun vs H Q E h => ?_) (fun cdv A outer s H vs Q E hr h => ?_)
  · obtain ⟨a, ns, rfl, _⟩ := h; rfl
  · obtain ⟨a, ns, rfl, hS, hl, q⟩ := h
    have hu := hu_of hr
    refine ⟨_, (pss_one (ps_ret (pe_lst (pa_cons (pe_callTy call_list_of (by rfl) T.n_list (by decide +kernel) (pa_cons (pe_slice sl_list (pv 0) po_none (po_some pe_int)) pa_nil)) (pa_cons pe_int (pa_cons pe_int pa_nil)))))), ?_⟩
    refine ⟨_, rfl, 60, rfl, a, _, rfl, hS, fun c nc => ?_⟩
    obtain ⟨ms, em, hm⟩ := cut60 ns
    rw [em]
    refine ⟨c, _, rfl, .inl (SqL.of upd_same), fun l nl => ?_⟩
    refine ⟨(by show 3 ≤ sizeLine; decide), fun p np => ?_⟩
    have s1 : Same H (upd H c (.lst (ms.map V.int))) := same_upd nc
    have s2 := s1.trans (same_upd (o := .lst (ms.map V.int)) nl)
    have npl : l ≠ p := ne_of_none upd_same np
    refine q p l _ (s2.free np) (s2.trans (same_upd np)) ⟨ms, 0, 0, upd_same, by rw [upd_ne npl, upd_same], hm, Nat.zero_le _⟩
theorem ok__law_draw (T : Txt K mg) : FnOk P w K mg base CX0 1 T.f__law_draw T.fd__law_draw ["_law_pen_here", "_law_many"] (spDraw) := by
  have nd := sc__law_draw.nd
  refine T.F__law_draw.ok sc__law_draw (fun vs H Q E h => ?_) (fun cdv A outer s H vs Q E hr h => ?_)
  · obtain ⟨p, c, m, n, rfl, _⟩ := h; rfl
  · obtain ⟨p, c, m, n, rfl, ⟨ns, i, g, hp, hc, hl, hi⟩, hn, h1, h2, q⟩ := h
    have hu := hu_of hr
    refine ⟨_, (pss_cons (ps_if (pt_cmpR op_gt (pe_ix ix_list (pv 0) pe_int (fun _ _ => rfl)) pe_int (nomark _)) (pss_cons (ps_set (i := 2) nd rfl (Or.inl rfl) (pe_op op_modN (pe_callTy call_int1 (by rfl) T.n_int (by decide +kernel) (pa_cons (pe_ix ix_list (pv 0) pe_int (fun _ _ => rfl)) pa_nil)) (pv 1)))
        (pss_cons (ps_asg (pe_op op_fdivN (pe_ix ix_list (pv 0) pe_int (fun _ _ => rfl)) (pv 1)) (pg_sub (pv 0) pe_int set_list))
        (pss_one (ps_ret (pv 2))))) pss_nil)
        (pss_cons (ps_set (i := 3) nd rfl (Or.inl rfl) (pe_ix ix_list (pv 0) pe_int (fun _ _ => rfl)))
        (pss_cons (ps_asg (pe_op op_add (pv 3) pe_int) (pg_sub (pv 0) pe_int set_list))
        (pss_cons (ps_set (i := 4) nd rfl (Or.inl rfl) (pe_op op_add (pe_op op_mul pe_int (pv 3)) pe_int))
        (pss_cons (ps_if (pt_cmpR (op_neD hr.units) (pe_ix ix_list (pv 0) pe_int (fun _ _ => rfl)) (pe_lst pa_nil) (nomark _)) (pss_one (ps_set (i := 4) nd rfl (Or.inl rfl) (pe_ix ix_list (pe_ix ix_list (pv 0) pe_int (fun _ _ => rfl)) (pe_op op_modN (pe_callTy call_int1 (by rfl) T.n_int (by decide +kernel) (pa_cons (pv 3) pa_nil)) (pe_callB call_len_seq (by rfl) T.n_len (by decide +kernel) (pa_cons (pe_ix ix_list (pv 0) pe_int (fun _ _ => rfl)) pa_nil))) (fun _ _ => rfl)))) pss_nil)
        (pss_cons (ps_if (PW.pt (pw_and (pt_cmpR op_lt (pv 3) (pe_callB call_len_seq (by rfl) T.n_len (by decide +kernel) (pa_cons (pe_ix ix_list (pv 0) pe_int (fun _ _ => rfl)) pa_nil)) (nomark _)) (pw_and1 (pt_cmpR op_ge (pe_callB call_abs (by rfl) T.n_abs (by decide +kernel) (pa_cons (pv 4) pa_nil)) (pe_op op_pow pe_int pe_int) (nomark _))))) (pss_cons (ps_set (i := 5) nd rfl (Or.inl rfl) (pe_op op_add (pe_op op_mul pe_int (pe_op op_sub (pe_callB call_abs (by rfl) T.n_abs (by decide +kernel) (pa_cons (pv 4) pa_nil)) (pe_op op_pow pe_int pe_int))) (pe_callTy call_int1 (by rfl) T.n_int (by decide +kernel) (pa_cons (pe_cmpR op_lt (pv 4) pe_int (nomark _)) pa_nil))))
        (pss_cons (ps_asg (pe_op op_fdivN (pv 5) (pv 1)) (pg_sub (pv 0) pe_int set_list))
        (pss_one (ps_ret (pe_op op_modN (pe_callTy call_int1 (by rfl) T.n_int (by decide +kernel) (pa_cons (pv 5) pa_nil)) (pv 1)))))) pss_nil)
        (pss_cons (ps_set (i := 6) nd rfl (Or.inl rfl) (pe_op op_modN (pe_callTy call_int1 (by rfl) T.n_int (by decide +kernel) (pa_cons (pe_op op_pow (pe_op op_add (pe_op op_add (pe_op op_modN (pe_callTy call_int1 (by rfl) T.n_int (by decide +kernel) (pa_cons (pv 4) pa_nil)) pe_int) (pe_op op_mul pe_int (pv 3))) pe_int) pe_int) pa_nil)) pe_int))
        (pss_cons (ps_set (i := 6) nd rfl (Or.inl rfl) (pe_op op_modN (pe_callTy call_int1 (by rfl) T.n_int (by decide +kernel) (pa_cons (pe_op op_pow (pe_op op_add (pe_op op_add (pe_op op_mul (pv 6) (pe_op op_add (pe_op op_mul pe_int (pv 3)) pe_int)) (pe_op op_mul (pe_op op_mul pe_int (pv 3)) (pv 3))) pe_int) pe_int) pa_nil)) pe_int))
        (pss_one (ps_ret (pe_op op_modN (pe_callTy call_int1 (by rfl) T.n_int (by decide +kernel) (pa_cons (pe_op op_fdivN (pv 6) pe_int) pa_nil)) (pv 1)))))))))))), ?_⟩
    refine ⟨_, rfl, p, _, _, _, rfl, rfl, SqL.of hp, atI_nat (j := 2) rfl, _, _, rfl, rfl, _, rfl, ?_⟩
    refine ite2 (fun hg => ?_) (fun hg => ?_)
    · refine ⟨_, rfl, p, _, _, _, rfl, rfl, SqL.of hp, atI_nat (j := 2) rfl, .inl ⟨_, rfl, _, rfl, _, _, rfl, rfl, (by omega), ?_⟩⟩
      refine ⟨_, rfl, p, _, _, _, rfl, rfl, SqL.of hp, atI_nat (j := 2) rfl, _, rfl, _, _, rfl, rfl, ⟨by omega, by omega⟩, ?_⟩
      refine ⟨_, rfl, p, _, _, _, rfl, rfl, hp, rfl, ?_⟩
      refine ⟨_, rfl, ?_⟩
      exact q _ _ (modN h1).1 (modN h1).2 (Pen.put (i := i) (g := g.fdiv m) hp hc hl (by omega)) keep_upd
    · refine ⟨_, rfl, p, _, _, _, rfl, rfl, SqL.of hp, atI_nat (j := 1) rfl, ?_⟩
      have n1 := cells_ne hc hp
      have hc1 : (upd H p (.lst [.ref c, .int ((i : Int) + 1), .int g])) c = some (.lst (ns.map V.int)) := by
        rw [upd_ne n1]
        exact hc
      refine ⟨_, rfl, _, _, rfl, rfl, _, rfl, p, _, _, _, rfl, rfl, hp, rfl, ?_⟩
      have k1 : Keep p H (upd H p (.lst [.ref c, .int ((i : Int) + 1), .int g])) := keep_upd
      show tSeq _ _ _ _ (upd H p (.lst [.ref c, .int ((i : Int) + 1), .int g]))
      generalize hH1 : upd H p (.lst [.ref c, .int ((i : Int) + 1), .int g]) = H1 at *
      have hp1 : H1 p = some (.lst [.ref c, .int ((i : Int) + 1), .int g]) := by rw [← hH1]; exact upd_same
      refine ⟨_, rfl, _, _, rfl, rfl, .inl ⟨by decide, by decide⟩, _, _, rfl, rfl, ?_⟩
      -- if the cells are not empty
      refine ⟨_, rfl, p, _, _, _, rfl, rfl, SqL.of hp1, atI_nat (j := 0) rfl, ?_⟩
      refine ⟨Nat.zero_le _, fun e he => ?_⟩
      have s2 : Same H1 (upd H1 e (.lst [])) := same_upd he
      refine ⟨.list (ns.map PyData.int), .list [], .lst (SqL.of (s2 _ _ hc1)) (dp_ints ns), .lst (SqL.of upd_same) .nil, shaped_ints ns, rfl, _, rfl, ?_⟩
      rw [eqv_ints_nil]
      have hp2 := s2 _ _ hp1
      have hc2 := s2 _ _ hc1
      have k2 := k1.trans (same_keep s2)
      generalize upd H1 e (.lst []) = H2 at *
      by_cases hns : ns = []
      · have ez : ns.isEmpty = true := by
          rw [hns]
          rfl
        rw [ez]
        refine iteF ?_
        refine ⟨_, rfl, _, rfl, p, _, _, _, rfl, rfl, SqL.of hp2, atI_nat (j := 0) rfl, c, _, rfl, .inl (SqL.of hc2), _, _, rfl, rfl, _, rfl, ?_⟩
        refine ite2 (fun ha => ?_) (fun ha => ?_)
        · refine ⟨_, rfl, _, rfl, _, _, rfl, rfl, ⟨by decide, by decide, by decide⟩, _, _, rfl, rfl, _, rfl, ?_⟩
          refine ite2 (fun hb => ?_) (fun hb => ?_)
          · refine ⟨_, rfl, _, rfl, _, _, rfl, rfl, ⟨by decide, by decide, by decide⟩, _, _, rfl, rfl, _, _, rfl, rfl, .inl ⟨by decide, by decide⟩, _, rfl, _, _, rfl, rfl, .inr ⟨_, rfl, _, _, rfl, rfl, ?_⟩⟩
            refine ⟨_, rfl, _, rfl, _, _, rfl, rfl, ⟨by omega, by omega⟩, _, rfl, p, _, _, _, rfl, rfl, hp2, rfl, ?_⟩
            refine ⟨_, rfl, .inl ⟨_, rfl, _, rfl, _, _, rfl, rfl, by omega, ?_⟩⟩
            exact q _ _ (modN h1).1 (modN h1).2 (Pen.put (i := i + 1) hp2 hc2 hl (by omega)) (k2.trans keep_upd)
          · have hi0 : (0 : Int) ≤ (i : Int) ∧ (i : Int) ≤ 100000 := ⟨by omega, by omega⟩
            refine ⟨_, rfl, .inl ⟨_, rfl, _, _, rfl, rfl, (by show (_ : Int) ≠ 0; decide), _, rfl, _, _, rfl, rfl, .inl ⟨by decide, by decide⟩, _, _, rfl, rfl, _, _, rfl, rfl, _, _, rfl, rfl, ⟨by decide, by decide, ?_⟩, .inl ⟨_, rfl, _, _, rfl, rfl, (by show (_ : Int) ≠ 0; decide), ?_⟩⟩⟩
            · exact bnd1 (modN (by decide)).1 (Int.lt_trans (modN (by decide)).2 (by decide)) hi0.1 hi0.2 (by decide) (by decide) (by decide) (by decide)
            · dsimp only
              generalize hmix : (Int.fmod _ 2147483647) = mix
              have hm0 : 0 ≤ mix ∧ mix < 2147483648 := by
                rw [← hmix]
                exact ⟨(modN (by decide)).1, Int.lt_trans (modN (by decide)).2 (by decide)⟩
              refine ⟨_, rfl, _, rfl, _, _, rfl, rfl, .inl ⟨by decide, by decide⟩, _, _, rfl, rfl, _, _, rfl, rfl, .inl ⟨by omega, by omega⟩, _, rfl, _, _, rfl, rfl, .inl ⟨by decide, by decide⟩, _, rfl, _, _, rfl, rfl, .inr ⟨by omega, by omega⟩, _, _, rfl, rfl, _, _, rfl, rfl, _, _, rfl, rfl, ⟨by decide, by decide, ?_⟩, .inl ⟨_, rfl, _, _, rfl, rfl, (by show (_ : Int) ≠ 0; decide), ?_⟩⟩
              · exact bnd2 hm0.1 hm0.2 hi0.1 hi0.2 (by decide) (by decide) (by decide) (by decide) (by decide) (by decide)
              · refine ⟨_, rfl, _, _, rfl, rfl, ⟨by decide, by decide⟩, .inl ⟨_, rfl, _, rfl, _, _, rfl, rfl, by omega, ?_⟩⟩
                exact q _ _ (modN h1).1 (modN h1).2 ⟨ns, i + 1, g, hp2, hc2, hl, by omega⟩ k2
        · have hi0 : (0 : Int) ≤ (i : Int) ∧ (i : Int) ≤ 100000 := ⟨by omega, by omega⟩
          refine ⟨_, rfl, .inl ⟨_, rfl, _, _, rfl, rfl, (by show (_ : Int) ≠ 0; decide), _, rfl, _, _, rfl, rfl, .inl ⟨by decide, by decide⟩, _, _, rfl, rfl, _, _, rfl, rfl, _, _, rfl, rfl, ⟨by decide, by decide, ?_⟩, .inl ⟨_, rfl, _, _, rfl, rfl, (by show (_ : Int) ≠ 0; decide), ?_⟩⟩⟩
          · exact bnd1 (modN (by decide)).1 (Int.lt_trans (modN (by decide)).2 (by decide)) hi0.1 hi0.2 (by decide) (by decide) (by decide) (by decide)
          · dsimp only
            generalize hmix : (Int.fmod _ 2147483647) = mix
            have hm0 : 0 ≤ mix ∧ mix < 2147483648 := by
              rw [← hmix]
              exact ⟨(modN (by decide)).1, Int.lt_trans (modN (by decide)).2 (by decide)⟩
            refine ⟨_, rfl, _, rfl, _, _, rfl, rfl, .inl ⟨by decide, by decide⟩, _, _, rfl, rfl, _, _, rfl, rfl, .inl ⟨by omega, by omega⟩, _, rfl, _, _, rfl, rfl, .inl ⟨by decide, by decide⟩, _, rfl, _, _, rfl, rfl, .inr ⟨by omega, by omega⟩, _, _, rfl, rfl, _, _, rfl, rfl, _, _, rfl, rfl, ⟨by decide, by decide, ?_⟩, .inl ⟨_, rfl, _, _, rfl, rfl, (by show (_ : Int) ≠ 0; decide), ?_⟩⟩
            · exact bnd2 hm0.1 hm0.2 hi0.1 hi0.2 (by decide) (by decide) (by decide) (by decide) (by decide) (by decide)
            · refine ⟨_, rfl, _, _, rfl, rfl, ⟨by decide, by decide⟩, .inl ⟨_, rfl, _, rfl, _, _, rfl, rfl, by omega, ?_⟩⟩
              exact q _ _ (modN h1).1 (modN h1).2 ⟨ns, i + 1, g, hp2, hc2, hl, by omega⟩ k2
      · have ez : ns.isEmpty = false := by
          cases ns with
          | nil => exact absurd rfl hns
          | cons x r => rfl
        rw [ez]
        refine iteT ?_
        have hz : 0 < ns.length := List.length_pos_iff.mpr hns
        have hj : ((i : Int).fmod (ns.map V.int).length) = (((i % ns.length : Nat) : Nat) : Int) := by
          rw [Int.fmod_eq_emod_of_nonneg _ (by omega), List.length_map]
          rfl
        obtain ⟨z, ezz⟩ := map_int_at (ns := ns) (j := i % ns.length) (Nat.mod_lt _ hz)
        refine ⟨_, rfl, p, _, _, _, rfl, rfl, SqL.of hp2, atI_nat (j := 0) rfl, ?_⟩
        refine ⟨_, rfl, .inl ⟨_, rfl, _, rfl, p, _, _, _, rfl, rfl, SqL.of hp2, atI_nat (j := 0) rfl, c, _, rfl, .inl (SqL.of hc2), _, _, rfl, rfl, ?_, ?_⟩⟩
        · rw [List.length_map]; omega
        · refine ⟨c, _, _, .int z, rfl, rfl, SqL.of hc2, ?_, ?_⟩
          · rw [hj]
            exact atI_nat ezz
          · refine ⟨_, rfl, _, rfl, p, _, _, _, rfl, rfl, SqL.of hp2, atI_nat (j := 0) rfl, c, _, rfl, .inl (SqL.of hc2), _, _, rfl, rfl, _, rfl, ?_⟩
            refine ite2 (fun ha => ?_) (fun ha => ?_)
            · refine ⟨_, rfl, _, rfl, _, _, rfl, rfl, ⟨by decide, by decide, by decide⟩, _, _, rfl, rfl, _, rfl, ?_⟩
              refine ite2 (fun hb => ?_) (fun hb => ?_)
              · refine ⟨_, rfl, _, rfl, _, _, rfl, rfl, ⟨by decide, by decide, by decide⟩, _, _, rfl, rfl, _, _, rfl, rfl, .inl ⟨by decide, by decide⟩, _, rfl, _, _, rfl, rfl, .inr ⟨_, rfl, _, _, rfl, rfl, ?_⟩⟩
                refine ⟨_, rfl, _, rfl, _, _, rfl, rfl, ⟨by omega, by omega⟩, _, rfl, p, _, _, _, rfl, rfl, hp2, rfl, ?_⟩
                refine ⟨_, rfl, .inl ⟨_, rfl, _, rfl, _, _, rfl, rfl, by omega, ?_⟩⟩
                exact q _ _ (modN h1).1 (modN h1).2 (Pen.put (i := i + 1) hp2 hc2 hl (by omega)) (k2.trans keep_upd)
              · have hi0 : (0 : Int) ≤ (i : Int) ∧ (i : Int) ≤ 100000 := ⟨by omega, by omega⟩
                refine ⟨_, rfl, .inl ⟨_, rfl, _, _, rfl, rfl, (by show (_ : Int) ≠ 0; decide), _, rfl, _, _, rfl, rfl, .inl ⟨by decide, by decide⟩, _, _, rfl, rfl, _, _, rfl, rfl, _, _, rfl, rfl, ⟨by decide, by decide, ?_⟩, .inl ⟨_, rfl, _, _, rfl, rfl, (by show (_ : Int) ≠ 0; decide), ?_⟩⟩⟩
                · exact bnd1 (modN (by decide)).1 (Int.lt_trans (modN (by decide)).2 (by decide)) hi0.1 hi0.2 (by decide) (by decide) (by decide) (by decide)
                · dsimp only
                  generalize hmix : (Int.fmod _ 2147483647) = mix
                  have hm0 : 0 ≤ mix ∧ mix < 2147483648 := by
                    rw [← hmix]
                    exact ⟨(modN (by decide)).1, Int.lt_trans (modN (by decide)).2 (by decide)⟩
                  refine ⟨_, rfl, _, rfl, _, _, rfl, rfl, .inl ⟨by decide, by decide⟩, _, _, rfl, rfl, _, _, rfl, rfl, .inl ⟨by omega, by omega⟩, _, rfl, _, _, rfl, rfl, .inl ⟨by decide, by decide⟩, _, rfl, _, _, rfl, rfl, .inr ⟨by omega, by omega⟩, _, _, rfl, rfl, _, _, rfl, rfl, _, _, rfl, rfl, ⟨by decide, by decide, ?_⟩, .inl ⟨_, rfl, _, _, rfl, rfl, (by show (_ : Int) ≠ 0; decide), ?_⟩⟩
                  · exact bnd2 hm0.1 hm0.2 hi0.1 hi0.2 (by decide) (by decide) (by decide) (by decide) (by decide) (by decide)
                  · refine ⟨_, rfl, _, _, rfl, rfl, ⟨by decide, by decide⟩, .inl ⟨_, rfl, _, rfl, _, _, rfl, rfl, by omega, ?_⟩⟩
                    exact q _ _ (modN h1).1 (modN h1).2 ⟨ns, i + 1, g, hp2, hc2, hl, by omega⟩ k2
            · have hi0 : (0 : Int) ≤ (i : Int) ∧ (i : Int) ≤ 100000 := ⟨by omega, by omega⟩
              refine ⟨_, rfl, .inl ⟨_, rfl, _, _, rfl, rfl, (by show (_ : Int) ≠ 0; decide), _, rfl, _, _, rfl, rfl, .inl ⟨by decide, by decide⟩, _, _, rfl, rfl, _, _, rfl, rfl, _, _, rfl, rfl, ⟨by decide, by decide, ?_⟩, .inl ⟨_, rfl, _, _, rfl, rfl, (by show (_ : Int) ≠ 0; decide), ?_⟩⟩⟩
              · exact bnd1 (modN (by decide)).1 (Int.lt_trans (modN (by decide)).2 (by decide)) hi0.1 hi0.2 (by decide) (by decide) (by decide) (by decide)
              · dsimp only
                generalize hmix : (Int.fmod _ 2147483647) = mix
                have hm0 : 0 ≤ mix ∧ mix < 2147483648 := by
                  rw [← hmix]
                  exact ⟨(modN (by decide)).1, Int.lt_trans (modN (by decide)).2 (by decide)⟩
                refine ⟨_, rfl, _, rfl, _, _, rfl, rfl, .inl ⟨by decide, by decide⟩, _, _, rfl, rfl, _, _, rfl, rfl, .inl ⟨by omega, by omega⟩, _, rfl, _, _, rfl, rfl, .inl ⟨by decide, by decide⟩, _, rfl, _, _, rfl, rfl, .inr ⟨by omega, by omega⟩, _, _, rfl, rfl, _, _, rfl, rfl, _, _, rfl, rfl, ⟨by decide, by decide, ?_⟩, .inl ⟨_, rfl, _, _, rfl, rfl, (by show (_ : Int) ≠ 0; decide), ?_⟩⟩
                · exact bnd2 hm0.1 hm0.2 hi0.1 hi0.2 (by decide) (by decide) (by decide) (by decide) (by decide) (by decide)
                · refine ⟨_, rfl, _, _, rfl, rfl, ⟨by decide, by decide⟩, .inl ⟨_, rfl, _, rfl, _, _, rfl, rfl, by omega, ?_⟩⟩
                  exact q _ _ (modN h1).1 (modN h1).2 ⟨ns, i + 1, g, hp2, hc2, hl, by omega⟩ k2
theorem ok__law_pick (T : Txt K mg) : FnOk P w K mg base CX0 2 T.f__law_pick T.fd__law_pick ["_law_pen_here", "_law_some"] (spPick K) := by
  have G__law_draw := ok__law_draw (P := P) (w := w) (base := base) T
  have nd := sc__law_pick.nd
  refine T.F__law_pick.ok sc__law_pick (fun vs H Q E h => ?_) (fun cdv A outer s H vs Q E hr h => ?_)
  · obtain ⟨p, c, a, xs, n, rfl, _⟩ := h; rfl
  · obtain ⟨p, c, a, xs, n, rfl, ne, P0, hn, hS, h1, h2, q⟩ := h
    have hu := hu_of hr
    refine ⟨_, (pss_one (ps_ret (pe_ix ix_list (pv 1) (pe_call (G__law_draw) (hr.mono (by decide)) (by rfl) T.m__law_draw T.F__law_draw.kp T.b__law_draw .nil pass0 (pa_cons (pv 0) (pa_cons (pe_callB call_len_seq (by rfl) T.n_len (by decide +kernel) (pa_cons (pv 1) pa_nil)) pa_nil))) (fun _ _ => rfl)))), ?_⟩
    refine ⟨_, rfl, _, rfl, _, rfl, a, _, rfl, .inl hS, p, c, _, n, rfl, P0, hn, by omega, by omega, fun r H' r0 r1 P1 k1 => ?_⟩
    obtain ⟨j, rfl⟩ : ∃ j : Nat, r = (j : Int) := ⟨r.toNat, by omega⟩
    have hj : j < xs.length := by omega
    refine ⟨a, xs, _, xs[j], rfl, rfl, SqL.keep k1 ne hS, atI_nat (List.getElem?_eq_getElem hj), ?_⟩
    exact q _ _ (List.getElem_mem hj) P1 k1
end

theorem flt_succ {zs : List Str} {g : Str → Bool} {i : Nat} {z : Str} (h : zs[i]? = some z) : (zs.take (i + 1)).filter g = if g z then (zs.take i).filter g ++ [z] else (zs.take i).filter g := by
  rw [List.take_add_one, h, List.filter_append]
  cases q : g z <;> simp [q]
theorem flt_ne (z : Str) : ∀ B : List Str, B.Nodup → B.length ≤ (B.filter fun a => decide (a ≠ z)).length + 1
  | [], _ => Nat.zero_le _
  | b :: t, nd => by
    have nd' := List.nodup_cons.mp nd
    by_cases e : b = z
    · subst e
      have ef : (t.filter fun a => decide (a ≠ b)) = t := List.filter_eq_self.mpr fun a ha => decide_eq_true fun q => nd'.1 (q ▸ ha)
      rw [List.filter_cons_of_neg (by simp), ef]
      simp
    · have ih := flt_ne z t nd'.2
      rw [List.filter_cons_of_pos (by simpa using e)]
      simp only [List.length_cons]
      omega
theorem flt_out : ∀ (zs B : List Str), B.Nodup → B.length ≤ (B.filter fun a => decide (a ∉ zs)).length + zs.length
  | [], B, _ => by
    have e : (B.filter fun a => decide (a ∉ ([] : List Str))) = B := List.filter_eq_self.mpr fun a _ => decide_eq_true (by simp)
    rw [e]
    exact Nat.le_add_right _ _
  | z :: r, B, nd => by
    have ih := flt_out r B nd
    have h1 := flt_ne z (B.filter fun a => decide (a ∉ r)) (nd.filter _)
    rw [List.filter_filter] at h1
    have e : (B.filter fun a => decide (a ≠ z) && decide (a ∉ r)) = B.filter fun a => decide (a ∉ z :: r) := by
      refine List.filter_congr fun a _ => ?_
      by_cases h2 : a = z <;> by_cases h3 : a ∈ r <;> simp [h2, h3]
    rw [e] at h1
    rw [List.length_cons]
    omega
theorem inV_strs {z : Str} : ∀ zs : List Str, inV (.str z) (zs.map V.str) = decide (z ∈ zs)
  | [] => by simp [inV]
  | y :: r => by
    have ih := inV_strs (z := z) r
    unfold inV at ih ⊢
    rw [List.map_cons, List.any_cons, ih]
    show ((y == z) || _) = _
    by_cases e : y = z
    · subst e
      simp
    · have e' : (y == z) = false := beq_eq_false_iff_ne.mpr e
      have e2 : ¬ z = y := fun q => e q.symm
      simp [e', e2]
theorem flat_strs (zs : List Str) : (zs.map V.str).all flatV = true := by
  rw [List.all_map]
  exact List.all_eq_true.mpr fun _ _ => rfl
theorem nm8_ok : Nms ["b", "a", "z9", "ready", "c1", "longname", "q", "a0"] := by
  intro z hz
  have h : z = "b" ∨ z = "a" ∨ z = "z9" ∨ z = "ready" ∨ z = "c1" ∨ z = "longname" ∨ z = "q" ∨ z = "a0" := by simpa using hz
  rcases h with rfl | rfl | rfl | rfl | rfl | rfl | rfl | rfl
  all_goals exact ⟨by decide +kernel, by decide +kernel, by decide +kernel⟩
def NM8 : List Str := ["b", "a", "z9", "ready", "c1", "longname", "q", "a0"]
/-- the names whose bits are set -/
def subOf (n : Nat) : List Str → Nat → List Str
  | [], _ => []
  | z :: r, i => if n / 2 ^ i % 2 = 1 then z :: subOf n r (i + 1) else subOf n r (i + 1)
theorem subOf_append (n : Nat) : ∀ (ns ms : List Str) (i : Nat), subOf n (ns ++ ms) i = subOf n ns i ++ subOf n ms (i + ns.length)
  | [], ms, i => rfl
  | z :: r, ms, i => by
    have ih := subOf_append n r ms (i + 1)
    have e : i + 1 + r.length = i + (z :: r).length := by rw [List.length_cons]; omega
    simp only [List.cons_append, subOf]
    rw [ih, e]
    split <;> rfl
theorem subOf_succ {n : Nat} {ns : List Str} {i : Nat} {z : Str} (h : ns[i]? = some z) : subOf n (ns.take (i + 1)) 0 = if n / 2 ^ i % 2 = 1 then subOf n (ns.take i) 0 ++ [z] else subOf n (ns.take i) 0 := by
  have li := (List.getElem?_eq_some_iff.mp h).1
  have e : 0 + (ns.take i).length = i := by rw [List.length_take]; omega
  rw [List.take_add_one, h, subOf_append, e]
  show _ ++ (if n / 2 ^ i % 2 = 1 then [z] else []) = _
  split
  · rfl
  · exact List.append_nil _
theorem subOf_len (n : Nat) : ∀ (ns : List Str) (i : Nat), (subOf n ns i).length ≤ ns.length
  | [], _ => Nat.le_refl _
  | z :: r, i => by
    have ih := subOf_len n r (i + 1)
    unfold subOf
    split <;> simp only [List.length_cons] <;> omega
theorem subOf_mem {n : Nat} {y : Str} : ∀ {ns : List Str} {i : Nat}, y ∈ subOf n ns i → y ∈ ns
  | [], _, h => by cases h
  | z :: r, i, h => by
    unfold subOf at h
    split at h
    · rcases List.mem_cons.mp h with h | h
      · exact h ▸ List.mem_cons_self
      · exact List.mem_cons_of_mem _ (subOf_mem h)
    · exact List.mem_cons_of_mem _ (subOf_mem h)
theorem subOf_cons (n : Nat) (z : Str) (r : List Str) (i : Nat) : subOf n (z :: r) i = if n / 2 ^ i % 2 = 1 then z :: subOf n r (i + 1) else subOf n r (i + 1) := rfl
theorem bitsOf_cons (xs : List V) (z : Str) (r : List Str) (i : Nat) : bitsOf xs (z :: r) i = if xs.any (isStr z) then (2 : Int) ^ i :: bitsOf xs r (i + 1) else bitsOf xs r (i + 1) := rfl
/-- the bits of n below 2 to the many, put together again, give n -/
theorem bits_sum (xs : List V) (n : Nat) : ∀ (ns : List Str) (i : Nat), ns.Nodup → (∀ z ∈ ns, xs.any (isStr z) = decide (z ∈ subOf n ns i)) → (bitsOf xs ns i).sum = ((n / 2 ^ i % 2 ^ ns.length * 2 ^ i : Nat) : Int)
  | [], i, _, _ => by
    simp [bitsOf, Nat.mod_one]
  | z :: r, i, nd, h => by
    have nd' := List.nodup_cons.mp nd
    have hr : ∀ y ∈ r, xs.any (isStr y) = decide (y ∈ subOf n r (i + 1)) := fun y hy => by
      rw [h y (List.mem_cons_of_mem _ hy)]
      have ne : y ≠ z := fun q => nd'.1 (q ▸ hy)
      rw [subOf_cons]
      split
      · simp [ne]
      · rfl
    have ih := bits_sum xs n r (i + 1) nd'.2 hr
    have hz := h z List.mem_cons_self
    have hdiv : n / 2 ^ (i + 1) = n / 2 ^ i / 2 := by rw [Nat.pow_succ, Nat.div_div_eq_div_mul]
    have hmod : n / 2 ^ i % 2 ^ (z :: r).length = n / 2 ^ i % 2 + 2 * (n / 2 ^ i / 2 % 2 ^ r.length) := by
      rw [List.length_cons, Nat.pow_succ, Nat.mul_comm, Nat.mod_mul]
    rw [hdiv, Nat.pow_succ] at ih
    rw [bitsOf_cons, hmod, hz, subOf_cons]
    have hp : (2 : Int) ^ i = ((2 ^ i : Nat) : Int) := by simp
    generalize n / 2 ^ i / 2 % 2 ^ r.length = w at ih ⊢
    by_cases hb : n / 2 ^ i % 2 = 1
    · rw [if_pos hb, decide_eq_true List.mem_cons_self, if_pos rfl, List.sum_cons, ih, hb, hp]
      generalize 2 ^ i = u
      have e : (1 + 2 * w) * u = u + w * (u * 2) := by
        rw [Nat.add_mul, Nat.one_mul, Nat.mul_comm 2 w, Nat.mul_assoc, Nat.mul_comm 2 u]
      rw [e]
      exact (Int.natCast_add _ _).symm
    · have h0 : n / 2 ^ i % 2 = 0 := by omega
      rw [if_neg hb, decide_eq_false (fun q => nd'.1 (subOf_mem q)), if_neg Bool.false_ne_true, ih, h0]
      generalize 2 ^ i = u
      have e : (0 + 2 * w) * u = w * (u * 2) := by
        rw [Nat.zero_add, Nat.mul_comm 2 w, Nat.mul_assoc, Nat.mul_comm 2 u]
      rw [e]
theorem bit_one (n i : Nat) : Builtin.bitAnd ((n : Int) / 2 ^ ((i : Int)).toNat) 1 = ((n / 2 ^ i % 2 : Nat) : Int) := by
  rw [PyProof.Rows.bitAnd_m1, Int.toNat_natCast]
  simp
/-- having, asked with the things of a list -/
def spLH (K : PySem.W.Frag) (C CE : Addr) : Sp := fun vs H Q E => ∃ (x a l dx : Addr) (fs : List (Str × V)) (ns : List Str) (xs : List V), vs = [.ref x, .ref l] ∧ H x = some (.ins C dx fs) ∧ fs.lookup ("conditions" : Str) = some (V.ref a) ∧ fs.lookup ("having" : Str) = none ∧ SqT K H a (ns.map V.str) ∧ ns.length ≤ 5 ∧ SqL K H l xs ∧ xs.length ≤ 5 ∧ (∀ u ∈ xs, Any K H u) ∧
  ((∀ v ∈ xs, hasV v (ns.map V.str) = true) → ∀ (c : Addr) (H' : Hp), H c = none → Same H H' → H' c = some (.tup ((rowOf ns xs).map V.str)) → Q (.ref c) H') ∧
  (∀ (i : Nat) (v : V), xs[i]? = some v → (∀ u ∈ xs.take i, hasV u (ns.map V.str) = true) → hasV v (ns.map V.str) = false → ∀ (d : Addr) (H' : Hp), H d = none → Same H H' → H' d = some (.xd [(("name" : Str), v)]) → E (.ref CE) (some d) H')
def rShow (K : PySem.W.Frag) : List V → Hp → VK → Prop := fun xs H Q => ∃ v d, xs = [v] ∧ ShowAt K H v d ∧ d.showable = true ∧ d.depth ≤ 60 ∧ d.shown.length ≤ sizeLine ∧ Q (.str d.shown) H
theorem cr_show {X : Cx} (c : Calm X.A) (hu : X.A.units + 64 < cLine) : CallR X (.builtin "repr") (rShow X.K) := call_reprS c hu
/-- a thing that is no row, and how it is shown -/
def spRef (K : PySem.W.Frag) (C : Addr) : Sp := fun vs H Q _ => ∃ (x a dx : Addr) (fs : List (Str × V)) (v : V) (ns : List Str) (d : PyData), vs = [.ref x, v] ∧ H x = some (.ins C dx fs) ∧ fs.lookup ("conditions" : Str) = some (V.ref a) ∧ fs.lookup ("number" : Str) = none ∧ SqT K H a (ns.map V.str) ∧ Nms ns ∧ ns.length ≤ 5 ∧ RowV K H ns v false ∧
  (∀ H', Same H H' → ShowAt K H' v d) ∧ d.showable = true ∧ d.depth ≤ 60 ∧ d.shown.length ≤ sizeLine ∧ ∀ H', Same H H' → Q (.bl true) H'
def spTold (K : PySem.W.Frag) (C : Addr) : Sp := fun vs H Q _ => ∃ (x a l dx : Addr) (fs : List (Str × V)) (ns : List Str) (xs : List V), vs = [.ref x, .ref l] ∧ H x = some (.ins C dx fs) ∧ fs.lookup ("conditions" : Str) = some (V.ref a) ∧ fs.lookup ("having" : Str) = none ∧ SqT K H a (ns.map V.str) ∧ ns.length ≤ 5 ∧ SqL K H l xs ∧ xs.length ≤ 5 ∧ (∀ u ∈ xs, Any K H u) ∧
  ((∀ v ∈ xs, hasV v (ns.map V.str) = true) → ∀ (t c : Addr) (H' : Hp), H t = none → H c = none → Same H H' → H' t = some (.tup [.str "row", .ref c]) → H' c = some (.tup ((rowOf ns xs).map V.str)) → Q (.ref t) H') ∧
  (∀ (i : Nat) (v : V), xs[i]? = some v → (∀ u ∈ xs.take i, hasV u (ns.map V.str) = true) → hasV v (ns.map V.str) = false → ∃ d : PyData, (∀ H', Same H H' → ShowAt K H' v d) ∧ d.showable = true ∧ d.depth ≤ 60 ∧ d.shown.length ≤ sizeLine ∧
    ∀ (t : Addr) (H' : Hp), H t = none → Same H H' → H' t = some (.tup [.str "none", .str d.shown]) → Q (.ref t) H')
def rLst (K : PySem.W.Frag) : List V → Hp → VK → Prop := fun xs H Q => ∃ p ys, xs = [.ref p] ∧ (SqL K H p ys ∨ SqT K H p ys) ∧ ∀ l, H l = none → Q (.ref l) (upd H l (.lst ys))
theorem cr_lst {X : Cx} : CallR X (.type "list") (rLst X.K) := by
  intro pins s σ H xs us Q I r h
  obtain ⟨p, ys, e, hq, q⟩ := h
  exact call_list_of pins s σ H xs us Q I r ⟨p, ys, e, hq, q⟩
def spNamed (K : PySem.W.Frag) (C : Addr) : Sp := fun vs H Q _ => ∃ (p c x a dx : Addr) (fs : List (Str × V)) (ns : List Str) (n : Nat), vs = [.ref p, .ref x] ∧ Pen H p c n ∧ n ≤ 80000 ∧ H x = some (.ins C dx fs) ∧ x ≠ p ∧ a ≠ p ∧ fs.lookup ("conditions" : Str) = some (V.ref a) ∧ fs.lookup ("having" : Str) = none ∧ H a = some (.tup (ns.map V.str)) ∧ Nms ns ∧ ns.Nodup ∧ 1 ≤ ns.length ∧ ns.length ≤ 5 ∧ (∀ z ∈ ns, z ∈ NM8) ∧
  ∀ H', Pen H' p c (n + 20) → Keep p H H' → Q (.bl true) H'
def spRowL (K : PySem.W.Frag) : Sp := fun vs H Q _ => ∃ (a : Addr) (n : Nat) (ns : List Str), vs = [.ref a, .int (n : Int)] ∧ SqT K H a (ns.map V.str) ∧ ns.length ≤ 5 ∧ ∀ (c : Addr) (H' : Hp), H c = none → Same H H' → H' c = some (.tup ((subOf n ns 0).map V.str)) → Q (.ref c) H'
def spCond : Sp := fun vs H Q _ => ∃ (p c0 : Addr) (m : Nat) (n : Nat), vs = [.ref p, .int (m : Int)] ∧ 1 ≤ m ∧ m ≤ 5 ∧ Pen H p c0 n ∧ n ≤ 90000 ∧ ∀ (c : Addr) (ns : List Str) (H' : Hp), H c = none → c ≠ p → H' c = some (.tup (ns.map V.str)) → Nms ns → ns.Nodup → 1 ≤ ns.length → ns.length ≤ m → (∀ z ∈ ns, z ∈ NM8) → Pen H' p c0 (n + 10) → Keep p H H' → Q (.ref c) H'
section
variable {P : Program} {w : World} {K : PySem.W.Frag} {mg : Str → Option Value} {base : Heap}
theorem ok__law_conditions (T : Txt K mg) : FnOk P w K mg base CX0 4 T.f__law_conditions T.fd__law_conditions ["_law_pen_here", "_law_most"] (spCond) := by
  have G__law_draw := ok__law_draw (P := P) (w := w) (base := base) T
  have G__law_pick := ok__law_pick (P := P) (w := w) (base := base) T
  have nd := sc__law_conditions.nd
  refine T.F__law_conditions.ok sc__law_conditions (fun vs H Q E h => ?_) (fun cdv A outer s H vs Q E hr h => ?_)
  · obtain ⟨p, c0, m, n, rfl, _⟩ := h; rfl
  · obtain ⟨p, c0, m, n, rfl, m1, m5, P0, hn, q⟩ := h
    have hu := hu_of hr
    refine ⟨_, (pss_cons (ps_set (i := 2) nd rfl (Or.inl rfl) (pe_lst (pa_cons pe_str (pa_cons pe_str (pa_cons pe_str (pa_cons pe_str (pa_cons pe_str (pa_cons pe_str (pa_cons pe_str (pa_cons pe_str pa_nil))))))))))
        (pss_cons (ps_set (i := 3) nd rfl (Or.inr rfl) (pe_lst pa_nil))
        (pss_cons (ps_for PassesOwn.never rfl (pi_range1 rfl T.n_range (pa_cons (pe_op op_sub (pv 1) (pe_call (G__law_draw) (hr.mono (by decide)) (by rfl) T.m__law_draw T.F__law_draw.kp T.b__law_draw .nil pass0 (pa_cons (pv 0) (pa_cons (pv 1) pa_nil)))) pa_nil)) (pg_name (i := 4) nd rfl (Or.inl rfl)) (pss_cons (ps_set (i := 5) nd rfl (Or.inl rfl) (pe_call (G__law_pick) (hr.mono (by decide)) (by rfl) T.m__law_pick T.F__law_pick.kp T.b__law_pick .nil pass0 (pa_cons (pv 0) (pa_cons (pe_lc (own := [("_law_name", 5)]) (g := gName 5) rfl nd (pi_list (pv 2)) (blkOk_by (own := [("_law_name", 5)]) (N := N__law_conditions) (sc := defScope s__law_conditions) (by decide +kernel)) (fun _ _ _ _ _ => pg_name (i := 5) nd rfl (Or.inl rfl)) (fun _ _ _ _ _ => pts_one (pt_cmpR (r := rIn K true) op_notIn_seq (pv 5) (pv 3) (by rfl))) (fun _ _ _ _ _ => (pv 5))) pa_nil))))
        (pss_one (ps_expr (pe_bm PySem.F.plainAttrs_list PySem.F.slot_list_append PySem.F.type_list_append mt_append (pv 3) (pa_cons (pv 5) pa_nil))))))
        (pss_one (ps_ret (pe_callTy call_tuple_of (by rfl) T.n_tuple (by decide +kernel) (pa_cons (pv 3) pa_nil))))))), ?_⟩
    refine ⟨line_of (by decide), fun l nl => ?_⟩
    obtain ⟨H1, hh, S1, _, e1⟩ := knew (o := .lst [.str "b", .str "a", .str "z9", .str "ready", .str "c1", .str "longname", .str "q", .str "a0"]) (Same.refl H) nl
    rw [hh]
    clear hh
    have el1 : H1 l = some (.lst (NM8.map V.str)) := e1
    have nlp : l ≠ p := P0.ne nl
    refine ⟨line_of (by decide), fun f nf => ?_⟩
    obtain ⟨H2, hh, S2, T2, ef2⟩ := knew (o := .lst []) S1 nf
    rw [hh]
    clear hh
    have nfp : f ≠ p := (P0.same S1).ne nf
    have nfl : f ≠ l := (ne_of_none e1 nf).symm
    have nf0 := S1.free nf
    have nfc := (P0.same S1).nec nf
    have P2 := P0.same S2
    have k2 : Keep p H H2 := same_keep S2
    have el2 := T2 _ _ el1
    refine ⟨_, rfl, _, rfl, _, rfl, p, c0, _, n, rfl, P2, by omega, by omega, by omega, fun r H3 r0 r1 P3 k3 => ?_⟩
    refine ⟨_, _, rfl, rfl, _, rfl, by omega, by omega, for_range (n := ((m : Int) - r).toNat) (fun i σ H4 => ∃ (v w : Option V) (zs : List Str), σ = [some (.ref p), some (.int (m : Int)), some (.ref l), some (.ref f), v, w] ∧ H4 f = some (.lst (zs.map V.str)) ∧ zs.length = i ∧ zs.Nodup ∧ (∀ z ∈ zs, z ∈ NM8) ∧ H4 l = some (.lst (NM8.map V.str)) ∧ Pen H4 p c0 (n + 1 + i) ∧ Keep p H H4) ⟨_, _, [], rfl, k3 _ _ ef2 nfp, rfl, .nil, (by simp), k3 _ _ el2 nlp, P3, k2.trans k3⟩ ?_ ?_⟩
    · rintro i σ H4 hi ⟨v, w, zs, rfl, ef, hz, ndz, hm, el, P4, k4⟩
      have hi5 : i < m := by omega
      refine ⟨_, rfl, _, rfl, l, rfl, ⟨_, SqL.of el⟩, fun D nD => lc_list (K := K) (a := l) (xs := NM8.map V.str) (fun j H' => Same H4 H' ∧ H' D = some (.lst (((NM8.take j).filter fun z => decide (z ∉ zs)).map V.str))) ⟨same_upd nD, upd_same⟩ (fun _ _ _ h => h.1.seq (SqL.of el)) ?_ ?_⟩
      · rintro j u H5 hu2 ⟨s5, hD⟩
        obtain ⟨z, hzz, rfl⟩ := map_str_at hu2
        refine ⟨rfl, _, rfl, _, rfl, f, _, rfl, .inl (SqL.of (s5 _ _ ef)), rfl, flat_strs _, _, rfl, ?_⟩
        rw [inV_strs, flt_succ hzz]
        by_cases hin : z ∈ zs
        · rw [decide_eq_true hin, decide_eq_false (show ¬ z ∉ zs from fun q => q hin)]
          refine iteF ⟨s5, ?_⟩
          rw [hD]
          rfl
        · rw [decide_eq_false hin, decide_eq_true hin]
          refine iteT (B := (fun _ => True) H5) ?_
          refine ⟨_, rfl, _, hD, ?_, fun c o e => ?_, ?_⟩
          · have e1 := List.length_filter_le (fun z => decide (z ∉ zs)) (NM8.take j)
            have : sizeLine = 16777216 := by decide +kernel
            have : NM8.length = 8 := rfl
            rw [List.length_map]
            rw [List.length_take] at e1
            omega
          · rw [upd_ne (ne_of_none e nD)]
            exact s5 _ _ e
          · rw [upd_same, if_pos rfl, List.map_append]
            rfl
      · rintro H5 ⟨s5, hD⟩
        rw [List.length_map, List.take_of_length_le (Nat.le_refl _)] at hD
        have hfl := flt_out zs NM8 (by decide +kernel)
        have h8 : NM8.length = 8 := rfl
        have hle := List.length_filter_le (fun z => decide (z ∉ zs)) NM8
        have P5 := P4.same s5
        have nDp : D ≠ p := P4.ne nD
        refine ⟨p, c0, D, _, _, rfl, nDp, P5, by omega, SqL.of hD, by rw [List.length_map]; omega, by rw [List.length_map]; omega, fun u H6 mem P6 k6 => ?_⟩
        obtain ⟨z, hzf, rfl⟩ := List.mem_map.mp mem
        obtain ⟨hz8, hzo⟩ := List.mem_filter.mp hzf
        have hzo' : z ∉ zs := of_decide_eq_true hzo
        have ef6 := k6 _ _ (s5 _ _ ef) nfp
        refine ⟨_, rfl, .inl ⟨rfl, _, SqL.of ef6⟩, _, rfl, f, _, _, rfl, rfl, ef6, ?_, ?_⟩
        · have : sizeLine = 16777216 := by decide +kernel
          rw [List.length_map]
          omega
        · refine ⟨_, _, zs ++ [z], rfl, ?_, by simp [hz], ?_, fun y hy => ?_, ?_, ?_, fun c o e nc => ?_⟩
          · rw [upd_same, List.map_append]
            rfl
          · refine List.nodup_append.mpr ⟨ndz, by simp, fun a ha b hb => ?_⟩
            rw [show b = z by simpa using hb]
            exact fun q => hzo' (q ▸ ha)
          · rcases List.mem_append.mp hy with hy | hy
            · exact hm y hy
            · rw [show y = z by simpa using hy]
              exact hz8
          · rw [upd_ne nfl.symm]
            exact k6 _ _ (s5 _ _ el) nlp
          · exact (P6.upd nfp nfc).mono (by omega)
          · rw [upd_ne (ne_of_none e nf0)]
            exact k6 _ _ (s5 _ _ (k4 _ _ e nc)) nc
    · rintro σ H4 ⟨v, w, zs, rfl, ef, hz, ndz, hm, el, P4, k4⟩
      refine ⟨_, rfl, f, _, rfl, .inl ⟨SqL.of ef, fun c nc => ?_⟩⟩
      refine q c zs _ ?_ (P4.ne nc) upd_same (fun z hz' => nm8_ok z (hm z hz')) ndz (by omega) (by omega) hm ((P4.same (same_upd nc)).mono (by omega)) (k4.trans (same_keep (same_upd nc)))
      cases e : H c with
      | none => rfl
      | some o =>
        have ncp : c ≠ p := P4.ne nc
        have := k4 _ _ e ncp
        rw [nc] at this
        cases this
theorem ok__law_row (T : Txt K mg) : FnOk P w K mg base CX0 1 T.f__law_row T.fd__law_row ["_law_conditions_here", "_law_bits"] (spRowL K) := by
  have nd := sc__law_row.nd
  refine T.F__law_row.ok sc__law_row (fun vs H Q E h => ?_) (fun cdv A outer s H vs Q E hr h => ?_)
  · obtain ⟨a, n, ns, rfl, _⟩ := h; rfl
  · obtain ⟨a, n, ns, rfl, hS, l1, q⟩ := h
    have hu := hu_of hr
    refine ⟨_, (pss_one (ps_ret (pe_callTy call_tuple_of (by rfl) T.n_tuple (by decide +kernel) (pa_cons (pe_lc (own := [("_law_at", 2), ("_law_name", 3)]) (g := gTup K 2 (gCons (gName 2) (gCons (gName 3) gNil))) rfl nd (pi_enumT (by rfl) T.n_enumerate (pa_cons (pv 0) pa_nil)) (blkOk_by (own := [("_law_at", 2), ("_law_name", 3)]) (N := N__law_row) (sc := defScope s__law_row) (by decide +kernel)) (fun _ _ _ _ _ => pg_tup rfl (pgs_cons (pg_name (i := 2) nd rfl (Or.inl rfl)) (pgs_cons (pg_name (i := 3) nd rfl (Or.inl rfl)) pgs_nil))) (fun _ _ _ _ _ => pts_one (pt_cmpR op_eq (pe_op op_and (pe_op op_shr (pv 1) (pv 2)) pe_int) pe_int (nomark _))) (fun _ _ _ _ _ => (pv 3))) pa_nil)))), ?_⟩
    refine ⟨_, rfl, a, _, rfl, hS, fun D nD => lc_it walk_enumT (fun i H2 => Same H H2 ∧ H2 D = some (.lst ((subOf n (ns.take i) 0).map V.str))) ⟨same_upd nD, upd_same⟩ (fun _ _ _ h => Same.seqT h.1 hS) ?_ ?_⟩
    · rintro i x H2 H3 hi ⟨s1, h2⟩ ⟨t, x1, x2, rfl, nt, rfl, hx, hy⟩
      obtain rfl : x1 = .int (i : Int) := (Option.some.inj hx).symm
      obtain ⟨z, hz, rfl⟩ := map_str_at hy
      obtain ⟨H3, hh, s3, t3, e3⟩ := knew (o := .tup [.int (i : Int), .str z]) s1 nt
      rw [hh]
      clear hh
      have h3 := t3 _ _ h2
      refine ⟨t, _, rfl, SqT.of e3, rfl, _, _, rfl, _, _, rfl, rfl, rfl, _, rfl, _, rfl, _, _, rfl, rfl, (by omega), _, _, rfl, rfl, rfl, _, rfl, ?_⟩
      show if decide (V.int (Builtin.bitAnd ((n : Int) / 2 ^ ((i : Int)).toNat) 1) = V.int 1) = true then _ else _
      rw [bit_one, subOf_succ hz]
      by_cases hb : n / 2 ^ i % 2 = 1
      · rw [hb, if_pos rfl]
        refine iteT' (decide_eq_true rfl) ?_
        refine ⟨_, rfl, _, h3, ?_, fun c o e => ?_, ?_⟩
        · have e1 := subOf_len n (ns.take i) 0
          have : sizeLine = 16777216 := by decide +kernel
          rw [List.length_map] at hi ⊢
          rw [List.length_take] at e1
          omega
        · rw [upd_ne (ne_of_none e nD)]
          exact s3 _ _ e
        · rw [upd_same, List.map_append]
          rfl
      · have h0 : n / 2 ^ i % 2 = 0 := by omega
        rw [h0, if_neg (by decide)]
        refine ⟨s3, ?_⟩
        rw [if_neg (by decide)]
        exact h3
    · rintro H2 ⟨s1, h2⟩
      rw [List.length_map, List.take_of_length_le (Nat.le_refl _)] at h2
      refine ⟨D, _, rfl, .inl ⟨SqL.of h2, fun c nc => ?_⟩⟩
      exact q c _ (s1.free nc) (s1.trans (same_upd nc)) upd_same
theorem ok__law_having (T : Txt K mg) : FnOk P w K mg base (L2.CX P w) 4 T.f__law_having T.fd__law_having ["_law_made", "_law_names"] (spLH K T.c_Rows T.c_NoCondition) := by
  have G_Rows_having := ok_Rows_having (P := P) (w := w) (base := base) T
  have nd := sc__law_having.nd
  refine T.F__law_having.okX sc__law_having (fun vs H Q E h => ?_) (fun cdv A outer s H vs Q E hr h => ?_)
  · obtain ⟨x, a, l, dx, fs, ns, xs, rfl, _⟩ := h; rfl
  · obtain ⟨x, a, l, dx, fs, ns, xs, rfl, hx, hf, hh, hS, l1, hL, l5, hA, qt, qf⟩ := h
    have hu := hu_of hr
    refine ⟨_, (pss_cons (ps_if (pt_cmpR op_eq (pe_callB call_len_seq (by rfl) T.n_len (by decide +kernel) (pa_cons (pv 1) pa_nil)) pe_int (nomark _)) (pss_one (ps_ret (pe_methR0 (pv 0) T.k_Rows T.mt_having G_Rows_having (hr.mono (by decide)) (passes_call (takes_of rfl rfl rfl rfl) (fun _ _ _ _ h => h))))) pss_nil)
        (pss_cons (ps_if (pt_cmpR op_eq (pe_callB call_len_seq (by rfl) T.n_len (by decide +kernel) (pa_cons (pv 1) pa_nil)) pe_int (nomark _)) (pss_one (ps_ret (pe_methR (pv 0) T.k_Rows T.mt_having G_Rows_having (hr.mono (by decide)) (passes_call (takes_of rfl rfl rfl rfl) (fun _ _ _ _ h => h)) (pa_cons (pe_ix ix_list (pv 1) pe_int (fun _ _ => rfl)) pa_nil)))) pss_nil)
        (pss_cons (ps_if (pt_cmpR op_eq (pe_callB call_len_seq (by rfl) T.n_len (by decide +kernel) (pa_cons (pv 1) pa_nil)) pe_int (nomark _)) (pss_one (ps_ret (pe_methR (pv 0) T.k_Rows T.mt_having G_Rows_having (hr.mono (by decide)) (passes_call (takes_of rfl rfl rfl rfl) (fun _ _ _ _ h => h)) (pa_cons (pe_ix ix_list (pv 1) pe_int (fun _ _ => rfl)) (pa_cons (pe_ix ix_list (pv 1) pe_int (fun _ _ => rfl)) pa_nil))))) pss_nil)
        (pss_cons (ps_if (pt_cmpR op_eq (pe_callB call_len_seq (by rfl) T.n_len (by decide +kernel) (pa_cons (pv 1) pa_nil)) pe_int (nomark _)) (pss_one (ps_ret (pe_methR (pv 0) T.k_Rows T.mt_having G_Rows_having (hr.mono (by decide)) (passes_call (takes_of rfl rfl rfl rfl) (fun _ _ _ _ h => h)) (pa_cons (pe_ix ix_list (pv 1) pe_int (fun _ _ => rfl)) (pa_cons (pe_ix ix_list (pv 1) pe_int (fun _ _ => rfl)) (pa_cons (pe_ix ix_list (pv 1) pe_int (fun _ _ => rfl)) pa_nil)))))) pss_nil)
        (pss_cons (ps_if (pt_cmpR op_eq (pe_callB call_len_seq (by rfl) T.n_len (by decide +kernel) (pa_cons (pv 1) pa_nil)) pe_int (nomark _)) (pss_one (ps_ret (pe_methR (pv 0) T.k_Rows T.mt_having G_Rows_having (hr.mono (by decide)) (passes_call (takes_of rfl rfl rfl rfl) (fun _ _ _ _ h => h)) (pa_cons (pe_ix ix_list (pv 1) pe_int (fun _ _ => rfl)) (pa_cons (pe_ix ix_list (pv 1) pe_int (fun _ _ => rfl)) (pa_cons (pe_ix ix_list (pv 1) pe_int (fun _ _ => rfl)) (pa_cons (pe_ix ix_list (pv 1) pe_int (fun _ _ => rfl)) pa_nil))))))) pss_nil)
        (pss_one (ps_ret (pe_methR (pv 0) T.k_Rows T.mt_having G_Rows_having (hr.mono (by decide)) (passes_call (takes_of rfl rfl rfl rfl) (fun _ _ _ _ h => h)) (pa_cons (pe_ix ix_list (pv 1) pe_int (fun _ _ => rfl)) (pa_cons (pe_ix ix_list (pv 1) pe_int (fun _ _ => rfl)) (pa_cons (pe_ix ix_list (pv 1) pe_int (fun _ _ => rfl)) (pa_cons (pe_ix ix_list (pv 1) pe_int (fun _ _ => rfl)) (pa_cons (pe_ix ix_list (pv 1) pe_int (fun _ _ => rfl)) pa_nil))))))))))))), ?_⟩
    have fin : ∃ ws rest, V.ref x :: xs = ws ++ rest ∧ ws.length = 1 ∧ rest.length ≤ sizeLine ∧ ∀ p, H p = none → (spHave K T.c_Rows T.c_NoCondition) (ws ++ [V.ref p]) (upd H p (.tup rest)) Q E := by
      refine ⟨[.ref x], xs, rfl, rfl, line_of (by omega), fun p np => ?_⟩
      have s1 : Same H (upd H p (.tup xs)) := same_upd np
      exact ⟨x, a, p, dx, fs, ns, xs, rfl, s1 _ _ hx, hf, Same.seqT s1 hS, l1, SqT.of upd_same, fun u hu => anySame (hA u hu) s1, fun h c H' nc s2 e => qt h c H' (s1.free nc) (s1.trans s2) e, fun i v hv hb hn d H' nd2 s2 e => qf i v hv hb hn d H' (s1.free nd2) (s1.trans s2) e⟩
    match xs, hL, l5, fin with
    | [], hL, _, fin =>
      refine ⟨_, rfl, l, _, rfl, .inl hL, rfl, _, rfl, ?_⟩
      refine iteT' (show decide (V.int ((0 : Nat) : Int) = V.int 0) = true by decide) ?_
      refine ⟨_, rfl, x, dx, fs, rfl, hx, hh, ?_⟩
      exact fin
    | [v0], hL, _, fin =>
      refine ⟨_, rfl, l, _, rfl, .inl hL, rfl, _, rfl, ?_⟩
      refine iteN' (show ¬ decide (V.int ((1 : Nat) : Int) = V.int 0) = true by decide) ?_
      refine ⟨_, rfl, l, _, rfl, .inl hL, rfl, _, rfl, ?_⟩
      refine iteT' (show decide (V.int ((1 : Nat) : Int) = V.int 1) = true by decide) ?_
      refine ⟨_, rfl, x, dx, fs, rfl, hx, hh, _, rfl, l, _, _, v0, rfl, rfl, hL, atI_nat (j := 0) rfl, ?_⟩
      exact fin
    | [v0, v1], hL, _, fin =>
      refine ⟨_, rfl, l, _, rfl, .inl hL, rfl, _, rfl, ?_⟩
      refine iteN' (show ¬ decide (V.int ((2 : Nat) : Int) = V.int 0) = true by decide) ?_
      refine ⟨_, rfl, l, _, rfl, .inl hL, rfl, _, rfl, ?_⟩
      refine iteN' (show ¬ decide (V.int ((2 : Nat) : Int) = V.int 1) = true by decide) ?_
      refine ⟨_, rfl, l, _, rfl, .inl hL, rfl, _, rfl, ?_⟩
      refine iteT' (show decide (V.int ((2 : Nat) : Int) = V.int 2) = true by decide) ?_
      refine ⟨_, rfl, x, dx, fs, rfl, hx, hh, _, rfl, l, _, _, v0, rfl, rfl, hL, atI_nat (j := 0) rfl, _, rfl, l, _, _, v1, rfl, rfl, hL, atI_nat (j := 1) rfl, ?_⟩
      exact fin
    | [v0, v1, v2], hL, _, fin =>
      refine ⟨_, rfl, l, _, rfl, .inl hL, rfl, _, rfl, ?_⟩
      refine iteN' (show ¬ decide (V.int ((3 : Nat) : Int) = V.int 0) = true by decide) ?_
      refine ⟨_, rfl, l, _, rfl, .inl hL, rfl, _, rfl, ?_⟩
      refine iteN' (show ¬ decide (V.int ((3 : Nat) : Int) = V.int 1) = true by decide) ?_
      refine ⟨_, rfl, l, _, rfl, .inl hL, rfl, _, rfl, ?_⟩
      refine iteN' (show ¬ decide (V.int ((3 : Nat) : Int) = V.int 2) = true by decide) ?_
      refine ⟨_, rfl, l, _, rfl, .inl hL, rfl, _, rfl, ?_⟩
      refine iteT' (show decide (V.int ((3 : Nat) : Int) = V.int 3) = true by decide) ?_
      refine ⟨_, rfl, x, dx, fs, rfl, hx, hh, _, rfl, l, _, _, v0, rfl, rfl, hL, atI_nat (j := 0) rfl, _, rfl, l, _, _, v1, rfl, rfl, hL, atI_nat (j := 1) rfl, _, rfl, l, _, _, v2, rfl, rfl, hL, atI_nat (j := 2) rfl, ?_⟩
      exact fin
    | [v0, v1, v2, v3], hL, _, fin =>
      refine ⟨_, rfl, l, _, rfl, .inl hL, rfl, _, rfl, ?_⟩
      refine iteN' (show ¬ decide (V.int ((4 : Nat) : Int) = V.int 0) = true by decide) ?_
      refine ⟨_, rfl, l, _, rfl, .inl hL, rfl, _, rfl, ?_⟩
      refine iteN' (show ¬ decide (V.int ((4 : Nat) : Int) = V.int 1) = true by decide) ?_
      refine ⟨_, rfl, l, _, rfl, .inl hL, rfl, _, rfl, ?_⟩
      refine iteN' (show ¬ decide (V.int ((4 : Nat) : Int) = V.int 2) = true by decide) ?_
      refine ⟨_, rfl, l, _, rfl, .inl hL, rfl, _, rfl, ?_⟩
      refine iteN' (show ¬ decide (V.int ((4 : Nat) : Int) = V.int 3) = true by decide) ?_
      refine ⟨_, rfl, l, _, rfl, .inl hL, rfl, _, rfl, ?_⟩
      refine iteT' (show decide (V.int ((4 : Nat) : Int) = V.int 4) = true by decide) ?_
      refine ⟨_, rfl, x, dx, fs, rfl, hx, hh, _, rfl, l, _, _, v0, rfl, rfl, hL, atI_nat (j := 0) rfl, _, rfl, l, _, _, v1, rfl, rfl, hL, atI_nat (j := 1) rfl, _, rfl, l, _, _, v2, rfl, rfl, hL, atI_nat (j := 2) rfl, _, rfl, l, _, _, v3, rfl, rfl, hL, atI_nat (j := 3) rfl, ?_⟩
      exact fin
    | [v0, v1, v2, v3, v4], hL, _, fin =>
      refine ⟨_, rfl, l, _, rfl, .inl hL, rfl, _, rfl, ?_⟩
      refine iteN' (show ¬ decide (V.int ((5 : Nat) : Int) = V.int 0) = true by decide) ?_
      refine ⟨_, rfl, l, _, rfl, .inl hL, rfl, _, rfl, ?_⟩
      refine iteN' (show ¬ decide (V.int ((5 : Nat) : Int) = V.int 1) = true by decide) ?_
      refine ⟨_, rfl, l, _, rfl, .inl hL, rfl, _, rfl, ?_⟩
      refine iteN' (show ¬ decide (V.int ((5 : Nat) : Int) = V.int 2) = true by decide) ?_
      refine ⟨_, rfl, l, _, rfl, .inl hL, rfl, _, rfl, ?_⟩
      refine iteN' (show ¬ decide (V.int ((5 : Nat) : Int) = V.int 3) = true by decide) ?_
      refine ⟨_, rfl, l, _, rfl, .inl hL, rfl, _, rfl, ?_⟩
      refine iteN' (show ¬ decide (V.int ((5 : Nat) : Int) = V.int 4) = true by decide) ?_
      refine ⟨_, rfl, x, dx, fs, rfl, hx, hh, _, rfl, l, _, _, v0, rfl, rfl, hL, atI_nat (j := 0) rfl, _, rfl, l, _, _, v1, rfl, rfl, hL, atI_nat (j := 1) rfl, _, rfl, l, _, _, v2, rfl, rfl, hL, atI_nat (j := 2) rfl, _, rfl, l, _, _, v3, rfl, rfl, hL, atI_nat (j := 3) rfl, _, rfl, l, _, _, v4, rfl, rfl, hL, atI_nat (j := 4) rfl, ?_⟩
      exact fin
    | _ :: _ :: _ :: _ :: _ :: _ :: _, _, l5, _ => simp only [List.length_cons] at l5; omega
theorem ok__law_refused (T : Txt K mg) : FnG P w K mg base 5 T.f__law_refused T.fd__law_refused ["_law_made", "_law_thing"] (spRef K T.c_Rows) := by
  have G_Rows_number := ok_Rows_number (P := P) (w := w) (base := base) T
  have nd := sc__law_refused.nd
  refine okG T.F__law_refused sc__law_refused (fun vs H Q E h => ?_) (fun cdv A outer s H vs Q E calm hr h => ?_)
  · obtain ⟨x, a, dx, fs, v, ns, d, rfl, _⟩ := h; rfl
  · obtain ⟨x, a, dx, fs, v, ns, dd, rfl, hx, hf0, hnum, hS, hn, l1, hv, hsh, h1, h2, h3, q⟩ := h
    have hu := hu_of hr
    refine ⟨_, (pss_cons (ps_try_as (i := 2) rfl rfl nd rfl rfl ⟨by rfl, by decide, .inl T.m_InvalidRow⟩ takesF (fun W pn xe tk _ => (pss_one (ps_expr (pe_methA (E := WE W) (pv 0) T.k_Rows T.mt_number (G_Rows_number.raw T.b_Rows_number .nil) (hr.mono (by decide)) (passAt tk) (pa_cons (pv 1) pa_nil))))) (fun a oe cls d pn hz hf => (pss_one (ps_ret (pe_and (pe_callB (call_isS hz hf) (by rfl) T.n_isinstance (by decide +kernel) (pa_cons (pv 2) (pa_cons (pe_glob (v := .ref T.c_OrError) (by rfl) T.m_OrError rfl) pa_nil))) (pe_and (pe_not (pe_callB (call_isS hz hf) (by rfl) T.n_isinstance (by decide +kernel) (pa_cons (pv 2) (pa_cons (pe_glob (v := .ref T.c_NoCondition) (by rfl) T.m_NoCondition rfl) pa_nil)))) (pe_one (pe_cmpR op_eq (pe_callB (id := "repr") (r := rShow K) (by refine cr_show ?_ ?_; exact calm; exact hr.units) (by rfl) T.n_repr (by decide +kernel) (pa_cons (pe_xf (C := T.c_InvalidRow) ⟨T.ex_InvalidRow.ga, T.ex_InvalidRow.gg, T.ex_InvalidRow.oex.exC, T.ex_InvalidRow.dct⟩ T.no_InvalidRow_value hz hf (pv 2)) pa_nil)) (pe_callB (id := "repr") (r := rShow K) (by refine cr_show ?_ ?_; exact calm; exact hr.units) (by rfl) T.n_repr (by decide +kernel) (pa_cons (pv 1) pa_nil)) (nomark _)))))))))
        (pss_one (ps_ret pe_bl))), ?_⟩
    refine ⟨_, rfl, x, dx, fs, rfl, hx, hnum, _, rfl, ?_⟩
    refine ⟨x, a, dx, fs, v, ns, false, rfl, hx, hf0, hS, hn, l1, hv, (fun h => by cases h), fun _ d1 H' nd1 s1 e1 => ?_⟩
    refine ⟨true, T.xm_IR, fun _ a' na' => ?_, fun h => by cases h⟩
    have xd : XdAt H' (some d1) := fun d2 h => by
      cases h
      exact ⟨_, e1⟩
    refine ⟨_, rfl, T.c_InvalidRow, T.f_InvalidRow_init, _, _, _, rfl, rfl, T.ex_InvalidRow, T.Z, xd, .own _, T.ko_IR1, _, rfl, ?_⟩
    refine iteT ?_
    refine ⟨_, rfl, T.c_InvalidRow, T.f_InvalidRow_init, _, _, _, rfl, rfl, T.ex_InvalidRow, T.Z, xd, .own _, T.ko_IR2, _, rfl, ?_⟩
    refine ⟨_, rfl, ?_⟩
    refine iteT ?_
    refine ⟨_, rfl, rfl, rfl, d1, _, v, rfl, e1, rfl, v, dd, rfl, hsh _ s1, h1, h2, h3, _, rfl, v, dd, rfl, hsh _ s1, h1, h2, h3, ?_⟩
    simp only [rEq, decide_true]
    exact ⟨rfl, q _ s1⟩
theorem ok__law_told (T : Txt K mg) : FnG P w K mg base 6 T.f__law_told T.fd__law_told ["_law_made", "_law_names"] (spTold K T.c_Rows) := by
  have G__law_having := ok__law_having (P := P) (w := w) (base := base) T
  have nd := sc__law_told.nd
  refine okG T.F__law_told sc__law_told (fun vs H Q E h => ?_) (fun cdv A outer s H vs Q E calm hr h => ?_)
  · obtain ⟨x, a, l, dx, fs, ns, xs, rfl, _⟩ := h; rfl
  · obtain ⟨x, a, l, dx, fs, ns, xs, rfl, hx, hf0, hh, hS, l1, hL, l5, hA, qt, qf⟩ := h
    have hu := hu_of hr
    refine ⟨_, (pss_one (ps_try_as (i := 2) rfl rfl nd rfl rfl ⟨by rfl, by decide, .inl T.m_NoCondition⟩ takesF (fun W pn xe tk _ => (pss_one (ps_ret (pe_tup (pa_cons pe_str (pa_cons (pe_callS (E := WE W) G__law_having (hr.mono (by decide)) (by rfl) T.m__law_having T.F__law_having.kp T.b__law_having (passAt tk) (pa_cons (pv 0) (pa_cons (pv 1) pa_nil))) pa_nil)))))) (fun a oe cls d pn hz hf => (pss_one (ps_ret (pe_tup (pa_cons (pe_ix (r := rIxL K) ix_list (pe_lst (pa_cons pe_str (pa_cons pe_str pa_nil))) (pe_callTy call_int1 (by rfl) T.n_int (by decide +kernel) (pa_cons (pe_or (pe_callB (call_isS hz hf) (by rfl) T.n_isinstance (by decide +kernel) (pa_cons (pv 2) (pa_cons (pe_glob (v := .ref T.c_InvalidRow) (by rfl) T.m_InvalidRow rfl) pa_nil))) (pe_one (pe_not (pe_callB (call_isS hz hf) (by rfl) T.n_isinstance (by decide +kernel) (pa_cons (pv 2) (pa_cons (pe_glob (v := .ref T.c_OrError) (by rfl) T.m_OrError rfl) pa_nil)))))) pa_nil)) (fun _ _ => rfl)) (pa_cons (pe_callB (id := "repr") (r := rShow K) (by refine cr_show ?_ ?_; exact calm; exact hr.units) (by rfl) T.n_repr (by decide +kernel) (pa_cons (pe_xf (C := T.c_NoCondition) ⟨T.ex_NoCondition.ga, T.ex_NoCondition.gg, T.ex_NoCondition.oex.exC, T.ex_NoCondition.dct⟩ T.no_NoCondition_name hz hf (pv 2)) pa_nil)) pa_nil)))))))), ?_⟩
    refine ⟨_, rfl, _, rfl, x, a, l, dx, fs, ns, xs, rfl, hx, hf0, hh, hS, l1, hL, l5, hA, fun hall c H1 nc s1 e1 => ?_, fun i v hv hb hn d1 H1 nd1 s1 e1 => ?_⟩
    · refine ⟨line_of (by simp), fun t nt => ?_⟩
      exact qt hall t c _ (s1.free nt) nc (s1.trans (same_upd nt)) upd_same ((upd_ne (ne_of_none e1 nt)).trans e1)
    · refine ⟨true, T.xm_NC, fun _ a' na' => ?_, fun h => by cases h⟩
      obtain ⟨dd, hsh, h1, h2, h3, q⟩ := qf i v hv hb hn
      refine ⟨line_of (by simp), fun l2 nl2 => ?_⟩
      obtain ⟨H2, hh2, s2, t2, e2⟩ := knew (o := .lst [.str "none", .str "both"]) s1 nl2
      rw [hh2]
      clear hh2
      have e3 := t2 _ _ e1
      have xd : XdAt H2 (some d1) := fun d2 h => by
        cases h
        exact ⟨_, e3⟩
      refine ⟨_, rfl, T.c_NoCondition, T.f_NoCondition_init, _, _, _, rfl, rfl, T.ex_NoCondition, T.Z, xd, .own _, T.ko_NC2, _, rfl, ?_⟩
      refine iteF ?_
      refine ⟨_, rfl, T.c_NoCondition, T.f_NoCondition_init, _, _, _, rfl, rfl, T.ex_NoCondition, T.Z, xd, .own _, T.ko_NC1, _, rfl, ?_⟩
      refine .inr ⟨_, rfl, l2, _, _, .str "none", rfl, rfl, SqL.of e2, rfl, ?_⟩
      refine ⟨_, rfl, rfl, rfl, d1, _, v, rfl, e3, rfl, v, dd, rfl, hsh _ s2, h1, h2, h3, line_of (by simp), fun t nt => ?_⟩
      exact q t _ (s2.free nt) (s2.trans (same_upd nt)) upd_same
end
theorem nm8_len : ∀ z ∈ NM8, z.length ≤ 8 := by decide +kernel
/-- what is odd among names of these eight, and what repr tells of it -/
def Odd (K : PySem.W.Frag) (p : Addr) (H : Hp) (v : V) : Prop := ∃ d : PyData, (d.showable = true ∧ d.depth ≤ 60 ∧ d.shown.length ≤ sizeLine ∧ PyData.strOk d.shown = true) ∧ (∀ H', Keep p H H' → ShowAt K H' v d ∧ Any K H' v) ∧ ∀ ns : List Str, (∀ z ∈ ns, z ∈ NM8) → hasV v (ns.map V.str) = false
theorem Odd.keep {K : PySem.W.Frag} {p : Addr} {H H' : Hp} {v : V} (o : Odd K p H v) (k : Keep p H H') : Odd K p H' v := by
  obtain ⟨d, f, s, n⟩ := o
  exact ⟨d, f, fun H2 k2 => s H2 (k.trans k2), n⟩
theorem cut_take (xs : List V) (j : Nat) : cutV xs none (some (j : Int)) = xs.take j := by
  unfold cutV
  rw [HT.sIx_none, show HT.sIx xs.length xs.length (some (j : Int)) = min j xs.length from HT.sIx_nat _ _ j, List.drop_zero, Nat.sub_zero]
  by_cases h : j ≤ xs.length
  · rw [Nat.min_eq_left h]
  · rw [Nat.min_eq_right (by omega), List.take_of_length_le (Nat.le_refl _), List.take_of_length_le (by omega)]
theorem cut_drop (xs : List V) (j : Nat) : cutV xs (some (j : Int)) none = xs.drop j := by
  unfold cutV
  rw [HT.sIx_none, show HT.sIx xs.length 0 (some (j : Int)) = min j xs.length from HT.sIx_nat _ _ j]
  by_cases h : j ≤ xs.length
  · rw [Nat.min_eq_left h]
    exact List.take_of_length_le (by rw [List.length_drop]; omega)
  · rw [Nat.min_eq_right (by omega), List.drop_eq_nil_of_le (by omega), List.drop_eq_nil_of_le (by omega), List.take_nil]
/-- the names, the odd one among them -/
def ysOf (xs ws : List V) (v : V) (j : Nat) : List V := (((xs.take j ++ [v]) ++ xs.drop j) ++ ws).take 5
theorem ys_mem {xs ws : List V} {v u : V} {j : Nat} (h : u ∈ ysOf xs ws v j) : u ∈ xs ∨ u = v ∨ u ∈ ws := by
  have h := List.mem_of_mem_take h
  rcases List.mem_append.mp h with h | h
  · rcases List.mem_append.mp h with h | h
    · rcases List.mem_append.mp h with h | h
      · exact .inl (List.mem_of_mem_take h)
      · exact .inr (.inl (List.mem_singleton.mp h))
    · exact .inl (List.mem_of_mem_drop h)
  · exact .inr (.inr h)
theorem ys_low {xs ws : List V} {v : V} {j : Nat} (hj : j ≤ xs.length) (h4 : j ≤ 4) : (ysOf xs ws v j)[j]? = some v ∧ (ysOf xs ws v j).take j = xs.take j := by
  have lt : (xs.take j).length = j := by rw [List.length_take]; omega
  unfold ysOf
  constructor
  · rw [List.getElem?_take_of_lt (by omega), List.append_assoc, List.append_assoc, List.getElem?_append_right (by omega), lt, Nat.sub_self]
    rfl
  · rw [List.take_take, Nat.min_eq_left (by omega), List.append_assoc, List.append_assoc, List.take_append_of_le_length (by omega), List.take_of_length_le (by omega)]
theorem ys_all {xs ws : List V} {v : V} (h : xs.length = 5) : ysOf xs ws v 5 = xs := by
  unfold ysOf
  have e : xs.take 5 = xs := List.take_of_length_le (by omega)
  rw [e, List.append_assoc, List.append_assoc, List.take_append_of_le_length (by omega), e]
theorem ixN4 {n : Nat} (h : n = 5) : ixN n 4 = some 4 := by
  subst h
  rfl
theorem eqG_self (v : V) : eqG v v = true := by
  cases v <;> simp [eqG, isStr]
theorem first_odd {zz ns : List V} {i k : Nat} {v u : V} (zi : zz[i]? = some v) (zt : ∀ y ∈ zz.take i, hasV y ns = true) (ov : hasV v ns = false) (hk : zz[k]? = some u) (ht : ∀ y ∈ zz.take k, hasV y ns = true) (hu : hasV u ns = false) : k = i ∧ u = v := by
  have mem : ∀ {a b : Nat} {y : V}, zz[a]? = some y → a < b → y ∈ zz.take b := fun {a b y} h l => List.mem_of_getElem? (i := a) (by rw [List.getElem?_take_of_lt l]; exact h)
  rcases Nat.lt_trichotomy k i with l | l | l
  · rw [zt u (mem hk l)] at hu
    cases hu
  · subst l
    rw [zi] at hk
    exact ⟨rfl, (Option.some.inj hk).symm⟩
  · rw [ht v (mem zi l)] at ov
    cases ov
def fineD (d : PyData) : Bool := d.showable && decide (d.depth ≤ 60) && decide (d.shown.length ≤ 1000) && PyData.strOk d.shown
theorem fineD_ok {d : PyData} (h : fineD d = true) : d.showable = true ∧ d.depth ≤ 60 ∧ d.shown.length ≤ sizeLine ∧ PyData.strOk d.shown = true := by
  have hs : sizeLine = 16777216 := by decide +kernel
  simp only [fineD, Bool.and_eq_true, decide_eq_true_eq] at h
  exact ⟨h.1.1.1, h.1.1.2, by omega, h.2⟩
theorem hasV_txt {x : Str} (h : ∀ z ∈ NM8, z ≠ x) : ∀ ns : List Str, (∀ z ∈ ns, z ∈ NM8) → hasV (.str x) (ns.map V.str) = false := fun ns hn => by
  unfold hasV
  rw [List.any_map]
  refine List.any_eq_false.mpr fun z hz => ?_
  have := h z (hn z hz)
  simp [isStr, Ne.symm this]
theorem hasV_no {v : V} (h : ∀ z, isStr z v = false) (ns : List Str) : hasV v (ns.map V.str) = false := by
  unfold hasV
  rw [List.any_map]
  exact List.any_eq_false.mpr fun z _ => by simp [h z]
theorem odd_menu {K : PySem.W.Frag} {p t7 t8 t9 : Addr} {H : Hp} {z0 : Str} {v : V} (hz : z0 ∈ NM8) (n7 : t7 ≠ p) (n8 : t8 ≠ p) (n9 : t9 ≠ p) (e7 : H t7 = some (.tup [.str z0])) (e8 : H t8 = some (.lst [.str z0])) (e9 : H t9 = some (.dK []))
    (mem : v ∈ [V.str "y", .str "", .str "to", .non, .int 1, .bl true, .ref t7, .ref t8, .ref t9, .str (z0 ++ " ")]) : Odd K p H v := by
  have f7 : ∀ z ∈ NM8, fineD (.tuple [.str z]) = true ∧ fineD (.list [.str z]) = true ∧ fineD (.str (z ++ " ")) = true ∧ ∀ y ∈ NM8, y ≠ z ++ " " := by decide +kernel
  obtain ⟨f7, f8, f9, fn⟩ := f7 z0 hz
  simp only [List.mem_cons, List.not_mem_nil, or_false] at mem
  rcases mem with rfl | rfl | rfl | rfl | rfl | rfl | rfl | rfl | rfl | rfl
  · exact ⟨.str "y", fineD_ok (by decide +kernel), fun H' _ => ⟨.inl (.str _), .flat _ rfl⟩, hasV_txt (by decide +kernel)⟩
  · exact ⟨.str "", fineD_ok (by decide +kernel), fun H' _ => ⟨.inl (.str _), .flat _ rfl⟩, hasV_txt (by decide +kernel)⟩
  · exact ⟨.str "to", fineD_ok (by decide +kernel), fun H' _ => ⟨.inl (.str _), .flat _ rfl⟩, hasV_txt (by decide +kernel)⟩
  · exact ⟨.none, fineD_ok (by decide +kernel), fun H' _ => ⟨.inl .non, .flat _ rfl⟩, fun ns _ => hasV_no (fun _ => rfl) ns⟩
  · exact ⟨.int 1, fineD_ok (by decide +kernel), fun H' _ => ⟨.inl (.int _), .flat _ rfl⟩, fun ns _ => hasV_no (fun _ => rfl) ns⟩
  · exact ⟨.bool true, fineD_ok (by decide +kernel), fun H' _ => ⟨.inl (.bl _), .flat _ rfl⟩, fun ns _ => hasV_no (fun _ => rfl) ns⟩
  · exact ⟨_, fineD_ok f7, fun H' k => ⟨.inl (.tup (SqT.of (k _ _ e7 n7)) (.cons (.str _) .nil)), .tup (SqT.of (k _ _ e7 n7))⟩, fun ns _ => hasV_no (fun _ => rfl) ns⟩
  · exact ⟨_, fineD_ok f8, fun H' k => ⟨.inl (.lst (SqL.of (k _ _ e8 n8)) (.cons (.str _) .nil)), .lst (SqL.of (k _ _ e8 n8))⟩, fun ns _ => hasV_no (fun _ => rfl) ns⟩
  · exact ⟨.dict [], fineD_ok (by decide +kernel), fun H' k => ⟨.inr ⟨_, _, _, rfl, k _ _ e9 n9, rfl, .nil⟩, .dK (k _ _ e9 n9)⟩, fun ns _ => hasV_no (fun _ => rfl) ns⟩
  · exact ⟨_, fineD_ok f9, fun H' _ => ⟨.inl (.str _), .flat _ rfl⟩, hasV_txt fn⟩
theorem shaped_pair {zs : List Str} (h : ∀ z ∈ zs, Tx 8 z) : SeqAt.shaped (.tuple [.str "row", .tuple (zs.map PyData.str)]) = true := by
  have h1 := canLay_strs zs h
  have h2 := depth_strs zs
  unfold SeqAt.shaped
  have h3 : PyData.depth (.tuple [.str "row", .tuple (zs.map PyData.str)]) ≤ 64 := by
    simp only [PyData.depth, PyData.depthAll]
    omega
  have h4 : PyData.strOk "row" = true := by decide +kernel
  simp only [PyData.canLay0, PyData.canLayAll0, h1, h3, h4, decide_true, Bool.and_self]
theorem shaped_two {x : Str} (h : PyData.strOk x = true) : SeqAt.shaped (.tuple [.str "none", .str x]) = true := by
  unfold SeqAt.shaped
  have h3 : PyData.depth (.tuple [.str "none", .str x]) ≤ 64 := by
    simp only [PyData.depth, PyData.depthAll]
    omega
  have h4 : PyData.strOk "none" = true := by decide +kernel
  simp only [PyData.canLay0, PyData.canLayAll0, h, h3, h4, decide_true, Bool.and_self]
theorem eqv_shaped {d : PyData} (h : SeqAt.shaped d = true) : PyData.eqv d d = true := by
  unfold SeqAt.shaped at h
  exact PySem.SeqAt.eqv_refl d (Bool.and_eq_true_iff.mp h).1
theorem hasV_mem {z : Str} {ns : List Str} (h : z ∈ ns) : hasV (.str z) (ns.map V.str) = true := by
  unfold hasV
  rw [List.any_map]
  exact List.any_eq_true.mpr ⟨z, h, beq_self_eq_true z⟩
theorem knewK {H Hk : Hp} {p l : Addr} {o : HO} (S : Keep p H Hk) (n : Hk l = none) : ∃ H', upd Hk l o = H' ∧ Keep p H H' ∧ Same Hk H' ∧ H' l = some o := ⟨_, rfl, S.trans (same_keep (same_upd n)), same_upd n, upd_same⟩
section
variable {P : Program} {w : World} {K : PySem.W.Frag} {mg : Str → Option Value} {base : Heap}
theorem ok__law_named (T : Txt K mg) : FnG P w K mg base 8 T.f__law_named T.fd__law_named ["_law_pen_here", "_law_made"] (spNamed K T.c_Rows) := by
  have G__law_draw := ok__law_draw (P := P) (w := w) (base := base) T
  have G__law_pick := ok__law_pick (P := P) (w := w) (base := base) T
  have G__law_told := ok__law_told (P := P) (w := w) (base := base) T
  have nd := sc__law_named.nd
  refine okG T.F__law_named sc__law_named (fun vs H Q E h => ?_) (fun cdv A outer s H vs Q E calm hr h => ?_)
  · obtain ⟨p, c, x, a, dx, fs, ns, n, rfl, _⟩ := h; rfl
  · obtain ⟨p, c, x, a, dx, fs, ns, n, rfl, P0, hnn, hx, nxp, nap, hf0, hh, ha, hn, nd2, l1, l5, h8, q⟩ := h
    have hu := hu_of hr
    refine ⟨_, (pss_cons (ps_set (i := 2) nd rfl (Or.inr rfl) (pe_fld (pv 1) (by rfl)))
        (pss_cons (ps_set (i := 3) nd rfl (Or.inr rfl) (pe_lc (own := [("_law_k", 8)]) (g := gName 8) rfl nd (pi_range1 rfl T.n_range (pa_cons (pe_call (G__law_draw) (hr.mono (by decide)) (by rfl) T.m__law_draw T.F__law_draw.kp T.b__law_draw .nil pass0 (pa_cons (pv 0) (pa_cons pe_int pa_nil))) pa_nil)) (blkOk_by (own := [("_law_k", 8)]) (N := N__law_named) (sc := defScope s__law_named) (by decide +kernel)) (fun _ _ _ _ _ => pg_name (i := 8) nd rfl (Or.inl rfl)) (fun _ _ _ _ _ => pts_nil) (fun _ _ _ _ _ => (pe_call (G__law_pick) (hr.mono (by decide)) (by rfl) T.m__law_pick T.F__law_pick.kp T.b__law_pick .nil pass0 (pa_cons (pv 0) (pa_cons (pe_callTy (r := rLst K) cr_lst (by rfl) T.n_list (by decide +kernel) (pa_cons (pv 2) pa_nil)) pa_nil))))))
        (pss_cons (ps_set (i := 4) nd rfl (Or.inl rfl) (pe_callG G__law_told calm (hr.mono (by decide)) (by rfl) T.m__law_told T.F__law_told.kp T.b__law_told (pa_cons (pv 1) (pa_cons (pv 3) pa_nil))))
        (pss_cons (ps_if (pt_cmpR (op_neD hr.units) (pv 4) (pe_tup (pa_cons pe_str (pa_cons (pe_callTy call_tuple_of (by rfl) T.n_tuple (by decide +kernel) (pa_cons (pe_lc (own := [("_law_name", 9)]) (g := gName 9) rfl nd (pi_tup (pv 2)) (blkOk_by (own := [("_law_name", 9)]) (N := N__law_named) (sc := defScope s__law_named) (by decide +kernel)) (fun _ _ _ _ _ => pg_name (i := 9) nd rfl (Or.inl rfl)) (fun _ _ _ _ _ => pts_one (pt_cmpR (r := rInA K false) (by refine op_inA ?_; exact hr.units) (pv 9) (pv 3) (by rfl))) (fun _ _ _ _ _ => (pv 9))) pa_nil)) pa_nil))) (nomark _)) (pss_one (ps_ret pe_bl)) pss_nil)
        (pss_cons (ps_set (i := 5) nd rfl (Or.inl rfl) (pe_call (G__law_pick) (hr.mono (by decide)) (by rfl) T.m__law_pick T.F__law_pick.kp T.b__law_pick .nil pass0 (pa_cons (pv 0) (pa_cons (pe_lst (pa_cons pe_str (pa_cons pe_str (pa_cons pe_str (pa_cons pe_non (pa_cons pe_int (pa_cons pe_bl (pa_cons (pe_tup (pa_cons (pe_ix ix_tup (pv 2) pe_int (fun _ _ => rfl)) pa_nil)) (pa_cons (pe_lst (pa_cons (pe_ix ix_tup (pv 2) pe_int (fun _ _ => rfl)) pa_nil)) (pa_cons pe_dnewK (pa_cons (pe_op op_add_str (pe_ix ix_tup (pv 2) pe_int (fun _ _ => rfl)) pe_str) pa_nil))))))))))) pa_nil))))
        (pss_cons (ps_set (i := 6) nd rfl (Or.inl rfl) (pe_call (G__law_draw) (hr.mono (by decide)) (by rfl) T.m__law_draw T.F__law_draw.kp T.b__law_draw .nil pass0 (pa_cons (pv 0) (pa_cons (pe_op op_add (pe_callB call_len_seq (by rfl) T.n_len (by decide +kernel) (pa_cons (pv 3) pa_nil)) pe_int) pa_nil))))
        (pss_cons (ps_set (i := 7) nd rfl (Or.inl rfl) (pe_call (G__law_pick) (hr.mono (by decide)) (by rfl) T.m__law_pick T.F__law_pick.kp T.b__law_pick .nil pass0 (pa_cons (pv 0) (pa_cons (pe_lst (pa_cons (pe_lst pa_nil) (pa_cons (pe_lst (pa_cons pe_str pa_nil)) (pa_cons (pe_lst (pa_cons pe_non pa_nil)) pa_nil)))) pa_nil))))
        (pss_cons (ps_set (i := 3) nd rfl (Or.inr rfl) (pe_slice sl_list (pe_op op_cat (pe_op op_cat (pe_op op_cat (pe_slice sl_list (pv 3) po_none (po_some (pv 6))) (pe_lst (pa_cons (pv 5) pa_nil))) (pe_slice sl_list (pv 3) (po_some (pv 6)) po_none)) (pv 7)) po_none (po_some pe_int)))
        (pss_cons (ps_if (pt_cmpR (op_notNear hr.units) (pv 5) (pv 3) (by rfl)) (pss_one (ps_asg (pv 5) (pg_sub (pv 3) pe_int set_list))) pss_nil)
        (pss_one (ps_ret (pe_cmpR (op_eqD hr.units) (pe_callG G__law_told calm (hr.mono (by decide)) (by rfl) T.m__law_told T.F__law_told.kp T.b__law_told (pa_cons (pv 1) (pa_cons (pv 3) pa_nil))) (pe_tup (pa_cons pe_str (pa_cons (pe_callB (id := "repr") (r := rShow K) (by refine cr_show ?_ ?_; exact calm; exact hr.units) (by rfl) T.n_repr (by decide +kernel) (pa_cons (pv 5) pa_nil)) pa_nil))) (nomark _))))))))))))), ?_⟩
    refine ⟨_, rfl, x, T.c_Rows, dx, fs, _, rfl, hx, T.k_Rows, T.na_conditions, hf0, ?_⟩
    refine ⟨_, rfl, p, c, 6, n, rfl, P0, by omega, by decide, by decide, fun r H1 r0 r1 P1 k1 => ?_⟩
    refine ⟨_, rfl, by omega, by omega, fun D nD => lc_range (n := r.toNat) (fun i H2 => ∃ zs : List Str, H2 D = some (.lst (zs.map V.str)) ∧ zs.length = i ∧ (∀ z ∈ zs, z ∈ ns) ∧ Pen H2 p c (n + 1 + i) ∧ Keep p H H2) ⟨[], upd_same, rfl, (by simp), P1.same (same_upd nD), k1.trans (same_keep (same_upd nD))⟩ ?_ ?_⟩
    · rintro i H2 hi ⟨zs, hD, hz, hm, P2, k2⟩
      have nDp : D ≠ p := P1.ne nD
      have nDc : D ≠ c := P1.nec nD
      have hD0 : H D = none := by
        cases e : H D with
        | none => rfl
        | some o =>
          have := k1 _ _ e nDp
          rw [nD] at this
          cases this
      refine ⟨rfl, ?_⟩
      refine iteT (B := True) ?_
      refine ⟨_, rfl, _, rfl, a, ns.map V.str, rfl, .inr (SqT.of (k2 _ _ ha nap)), fun l nl => ?_⟩
      have nlD : D ≠ l := ne_of_none hD nl
      refine ⟨p, c, l, _, _, rfl, P2.ne nl, P2.same (same_upd nl), by omega, SqL.of upd_same, by rw [List.length_map]; omega, by rw [List.length_map]; omega, fun v H3 mem P3 k3 => ?_⟩
      obtain ⟨z, hzn, rfl⟩ := List.mem_map.mp mem
      refine ⟨_, k3 _ _ ((upd_ne nlD).trans hD) nDp, ?_, zs ++ [z], by rw [upd_same, List.map_append]; rfl, by simp [hz], fun y hy => ?_, (P3.upd nDp nDc).mono (by omega), fun b' o e nb => ?_⟩
      · have : sizeLine = 16777216 := by decide +kernel
        rw [List.length_map]
        omega
      · rcases List.mem_append.mp hy with hy | hy
        · exact hm y hy
        · rw [show y = z by simpa using hy]
          exact hzn
      · rw [upd_ne (ne_of_none e hD0)]
        exact k3 _ _ (same_upd nl _ _ (k2 _ _ e nb)) nb
    · rintro H2 ⟨zs, hD, hz, hm, P2, k2⟩
      show tSeq _ _ _ ([some (.ref p), some (.ref x), some (.ref a), some (.ref D), none, none, none, none, none, none] : L2.St) _
      have hD0 : H D = none := by
        cases e : H D with
        | none => rfl
        | some o =>
          have := k1 _ _ e (P1.ne nD)
          rw [nD] at this
          cases this
      have nDp : D ≠ p := P1.ne nD
      have hz5 : zs.length ≤ 5 := by omega
      have hS2 := k2 _ _ ha nap
      refine ⟨_, rfl, _, rfl, x, a, D, dx, fs, ns, zs.map V.str, rfl, k2 _ _ hx nxp, hf0, hh, SqT.of hS2, l5, SqL.of hD, by rw [List.length_map]; exact hz5, fun u hu => ?_, fun _ t c3 H3 nt nc3 s3 et ec => ?_, fun i v hv hb hno => ?_⟩
      · obtain ⟨z, _, rfl⟩ := List.mem_map.mp hu
        exact .flat _ rfl
      · show tSeq _ _ _ ([some (.ref p), some (.ref x), some (.ref a), some (.ref D), some (.ref t), none, none, none, none, none] : L2.St) _
        have k3 : Keep p H H3 := k2.trans (same_keep s3)
        have P3 := P2.same s3
        have hD3 := s3 _ _ hD
        have hS3 := s3 _ _ hS2
        have aD3 : ∀ u ∈ zs.map V.str, Any K H3 u := fun u hu => by
          obtain ⟨z, _, rfl⟩ := List.mem_map.mp hu
          exact .flat _ rfl
        refine ⟨_, rfl, _, rfl, a, rfl, ⟨_, SqT.of hS3⟩, fun D2 nD2 => lc_it walk_tup (fun i H' => Same H3 H' ∧ H' D2 = some (.lst ((rowOf (ns.take i) (zs.map V.str)).map V.str))) ⟨same_upd nD2, upd_same⟩ (fun _ _ _ h => SqT.of (h.1 _ _ hS3)) ?_ ?_⟩
        · rintro i x0 H4 H5 hi ⟨s1, h2⟩ ⟨rfl, hx0⟩
          obtain ⟨z, hz0, rfl⟩ := map_str_at hx0
          refine ⟨rfl, _, rfl, _, rfl, z, D, zs.map V.str, rfl, rfl, .inl (SqL.of (s1 _ _ hD3)), fun v hv => anySame (aD3 v hv) s1, _, rfl, ?_⟩
          rw [rowOf_succ hz0]
          cases hhh : (zs.map V.str).any (isStr z) with
          | false =>
            refine iteF ⟨s1, ?_⟩
            rw [h2]
            rfl
          | true =>
            refine iteT (B := (fun _ => True) H5) ?_
            refine ⟨_, rfl, _, h2, ?_, fun b' o e => ?_, ?_⟩
            · have e1 := List.length_filter_le (fun z => (zs.map V.str).any (isStr z)) (ns.take i)
              have : sizeLine = 16777216 := by decide +kernel
              rw [List.length_map]
              show (List.filter _ (ns.take i)).length < _
              rw [List.length_take] at e1
              omega
            · rw [upd_ne (ne_of_none e nD2)]
              exact s1 b' o e
            · rw [upd_same, if_pos rfl, List.map_append]
              rfl
        · rintro H4 ⟨s4, h2⟩
          rw [List.length_map, List.take_of_length_le (Nat.le_refl _)] at h2
          refine ⟨D2, _, rfl, .inl ⟨SqL.of h2, fun l nl => ?_⟩⟩
          obtain ⟨H5, hh5, k5, s5, e5⟩ := knewK (o := .tup ((rowOf ns (zs.map V.str)).map V.str)) (k3.trans (same_keep s4)) nl
          rw [hh5]
          clear hh5
          have S5 := s4.trans s5
          refine ⟨line_of (by simp), fun t2 nt2 => ?_⟩
          obtain ⟨H6, hh6, k6, s6, e6⟩ := knewK (o := .tup [.str "row", .ref l]) k5 nt2
          rw [hh6]
          clear hh6
          have S6 := S5.trans s6
          have dpr : ∀ b, H6 b = some (.tup ((rowOf ns (zs.map V.str)).map V.str)) → Dp K H6 (.ref b) (.tuple ((rowOf ns (zs.map V.str)).map PyData.str)) := fun b hb => .tup (SqT.of hb) (dp_strs _)
          have shp : SeqAt.shaped (.tuple [.str "row", .tuple ((rowOf ns (zs.map V.str)).map PyData.str)]) = true := shaped_pair fun z hz => (hn z (rowOf_mem hz)).2
          refine ⟨_, _, .tup (SqT.of (S6 _ _ et)) (.cons (.str _) (.cons (dpr c3 (S6 _ _ ec)) .nil)), .tup (SqT.of e6) (.cons (.str _) (.cons (dpr l (s6 _ _ e5)) .nil)), shp, shp, _, rfl, ?_⟩
          rw [eqv_shaped shp]
          refine iteF ?_
          have P6 := P3.same S6
          have hD6 := S6 _ _ hD3
          have hS6 := S6 _ _ hS3
          have hx6 := k6 _ _ hx nxp
          clear h2 s4 e5 s5 hD3 hS3 aD3 P3 k3 k5 S5 s6 e6 shp dpr et ec s3 S6 nl nt2 nD2 nt nc3 k2 P2 hS2 hD P1 k1 nD
          show tSeq _ _ _ ([some (.ref p), some (.ref x), some (.ref a), some (.ref D), some (.ref t), none, none, none, none, none] : L2.St) _
          obtain ⟨z0, nr, rfl⟩ : ∃ z0 nr, ns = z0 :: nr := by
            cases ns with
            | nil => simp at l1
            | cons z0 nr => exact ⟨z0, nr, rfl⟩
          have hz0 := h8 z0 List.mem_cons_self
          have at0 : atI ((z0 :: nr).map V.str) 0 = some (.str z0) := atI_nat (j := 0) rfl
          have l0 : z0.length ≤ 8 := nm8_len z0 hz0
          have hB : (8 : Nat) + 1 ≤ sizeLine := by decide +kernel
          refine ⟨_, rfl, _, rfl, a, _, 0, _, rfl, rfl, SqT.of hS6, at0, line_of (by show 1 ≤ 1000000; decide), fun t7 nt7 => ?_⟩
          obtain ⟨H7, hh7, k7, s7, e7⟩ := knewK (o := .tup [.str z0]) k6 nt7
          rw [hh7]
          clear hh7
          refine ⟨_, rfl, a, _, 0, _, rfl, rfl, SqT.of (s7 _ _ hS6), at0, line_of (by show 1 ≤ 1000000; decide), fun t8 nt8 => ?_⟩
          obtain ⟨H8, hh8, k8, s8, e8⟩ := knewK (o := .lst [.str z0]) k7 nt8
          rw [hh8]
          clear hh8
          have S8 := s7.trans s8
          refine fun t9 nt9 => ?_
          obtain ⟨H9, hh9, k9, s9, e9⟩ := knewK (o := .dK []) k8 nt9
          rw [hh9]
          clear hh9
          have S9 := S8.trans s9
          refine ⟨_, rfl, a, _, 0, _, rfl, rfl, SqT.of (S9 _ _ hS6), at0, _, _, rfl, rfl, by show z0.length + 1 ≤ sizeLine; omega, line_of (by show 10 ≤ 1000000; decide), fun tm ntm => ?_⟩
          obtain ⟨H10, hh10, k10, s10, e10⟩ := knewK (o := .lst [.str "y", .str "", .str "to", .non, .int 1, .bl true, .ref t7, .ref t8, .ref t9, .str (z0 ++ " ")]) k9 ntm
          rw [hh10]
          clear hh10
          have S10 := S9.trans s10
          have P10 := P6.same S10
          have e7' := s10 _ _ (s9 _ _ (s8 _ _ e7))
          have e8' := s10 _ _ (s9 _ _ e8)
          have e9' := s10 _ _ e9
          have n7 : t7 ≠ p := P6.ne nt7
          have n8 : t8 ≠ p := (P6.same s7).ne nt8
          have n9 : t9 ≠ p := (P6.same S8).ne nt9
          have nm : tm ≠ p := (P6.same S9).ne ntm
          refine ⟨p, c, tm, _, _, rfl, nm, P10, by omega, SqL.of e10, by show 1 ≤ 10; decide, by show 10 ≤ 1000; decide, fun v H11 mem P11 k11 => ?_⟩
          have od := (odd_menu (K := K) hz0 n7 n8 n9 e7' e8' e9' mem).keep k11
          have K11 := k10.trans k11
          have hD11 := k11 _ _ (S10 _ _ hD6) nDp
          have hS11 := k11 _ _ (S10 _ _ hS6) nap
          have hx11 := K11 _ _ hx nxp
          clear mem e7' e8' e9' e7 e8 e9 e10 n7 n8 n9 nm k11 k10 k9 k8 k7 k6 s7 s8 s9 s10 S8 S9 S10 hD6 hS6 hx6 P6 P10 nt7 nt8 nt9 ntm at0
          show tSeq _ _ _ ([some (.ref p), some (.ref x), some (.ref a), some (.ref D), some (.ref t), some v, none, none, none, none] : L2.St) _
          refine ⟨_, rfl, _, rfl, D, _, rfl, .inl (SqL.of hD11), _, _, rfl, rfl, p, c, _, _, rfl, P11, by omega, by omega, by rw [List.length_map]; omega, fun a1 H12 a1a a1b P12 k12 => ?_⟩
          obtain ⟨j, rfl⟩ := Int.eq_ofNat_of_zero_le a1a
          rw [List.length_map] at a1b
          have K12 := K11.trans k12
          have od12 := od.keep k12
          have hD12 := k12 _ _ hD11 nDp
          have hS12 := k12 _ _ hS11 nap
          have hx12 := k12 _ _ hx11 nxp
          clear od hD11 hS11 hx11 P11 K11 k12 a1a
          show tSeq _ _ _ ([some (.ref p), some (.ref x), some (.ref a), some (.ref D), some (.ref t), some v, some (.int (j : Int)), none, none, none] : L2.St) _
          refine ⟨_, rfl, line_of (by show 0 ≤ 1000000; decide), fun q1 nq1 => ?_⟩
          obtain ⟨H13, hh13, k13, s13, e13⟩ := knewK (o := .lst []) K12 nq1
          rw [hh13]
          clear hh13
          refine ⟨line_of (by show 1 ≤ 1000000; decide), fun q2 nq2 => ?_⟩
          obtain ⟨H14, hh14, k14, s14, e14⟩ := knewK (o := .lst [.str "x"]) k13 nq2
          rw [hh14]
          clear hh14
          refine ⟨line_of (by show 1 ≤ 1000000; decide), fun q3 nq3 => ?_⟩
          obtain ⟨H15, hh15, k15, s15, e15⟩ := knewK (o := .lst [.non]) k14 nq3
          rw [hh15]
          clear hh15
          refine ⟨line_of (by show 3 ≤ 1000000; decide), fun q4 nq4 => ?_⟩
          obtain ⟨H16, hh16, k16, s16, e16⟩ := knewK (o := .lst [.ref q1, .ref q2, .ref q3]) k15 nq4
          rw [hh16]
          clear hh16
          have S16 := ((s13.trans s14).trans s15).trans s16
          have P16 := P12.same S16
          have n1 : q1 ≠ p := P12.ne nq1
          have n2 : q2 ≠ p := (P12.same s13).ne nq2
          have n3 : q3 ≠ p := (P12.same (s13.trans s14)).ne nq3
          have n4 : q4 ≠ p := (P12.same ((s13.trans s14).trans s15)).ne nq4
          refine ⟨p, c, q4, _, _, rfl, n4, P16, by omega, SqL.of e16, by show 1 ≤ 3; decide, by show 3 ≤ 1000; decide, fun v2 H17 mem P17 k17 => ?_⟩
          have e13' := k17 _ _ (s16 _ _ (s15 _ _ (s14 _ _ e13))) n1
          have e14' := k17 _ _ (s16 _ _ (s15 _ _ e14)) n2
          have e15' := k17 _ _ (s16 _ _ e15) n3
          obtain ⟨lt, ws, rfl, hlt, hws⟩ : ∃ (lt : Addr) (ws : List V), v2 = .ref lt ∧ H17 lt = some (.lst ws) ∧ (ws = [] ∨ ws = [.str "x"] ∨ ws = [.non]) := by
            simp only [List.mem_cons, List.not_mem_nil, or_false] at mem
            rcases mem with rfl | rfl | rfl
            · exact ⟨_, _, rfl, e13', .inl rfl⟩
            · exact ⟨_, _, rfl, e14', .inr (.inl rfl)⟩
            · exact ⟨_, _, rfl, e15', .inr (.inr rfl)⟩
          have K17 := k16.trans k17
          have od17 := od12.keep ((same_keep S16).trans k17)
          have hD17 := k17 _ _ (S16 _ _ hD12) nDp
          have hS17 := k17 _ _ (S16 _ _ hS12) nap
          have hx17 := k17 _ _ (S16 _ _ hx12) nxp
          clear mem e13' e14' e15' e13 e14 e15 e16 n1 n2 n3 n4 k17 k16 k15 k14 k13 s13 s14 s15 s16 S16 hD12 hS12 hx12 od12 P12 P16 nq1 nq2 nq3 nq4 K12
          show tSeq _ _ _ ([some (.ref p), some (.ref x), some (.ref a), some (.ref D), some (.ref t), some v, some (.int (j : Int)), some (.ref lt), none, none] : L2.St) _
          have bs : (sizeLine : Nat) = 16777216 := by decide +kernel
          have lw : ws.length ≤ 1 := by rcases hws with rfl | rfl | rfl <;> simp
          have ljz : j ≤ zs.length := by omega
          refine ⟨_, rfl, _, rfl, (j : Int), rfl, D, _, rfl, SqL.of hD17, fun s1 ns1 => ?_⟩
          rw [cut_take]
          obtain ⟨H18, hh18, k18, s18, e18⟩ := knewK (o := .lst ((zs.map V.str).take j)) K17 ns1
          rw [hh18]
          clear hh18
          refine ⟨_, rfl, line_of (by show 1 ≤ 1000000; decide), fun s2 ns2 => ?_⟩
          obtain ⟨H19, hh19, k19, s19, e19⟩ := knewK (o := .lst [v]) k18 ns2
          rw [hh19]
          clear hh19
          refine ⟨s1, s2, _, _, rfl, rfl, s19 _ _ e18, e19, ?_, fun s3 ns3 => ?_⟩
          · rw [List.length_take, List.length_map]
            show _ + 1 ≤ _
            omega
          obtain ⟨H20, hh20, k20, s20, e20⟩ := knewK (o := .lst ((zs.map V.str).take j ++ [v])) k19 ns3
          rw [hh20]
          clear hh20
          have S20 := (s18.trans s19).trans s20
          refine ⟨_, rfl, _, rfl, (j : Int), rfl, D, _, rfl, SqL.of (S20 _ _ hD17), fun s4 ns4 => ?_⟩
          rw [cut_drop]
          obtain ⟨H21, hh21, k21, s21, e21⟩ := knewK (o := .lst ((zs.map V.str).drop j)) k20 ns4
          rw [hh21]
          clear hh21
          refine ⟨s3, s4, _, _, rfl, rfl, s21 _ _ e20, e21, ?_, fun s5 ns5 => ?_⟩
          · rw [List.length_append, List.length_take, List.length_drop, List.length_map]
            show _ + 1 + _ ≤ _
            omega
          obtain ⟨H22, hh22, k22, s22, e22⟩ := knewK (o := .lst (((zs.map V.str).take j ++ [v]) ++ (zs.map V.str).drop j)) k21 ns5
          rw [hh22]
          clear hh22
          have S22 := (S20.trans s21).trans s22
          refine ⟨_, rfl, s5, lt, _, _, rfl, rfl, e22, S22 _ _ hlt, ?_, fun s6 ns6 => ?_⟩
          · rw [List.length_append, List.length_append, List.length_take, List.length_drop, List.length_map]
            show _ + 1 + _ + _ ≤ _
            omega
          obtain ⟨H23, hh23, k23, s23, e23⟩ := knewK (o := .lst ((((zs.map V.str).take j ++ [v]) ++ (zs.map V.str).drop j) ++ ws)) k22 ns6
          rw [hh23]
          clear hh23
          refine ⟨(5 : Int), rfl, s6, _, rfl, SqL.of e23, fun G nG => ?_⟩
          rw [show (5 : Int) = ((5 : Nat) : Int) from rfl, cut_take]
          obtain ⟨H24, hh24, k24, s24, e24⟩ := knewK (o := .lst (ysOf (zs.map V.str) ws v j)) k23 nG
          rw [show (((((zs.map V.str).take j ++ [v]) ++ (zs.map V.str).drop j) ++ ws).take 5) = ysOf (zs.map V.str) ws v j from rfl, hh24]
          clear hh24
          have S24 := (S22.trans s23).trans s24
          have P24 := P17.same S24
          have nGp : G ≠ p := (P17.same (S22.trans s23)).ne nG
          have S23 := S22.trans s23
          have od23 := od17.keep (same_keep S23)
          have hS23 := S23 _ _ hS17
          have hx23 := S23 _ _ hx17
          have nGc : G ≠ c := (P17.same S23).nec nG
          have hG0 : H G = none := by
            cases e : H G with
            | none => rfl
            | some o =>
              have := k23 _ _ e nGp
              rw [nG] at this
              cases this
          have hS24 := S24 _ _ hS17
          have hx24 := S24 _ _ hx17
          clear e18 e19 e20 e21 e22 e23 s18 s19 s20 s21 s22 s23 S20 S22 S23 S24 k18 k19 k20 k21 k22 k23 hlt K17 od17 hD17 hS17 hx17 P17 ns1 ns2 ns3 ns4 ns5 ns6
          obtain ⟨dd, ⟨of1, of2, of3, of4⟩, osh, onn⟩ := od23
          have ov := onn (z0 :: nr) h8
          have va := (osh H24 (same_keep s24)).2
          have wt : ∀ u ∈ ws, (∃ z, u = V.str z) ∨ u = .non := fun u hu => by
            rcases hws with rfl | rfl | rfl
            · cases hu
            · exact .inl ⟨_, List.mem_singleton.mp hu⟩
            · exact .inr (List.mem_singleton.mp hu)
          have zt0 : ∀ u ∈ zs.map V.str, hasV u ((z0 :: nr).map V.str) = true := fun u hu => by
            obtain ⟨z, hz, rfl⟩ := List.mem_map.mp hu
            exact hasV_mem (hm z hz)
          show tSeq _ _ _ ([some (.ref p), some (.ref x), some (.ref a), some (.ref G), some (.ref t), some v, some (.int (j : Int)), some (.ref lt), none, none] : L2.St) _
          refine ⟨_, rfl, _, rfl, G, ysOf (zs.map V.str) ws v j, rfl, SqL.of e24, va, fun u hu => ?_, _, rfl, ?_⟩
          · rcases ys_mem hu with h | h | h
            · obtain ⟨z, _, rfl⟩ := List.mem_map.mp h
              exact .inl ⟨z, rfl⟩
            · exact .inr (.inr h)
            · rcases wt u h with h | h
              · exact .inl h
              · exact .inr (.inl h)
          by_cases j4 : j ≤ 4
          · obtain ⟨yi, yt⟩ := ys_low (v := v) (ws := ws) (xs := zs.map V.str) (j := j) (by rw [List.length_map]; exact ljz) j4
            rw [show (ysOf (zs.map V.str) ws v j).any (eqG v) = true from List.any_eq_true.mpr ⟨v, List.mem_of_getElem? yi, eqG_self v⟩]
            refine iteF ?_
            have yl : (ysOf (zs.map V.str) ws v j).length ≤ 5 := by
              unfold ysOf
              rw [List.length_take]
              omega
            have KE0 : Keep p H23 H24 := same_keep s24
            have ya : ∀ u ∈ ysOf (zs.map V.str) ws v j, Any K H24 u := fun u hu => by
              rcases ys_mem hu with h | h | h
              · obtain ⟨z, _, rfl⟩ := List.mem_map.mp h
                exact .flat _ rfl
              · rw [h]
                exact va
              · rcases wt u h with ⟨z, rfl⟩ | rfl
                · exact .flat _ rfl
                · exact .flat _ rfl
            have yz : ∀ u ∈ (ysOf (zs.map V.str) ws v j).take j, hasV u ((z0 :: nr).map V.str) = true := fun u hu => by
              rw [yt] at hu
              exact zt0 u (List.mem_of_mem_take hu)
            refine ⟨_, rfl, _, rfl, x, a, G, dx, fs, z0 :: nr, ysOf (zs.map V.str) ws v j, rfl, hx24, hf0, hh, SqT.of hS24, l5, SqL.of e24, yl, ya, fun hall => ?_, fun i2 v3 hv3 hb3 hn3 => ?_⟩
            · exfalso
              have := hall v (List.mem_of_getElem? yi)
              rw [ov] at this
              cases this
            · obtain ⟨rfl, rfl⟩ := first_odd yi yz ov hv3 hb3 hn3
              refine ⟨dd, fun H' s' => (osh H' (KE0.trans (same_keep s'))).1, of1, of2, of3, fun t5 H' nt5 s5' e5' => ?_⟩
              refine ⟨_, rfl, v3, dd, rfl, (osh H' (KE0.trans (same_keep s5'))).1, of1, of2, of3, line_of (by show 2 ≤ 1000000; decide), fun t6 nt6 => ?_⟩
              have S6' : Same H' (upd H' t6 (.tup [.str "none", .str dd.shown])) := same_upd nt6
              refine ⟨.tuple [.str "none", .str dd.shown], .tuple [.str "none", .str dd.shown], .tup (SqT.of (S6' _ _ e5')) (.cons (.str _) (.cons (.str _) .nil)), .tup (SqT.of upd_same) (.cons (.str _) (.cons (.str _) .nil)), shaped_two of4, shaped_two of4, ?_⟩
              rw [eqv_shaped (shaped_two of4)]
              exact q _ (((P24.same s5').same S6').mono (by omega)) ((k24.trans (same_keep s5')).trans (same_keep S6'))
          · obtain rfl : j = 5 := by omega
            have z5 : zs.length = 5 := by omega
            rw [ys_all (by rw [List.length_map]; exact z5)] at e24 ⊢
            have no : (zs.map V.str).any (eqG v) = false := by
              refine List.any_eq_false.mpr fun u hu => ?_
              obtain ⟨z, hz, rfl⟩ := List.mem_map.mp hu
              have h1 := ov
              unfold hasV at h1
              rw [List.any_map] at h1
              have h2 := List.any_eq_false.mp h1 z (hm z hz)
              exact h2
            rw [no]
            refine iteT ?_
            refine ⟨_, rfl, _, rfl, G, _, 4, 4, rfl, rfl, e24, ixN4 (by rw [List.length_map]; exact z5), ?_⟩
            have KE0 : Keep p H23 (upd H24 G (.lst ((zs.map V.str).set 4 v))) := fun b o e nb => by
              rw [upd_ne (ne_of_none e nG)]
              exact s24 _ _ e
            have KE1 : Keep p H (upd H24 G (.lst ((zs.map V.str).set 4 v))) := fun b o e nb => by
              rw [upd_ne (ne_of_none e hG0)]
              exact k24 _ _ e nb
            have P25 := P24.upd (o := .lst ((zs.map V.str).set 4 v)) nGp nGc
            have hx25 := KE0 _ _ hx23 nxp
            have hS25 := KE0 _ _ hS23 nap
            have e25 : (upd H24 G (.lst ((zs.map V.str).set 4 v))) G = some (.lst ((zs.map V.str).set 4 v)) := upd_same
            have va2 := (osh _ KE0).2
            generalize upd H24 G (.lst ((zs.map V.str).set 4 v)) = H25 at KE0 KE1 P25 hx25 hS25 e25 va2 ⊢
            have wl : ((zs.map V.str).set 4 v).length ≤ 5 := by
              rw [List.length_set, List.length_map]
              omega
            have wi : ((zs.map V.str).set 4 v)[4]? = some v := by
              rw [List.getElem?_set_self (by rw [List.length_map]; omega)]
            have wa : ∀ u ∈ (zs.map V.str).set 4 v, Any K H25 u := fun u hu => by
              rcases List.mem_or_eq_of_mem_set hu with h | h
              · obtain ⟨z, _, rfl⟩ := List.mem_map.mp h
                exact .flat _ rfl
              · rw [h]
                exact va2
            have wz : ∀ u ∈ ((zs.map V.str).set 4 v).take 4, hasV u ((z0 :: nr).map V.str) = true := fun u hu => by
              rw [List.take_set_of_le (by omega)] at hu
              exact zt0 u (List.mem_of_mem_take hu)
            refine ⟨_, rfl, _, rfl, x, a, G, dx, fs, z0 :: nr, (zs.map V.str).set 4 v, rfl, hx25, hf0, hh, SqT.of hS25, l5, SqL.of e25, wl, wa, fun hall => ?_, fun i2 v3 hv3 hb3 hn3 => ?_⟩
            · exfalso
              have := hall v (List.mem_of_getElem? wi)
              rw [ov] at this
              cases this
            · obtain ⟨rfl, rfl⟩ := first_odd wi wz ov hv3 hb3 hn3
              refine ⟨dd, fun H' s' => (osh H' (KE0.trans (same_keep s'))).1, of1, of2, of3, fun t5 H' nt5 s5' e5' => ?_⟩
              refine ⟨_, rfl, v3, dd, rfl, (osh H' (KE0.trans (same_keep s5'))).1, of1, of2, of3, line_of (by show 2 ≤ 1000000; decide), fun t6 nt6 => ?_⟩
              have S6' : Same H' (upd H' t6 (.tup [.str "none", .str dd.shown])) := same_upd nt6
              refine ⟨.tuple [.str "none", .str dd.shown], .tuple [.str "none", .str dd.shown], .tup (SqT.of (S6' _ _ e5')) (.cons (.str _) (.cons (.str _) .nil)), .tup (SqT.of upd_same) (.cons (.str _) (.cons (.str _) .nil)), shaped_two of4, shaped_two of4, ?_⟩
              rw [eqv_shaped (shaped_two of4)]
              exact q _ (((P25.same s5').same S6').mono (by omega)) ((KE1.trans (same_keep s5')).trans (same_keep S6'))
      · exfalso
        obtain ⟨z, hz1, rfl⟩ := List.mem_map.mp (List.mem_of_getElem? hv)
        rw [hasV_mem (hm z hz1)] at hno
        cases hno
end
def spLaw (K : PySem.W.Frag) : Sp := fun vs H Q _ => ∃ (a : Addr) (ns : List Int), vs = [.ref a] ∧ SqL K H a (ns.map V.int) ∧ ns.length ≤ 63 ∧ ∀ H', Q (.bl true) H'
theorem any_txt (z : Str) (ys : List Str) : (ys.map V.str).any (isStr z) = decide (z ∈ ys) := by
  rw [List.any_map]
  by_cases h : z ∈ ys
  · rw [decide_eq_true h]
    exact List.any_eq_true.mpr ⟨z, h, beq_self_eq_true z⟩
  · rw [decide_eq_false h]
    refine List.any_eq_false.mpr fun y hy => ?_
    have : ¬ y = z := fun e => h (e ▸ hy)
    show ¬ (y == z) = true
    simpa using this
theorem filter_sub (n : Nat) : ∀ (ns : List Str) (i : Nat), ns.Nodup → ns.filter (fun z => decide (z ∈ subOf n ns i)) = subOf n ns i
  | [], i, _ => rfl
  | z :: r, i, nd => by
    have nd' := List.nodup_cons.mp nd
    have ih := filter_sub n r (i + 1) nd'.2
    have hr : r.filter (fun y => decide (y ∈ subOf n (z :: r) i)) = r.filter (fun y => decide (y ∈ subOf n r (i + 1))) := by
      refine List.filter_congr fun y hy => ?_
      have ne : y ≠ z := fun q => nd'.1 (q ▸ hy)
      rw [subOf_cons]
      split
      · simp [ne]
      · rfl
    rw [List.filter_cons, hr, ih, subOf_cons]
    by_cases hb : n / 2 ^ i % 2 = 1
    · rw [if_pos hb, if_pos (decide_eq_true List.mem_cons_self)]
    · rw [if_neg hb, if_neg]
      intro h
      exact nd'.1 (subOf_mem (of_decide_eq_true h))
theorem rowOf_sub {n : Nat} {ns : List Str} (nd : ns.Nodup) : rowOf ns ((subOf n ns 0).map V.str) = subOf n ns 0 := by
  unfold rowOf
  rw [show (fun z => ((subOf n ns 0).map V.str).any (isStr z)) = (fun z => decide (z ∈ subOf n ns 0)) from funext fun z => any_txt z _]
  exact filter_sub n ns 0 nd
theorem num_sub {n : Nat} {ns : List Str} (nd : ns.Nodup) (h : n < 2 ^ ns.length) : numOf ns ((subOf n ns 0).map V.str) = (n : Int) := by
  unfold numOf
  rw [bits_sum _ n ns 0 nd fun z _ => any_txt z _, Nat.pow_zero, Nat.div_one, Nat.mul_one, Nat.mod_eq_of_lt h]
theorem good_sub {K : PySem.W.Frag} {H : Hp} {ns : List Str} {b : Addr} {n : Nat} (hn : Nms ns) (nd : ns.Nodup) (h : H b = some (.tup ((subOf n ns 0).map V.str))) : Good K H ns b ((subOf n ns 0).map V.str) := by
  have sh : SeqAt.shaped (.tuple ((subOf n ns 0).map PyData.str)) = true := shaped_strs _ fun z hz => (hn z (subOf_mem hz)).2
  refine ⟨h, fun u hu => ?_, (subOf n ns 0).map PyData.str, fun _ _ => dp_strs _, sh, ?_⟩
  · obtain ⟨z, _, rfl⟩ := List.mem_map.mp hu
    exact .flat _ rfl
  · rw [rowOf_sub nd]
    exact eqv_shaped sh
/-- the number of the row that stands at an address -/
def numAt (H : Hp) (ns : List Str) (b : Addr) : Int := match H b with
  | some (.tup xs) => numOf ns xs
  | _ => 0
theorem numAt_of {H : Hp} {ns : List Str} {b : Addr} {xs : List V} (h : H b = some (.tup xs)) : numAt H ns b = numOf ns xs := by
  unfold numAt
  rw [h]
theorem tab_vals (num : Addr → Int) : ∀ (bs : List Addr) (t : List (Key × V)), (∀ p ∈ t, ∃ b, p.2 = V.ref b ∧ (b ∈ bs ∨ ∃ q ∈ t, q.2 = V.ref b)) → ∀ p ∈ bs.foldl (fun t b => putK t (Sum.inl (num b)) (V.ref b)) t, (∃ b ∈ bs, p.2 = V.ref b) ∨ ∃ q ∈ t, p.2 = q.2
  | [], t, _, p, hp => .inr ⟨p, hp, rfl⟩
  | b :: r, t, ht, p, hp => by
    have key : ∀ q ∈ putK t (Sum.inl (num b)) (V.ref b), q.2 = V.ref b ∨ ∃ q' ∈ t, q.2 = q'.2 := fun q hq => by
      unfold putK at hq
      split at hq
      · obtain ⟨q', hq', rfl⟩ := List.mem_map.mp hq
        split
        · exact .inl rfl
        · exact .inr ⟨q', hq', rfl⟩
      · rcases List.mem_append.mp hq with hq | hq
        · exact .inr ⟨q, hq, rfl⟩
        · rw [List.mem_singleton.mp hq]
          exact .inl rfl
    have hq : ∀ q ∈ putK t (Sum.inl (num b)) (V.ref b), ∃ c, q.2 = V.ref c ∧ (c ∈ r ∨ ∃ q' ∈ putK t (Sum.inl (num b)) (V.ref b), q'.2 = V.ref c) := fun q hq => by
      rcases key q hq with h | ⟨q', h1, h2⟩
      · exact ⟨b, h, .inr ⟨q, hq, h⟩⟩
      · obtain ⟨c, e, _⟩ := ht q' h1
        exact ⟨c, h2.trans e, .inr ⟨q, hq, h2.trans e⟩⟩
    rcases tab_vals num r _ hq p hp with ⟨c, hc, e⟩ | ⟨q, h1, h2⟩
    · exact .inl ⟨c, List.mem_cons_of_mem _ hc, e⟩
    · rcases key q h1 with h | ⟨q', h3, h4⟩
      · exact .inl ⟨b, List.mem_cons_self, h2.trans h⟩
      · exact .inr ⟨q', h3, h2.trans h4⟩
theorem poss_mem {num : Addr → Int} {bs : List Addr} {ys : List Int} {v : V} (h : v ∈ possOf num bs ys) : v = .non ∨ ∃ b ∈ bs, v = .ref b := by
  obtain ⟨y, _, rfl⟩ := List.mem_map.mp h
  cases e : valV (tabOf num bs) (Sum.inl y) with
  | none => exact .inl rfl
  | some w =>
    have : ∃ p ∈ tabOf num bs, p.2 = w := by
      unfold valV at e
      cases f : (tabOf num bs).find? fun p => decide (p.1 = Sum.inl y) with
      | none => rw [f] at e; cases e
      | some p =>
        rw [f] at e
        exact ⟨p, List.mem_of_find?_eq_some f, Option.some.inj e⟩
    obtain ⟨p, hp, rfl⟩ := this
    rcases tab_vals num bs [] (fun _ h => by cases h) p hp with ⟨b, hb, e2⟩ | ⟨_, h, _⟩
    · exact .inr ⟨b, hb, e2⟩
    · cases h
theorem inl_inj {ks ls : List Int} : ks.map (Sum.inl : Int → Key) = ls.map Sum.inl → ks = ls := by
  intro h
  have := congrArg (List.map fun k : Key => match k with | .inl i => i | .inr _ => 0) h
  simpa [List.map_map, Function.comp_def] using this
theorem sorted_one {ks ys zs : List Int} (h1 : ys.Perm ks) (h2 : zs.Perm ks) (s1 : ys.Pairwise (· ≤ ·)) (s2 : zs.Pairwise (· ≤ ·)) : ys = zs :=
  List.Perm.eq_of_pairwise (fun a b _ _ h1 h2 => Int.le_antisymm h1 h2) s1 s2 (h1.trans h2.symm)
/-- things that can be compared as data -/
theorem dp_things {K : PySem.W.Frag} {H : Hp} : ∀ (xs : List V), (∀ v ∈ xs, ∃ d, Dp K H v d ∧ d.canLay0 = true ∧ d.depth ≤ 3) → ∃ ds, DpAll K H xs ds ∧ PyData.canLayAll0 ds = true ∧ PyData.depthAll ds ≤ 3
  | [], _ => ⟨[], .nil, by simp [PyData.canLayAll0], by simp [PyData.depthAll]⟩
  | x :: r, h => by
    obtain ⟨d, h1, h2, h3⟩ := h x List.mem_cons_self
    obtain ⟨ds, g1, g2, g3⟩ := dp_things r fun v hv => h v (List.mem_cons_of_mem _ hv)
    exact ⟨d :: ds, .cons h1 g1, by simp [PyData.canLayAll0, h2, g2], by simp only [PyData.depthAll]; omega⟩
theorem eqvAll_len : ∀ (xs ys : List PyData), PyData.eqvAll xs ys = true → xs.length = ys.length
  | [], [], _ => rfl
  | [], _ :: _, h => by simp [PyData.eqvAll] at h
  | _ :: _, [], h => by simp [PyData.eqvAll] at h
  | x :: xs, y :: ys, h => by
    simp only [PyData.eqvAll, Bool.and_eq_true] at h
    rw [List.length_cons, List.length_cons, eqvAll_len xs ys h.2]
theorem eqv_len {xs ys : List PyData} (h : xs.length ≠ ys.length) : PyData.eqv (.tuple xs) (.tuple ys) = false := by
  cases e : PyData.eqv (.tuple xs) (.tuple ys) with
  | false => rfl
  | true =>
    exact absurd (eqvAll_len xs ys (by simpa only [PyData.eqv] using e)) h
theorem cpow_of {n : Nat} (h : n ≤ 5) : CPow 1 (n : Int) := ⟨by omega, by omega, by decide⟩
/-- what is no row of these conditions, and what repr tells of it -/
def Bad (K : PySem.W.Frag) (p : Addr) (H : Hp) (ns : List Str) (v : V) : Prop := ∃ d : PyData, (d.showable = true ∧ d.depth ≤ 60 ∧ d.shown.length ≤ sizeLine) ∧ ∀ H', Keep p H H' → RowV K H' ns v false ∧ ShowAt K H' v d
theorem Bad.keep {K : PySem.W.Frag} {p : Addr} {H H' : Hp} {ns : List Str} {v : V} (b : Bad K p H ns v) (k : Keep p H H') : Bad K p H' ns v := by
  obtain ⟨d, f, s⟩ := b
  exact ⟨d, f, fun H2 k2 => s H2 (k.trans k2)⟩
theorem fineD3 {d : PyData} (h : fineD d = true) : d.showable = true ∧ d.depth ≤ 60 ∧ d.shown.length ≤ sizeLine := ⟨(fineD_ok h).1, (fineD_ok h).2.1, (fineD_ok h).2.2.1⟩
theorem bad_str {K : PySem.W.Frag} {p : Addr} {H : Hp} {ns : List Str} {z : Str} (h : fineD (.str z) = true) : Bad K p H ns (.str z) :=
  ⟨.str z, fineD3 h, fun H' _ => ⟨.no (.base (.str _)) (kit_ty (r := false) (by decide +kernel)), .inl (.str _)⟩⟩
theorem bad_int {K : PySem.W.Frag} {p : Addr} {H : Hp} {ns : List Str} {i : Int} (h : fineD (.int i) = true) : Bad K p H ns (.int i) :=
  ⟨.int i, fineD3 h, fun H' _ => ⟨.no (.base (.int _)) (kit_ty (r := false) (by decide +kernel)), .inl (.int _)⟩⟩
theorem bad_non {K : PySem.W.Frag} {p : Addr} {H : Hp} {ns : List Str} : Bad K p H ns .non :=
  ⟨.none, fineD3 (by decide +kernel), fun H' _ => ⟨.no (.base .non) (kit_ty (r := false) (by decide +kernel)), .inl .non⟩⟩
theorem bad_true {K : PySem.W.Frag} {p : Addr} {H : Hp} {ns : List Str} : Bad K p H ns (.bl true) :=
  ⟨.bool true, fineD3 (by decide +kernel), fun H' _ => ⟨.no (.base (.bl _)) (kit_ty (r := false) (by decide +kernel)), .inl (.bl _)⟩⟩
theorem bad_lst {K : PySem.W.Frag} {p l : Addr} {H : Hp} {ns : List Str} {xs : List V} {ds : List PyData} (h : H l = some (.lst xs)) (n : l ≠ p) (dp : ∀ H', DpAll K H' xs ds) (f : fineD (.list ds) = true) : Bad K p H ns (.ref l) :=
  ⟨.list ds, fineD3 f, fun H' k => ⟨.no (.base (.lst (k _ _ h n))) (kit_ty (r := false) (by decide +kernel)), .inl (.lst (SqL.of (k _ _ h n)) (dp H'))⟩⟩
theorem bad_dict {K : PySem.W.Frag} {p l : Addr} {H : Hp} {ns : List Str} {kvs : List (Key × V)} {ds : List (PyData × PyData)} (h : H l = some (.dK kvs)) (n : l ≠ p) (fk : FlatKv kvs ds) (f : fineD (.dict ds) = true) : Bad K p H ns (.ref l) :=
  ⟨.dict ds, fineD3 f, fun H' k => ⟨.no (.base (.dK (k _ _ h n))) (kit_ty (r := false) (by decide +kernel)), .inr ⟨_, _, _, rfl, k _ _ h n, rfl, fk⟩⟩⟩
theorem bad_tup {K : PySem.W.Frag} {p l : Addr} {H : Hp} {ns : List Str} {xs : List V} {ds : List PyData} (h : H l = some (.tup xs)) (n : l ≠ p) (an : ∀ H', Keep p H H' → ∀ v ∈ xs, Any K H' v) (dp : ∀ H', Keep p H H' → DpAll K H' xs ds) (sh : SeqAt.shaped (.tuple ds) = true) (f : (PyData.tuple ds).showable = true ∧ (PyData.tuple ds).depth ≤ 60 ∧ (PyData.tuple ds).shown.length ≤ sizeLine)
    (e : PyData.eqv (.tuple ds) (.tuple ((rowOf ns xs).map PyData.str)) = false) : Bad K p H ns (.ref l) := by
  refine ⟨.tuple ds, f, fun H' k => ⟨?_, .inl (.tup (SqT.of (k _ _ h n)) (dp H' k))⟩⟩
  have z := RowV.tup (ns := ns) (k _ _ h n) (an H' k) (fun H2 s2 => dp H2 (k.trans (same_keep s2))) sh
  rw [e] at z
  exact z
theorem rowOf_none {ns : List Str} {xs : List V} (h : ∀ z ∈ ns, xs.any (isStr z) = false) : rowOf ns xs = [] := by
  unfold rowOf
  exact List.filter_eq_nil_iff.mpr fun z hz => by rw [h z hz]; exact Bool.false_ne_true
/-- only one name among them: at most one in the row -/
theorem rowOf_one {nm : Str} {xs : List V} (h : ∀ z, xs.any (isStr z) = true → z = nm) : ∀ {ns : List Str}, ns.Nodup → (rowOf ns xs).length ≤ 1
  | [], _ => Nat.zero_le _
  | z :: r, nd => by
    have nd' := List.nodup_cons.mp nd
    have ih := rowOf_one h nd'.2
    unfold rowOf at ih ⊢
    rw [List.filter_cons]
    split
    · rename_i hz
      have ez := h z hz
      have : r.filter (fun z => xs.any (isStr z)) = [] := by
        refine List.filter_eq_nil_iff.mpr fun y hy hy2 => ?_
        have := h y hy2
        exact nd'.1 (by rw [ez, ← this]; exact hy)
      rw [this]
      exact Nat.le_refl 1
    · exact ih
theorem nm8_fine : ∀ z ∈ NM8, fineD (.str z) = true ∧ fineD (.tuple [.str z, .str z]) = true ∧ fineD (.list [.str z]) = true ∧ fineD (.dict [(.str z, .int 1)]) = true ∧ fineD (.tuple [.str z, .int 1]) = true ∧ (PyData.str z).shown.length ≤ 20 ∧ SeqAt.shaped (.tuple [.str z, .str z]) = true ∧ SeqAt.shaped (.tuple [.str z, .int 1]) = true := by decide +kernel
theorem int32_fine : ∀ n < 32, fineD (.int (n : Nat)) = true := by decide +kernel
theorem nm8_two : ∀ y ∈ NM8, ∀ z ∈ NM8, fineD (.list [.str y, .str z]) = true := by decide +kernel
theorem strs_show : ∀ zs : List Str, (∀ z ∈ zs, z ∈ NM8) → PyData.showableAll (zs.map PyData.str) = true ∧ ((PyData.shownAll (zs.map PyData.str)).map fun s => s.length).sum ≤ 20 * zs.length ∧ (PyData.shownAll (zs.map PyData.str)).length = zs.length
  | [], _ => ⟨by simp [PyData.showableAll], by simp [PyData.shownAll], by simp [PyData.shownAll]⟩
  | z :: r, h => by
    obtain ⟨h1, h2, h3⟩ := strs_show r fun y hy => h y (List.mem_cons_of_mem _ hy)
    have f := nm8_fine z (h z List.mem_cons_self)
    have f1 := (fineD_ok f.1).1
    have f2 := f.2.2.2.2.2.1
    refine ⟨by simp [PyData.showableAll, f1, h1], ?_, by simp [PyData.shownAll, h3]⟩
    simp only [List.map_cons, PyData.shownAll, List.sum_cons, List.length_cons]
    omega
theorem strs_fine (zs : List Str) (h : ∀ z ∈ zs, z ∈ NM8) (l : zs.length ≤ 5) : (PyData.tuple (zs.map PyData.str)).showable = true ∧ (PyData.tuple (zs.map PyData.str)).depth ≤ 60 ∧ (PyData.tuple (zs.map PyData.str)).shown.length ≤ sizeLine := by
  obtain ⟨h1, h2, h3⟩ := strs_show zs h
  have hd := depth_strs zs
  have hs : sizeLine = 16777216 := by decide +kernel
  refine ⟨by simpa [PyData.showable] using h1, by simp only [PyData.depth]; omega, ?_⟩
  have e := tupleText_len_le (PyData.shownAll (zs.map PyData.str))
  simp only [PyData.shown] at e ⊢
  omega
/-- a row turned about is none -/
theorem rev_ne {ns : List Str} (nd : ns.Nodup) (h : 1 < ns.length) : ns.reverse ≠ ns := by
  intro e
  have h1 : ns.reverse[0]? = ns[0]? := by rw [e]
  rw [List.getElem?_reverse (by omega), List.getElem?_eq_getElem (by omega), List.getElem?_eq_getElem (by omega)] at h1
  have := (List.getElem_inj (h₀ := by omega) (h₁ := by omega) nd).mp (Option.some.inj h1)
  omega
theorem rowOf_perm {ns ms : List Str} (h : ∀ z ∈ ns, z ∈ ms) : rowOf ns (ms.map V.str) = ns := by
  unfold rowOf
  exact List.filter_eq_self.mpr fun z hz => by rw [any_txt]; exact decide_eq_true (h z hz)
theorem eqv_strs : ∀ (xs ys : List Str), PyData.eqvAll (xs.map PyData.str) (ys.map PyData.str) = true → xs = ys
  | [], [], _ => rfl
  | [], _ :: _, h => by simp [PyData.eqvAll] at h
  | _ :: _, [], h => by simp [PyData.eqvAll] at h
  | x :: xs, y :: ys, h => by
    simp only [List.map_cons, PyData.eqvAll, Bool.and_eq_true] at h
    have e1 : x = y := by simpa [PyData.eqv] using h.1
    rw [e1, eqv_strs xs ys h.2]
theorem rev_bad {ns : List Str} (nd : ns.Nodup) (h : 1 < ns.length) : PyData.eqv (.tuple (ns.reverse.map PyData.str)) (.tuple ((rowOf ns (ns.reverse.map V.str)).map PyData.str)) = false := by
  rw [rowOf_perm fun z hz => List.mem_reverse.mpr hz]
  cases e : PyData.eqv (.tuple (ns.reverse.map PyData.str)) (.tuple (ns.map PyData.str)) with
  | false => rfl
  | true =>
    exact absurd (eqv_strs _ _ (by simpa only [PyData.eqv] using e)) (rev_ne nd h)
theorem knew2 {H Hk : Hp} {l : Addr} {o o2 : HO} (S : Same H Hk) (n : Hk l = none) : ∃ H', upd (upd Hk l o) l o2 = H' ∧ Same H H' ∧ Same Hk H' ∧ H' l = some o2 := by
  have s : Same Hk (upd (upd Hk l o) l o2) := fun b u e => by
    rw [upd_ne (ne_of_none e n), upd_ne (ne_of_none e n)]
    exact e
  exact ⟨_, rfl, S.trans s, s, upd_same⟩
theorem bad_menu {K : PySem.W.Frag} {p t1 t2 t3 t4 t5 t6 t7 t8 t9 t11 : Addr} {G : Hp} {ks : List Str} {nm : Str} {zn : Int} (h8 : ∀ z ∈ ks, z ∈ NM8) (nd : ks.Nodup) (nmk : nm ∈ ks) (zn0 : 0 ≤ zn) (zn1 : zn < 32)
    (r1 : G t1 = some (.tup [.str "y"])) (r2 : G t2 = some (.tup [.str nm, .str nm])) (r3 : G t3 = some (.lst [.str nm])) (r4 : G t4 = some (.dK [(Sum.inr nm, .int 1)])) (r5 : G t5 = some (.tup [.str nm, .int 1])) (r6 : G t6 = some (.tup [])) (r7 : G t7 = some (.tup [.ref t6])) (r8 : G t8 = some (.dK [])) (r9 : G t9 = some (.lst [])) (r11 : G t11 = some (.tup [.str "to"]))
    (n1 : t1 ≠ p) (n2 : t2 ≠ p) (n3 : t3 ≠ p) (n4 : t4 ≠ p) (n5 : t5 ≠ p) (n6 : t6 ≠ p) (n7 : t7 ≠ p) (n8 : t8 ≠ p) (n9 : t9 ≠ p) (n11 : t11 ≠ p) :
    ∀ v ∈ [V.ref t1, .ref t2, .ref t3, .str nm, .int zn, .non, .bl true, .ref t4, .ref t5, .ref t7, .ref t8, .ref t9, .str "", .ref t11], Bad K p G ks v := by
  obtain ⟨f1, f2, f3, f4, f5, _, f6, f7⟩ := nm8_fine nm (h8 nm nmk)
  have flat1 : ∀ {z : Str} (H' : Hp), ∀ v ∈ [V.str z], Any K H' v := fun H' v hv => by
    rw [List.mem_singleton.mp hv]
    exact .flat _ rfl
  have one : ∀ {xs : List V} {ds : List PyData}, (∀ z, xs.any (isStr z) = true → z = nm) → ds.length = 2 → PyData.eqv (.tuple ds) (.tuple ((rowOf ks xs).map PyData.str)) = false := fun h e => eqv_len (by
    have := rowOf_one h nd
    rw [List.length_map]
    omega)
  have none1 : ∀ {xs : List V} {d : PyData}, (∀ z ∈ NM8, xs.any (isStr z) = false) → PyData.eqv (.tuple [d]) (.tuple ((rowOf ks xs).map PyData.str)) = false := fun h => eqv_len (by
    rw [rowOf_none fun z hz => h z (h8 z hz)]
    show 1 ≠ 0
    decide)
  intro v mem
  simp only [List.mem_cons, List.not_mem_nil, or_false] at mem
  rcases mem with rfl | rfl | rfl | rfl | rfl | rfl | rfl | rfl | rfl | rfl | rfl | rfl | rfl | rfl
  · exact bad_tup r1 n1 (fun H' _ => flat1 H') (fun _ _ => .cons (.str _) .nil) (by decide +kernel) (fineD3 (by decide +kernel)) (none1 (by decide +kernel))
  · refine bad_tup r2 n2 (fun H' _ v hv => ?_) (fun _ _ => .cons (.str _) (.cons (.str _) .nil)) f6 (fineD3 f2) (one (fun z hz => ?_) rfl)
    · simp only [List.mem_cons, List.not_mem_nil, or_false, or_self] at hv
      rw [hv]
      exact .flat _ rfl
    · obtain ⟨x, hx, h1⟩ := List.any_eq_true.mp hz
      simp only [List.mem_cons, List.not_mem_nil, or_false, or_self] at hx
      rw [hx] at h1
      exact (eq_of_beq h1).symm
  · exact bad_lst r3 n3 (fun _ => .cons (.str _) .nil) f3
  · exact bad_str f1
  · obtain ⟨m, rfl⟩ := Int.eq_ofNat_of_zero_le zn0
    exact bad_int (int32_fine m (by omega))
  · exact bad_non
  · exact bad_true
  · exact bad_dict r4 n4 (.cons ⟨rfl, .int 1⟩ .nil) f4
  · refine bad_tup r5 n5 (fun H' _ v hv => ?_) (fun _ _ => .cons (.str _) (.cons (.int _) .nil)) f7 (fineD3 f5) (one (fun z hz => ?_) rfl)
    · simp only [List.mem_cons, List.not_mem_nil, or_false] at hv
      rcases hv with rfl | rfl
      · exact .flat _ rfl
      · exact .flat _ rfl
    · obtain ⟨x, hx, h1⟩ := List.any_eq_true.mp hz
      simp only [List.mem_cons, List.not_mem_nil, or_false] at hx
      rcases hx with rfl | rfl
      · exact (eq_of_beq h1).symm
      · exact absurd h1 Bool.false_ne_true
  · refine bad_tup r7 n7 (fun H' k v hv => ?_) (fun H' k => .cons (.tup (SqT.of (k _ _ r6 n6)) .nil) .nil) (by decide +kernel) (fineD3 (by decide +kernel)) (none1 (fun z _ => rfl))
    rw [List.mem_singleton.mp hv]
    exact .tup (SqT.of (k _ _ r6 n6))
  · exact bad_dict r8 n8 .nil (by decide +kernel)
  · exact bad_lst r9 n9 (fun _ => .nil) (by decide +kernel)
  · exact bad_str (by decide +kernel)
  · exact bad_tup r11 n11 (fun H' _ => flat1 H') (fun _ _ => .cons (.str _) .nil) (by decide +kernel) (fineD3 (by decide +kernel)) (none1 (by decide +kernel))
theorem good_keep {K : PySem.W.Frag} {H H' : Hp} {p : Addr} {ks : List Str} {bs : List Addr} {num : Addr → Int} (hn : Nms ks) (nd : ks.Nodup) (hb : ∀ b ∈ bs, b ≠ p ∧ ∃ m, H b = some (.tup ((subOf m ks 0).map V.str))) (hg : ∀ b ∈ bs, ∃ xs, Good K H ks b xs ∧ num b = numOf ks xs) (k : Keep p H H') :
    ∀ b ∈ bs, ∃ xs, Good K H' ks b xs ∧ num b = numOf ks xs := fun b h => by
  obtain ⟨n1, m, hm⟩ := hb b h
  obtain ⟨xs, g1, g2⟩ := hg b h
  have e2 : xs = (subOf m ks 0).map V.str := by
    have e3 := hm.symm.trans g1.1
    injection e3 with e3
    injection e3 with e3
    exact e3.symm
  exact ⟨_, good_sub hn nd (k _ _ hm n1), by rw [g2, e2]⟩
section
variable {P : Program} {w : World} {K : PySem.W.Frag} {mg : Str → Option Value} {base : Heap}
theorem ok_law (T : Txt K mg) : FnG P w K mg base 9 T.f_law T.fd_law ["_law_script"] (spLaw K) := by
  have G__law_pen := ok__law_pen (P := P) (w := w) (base := base) T
  have G__law_draw := ok__law_draw (P := P) (w := w) (base := base) T
  have G__law_pick := ok__law_pick (P := P) (w := w) (base := base) T
  have G__law_conditions := ok__law_conditions (P := P) (w := w) (base := base) T
  have G__law_row := ok__law_row (P := P) (w := w) (base := base) T
  have G_Rows_of := ok_Rows_of (P := P) (w := w) (base := base) T
  have G_Rows_number := ok_Rows_number (P := P) (w := w) (base := base) T
  have G__law_refused := ok__law_refused (P := P) (w := w) (base := base) T
  have G__law_named := ok__law_named (P := P) (w := w) (base := base) T
  have nd := sc_law.nd
  refine okG T.F_law sc_law (fun vs H Q E h => ?_) (fun cdv A outer s H vs Q E calm hr h => ?_)
  · obtain ⟨a, ns, rfl, _⟩ := h; rfl
  · obtain ⟨a, ns, rfl, hS, hl, q⟩ := h
    have hu := hu_of hr
    refine ⟨_, (pss_cons (ps_set (i := 1) nd rfl (Or.inr rfl) (pe_call (G__law_pen) (hr.mono (by decide)) (by rfl) T.m__law_pen T.F__law_pen.kp T.b__law_pen .nil pass0 (pa_cons (pv 0) pa_nil)))
        (pss_cons (ps_for PassesOwn.never rfl (pi_range1 rfl T.n_range (pa_cons pe_int pa_nil)) (pg_name (i := 2) nd rfl (Or.inl rfl)) (pss_cons (ps_set (i := 3) nd rfl (Or.inr rfl) (pe_call (G__law_conditions) (hr.mono (by decide)) (by rfl) T.m__law_conditions T.F__law_conditions.kp T.b__law_conditions .nil pass0 (pa_cons (pv 1) (pa_cons pe_int pa_nil))))
        (pss_cons (ps_set (i := 4) nd rfl (Or.inr rfl) (pe_op op_shl pe_int (pe_callB call_len_seq (by rfl) T.n_len (by decide +kernel) (pa_cons (pv 3) pa_nil))))
        (pss_cons (ps_setLc (i := 5) (own := [("_law_k", 11)]) (g := gName 11) rfl nd rfl rfl (sw_true rfl rfl rfl (by decide +kernel)) (pi_range1 rfl T.n_range (pa_cons (pe_op op_add pe_int (pe_call (G__law_draw) (hr.mono (by decide)) (by rfl) T.m__law_draw T.F__law_draw.kp T.b__law_draw .nil pass0 (pa_cons (pv 1) (pa_cons pe_int pa_nil)))) pa_nil)) (blkOk_by (own := [("_law_k", 11)]) (N := N_law) (sc := defScope s_law) (by decide +kernel)) (fun _ _ _ _ _ => pg_name (i := 11) nd rfl (Or.inl rfl)) (fun _ _ _ _ _ => pts_nil) (fun _ _ _ _ _ => (pe_call (G__law_row) (hr.mono (by decide)) (by rfl) T.m__law_row T.F__law_row.kp T.b__law_row .nil pass0 (pa_cons (pv 3) (pa_cons (pe_call (G__law_draw) (hr.mono (by decide)) (by rfl) T.m__law_draw T.F__law_draw.kp T.b__law_draw .nil pass0 (pa_cons (pv 1) (pa_cons (pv 4) pa_nil))) pa_nil)))))
        (pss_cons (ps_set (i := 6) nd rfl (Or.inl rfl) (ClX.pe_cmeth (pe_glob (v := .ref T.c_Rows) (by rfl) T.m_Rows rfl) T.cr_Rows T.cm_of (G_Rows_of.raw T.b_Rows_of .nil) (hr.mono (by decide)) pass0 (pa_cons (pv 3) (pa_cons (pv 5) pa_nil))))
        (pss_cons (ps_for PassesOwn.never rfl (pi_range1 rfl T.n_range (pa_cons (pv 4) pa_nil)) (pg_name (i := 7) nd rfl (Or.inl rfl)) (pss_cons (ps_set (i := 8) nd rfl (Or.inl rfl) (pe_methR (pv 6) T.k_Rows T.mt_number (G_Rows_number.raw T.b_Rows_number .nil) (hr.mono (by decide)) (passes_call takesF (fun _ _ _ _ h => h)) (pa_cons (pe_call (G__law_row) (hr.mono (by decide)) (by rfl) T.m__law_row T.F__law_row.kp T.b__law_row .nil pass0 (pa_cons (pv 3) (pa_cons (pv 7) pa_nil))) pa_nil)))
        (pss_one (ps_if (PW.pt (pw_or (pt_not (pt_val (pe_callB call_isi (by rfl) T.n_isinstance (by decide +kernel) (pa_cons (pv 8) (pa_cons (pe_bltn (v := .ty "int") (u := .type "int") (by rfl) T.n_int (by decide +kernel) rfl) pa_nil))))) (pw_or (pt_val (pe_callB call_isi (by rfl) T.n_isinstance (by decide +kernel) (pa_cons (pv 8) (pa_cons (pe_bltn (v := .ty "bool") (u := .type "bool") (by rfl) T.n_bool (by decide +kernel) rfl) pa_nil)))) (pw_or1 (pt_cmpR op_ne (pv 8) (pv 7) (nomark _)))))) (pss_one (ps_ret pe_bl)) pss_nil))))
        (pss_cons (ps_set (i := 9) nd rfl (Or.inl rfl) (pe_ix ix_tup (pv 3) (pe_call (G__law_draw) (hr.mono (by decide)) (by rfl) T.m__law_draw T.F__law_draw.kp T.b__law_draw .nil pass0 (pa_cons (pv 1) (pa_cons (pe_callB call_len_seq (by rfl) T.n_len (by decide +kernel) (pa_cons (pv 3) pa_nil)) pa_nil))) (fun _ _ => rfl)))
        (pss_cons (ps_set (i := 10) nd rfl (Or.inl rfl) (pe_lst (pa_cons (pe_tup (pa_cons pe_str pa_nil)) (pa_cons (pe_tup (pa_cons (pv 9) (pa_cons (pv 9) pa_nil))) (pa_cons (pe_lst (pa_cons (pv 9) pa_nil)) (pa_cons (pv 9) (pa_cons (pv 7) (pa_cons pe_non (pa_cons pe_bl (pa_cons (pe_disp (pps_cons (pv 9) pe_int pps_nil) (by rfl) (by rfl) (fun z => by cases z) (by decide)) (pa_cons (pe_tup (pa_cons (pv 9) (pa_cons pe_int pa_nil))) (pa_cons (pe_tup (pa_cons (pe_tup pa_nil) pa_nil)) (pa_cons pe_dnewK (pa_cons (pe_lst pa_nil) pa_nil))))))))))))))
        (pss_cons (ps_set (i := 10) nd rfl (Or.inl rfl) (pe_op op_cat (pv 10) (pe_lst (pa_cons pe_str (pa_cons (pe_tup (pa_cons pe_str pa_nil)) pa_nil)))))
        (pss_cons (ps_if (pt_cmpR op_gt (pe_callB call_len_seq (by rfl) T.n_len (by decide +kernel) (pa_cons (pv 3) pa_nil)) pe_int (nomark _)) (pss_one (ps_set (i := 10) nd rfl (Or.inl rfl) (pe_op op_cat (pv 10) (pe_op op_rep (pe_lst (pa_cons (pe_revT (pv 3)) (pa_cons (pe_lst (pa_cons (pe_ix ix_tup (pv 3) pe_int (fun _ _ => rfl)) (pa_cons (pe_ix ix_tup (pv 3) pe_int (fun _ _ => rfl)) pa_nil))) pa_nil))) pe_int)))) pss_nil)
        (pss_cons (ps_if (PW.pt (pw_or (pt_not (pt_val (pe_callG G__law_refused calm (hr.mono (by decide)) (by rfl) T.m__law_refused T.F__law_refused.kp T.b__law_refused (pa_cons (pv 6) (pa_cons (pe_call (G__law_pick) (hr.mono (by decide)) (by rfl) T.m__law_pick T.F__law_pick.kp T.b__law_pick .nil pass0 (pa_cons (pv 1) (pa_cons (pv 10) pa_nil))) pa_nil))))) (pw_or1 (pt_not (pt_val (pe_callG G__law_refused calm (hr.mono (by decide)) (by rfl) T.m__law_refused T.F__law_refused.kp T.b__law_refused (pa_cons (pv 6) (pa_cons (pe_call (G__law_pick) (hr.mono (by decide)) (by rfl) T.m__law_pick T.F__law_pick.kp T.b__law_pick .nil pass0 (pa_cons (pv 1) (pa_cons (pv 10) pa_nil))) pa_nil)))))))) (pss_one (ps_ret pe_bl)) pss_nil)
        (pss_cons (ps_if (PW.pt (pw_or (pt_not (pt_val (pe_callG G__law_named calm (hr.mono (by decide)) (by rfl) T.m__law_named T.F__law_named.kp T.b__law_named (pa_cons (pv 1) (pa_cons (pv 6) pa_nil))))) (pw_or1 (pt_not (pt_val (pe_callG G__law_named calm (hr.mono (by decide)) (by rfl) T.m__law_named T.F__law_named.kp T.b__law_named (pa_cons (pv 1) (pa_cons (pv 6) pa_nil)))))))) (pss_one (ps_ret pe_bl)) pss_nil)
        (pss_one (ps_if (pt_cmpR (op_neD hr.units) (pe_fld (pv 6) (by rfl)) (pe_fld (ClX.pe_cmeth (pe_glob (v := .ref T.c_Rows) (by rfl) T.m_Rows rfl) T.cr_Rows T.cm_of (G_Rows_of.raw T.b_Rows_of .nil) (hr.mono (by decide)) pass0 (pa_cons (pv 3) (pa_cons (pv 5) pa_nil))) (by rfl)) (nomark _)) (pss_one (ps_ret pe_bl)) pss_nil))))))))))))))
        (pss_one (ps_ret pe_bl)))), ?_⟩
    refine ⟨_, rfl, a, ns, rfl, hS, hl, fun p c H1 np s1 P1 => ?_⟩
    clear hS hl np s1
    show tSeq _ _ _ ([some (.ref a), some (.ref p), none, none, none, none, none, none, none, none, none, none] : L2.St) _
    refine ⟨_, rfl, by decide, by decide, for_range (n := 3) (fun i σ H2 => ∃ (v2 v3 v4 v5 v6 v7 v8 v9 v10 : Option V), σ = [some (.ref a), some (.ref p), v2, v3, v4, v5, v6, v7, v8, v9, v10, none] ∧ Pen H2 p c (70 * i)) ⟨_, _, _, _, _, _, _, _, _, rfl, P1⟩ ?_ ?_⟩
    · clear P1
      rintro i σ H2 hi ⟨v2, v3, v4, v5, v6, v7, v8, v9, v10, rfl, P2⟩
      show tSeq _ _ _ ([some (.ref a), some (.ref p), some (.int (0 + (i : Int))), v3, v4, v5, v6, v7, v8, v9, v10, none] : L2.St) _
      refine ⟨_, rfl, p, c, 5, 70 * i, rfl, by decide, by decide, P2, by omega, fun a0 ks H3 nc nap h3 hn nd l1 l5 h8 P3 k3 => ?_⟩
      show tSeq _ _ _ ([some (.ref a), some (.ref p), some (.int (0 + (i : Int))), some (.ref a0), v4, v5, v6, v7, v8, v9, v10, none] : L2.St) _
      clear P2 v3 k3 nc
      refine ⟨_, rfl, a0, _, rfl, .inr (SqT.of h3), 1, _, rfl, rfl, cpow_of (by rw [List.length_map]; omega), ?_⟩
      have esz : V.int (1 * 2 ^ ((List.map V.str ks).length : Int).toNat) = V.int ((2 ^ ks.length : Nat) : Int) := by
        rw [List.length_map, Int.toNat_natCast, Int.one_mul]
        simp
      have z1 : 1 ≤ 2 ^ ks.length := Nat.one_le_two_pow
      have z2 : 2 ^ ks.length ≤ 32 := Nat.le_trans (Nat.pow_le_pow_right (by decide) l5) (by decide)
      show tSeq _ _ _ ([some (.ref a), some (.ref p), some (.int (0 + (i : Int))), some (.ref a0), some (V.int (1 * 2 ^ ((List.map V.str ks).length : Int).toNat)), v5, v6, v7, v8, v9, v10, none] : L2.St) _
      rw [esz]
      clear esz v4
      refine ⟨_, rfl, p, c, 4, 70 * i + 10, rfl, P3, by omega, by decide, by decide, fun r H4 r0 r1 P4 k4 => ?_⟩
      refine ⟨_, _, rfl, rfl, _, rfl, by omega, by omega, fun D nD => lc_range (n := (1 + r).toNat) (fun j H' => ∃ bs : List Addr, H' D = some (.lst (bs.map V.ref)) ∧ bs.length = j ∧ (∀ b ∈ bs, b ≠ p ∧ b ≠ D ∧ ∃ m, H' b = some (.tup ((subOf m ks 0).map V.str))) ∧ Pen H' p c (70 * i + 11 + j) ∧ Keep p H3 H') ⟨[], upd_same, rfl, (by simp), P4.same (same_upd nD), k4.trans (same_keep (same_upd nD))⟩ ?_ ?_⟩
      · rintro j H5 hj ⟨bs, hD, hb, hbs, P5, k5⟩
        have nDp : D ≠ p := P4.ne nD
        have nDc : D ≠ c := P4.nec nD
        have hD0 : H3 D = none := by
          cases e : H3 D with
          | none => rfl
          | some o =>
            have := k4 _ _ e nDp
            rw [nD] at this
            cases this
        refine ⟨rfl, ?_⟩
        refine iteT (B := True) ?_
        refine ⟨_, rfl, _, rfl, _, rfl, p, c, _, _, rfl, P5, by omega, by omega, by omega, fun x H6 x0 x1 P6 k6 => ?_⟩
        obtain ⟨m, rfl⟩ := Int.eq_ofNat_of_zero_le x0
        refine ⟨a0, m, ks, rfl, SqT.of (k6 _ _ (k5 _ _ h3 nap) nap), l5, fun c2 H7 nc2 s7 e7 => ?_⟩
        have k7 : Keep p H5 H7 := k6.trans (same_keep s7)
        have hD7 := k7 _ _ hD nDp
        have nc2D : c2 ≠ D := fun e => by
          have := k6 _ _ hD nDp
          rw [← e, nc2] at this
          cases this
        have nc2p : c2 ≠ p := P6.ne nc2
        refine ⟨_, hD7, ?_, bs ++ [c2], by rw [upd_same, List.map_append]; rfl, by simp [hb], fun y hy => ?_, ((P6.same s7).upd nDp nDc).mono (by omega), fun b' o e nb => ?_⟩
        · have : sizeLine = 16777216 := by decide +kernel
          rw [List.length_map]
          omega
        · rcases List.mem_append.mp hy with hy | hy
          · obtain ⟨n1, n2, m', hm⟩ := hbs y hy
            exact ⟨n1, n2, m', by rw [upd_ne n2]; exact k7 _ _ hm n1⟩
          · rw [show y = c2 by simpa using hy]
            exact ⟨nc2p, nc2D, m, by rw [upd_ne nc2D]; exact e7⟩
        · rw [upd_ne (ne_of_none e hD0)]
          exact k7 _ _ (k5 _ _ e nb) nb
      · rintro H5 ⟨bs, hD, hb, hbs, P5, k5⟩
        have nDp : D ≠ p := P4.ne nD
        show tSeq _ _ _ ([some (.ref a), some (.ref p), some (.int (0 + (i : Int))), some (.ref a0), some (.int ((2 ^ ks.length : Nat) : Int)), some (.ref D), v6, v7, v8, v9, v10, none] : L2.St) _
        have h5 := k5 _ _ h3 nap
        have P5' := P5.mono (m := 70 * i + 15) (by omega)
        have hb1 : 1 ≤ bs.length := by omega
        have hb5 : bs.length ≤ 4 := by omega
        have hG : ∀ b ∈ bs, ∃ xs, Good K H5 ks b xs ∧ numAt H5 ks b = numOf ks xs := fun b hb => by
          obtain ⟨_, _, m, hm⟩ := hbs b hb
          exact ⟨_, good_sub hn nd hm, numAt_of hm⟩
        have hbp : ∀ b ∈ bs, b ≠ p ∧ ∃ m, H5 b = some (.tup ((subOf m ks 0).map V.str)) := fun b hb => ⟨(hbs b hb).1, (hbs b hb).2.2⟩
        clear hbs P5 k5 h3 P4 k4 nD P3 hb r0 r1 v5
        refine ⟨rfl, _, rfl, _, rfl, a0, D, ks, bs, numAt H5 ks, rfl, h5, hn, nd, l1, l5, SqL.of hD, hb1, by omega, hG, fun ys kz x dx y6 H6 et hp hso nx ny s6 e6 ex6 => ?_⟩
        obtain ⟨fs, ex, f1, f2, f3, f4⟩ : ∃ fs, H6 x = some (.ins T.c_Rows dx fs) ∧ fs.lookup ("conditions" : Str) = some (V.ref a0) ∧ fs.lookup ("possible" : Str) = some (V.ref y6) ∧ fs.lookup ("number" : Str) = none ∧ fs.lookup ("having" : Str) = none := ⟨_, ex6, rfl, rfl, rfl, rfl⟩
        have nxp : x ≠ p := P5'.ne nx
        have nyp : y6 ≠ p := P5'.ne ny
        have P6 := P5'.same s6
        have hD6 := s6 _ _ hD
        have h6 := s6 _ _ h5
        have hG6 : ∀ b ∈ bs, ∃ xs, Good K H6 ks b xs ∧ numAt H5 ks b = numOf ks xs := fun b hb => by
          obtain ⟨xs, g1, g2⟩ := hG b hb
          exact ⟨xs, g1.same s6, g2⟩
        have hb6 : ∀ b ∈ bs, b ≠ p ∧ ∃ m, H6 b = some (.tup ((subOf m ks 0).map V.str)) := fun b hb => by
          obtain ⟨n1, m, hm⟩ := hbp b hb
          exact ⟨n1, m, s6 _ _ hm⟩
        clear hG hbp ex6 nx ny s6 P5' h5 hD
        generalize numAt H5 ks = num at et e6 hG6
        show tSeq _ _ _ ([some (.ref a), some (.ref p), some (.int (0 + (i : Int))), some (.ref a0), some (.int ((2 ^ ks.length : Nat) : Int)), some (.ref D), some (.ref x), v7, v8, v9, v10, none] : L2.St) _
        refine ⟨_, rfl, _, rfl, by omega, by omega, for_range (n := (((2 ^ ks.length : Nat) : Int)).toNat) (fun j σ H' => ∃ (w7 w8 : Option V), σ = [some (.ref a), some (.ref p), some (.int (0 + (i : Int))), some (.ref a0), some (.int ((2 ^ ks.length : Nat) : Int)), some (.ref D), some (.ref x), w7, w8, v9, v10, none] ∧ (j = 0 ∨ ∃ z : Int, w7 = some (.int z) ∧ 0 ≤ z ∧ z < 32) ∧ Same H6 H') ⟨_, _, rfl, .inl rfl, Same.refl _⟩ ?_ ?_⟩
        · rintro j σ H' hj ⟨w7, w8, rfl, _, s'⟩
          show tSeq _ _ _ ([some (.ref a), some (.ref p), some (.int (0 + (i : Int))), some (.ref a0), some (.int ((2 ^ ks.length : Nat) : Int)), some (.ref D), some (.ref x), some (.int (0 + (j : Int))), w8, v9, v10, none] : L2.St) _
          rw [Int.toNat_natCast] at hj
          refine ⟨_, rfl, x, dx, fs, rfl, s' _ _ ex, f3, _, rfl, _, rfl, a0, j, ks, by rw [Int.zero_add]; rfl, SqT.of (s' _ _ h6), l5, fun c2 H7 nc2 s7 e7 => ?_⟩
          have g7 := good_sub (K := K) hn nd e7
          refine ⟨x, a0, dx, fs, .ref c2, ks, true, rfl, s7 _ _ (s' _ _ ex), f1, SqT.of (s7 _ _ (s' _ _ h6)), hn, l5, g7.rowV, fun _ => ⟨c2, _, rfl, SqT.of e7, g7.2.1, fun H8 s8 => ?_⟩, fun h => by cases h⟩
          rw [num_sub nd hj]
          show tSeq _ _ _ ([some (.ref a), some (.ref p), some (.int (0 + (i : Int))), some (.ref a0), some (.int ((2 ^ ks.length : Nat) : Int)), some (.ref D), some (.ref x), some (.int (0 + (j : Int))), some (.int (j : Int)), v9, v10, none] : L2.St) _
          refine ⟨_, rfl, _, _, _, _, _, rfl, .ty _, .base (.int _), kit_ty (r := true) (by decide +kernel), _, rfl, ?_⟩
          refine iteF ?_
          refine ⟨_, rfl, _, _, _, _, _, rfl, .ty _, .base (.int _), kit_ty (r := false) (by decide +kernel), _, rfl, ?_⟩
          refine iteF ?_
          refine ⟨_, rfl, _, rfl, rfl, _, rfl, ?_⟩
          refine iteN' (by simp) ?_
          exact ⟨_, _, rfl, .inr ⟨_, rfl, by omega, by omega⟩, s'.trans (s7.trans s8)⟩
        · rintro σ H7 ⟨w7, w8, rfl, hz, s7⟩
          obtain ⟨zn, rfl, zn0, zn1⟩ : ∃ z : Int, w7 = some (.int z) ∧ 0 ≤ z ∧ z < 32 := by
            rcases hz with hz | hz
            · rw [Int.toNat_natCast] at hz
              omega
            · exact hz
          have P7 := P6.same s7
          have hD7 := s7 _ _ hD6
          have h7 := s7 _ _ h6
          have e7 := s7 _ _ e6
          have ex7 := s7 _ _ ex
          have hG7 : ∀ b ∈ bs, ∃ xs, Good K H7 ks b xs ∧ num b = numOf ks xs := fun b hb => by
            obtain ⟨xs, g1, g2⟩ := hG6 b hb
            exact ⟨xs, g1.same s7, g2⟩
          have hb7 : ∀ b ∈ bs, b ≠ p ∧ ∃ m, H7 b = some (.tup ((subOf m ks 0).map V.str)) := fun b hb => by
            obtain ⟨n1, m, hm⟩ := hb6 b hb
            exact ⟨n1, m, s7 _ _ hm⟩
          clear hz s7 P6 hD6 h6 e6 ex hG6 hb6
          show tSeq _ _ _ ([some (.ref a), some (.ref p), some (.int (0 + (i : Int))), some (.ref a0), some (.int ((2 ^ ks.length : Nat) : Int)), some (.ref D), some (.ref x), some (.int zn), w8, v9, v10, none] : L2.St) _
          refine ⟨_, rfl, _, rfl, _, rfl, a0, _, rfl, .inr (SqT.of h7), p, c, _, _, rfl, P7, by omega, by rw [List.length_map]; omega, by rw [List.length_map]; omega, fun nd0 H8 d0 d1 P8 k8 => ?_⟩
          rw [List.length_map] at d1
          obtain ⟨jn, rfl⟩ := Int.eq_ofNat_of_zero_le d0
          obtain ⟨nm, hnm⟩ : ∃ z, ks[jn]? = some z := ⟨_, List.getElem?_eq_getElem (by omega)⟩
          have nmk : nm ∈ ks := List.mem_of_getElem? hnm
          have h8' := k8 _ _ h7 nap
          refine ⟨a0, _, (jn : Int), .str nm, rfl, rfl, SqT.of h8', atI_nat (by rw [List.getElem?_map, hnm]; rfl), ?_⟩
          have hD8 := k8 _ _ hD7 nDp
          have e8h := k8 _ _ e7 nyp
          have ex8 := k8 _ _ ex7 nxp
          have hb8 : ∀ b ∈ bs, b ≠ p ∧ ∃ m, H8 b = some (.tup ((subOf m ks 0).map V.str)) := fun b hb => by
            obtain ⟨n1, m, hm⟩ := hb7 b hb
            exact ⟨n1, m, k8 _ _ hm n1⟩
          have hG8 : ∀ b ∈ bs, ∃ xs, Good K H8 ks b xs ∧ num b = numOf ks xs := fun b hb => by
            obtain ⟨n1, m, hm⟩ := hb8 b hb
            obtain ⟨n1', m', hm'⟩ := hb7 b hb
            obtain ⟨xs, g1, g2⟩ := hG7 b hb
            have e1 := k8 _ _ hm' n1
            have e2 : xs = (subOf m' ks 0).map V.str := by
              have e3 := hm'.symm.trans g1.1
              injection e3 with e3
              injection e3 with e3
              exact e3.symm
            exact ⟨_, good_sub hn nd e1, by rw [g2, e2]⟩
          show tSeq _ _ _ ([some (.ref a), some (.ref p), some (.int (0 + (i : Int))), some (.ref a0), some (.int ((2 ^ ks.length : Nat) : Int)), some (.ref D), some (.ref x), some (.int zn), w8, some (.str nm), v10, none] : L2.St) _
          clear hD7 e7 ex7 hb7 hG7 P7 k8 h7 d0 d1 v9
          refine ⟨line_of (by show 1 ≤ 1000000; decide), fun t1 nt1 => ?_⟩
          obtain ⟨G1, hh1, S1, s1, e1⟩ := knew (o := .tup [.str "y"]) (Same.refl H8) nt1
          rw [hh1]
          clear hh1
          refine ⟨_, rfl, _, rfl, line_of (by show 2 ≤ 1000000; decide), fun t2 nt2 => ?_⟩
          obtain ⟨G2, hh2, S2, s2, e2⟩ := knew (o := .tup [.str nm, .str nm]) S1 nt2
          rw [hh2]
          clear hh2
          refine ⟨_, rfl, line_of (by show 1 ≤ 1000000; decide), fun t3 nt3 => ?_⟩
          obtain ⟨G3, hh3, S3, s3, e3⟩ := knew (o := .lst [.str nm]) S2 nt3
          rw [hh3]
          clear hh3
          refine ⟨_, rfl, _, rfl, fun t4 nt4 => ⟨_, rfl, upd_same, [(Sum.inr nm, .int 1)], rfl, by show 1 ≤ 15; decide, ?_⟩⟩
          obtain ⟨G4, hh4, S4, s4, e4⟩ := knew2 (o := .dK []) (o2 := .dK (mergeK [] [(Sum.inr nm, .int 1)])) S3 nt4
          rw [hh4]
          clear hh4
          have e4 : G4 t4 = some (.dK [(Sum.inr nm, .int 1)]) := e4
          refine ⟨_, rfl, line_of (by show 2 ≤ 1000000; decide), fun t5 nt5 => ?_⟩
          obtain ⟨G5, hh5, S5, s5, e5⟩ := knew (o := .tup [.str nm, .int 1]) S4 nt5
          rw [hh5]
          clear hh5
          refine ⟨line_of (by show 0 ≤ 1000000; decide), fun t6 nt6 => ?_⟩
          obtain ⟨G6, hh6, S6, s6, e6⟩ := knew (o := .tup []) S5 nt6
          rw [hh6]
          clear hh6
          refine ⟨line_of (by show 1 ≤ 1000000; decide), fun t7 nt7 => ?_⟩
          obtain ⟨G7, hh7, S7, s7, e7⟩ := knew (o := .tup [.ref t6]) S6 nt7
          rw [hh7]
          clear hh7
          refine fun t8 nt8 => ?_
          obtain ⟨G8, hh8, S8, s8, e8⟩ := knew (o := .dK []) S7 nt8
          rw [hh8]
          clear hh8
          refine ⟨line_of (by show 0 ≤ 1000000; decide), fun t9 nt9 => ?_⟩
          obtain ⟨G9, hh9, S9, s9, e9⟩ := knew (o := .lst []) S8 nt9
          rw [hh9]
          clear hh9
          refine ⟨line_of (by show 12 ≤ 1000000; decide), fun t10 nt10 => ?_⟩
          obtain ⟨G10, hh10, S10, s10, e10⟩ := knew (o := .lst [.ref t1, .ref t2, .ref t3, .str nm, .int zn, .non, .bl true, .ref t4, .ref t5, .ref t7, .ref t8, .ref t9]) S9 nt10
          rw [hh10]
          clear hh10
          show tSeq _ _ _ ([some (.ref a), some (.ref p), some (.int (0 + (i : Int))), some (.ref a0), some (.int ((2 ^ ks.length : Nat) : Int)), some (.ref D), some (.ref x), some (.int zn), w8, some (.str nm), some (.ref t10), none] : L2.St) _
          clear v10
          refine ⟨_, rfl, line_of (by show 1 ≤ 1000000; decide), fun t11 nt11 => ?_⟩
          obtain ⟨G11, hh11, S11, s11, e11⟩ := knew (o := .tup [.str "to"]) S10 nt11
          rw [hh11]
          clear hh11
          refine ⟨line_of (by show 2 ≤ 1000000; decide), fun t12 nt12 => ?_⟩
          obtain ⟨G12, hh12, S12, s12, e12⟩ := knew (o := .lst [.str "", .ref t11]) S11 nt12
          rw [hh12]
          clear hh12
          refine ⟨t10, t12, _, _, rfl, rfl, s12 _ _ (s11 _ _ e10), e12, line_of (by show 14 ≤ 1000000; decide), fun t13 nt13 => ?_⟩
          obtain ⟨G13, hh13, S13, s13, e13⟩ := knew (o := .lst [.ref t1, .ref t2, .ref t3, .str nm, .int zn, .non, .bl true, .ref t4, .ref t5, .ref t7, .ref t8, .ref t9, .str "", .ref t11]) S12 nt13
          rw [show upd G12 t13 (.lst ([V.ref t1, .ref t2, .ref t3, .str nm, .int zn, .non, .bl true, .ref t4, .ref t5, .ref t7, .ref t8, .ref t9] ++ [V.str "", .ref t11])) = G13 from hh13]
          clear hh13
          have R12 : Same G12 G13 := s13
          have R11 : Same G11 G13 := (s12.trans R12)
          have R10 : Same G10 G13 := (s11.trans R11)
          have R9 : Same G9 G13 := (s10.trans R10)
          have R8 : Same G8 G13 := (s9.trans R9)
          have R7 : Same G7 G13 := (s8.trans R8)
          have R6 : Same G6 G13 := (s7.trans R7)
          have R5 : Same G5 G13 := (s6.trans R6)
          have R4 : Same G4 G13 := (s5.trans R5)
          have R3 : Same G3 G13 := (s4.trans R4)
          have R2 : Same G2 G13 := (s3.trans R3)
          have R1 : Same G1 G13 := (s2.trans R2)
          have r1 := R1 _ _ e1
          have n1 : t1 ≠ p := (P8).ne nt1
          have r2 := R2 _ _ e2
          have n2 : t2 ≠ p := (P8.same S1).ne nt2
          have r3 := R3 _ _ e3
          have n3 : t3 ≠ p := (P8.same S2).ne nt3
          have r4 := R4 _ _ e4
          have n4 : t4 ≠ p := (P8.same S3).ne nt4
          have r5 := R5 _ _ e5
          have n5 : t5 ≠ p := (P8.same S4).ne nt5
          have r6 := R6 _ _ e6
          have n6 : t6 ≠ p := (P8.same S5).ne nt6
          have r7 := R7 _ _ e7
          have n7 : t7 ≠ p := (P8.same S6).ne nt7
          have r8 := R8 _ _ e8
          have n8 : t8 ≠ p := (P8.same S7).ne nt8
          have r9 := R9 _ _ e9
          have n9 : t9 ≠ p := (P8.same S8).ne nt9
          have r11 := R11 _ _ e11
          have n11 : t11 ≠ p := (P8.same S10).ne nt11
          have n13 : t13 ≠ p := (P8.same S12).ne nt13
          have P13 := P8.same S13
          have h13 := S13 _ _ h8'
          have hD13 := S13 _ _ hD8
          have e8i := S13 _ _ e8h
          have ex13 := S13 _ _ ex8
          have hb13 : ∀ b ∈ bs, b ≠ p ∧ ∃ m, G13 b = some (.tup ((subOf m ks 0).map V.str)) := fun b hb => by
            obtain ⟨n1, m, hm⟩ := hb8 b hb
            exact ⟨n1, m, S13 _ _ hm⟩
          have hG13 : ∀ b ∈ bs, ∃ xs, Good K G13 ks b xs ∧ num b = numOf ks xs := fun b hb => by
            obtain ⟨xs, g1, g2⟩ := hG8 b hb
            exact ⟨xs, g1.same S13, g2⟩
          have bad : ∀ v ∈ [V.ref t1, .ref t2, .ref t3, .str nm, .int zn, .non, .bl true, .ref t4, .ref t5, .ref t7, .ref t8, .ref t9, .str "", .ref t11], Bad K p G13 ks v := bad_menu h8 nd nmk zn0 zn1 r1 r2 r3 r4 r5 r6 r7 r8 r9 r11 n1 n2 n3 n4 n5 n6 n7 n8 n9 n11
          clear r1 n1 r2 n2 r3 n3 r4 n4 r5 n5 r6 n6 r7 n7 r8 n8 r9 n9 r11 n11 R1 R2 R3 R4 R5 R6 R7 R8 R9 R10 R11 R12 e1 e2 e3 e4 e5 e6 e7 e8 e9 e10 e11 e12 s1 s2 s3 s4 s5 s6 s7 s8 s9 s10 s11 s12 s13 S1 S2 S3 S4 S5 S6 S7 S8 S9 S10 S11 S12 S13 nt1 nt2 nt3 nt4 nt5 nt6 nt7 nt8 nt9 nt10 nt11 nt12 nt13 e8h P8 h8' hD8 ex8 hb8 hG8
          show tSeq _ _ _ ([some (.ref a), some (.ref p), some (.int (0 + (i : Int))), some (.ref a0), some (.int ((2 ^ ks.length : Nat) : Int)), some (.ref D), some (.ref x), some (.int zn), w8, some (.str nm), some (.ref t13), none] : L2.St) _
          refine ⟨_, rfl, a0, _, rfl, .inr (SqT.of h13), _, _, rfl, rfl, _, rfl, ?_⟩
          rw [List.length_map]
          by_cases two : 1 < ks.length
          · refine iteT' (decide_eq_true (show (1 : Int) < (ks.length : Int) by omega)) ?_
            obtain ⟨k0, k1, kr, ek⟩ : ∃ k0 k1 kr, ks = k0 :: k1 :: kr := by
              match ks, two with
              | k0 :: k1 :: kr, _ => exact ⟨k0, k1, kr, rfl⟩
            have at0 : atI (ks.map V.str) 0 = some (.str k0) := atI_nat (j := 0) (by rw [ek]; rfl)
            have at1 : atI (ks.map V.str) 1 = some (.str k1) := atI_nat (j := 1) (by rw [ek]; rfl)
            have m0 : k0 ∈ NM8 := h8 k0 (by rw [ek]; exact List.mem_cons_self)
            have m1 : k1 ∈ NM8 := h8 k1 (by rw [ek]; exact List.mem_cons_of_mem _ List.mem_cons_self)
            clear ek
            refine ⟨_, rfl, _, rfl, a0, _, rfl, SqT.of h13, by rw [List.length_map]; omega, fun u1 nu1 => ?_⟩
            obtain ⟨U1, gh1, W1, w1, x1⟩ := knew (o := .tup (ks.reverse.map V.str)) (Same.refl G13) nu1
            rw [show upd G13 u1 (.tup (ks.map V.str).reverse) = U1 by rw [← List.map_reverse]; exact gh1]
            clear gh1
            refine ⟨_, rfl, a0, _, 0, _, rfl, rfl, SqT.of (W1 _ _ h13), at0, _, rfl, a0, _, 1, _, rfl, rfl, SqT.of (W1 _ _ h13), at1, line_of (by show 2 ≤ 1000000; decide), fun u2 nu2 => ?_⟩
            obtain ⟨U2, gh2, W2, w2, x2⟩ := knew (o := .lst [.str k0, .str k1]) W1 nu2
            rw [gh2]
            clear gh2
            refine ⟨line_of (by show 2 ≤ 1000000; decide), fun u3 nu3 => ?_⟩
            obtain ⟨U3, gh3, W3, w3, x3⟩ := knew (o := .lst [.ref u1, .ref u2]) W2 nu3
            rw [gh3]
            clear gh3
            refine ⟨u3, 2, _, rfl, rfl, x3, by decide, by decide, line_of (by show 4 ≤ 1000000; decide), fun u4 nu4 => ?_⟩
            obtain ⟨U4, gh4, W4, w4, x4⟩ := knew (o := .lst [.ref u1, .ref u2, .ref u1, .ref u2]) W3 nu4
            rw [show upd U3 u4 (.lst (List.replicate (2 : Int).toNat [V.ref u1, V.ref u2]).flatten) = U4 from gh4]
            clear gh4
            refine ⟨t13, u4, _, _, rfl, rfl, W4 _ _ e13, x4, line_of (by show 18 ≤ 1000000; decide), fun u5 nu5 => ?_⟩
            obtain ⟨U5, gh5, W5, w5, x5⟩ := knew (o := .lst ([V.ref t1, .ref t2, .ref t3, .str nm, .int zn, .non, .bl true, .ref t4, .ref t5, .ref t7, .ref t8, .ref t9, .str "", .ref t11] ++ [V.ref u1, .ref u2, .ref u1, .ref u2])) W4 nu5
            rw [gh5]
            clear gh5
            have y1 := w5 _ _ (w4 _ _ (w3 _ _ (w2 _ _ x1)))
            have y2 := w5 _ _ (w4 _ _ (w3 _ _ x2))
            have nu1p : u1 ≠ p := P13.ne nu1
            have nu2p : u2 ≠ p := (P13.same W1).ne nu2
            have nu5p : u5 ≠ p := (P13.same W4).ne nu5
            have b1 : Bad K p U5 ks (.ref u1) := bad_tup y1 nu1p (fun H' _ v hv => by
              obtain ⟨z, _, rfl⟩ := List.mem_map.mp hv
              exact .flat _ rfl) (fun _ _ => dp_strs _) (shaped_strs _ fun z hz => (hn z (List.mem_reverse.mp hz)).2) (strs_fine _ (fun z hz => h8 z (List.mem_reverse.mp hz)) (by rw [List.length_reverse]; exact l5)) (rev_bad nd two)
            have b2 : Bad K p U5 ks (.ref u2) := bad_lst y2 nu2p (fun _ => .cons (.str _) (.cons (.str _) .nil)) (nm8_two k0 m0 k1 m1)
            have bad5 : ∀ v ∈ ([V.ref t1, .ref t2, .ref t3, .str nm, .int zn, .non, .bl true, .ref t4, .ref t5, .ref t7, .ref t8, .ref t9, .str "", .ref t11] ++ [V.ref u1, .ref u2, .ref u1, .ref u2]), Bad K p U5 ks v := fun v hv => by
              rcases List.mem_append.mp hv with hv | hv
              · exact (bad v hv).keep (same_keep W5)
              · simp only [List.mem_cons, List.not_mem_nil, or_false] at hv
                rcases hv with rfl | rfl | rfl | rfl
                · exact b1
                · exact b2
                · exact b1
                · exact b2
            have P5 := P13.same W5
            have a5 := W5 _ _ h13
            have D5 := W5 _ _ hD13
            have z5 := W5 _ _ e8i
            have X5 := W5 _ _ ex13
            have B5 : ∀ b ∈ bs, b ≠ p ∧ ∃ m, U5 b = some (.tup ((subOf m ks 0).map V.str)) := fun b hb => by
              obtain ⟨n1, m, hm⟩ := hb13 b hb
              exact ⟨n1, m, W5 _ _ hm⟩
            have g5 : ∀ b ∈ bs, ∃ xs, Good K U5 ks b xs ∧ num b = numOf ks xs := fun b hb => by
              obtain ⟨xs, g1, g2⟩ := hG13 b hb
              exact ⟨xs, g1.same W5, g2⟩
            have len5 : ([V.ref t1, .ref t2, .ref t3, .str nm, .int zn, .non, .bl true, .ref t4, .ref t5, .ref t7, .ref t8, .ref t9, .str "", .ref t11] ++ [V.ref u1, .ref u2, .ref u1, .ref u2]).length = 18 := rfl
            generalize ([V.ref t1, .ref t2, .ref t3, .str nm, .int zn, .non, .bl true, .ref t4, .ref t5, .ref t7, .ref t8, .ref t9, .str "", .ref t11] ++ [V.ref u1, .ref u2, .ref u1, .ref u2]) = menu at x5 bad5 len5
            clear b1 b2 y1 y2 x1 x2 x3 x4 w1 w2 w3 w4 w5 W1 W2 W3 W4 W5 bad e13 n13 P13 h13 hD13 e8i ex13 hb13 hG13 nu1 nu2 nu3 nu4 nu5
            show tSeq _ _ _ ([some (.ref a), some (.ref p), some (.int (0 + (i : Int))), some (.ref a0), some (.int ((2 ^ ks.length : Nat) : Int)), some (.ref D), some (.ref x), some (.int zn), w8, some (.str nm), some (.ref u5), none] : L2.St) _
            refine ⟨_, rfl, _, rfl, _, rfl, p, c, u5, menu, _, rfl, nu5p, P5, by omega, SqL.of x5, (by omega), (by omega), fun v1 GA mem1 PA kA => ?_⟩
            have xA := kA _ _ X5 nxp
            have aA := kA _ _ a5 nap
            have mA := kA _ _ x5 nu5p
            have DA := kA _ _ D5 nDp
            have yA := kA _ _ z5 nyp
            have bA : ∀ b ∈ bs, b ≠ p ∧ ∃ m, GA b = some (.tup ((subOf m ks 0).map V.str)) := fun b hb => by
              obtain ⟨n1, m, hm⟩ := B5 b hb
              exact ⟨n1, m, kA _ _ hm n1⟩
            have gA : ∀ b ∈ bs, ∃ xs, Good K GA ks b xs ∧ num b = numOf ks xs := good_keep hn nd B5 g5 kA
            obtain ⟨d1, ⟨q1, q2, q3⟩, sh1⟩ := (bad5 v1 mem1).keep kA
            have badA : ∀ v ∈ menu, Bad K p GA ks v := fun v hv => (bad5 v hv).keep kA
            refine ⟨x, a0, dx, fs, v1, ks, d1, rfl, xA, f1, f3, SqT.of aA, hn, l5, (sh1 GA (Keep.refl _ _)).1, fun H' s' => (sh1 H' (same_keep s')).2, q1, q2, q3, fun GB sB => ?_⟩
            have PB := PA.same sB
            refine ⟨_, rfl, ?_⟩
            refine iteF ?_
            refine ⟨_, rfl, _, rfl, _, rfl, p, c, u5, menu, _, rfl, nu5p, PB, by omega, SqL.of (sB _ _ mA), (by omega), (by omega), fun v3 GC mem3 PC kC => ?_⟩
            have kB : Keep p GA GC := (same_keep sB).trans kC
            have xC := kB _ _ xA nxp
            have aC := kB _ _ aA nap
            have DC := kB _ _ DA nDp
            have yC := kB _ _ yA nyp
            have gC : ∀ b ∈ bs, ∃ xs, Good K GC ks b xs ∧ num b = numOf ks xs := good_keep hn nd bA gA kB
            have bC : ∀ b ∈ bs, b ≠ p ∧ ∃ m, GC b = some (.tup ((subOf m ks 0).map V.str)) := fun b hb => by
              obtain ⟨n1, m, hm⟩ := bA b hb
              exact ⟨n1, m, kB _ _ hm n1⟩
            obtain ⟨d3, ⟨q4, q5, q6⟩, sh3⟩ := (badA v3 mem3).keep kB
            refine ⟨x, a0, dx, fs, v3, ks, d3, rfl, xC, f1, f3, SqT.of aC, hn, l5, (sh3 GC (Keep.refl _ _)).1, fun H' s' => (sh3 H' (same_keep s')).2, q4, q5, q6, fun GD sD => ?_⟩
            refine ⟨_, rfl, ?_⟩
            refine iteF ?_
            clear sh1 sh3 badA mem1 mem3 q1 q2 q3 q4 q5 q6 xA aA mA DA yA bA gA kA kB bad5 B5 g5 X5 a5 x5 D5 z5
            show tSeq _ _ _ ([some (.ref a), some (.ref p), some (.int (0 + (i : Int))), some (.ref a0), some (.int ((2 ^ ks.length : Nat) : Int)), some (.ref D), some (.ref x), some (.int zn), w8, some (.str nm), some (.ref u5), none] : L2.St) _
            refine ⟨_, rfl, _, rfl, p, c, x, a0, dx, fs, ks, _, rfl, PC.same sD, by omega, sD _ _ xC, nxp, nap, f1, f4, sD _ _ aC, hn, nd, l1, l5, h8, fun GE PE kE => ?_⟩
            have kD : Keep p GC GE := (same_keep sD).trans kE
            refine ⟨_, rfl, ?_⟩
            refine iteF ?_
            refine ⟨_, rfl, _, rfl, p, c, x, a0, dx, fs, ks, _, rfl, PE, by omega, kD _ _ xC nxp, nxp, nap, f1, f4, kD _ _ aC nap, hn, nd, l1, l5, h8, fun GF PF kF => ?_⟩
            have kG : Keep p GC GF := kD.trans kF
            refine ⟨_, rfl, ?_⟩
            refine iteF ?_
            have xF := kG _ _ xC nxp
            have aF := kG _ _ aC nap
            have DF := kG _ _ DC nDp
            have yF := kG _ _ yC nyp
            have gF : ∀ b ∈ bs, ∃ xs, Good K GF ks b xs ∧ num b = numOf ks xs := good_keep hn nd bC gC kG
            have bF : ∀ b ∈ bs, b ≠ p ∧ ∃ m, GF b = some (.tup ((subOf m ks 0).map V.str)) := fun b hb => by
              obtain ⟨n1, m, hm⟩ := bC b hb
              exact ⟨n1, m, kG _ _ hm n1⟩
            clear xC aC DC yC gC bC kD kE kF kG sD sB PA PB PC PE kC
            show tNext _ ([some (.ref a), some (.ref p), some (.int (0 + (i : Int))), some (.ref a0), some (.int ((2 ^ ks.length : Nat) : Int)), some (.ref D), some (.ref x), some (.int zn), w8, some (.str nm), some (.ref u5), none] : L2.St) _
            refine ⟨_, rfl, x, T.c_Rows, dx, fs, _, rfl, xF, T.k_Rows, T.na_possible, f2, rfl, _, rfl, _, rfl, a0, D, ks, bs, num, rfl, aF, hn, nd, l1, l5, SqL.of DF, hb1, by omega, gF, fun ys2 kz2 x2 dx2 y2 GH et2 hp2 hso2 nx2 ny2 sH eH exH => ?_⟩
            refine ⟨x2, T.c_Rows, dx2, _, _, rfl, exH, T.k_Rows, T.na_possible, rfl, ?_⟩
            obtain rfl : kz2 = kz := inl_inj (et2.symm.trans et)
            obtain rfl : ys2 = ys := sorted_one hp2 hp hso2 hso
            obtain ⟨ds, hds, c1, c2⟩ := dp_things (K := K) (H := GH) (possOf num bs ys2) fun v hv => by
              rcases poss_mem hv with rfl | ⟨b, hb, rfl⟩
              · exact ⟨.none, .non, by simp [PyData.canLay0], by simp [PyData.depth]⟩
              · obtain ⟨_, m, hm⟩ := bF b hb
                have s2 := shaped_strs (subOf m ks 0) fun z hz => (hn z (subOf_mem hz)).2
                refine ⟨_, .tup (SqT.of (sH _ _ hm)) (dp_strs _), SeqAt.canLay_of_shaped s2, ?_⟩
                have := depth_strs (subOf m ks 0)
                simp only [PyData.depth]
                omega
            have shd : SeqAt.shaped (.tuple ds) = true := by
              unfold SeqAt.shaped
              have h3 : PyData.depth (.tuple ds) ≤ 64 := by
                simp only [PyData.depth]
                omega
              simp only [PyData.canLay0, c1, h3, decide_true, Bool.and_self]
            refine ⟨.tuple ds, .tuple ds, .tup (SqT.of (sH _ _ yF)) hds, .tup (SqT.of eH) hds, shd, shd, _, rfl, ?_⟩
            rw [eqv_shaped shd]
            refine iteF ?_
            exact ⟨_, _, _, _, _, _, _, _, _, rfl, (PF.same sH).mono (by omega)⟩
          · refine iteN' (fun h => two (by have := of_decide_eq_true h; omega)) ?_
            show tSeq _ _ _ ([some (.ref a), some (.ref p), some (.int (0 + (i : Int))), some (.ref a0), some (.int ((2 ^ ks.length : Nat) : Int)), some (.ref D), some (.ref x), some (.int zn), w8, some (.str nm), some (.ref t13), none] : L2.St) _
            have len13 : [V.ref t1, .ref t2, .ref t3, .str nm, .int zn, .non, .bl true, .ref t4, .ref t5, .ref t7, .ref t8, .ref t9, .str "", .ref t11].length = 14 := rfl
            generalize [V.ref t1, .ref t2, .ref t3, .str nm, .int zn, .non, .bl true, .ref t4, .ref t5, .ref t7, .ref t8, .ref t9, .str "", .ref t11] = menu at e13 bad len13
            refine ⟨_, rfl, _, rfl, _, rfl, p, c, t13, menu, _, rfl, n13, P13, by omega, SqL.of e13, (by omega), (by omega), fun v1 GA mem1 PA kA => ?_⟩
            have xA := kA _ _ ex13 nxp
            have aA := kA _ _ h13 nap
            have mA := kA _ _ e13 n13
            have DA := kA _ _ hD13 nDp
            have yA := kA _ _ e8i nyp
            have bA : ∀ b ∈ bs, b ≠ p ∧ ∃ m, GA b = some (.tup ((subOf m ks 0).map V.str)) := fun b hb => by
              obtain ⟨n1, m, hm⟩ := hb13 b hb
              exact ⟨n1, m, kA _ _ hm n1⟩
            have gA : ∀ b ∈ bs, ∃ xs, Good K GA ks b xs ∧ num b = numOf ks xs := good_keep hn nd hb13 hG13 kA
            obtain ⟨d1, ⟨q1, q2, q3⟩, sh1⟩ := (bad v1 mem1).keep kA
            have badA : ∀ v ∈ menu, Bad K p GA ks v := fun v hv => (bad v hv).keep kA
            refine ⟨x, a0, dx, fs, v1, ks, d1, rfl, xA, f1, f3, SqT.of aA, hn, l5, (sh1 GA (Keep.refl _ _)).1, fun H' s' => (sh1 H' (same_keep s')).2, q1, q2, q3, fun GB sB => ?_⟩
            have PB := PA.same sB
            refine ⟨_, rfl, ?_⟩
            refine iteF ?_
            refine ⟨_, rfl, _, rfl, _, rfl, p, c, t13, menu, _, rfl, n13, PB, by omega, SqL.of (sB _ _ mA), (by omega), (by omega), fun v3 GC mem3 PC kC => ?_⟩
            have kB : Keep p GA GC := (same_keep sB).trans kC
            have xC := kB _ _ xA nxp
            have aC := kB _ _ aA nap
            have DC := kB _ _ DA nDp
            have yC := kB _ _ yA nyp
            have gC : ∀ b ∈ bs, ∃ xs, Good K GC ks b xs ∧ num b = numOf ks xs := good_keep hn nd bA gA kB
            have bC : ∀ b ∈ bs, b ≠ p ∧ ∃ m, GC b = some (.tup ((subOf m ks 0).map V.str)) := fun b hb => by
              obtain ⟨n1, m, hm⟩ := bA b hb
              exact ⟨n1, m, kB _ _ hm n1⟩
            obtain ⟨d3, ⟨q4, q5, q6⟩, sh3⟩ := (badA v3 mem3).keep kB
            refine ⟨x, a0, dx, fs, v3, ks, d3, rfl, xC, f1, f3, SqT.of aC, hn, l5, (sh3 GC (Keep.refl _ _)).1, fun H' s' => (sh3 H' (same_keep s')).2, q4, q5, q6, fun GD sD => ?_⟩
            refine ⟨_, rfl, ?_⟩
            refine iteF ?_
            clear sh1 sh3 badA mem1 mem3 q1 q2 q3 q4 q5 q6 xA aA mA DA yA bA gA kA kB bad hb13 hG13 ex13 h13 e13 hD13 e8i
            show tSeq _ _ _ ([some (.ref a), some (.ref p), some (.int (0 + (i : Int))), some (.ref a0), some (.int ((2 ^ ks.length : Nat) : Int)), some (.ref D), some (.ref x), some (.int zn), w8, some (.str nm), some (.ref t13), none] : L2.St) _
            refine ⟨_, rfl, _, rfl, p, c, x, a0, dx, fs, ks, _, rfl, PC.same sD, by omega, sD _ _ xC, nxp, nap, f1, f4, sD _ _ aC, hn, nd, l1, l5, h8, fun GE PE kE => ?_⟩
            have kD : Keep p GC GE := (same_keep sD).trans kE
            refine ⟨_, rfl, ?_⟩
            refine iteF ?_
            refine ⟨_, rfl, _, rfl, p, c, x, a0, dx, fs, ks, _, rfl, PE, by omega, kD _ _ xC nxp, nxp, nap, f1, f4, kD _ _ aC nap, hn, nd, l1, l5, h8, fun GF PF kF => ?_⟩
            have kG : Keep p GC GF := kD.trans kF
            refine ⟨_, rfl, ?_⟩
            refine iteF ?_
            have xF := kG _ _ xC nxp
            have aF := kG _ _ aC nap
            have DF := kG _ _ DC nDp
            have yF := kG _ _ yC nyp
            have gF : ∀ b ∈ bs, ∃ xs, Good K GF ks b xs ∧ num b = numOf ks xs := good_keep hn nd bC gC kG
            have bF : ∀ b ∈ bs, b ≠ p ∧ ∃ m, GF b = some (.tup ((subOf m ks 0).map V.str)) := fun b hb => by
              obtain ⟨n1, m, hm⟩ := bC b hb
              exact ⟨n1, m, kG _ _ hm n1⟩
            clear xC aC DC yC gC bC kD kE kF kG sD sB PA PB PC PE kC
            show tNext _ ([some (.ref a), some (.ref p), some (.int (0 + (i : Int))), some (.ref a0), some (.int ((2 ^ ks.length : Nat) : Int)), some (.ref D), some (.ref x), some (.int zn), w8, some (.str nm), some (.ref t13), none] : L2.St) _
            refine ⟨_, rfl, x, T.c_Rows, dx, fs, _, rfl, xF, T.k_Rows, T.na_possible, f2, rfl, _, rfl, _, rfl, a0, D, ks, bs, num, rfl, aF, hn, nd, l1, l5, SqL.of DF, hb1, by omega, gF, fun ys2 kz2 x2 dx2 y2 GH et2 hp2 hso2 nx2 ny2 sH eH exH => ?_⟩
            refine ⟨x2, T.c_Rows, dx2, _, _, rfl, exH, T.k_Rows, T.na_possible, rfl, ?_⟩
            obtain rfl : kz2 = kz := inl_inj (et2.symm.trans et)
            obtain rfl : ys2 = ys := sorted_one hp2 hp hso2 hso
            obtain ⟨ds, hds, c1, c2⟩ := dp_things (K := K) (H := GH) (possOf num bs ys2) fun v hv => by
              rcases poss_mem hv with rfl | ⟨b, hb, rfl⟩
              · exact ⟨.none, .non, by simp [PyData.canLay0], by simp [PyData.depth]⟩
              · obtain ⟨_, m, hm⟩ := bF b hb
                have s2 := shaped_strs (subOf m ks 0) fun z hz => (hn z (subOf_mem hz)).2
                refine ⟨_, .tup (SqT.of (sH _ _ hm)) (dp_strs _), SeqAt.canLay_of_shaped s2, ?_⟩
                have := depth_strs (subOf m ks 0)
                simp only [PyData.depth]
                omega
            have shd : SeqAt.shaped (.tuple ds) = true := by
              unfold SeqAt.shaped
              have h3 : PyData.depth (.tuple ds) ≤ 64 := by
                simp only [PyData.depth]
                omega
              simp only [PyData.canLay0, c1, h3, decide_true, Bool.and_self]
            refine ⟨.tuple ds, .tuple ds, .tup (SqT.of (sH _ _ yF)) hds, .tup (SqT.of eH) hds, shd, shd, _, rfl, ?_⟩
            rw [eqv_shaped shd]
            refine iteF ?_
            exact ⟨_, _, _, _, _, _, _, _, _, rfl, (PF.same sH).mono (by omega)⟩
    · rintro σ H2 ⟨v2, v3, v4, v5, v6, v7, v8, v9, v10, rfl, P2⟩
      exact q _
end
theorem all_mk {l : PySem.W.OpenLaw} {w : World} {K : PySem.W.Frag} {h : Heap} {mg : Str → Option Value} {fa : Addr} (X : K.In h) (G : h.Ns mainGlobals mg) (hfa : mg "law" = some (.ref fa))
    {c_Rows : Addr}
    {f1 : Addr} {od1 an1 : Option Addr} {sl1 : Array (Option Value)} {oc1 kV1 dc1 pm1 cd1 ct1 : Value}
    {f2 : Addr} {od2 an2 : Option Addr} {sl2 : Array (Option Value)} {oc2 kV2 dc2 pm2 cd2 ct2 : Value}
    {f3 : Addr} {od3 an3 : Option Addr} {sl3 : Array (Option Value)} {oc3 kV3 dc3 pm3 cd3 ct3 : Value}
    {f4 : Addr} {od4 an4 : Option Addr} {sl4 : Array (Option Value)} {oc4 kV4 dc4 pm4 cd4 ct4 : Value}
    {f5 : Addr} {od5 an5 : Option Addr} {sl5 : Array (Option Value)} {oc5 kV5 dc5 pm5 cd5 ct5 : Value}
    {f6 : Addr} {od6 an6 : Option Addr} {sl6 : Array (Option Value)} {oc6 kV6 dc6 pm6 cd6 ct6 : Value}
    {f7 : Addr} {od7 an7 : Option Addr} {sl7 : Array (Option Value)} {oc7 kV7 dc7 pm7 cd7 ct7 : Value}
    {f8 : Addr} {od8 an8 : Option Addr} {sl8 : Array (Option Value)} {oc8 kV8 dc8 pm8 cd8 ct8 : Value}
    {f9 : Addr} {od9 an9 : Option Addr} {sl9 : Array (Option Value)} {oc9 kV9 dc9 pm9 cd9 ct9 : Value}
    {f10 : Addr} {od10 an10 : Option Addr} {sl10 : Array (Option Value)} {oc10 kV10 dc10 pm10 cd10 ct10 : Value}
    {q10 : Addr} {rs10 : List Value}
    {f11 : Addr} {od11 an11 : Option Addr} {sl11 : Array (Option Value)} {oc11 kV11 dc11 pm11 cd11 ct11 : Value}
    {f12 : Addr} {od12 an12 : Option Addr} {sl12 : Array (Option Value)} {oc12 kV12 dc12 pm12 cd12 ct12 : Value}
    {f13 : Addr} {od13 an13 : Option Addr} {sl13 : Array (Option Value)} {oc13 kV13 dc13 pm13 cd13 ct13 : Value}
    {f14 : Addr} {od14 an14 : Option Addr} {sl14 : Array (Option Value)} {oc14 kV14 dc14 pm14 cd14 ct14 : Value}
    {f15 : Addr} {od15 an15 : Option Addr} {sl15 : Array (Option Value)} {oc15 kV15 dc15 pm15 cd15 ct15 : Value}
    {f16 : Addr} {od16 an16 : Option Addr} {sl16 : Array (Option Value)} {oc16 kV16 dc16 pm16 cd16 ct16 : Value}
    {f17 : Addr} {od17 an17 : Option Addr} {sl17 : Array (Option Value)} {oc17 kV17 dc17 pm17 cd17 ct17 : Value}
    {f18 : Addr} {od18 an18 : Option Addr} {sl18 : Array (Option Value)} {oc18 kV18 dc18 pm18 cd18 ct18 : Value}
    {f19 : Addr} {od19 an19 : Option Addr} {sl19 : Array (Option Value)} {oc19 kV19 dc19 pm19 cd19 ct19 : Value}
    {f20 : Addr} {od20 an20 : Option Addr} {sl20 : Array (Option Value)} {oc20 kV20 dc20 pm20 cd20 ct20 : Value}
    {u_LETTERS : Tok}
    {u_MOST_CONDITIONS : Tok}
    {u_MOST_SIGNS : Tok}
    {q_RESERVED : Addr} {o_RESERVED : Obj} {n_RESERVED : Nat} {i_RESERVED : Array Value} 
    {u_SIGNS : Tok}
    {cO : Addr}
    {c_InvalidRows g_InvalidRows N_InvalidRows : Addr} {nm_InvalidRows q_InvalidRows : Str} {bs_InvalidRows : List Value} {sn_InvalidRows : List Str} {sub_InvalidRows : List Value} {ab_InvalidRows : Bool} {col_InvalidRows : Option Bool} {dd_InvalidRows : Option Addr} {m0_InvalidRows m1_InvalidRows m2_InvalidRows m3_InvalidRows m5_InvalidRows : Option Value}
    {od_InvalidRows an_InvalidRows : Option Addr} {sl_InvalidRows : Array (Option Value)} {oc_InvalidRows kV_InvalidRows dc_InvalidRows pm_InvalidRows cd_InvalidRows ct_InvalidRows : Value}
    {c_InvalidRow g_InvalidRow N_InvalidRow : Addr} {nm_InvalidRow q_InvalidRow : Str} {bs_InvalidRow : List Value} {sn_InvalidRow : List Str} {sub_InvalidRow : List Value} {ab_InvalidRow : Bool} {col_InvalidRow : Option Bool} {dd_InvalidRow : Option Addr} {m0_InvalidRow m1_InvalidRow m2_InvalidRow m3_InvalidRow m5_InvalidRow : Option Value}
    {od_InvalidRow an_InvalidRow : Option Addr} {sl_InvalidRow : Array (Option Value)} {oc_InvalidRow kV_InvalidRow dc_InvalidRow pm_InvalidRow cd_InvalidRow ct_InvalidRow : Value}
    {c_NoCondition g_NoCondition N_NoCondition : Addr} {nm_NoCondition q_NoCondition : Str} {bs_NoCondition : List Value} {sn_NoCondition : List Str} {sub_NoCondition : List Value} {ab_NoCondition : Bool} {col_NoCondition : Option Bool} {dd_NoCondition : Option Addr} {m0_NoCondition m1_NoCondition m2_NoCondition m3_NoCondition m5_NoCondition : Option Value}
    {od_NoCondition an_NoCondition : Option Addr} {sl_NoCondition : Array (Option Value)} {oc_NoCondition kV_NoCondition dc_NoCondition pm_NoCondition cd_NoCondition ct_NoCondition : Value}
    (aR_Rows : PySem.W.nsIn K mainGlobals "Rows" = some (some (.ref c_Rows))) (pg_Rows : PySem.W.plainGet K c_Rows Str.empty = true) (hdR_Rows : PySem.W.hasDictIn K c_Rows = true) (po_Rows : PySem.W.plainOver K c_Rows = true) (saR_Rows : PySem.W.findIn K (.ref c_Rows) "__setattr__" = some (some (.builtin "object.__setattr__"))) (mk_Rows : PySem.W.makesIn K c_Rows = true) (kp_Rows : PySem.W.keepIn K (.ref c_Rows) = true) (rd_Rows : PySem.W.readsIn K c_Rows (.type "type") = true) (gaR_Rows : PySem.W.specialIn K (.ref c_Rows) "__getattribute__" = some (some (.builtin "type.__getattribute__")))
    (na_Rows_conditions : PySem.W.findIn K (.ref c_Rows) "conditions" = some none)
    (na_Rows_possible : PySem.W.findIn K (.ref c_Rows) "possible" = some none)
    (a1 : PySem.W.nsIn K mainGlobals "is_name" = some (some (.ref f1)))
    (l1 : K.lookup f1 = some ⟨oc1, od1, .func (PySem.W.fnOf "is_name" "is_name" (defArgs s_is_name) (defBody s_is_name) (defScope s_is_name) .none kV1 dc1 pm1 an1 cd1 ct1), sl1⟩) (c1 : PySem.W.codeIn K cd1 "is_name" = true) (k1 : PySem.W.keepIn K (.ref f1) = true)
    (a2 : PySem.W.nsIn K mainGlobals "are_names" = some (some (.ref f2)))
    (l2 : K.lookup f2 = some ⟨oc2, od2, .func (PySem.W.fnOf "are_names" "are_names" (defArgs s_are_names) (defBody s_are_names) (defScope s_are_names) .none kV2 dc2 pm2 an2 cd2 ct2), sl2⟩) (c2 : PySem.W.codeIn K cd2 "are_names" = true) (k2 : PySem.W.keepIn K (.ref f2) = true)
    (a3 : PySem.W.nsIn K mainGlobals "check_conditions" = some (some (.ref f3)))
    (l3 : K.lookup f3 = some ⟨oc3, od3, .func (PySem.W.fnOf "check_conditions" "check_conditions" (defArgs s_check_conditions) (defBody s_check_conditions) (defScope s_check_conditions) .none kV3 dc3 pm3 an3 cd3 ct3), sl3⟩) (c3 : PySem.W.codeIn K cd3 "check_conditions" = true) (k3 : PySem.W.keepIn K (.ref f3) = true)
    (a4 : PySem.W.nsIn K mainGlobals "row_with" = some (some (.ref f4)))
    (l4 : K.lookup f4 = some ⟨oc4, od4, .func (PySem.W.fnOf "row_with" "row_with" (defArgs s_row_with) (defBody s_row_with) (defScope s_row_with) .none kV4 dc4 pm4 an4 cd4 ct4), sl4⟩) (c4 : PySem.W.codeIn K cd4 "row_with" = true) (k4 : PySem.W.keepIn K (.ref f4) = true)
    (a5 : PySem.W.nsIn K mainGlobals "row_number" = some (some (.ref f5)))
    (l5 : K.lookup f5 = some ⟨oc5, od5, .func (PySem.W.fnOf "row_number" "row_number" (defArgs s_row_number) (defBody s_row_number) (defScope s_row_number) .none kV5 dc5 pm5 an5 cd5 ct5), sl5⟩) (c5 : PySem.W.codeIn K cd5 "row_number" = true) (k5 : PySem.W.keepIn K (.ref f5) = true)
    (a6 : PySem.W.nsIn K mainGlobals "is_row" = some (some (.ref f6)))
    (l6 : K.lookup f6 = some ⟨oc6, od6, .func (PySem.W.fnOf "is_row" "is_row" (defArgs s_is_row) (defBody s_is_row) (defScope s_is_row) .none kV6 dc6 pm6 an6 cd6 ct6), sl6⟩) (c6 : PySem.W.codeIn K cd6 "is_row" = true) (k6 : PySem.W.keepIn K (.ref f6) = true)
    (a7 : PySem.W.findIn K (.ref c_Rows) "number" = some (some (.ref f7))) (g7 : PySem.W.isFn K (.ref f7) = true)
    (l7 : K.lookup f7 = some ⟨oc7, od7, .func (PySem.W.fnOf "number" "Rows.number" (defArgs s_Rows_number) (defBody s_Rows_number) (defScope s_Rows_number) .none kV7 dc7 pm7 an7 cd7 ct7), sl7⟩) (c7 : PySem.W.codeIn K cd7 "Rows.number" = true) (k7 : PySem.W.keepIn K (.ref f7) = true)
    (a8 : PySem.W.findIn K (.ref c_Rows) "having" = some (some (.ref f8))) (g8 : PySem.W.isFn K (.ref f8) = true)
    (l8 : K.lookup f8 = some ⟨oc8, od8, .func (PySem.W.fnOf "having" "Rows.having" (defArgs s_Rows_having) (defBody s_Rows_having) (defScope s_Rows_having) .none kV8 dc8 pm8 an8 cd8 ct8), sl8⟩) (c8 : PySem.W.codeIn K cd8 "Rows.having" = true) (k8 : PySem.W.keepIn K (.ref f8) = true)
    (a9 : PySem.W.findIn K (.ref c_Rows) "__init__" = some (some (.ref f9))) (g9 : PySem.W.isFn K (.ref f9) = true)
    (l9 : K.lookup f9 = some ⟨oc9, od9, .func (PySem.W.fnOf "__init__" "Rows.__init__" (defArgs s_Rows_init) (defBody s_Rows_init) (defScope s_Rows_init) .none kV9 dc9 pm9 an9 cd9 ct9), sl9⟩) (c9 : PySem.W.codeIn K cd9 "Rows.__init__" = true) (k9 : PySem.W.keepIn K (.ref f9) = true)
    (a10 : PySem.W.findCls K (.ref c_Rows) (.type "type") "of" = some (.get (.builtin "classmethod.__get__") (.ref q10) .none (.ref c_Rows))) (r10 : PySem.W.recIn K q10 "classmethod" = some (.ref f10 :: rs10)) (g10 : PySem.W.fnIn K f10 = true)
    (l10 : K.lookup f10 = some ⟨oc10, od10, .func (PySem.W.fnOf "of" "Rows.of" (defArgs s_Rows_of) (defBody s_Rows_of) (defScope s_Rows_of) .none kV10 dc10 pm10 an10 cd10 ct10), sl10⟩) (c10 : PySem.W.codeIn K cd10 "Rows.of" = true) (k10 : PySem.W.keepIn K (.ref f10) = true)
    (a11 : PySem.W.nsIn K mainGlobals "_law_pen" = some (some (.ref f11)))
    (l11 : K.lookup f11 = some ⟨oc11, od11, .func (PySem.W.fnOf "_law_pen" "_law_pen" (defArgs s__law_pen) (defBody s__law_pen) (defScope s__law_pen) .none kV11 dc11 pm11 an11 cd11 ct11), sl11⟩) (c11 : PySem.W.codeIn K cd11 "_law_pen" = true) (k11 : PySem.W.keepIn K (.ref f11) = true)
    (a12 : PySem.W.nsIn K mainGlobals "_law_draw" = some (some (.ref f12)))
    (l12 : K.lookup f12 = some ⟨oc12, od12, .func (PySem.W.fnOf "_law_draw" "_law_draw" (defArgs s__law_draw) (defBody s__law_draw) (defScope s__law_draw) .none kV12 dc12 pm12 an12 cd12 ct12), sl12⟩) (c12 : PySem.W.codeIn K cd12 "_law_draw" = true) (k12 : PySem.W.keepIn K (.ref f12) = true)
    (a13 : PySem.W.nsIn K mainGlobals "_law_pick" = some (some (.ref f13)))
    (l13 : K.lookup f13 = some ⟨oc13, od13, .func (PySem.W.fnOf "_law_pick" "_law_pick" (defArgs s__law_pick) (defBody s__law_pick) (defScope s__law_pick) .none kV13 dc13 pm13 an13 cd13 ct13), sl13⟩) (c13 : PySem.W.codeIn K cd13 "_law_pick" = true) (k13 : PySem.W.keepIn K (.ref f13) = true)
    (a14 : PySem.W.nsIn K mainGlobals "_law_conditions" = some (some (.ref f14)))
    (l14 : K.lookup f14 = some ⟨oc14, od14, .func (PySem.W.fnOf "_law_conditions" "_law_conditions" (defArgs s__law_conditions) (defBody s__law_conditions) (defScope s__law_conditions) .none kV14 dc14 pm14 an14 cd14 ct14), sl14⟩) (c14 : PySem.W.codeIn K cd14 "_law_conditions" = true) (k14 : PySem.W.keepIn K (.ref f14) = true)
    (a15 : PySem.W.nsIn K mainGlobals "_law_row" = some (some (.ref f15)))
    (l15 : K.lookup f15 = some ⟨oc15, od15, .func (PySem.W.fnOf "_law_row" "_law_row" (defArgs s__law_row) (defBody s__law_row) (defScope s__law_row) .none kV15 dc15 pm15 an15 cd15 ct15), sl15⟩) (c15 : PySem.W.codeIn K cd15 "_law_row" = true) (k15 : PySem.W.keepIn K (.ref f15) = true)
    (a16 : PySem.W.nsIn K mainGlobals "_law_having" = some (some (.ref f16)))
    (l16 : K.lookup f16 = some ⟨oc16, od16, .func (PySem.W.fnOf "_law_having" "_law_having" (defArgs s__law_having) (defBody s__law_having) (defScope s__law_having) .none kV16 dc16 pm16 an16 cd16 ct16), sl16⟩) (c16 : PySem.W.codeIn K cd16 "_law_having" = true) (k16 : PySem.W.keepIn K (.ref f16) = true)
    (a17 : PySem.W.nsIn K mainGlobals "_law_refused" = some (some (.ref f17)))
    (l17 : K.lookup f17 = some ⟨oc17, od17, .func (PySem.W.fnOf "_law_refused" "_law_refused" (defArgs s__law_refused) (defBody s__law_refused) (defScope s__law_refused) .none kV17 dc17 pm17 an17 cd17 ct17), sl17⟩) (c17 : PySem.W.codeIn K cd17 "_law_refused" = true) (k17 : PySem.W.keepIn K (.ref f17) = true)
    (a18 : PySem.W.nsIn K mainGlobals "_law_told" = some (some (.ref f18)))
    (l18 : K.lookup f18 = some ⟨oc18, od18, .func (PySem.W.fnOf "_law_told" "_law_told" (defArgs s__law_told) (defBody s__law_told) (defScope s__law_told) .none kV18 dc18 pm18 an18 cd18 ct18), sl18⟩) (c18 : PySem.W.codeIn K cd18 "_law_told" = true) (k18 : PySem.W.keepIn K (.ref f18) = true)
    (a19 : PySem.W.nsIn K mainGlobals "_law_named" = some (some (.ref f19)))
    (l19 : K.lookup f19 = some ⟨oc19, od19, .func (PySem.W.fnOf "_law_named" "_law_named" (defArgs s__law_named) (defBody s__law_named) (defScope s__law_named) .none kV19 dc19 pm19 an19 cd19 ct19), sl19⟩) (c19 : PySem.W.codeIn K cd19 "_law_named" = true) (k19 : PySem.W.keepIn K (.ref f19) = true)
    (a20 : PySem.W.nsIn K mainGlobals "law" = some (some (.ref f20)))
    (l20 : K.lookup f20 = some ⟨oc20, od20, .func (PySem.W.fnOf "law" "law" (defArgs s_law) (defBody s_law) (defScope s_law) .none kV20 dc20 pm20 an20 cd20 ct20), sl20⟩) (c20 : PySem.W.codeIn K cd20 "law" = true) (k20 : PySem.W.keepIn K (.ref f20) = true)
    (z_abs : PySem.W.nsIn K mainGlobals "abs" = some none)
    (z_all : PySem.W.nsIn K mainGlobals "all" = some none)
    (z_bool : PySem.W.nsIn K mainGlobals "bool" = some none)
    (z_classmethod : PySem.W.nsIn K mainGlobals "classmethod" = some none)
    (z_enumerate : PySem.W.nsIn K mainGlobals "enumerate" = some none)
    (z_int : PySem.W.nsIn K mainGlobals "int" = some none)
    (z_isinstance : PySem.W.nsIn K mainGlobals "isinstance" = some none)
    (z_len : PySem.W.nsIn K mainGlobals "len" = some none)
    (z_list : PySem.W.nsIn K mainGlobals "list" = some none)
    (z_range : PySem.W.nsIn K mainGlobals "range" = some none)
    (z_repr : PySem.W.nsIn K mainGlobals "repr" = some none)
    (z_set : PySem.W.nsIn K mainGlobals "set" = some none)
    (z_sorted : PySem.W.nsIn K mainGlobals "sorted" = some none)
    (z_str : PySem.W.nsIn K mainGlobals "str" = some none)
    (z_sum : PySem.W.nsIn K mainGlobals "sum" = some none)
    (z_tuple : PySem.W.nsIn K mainGlobals "tuple" = some none)
    (y_LETTERS : PySem.W.nsIn K mainGlobals "LETTERS" = some (some (Value.str "abcdefghijklmnopqrstuvwxyz" u_LETTERS)))
    (y_MOST_CONDITIONS : PySem.W.nsIn K mainGlobals "MOST_CONDITIONS" = some (some (Value.int 5 u_MOST_CONDITIONS)))
    (y_MOST_SIGNS : PySem.W.nsIn K mainGlobals "MOST_SIGNS" = some (some (Value.int 8 u_MOST_SIGNS)))
    (y_RESERVED : PySem.W.nsIn K mainGlobals "RESERVED" = some (some (.ref q_RESERVED))) (w_RESERVED : K.lookup q_RESERVED = some o_RESERVED) (w2_RESERVED : o_RESERVED.cls = .type "tuple" ∧ o_RESERVED.data = .seq i_RESERVED n_RESERVED ∧ i_RESERVED.size ≤ sizeLine ∧ Vals [.str "to", .str "if", .str "tag", .str "all", .str "none"] i_RESERVED.toList)
    (y_SIGNS : PySem.W.nsIn K mainGlobals "SIGNS" = some (some (Value.str "abcdefghijklmnopqrstuvwxyz0123456789" u_SIGNS)))
    (aO : PySem.W.nsIn K mainGlobals "OrError" = some (some (.ref cO)))
    (aC_InvalidRows : PySem.W.nsIn K mainGlobals "InvalidRows" = some (some (.ref c_InvalidRows))) (xL_InvalidRows : K.lookup c_InvalidRows = some (excClassObj nm_InvalidRows q_InvalidRows c_InvalidRows N_InvalidRows bs_InvalidRows [.ref cO, .type "ValueError", .type "Exception", .type "BaseException", .type "object"] true sn_InvalidRows sub_InvalidRows ab_InvalidRows col_InvalidRows dd_InvalidRows m0_InvalidRows m1_InvalidRows m2_InvalidRows m3_InvalidRows m5_InvalidRows "ValueError.__new__"))
    (iC_InvalidRows : PySem.W.findIn K (.ref c_InvalidRows) "__init__" = some (some (.ref g_InvalidRows))) (iT_InvalidRows : PySem.W.typeIn K (.ref g_InvalidRows) = some (.type "function")) (lC_InvalidRows : K.lookup g_InvalidRows = some ⟨oc_InvalidRows, od_InvalidRows, .func (PySem.W.fnOf "__init__" "InvalidRows.__init__" (defArgs s_InvalidRows_init) (defBody s_InvalidRows_init) (defScope s_InvalidRows_init) .none kV_InvalidRows dc_InvalidRows pm_InvalidRows an_InvalidRows cd_InvalidRows ct_InvalidRows), sl_InvalidRows⟩) (cC_InvalidRows : PySem.W.codeIn K cd_InvalidRows "InvalidRows.__init__" = true) (kC_InvalidRows : PySem.W.keepIn K (.ref g_InvalidRows) = true)
    (sa_InvalidRows : PySem.W.findIn K (.ref c_InvalidRows) "__setattr__" = some (some (.builtin "object.__setattr__"))) (eC_InvalidRows : PySem.W.subIn K (.ref c_InvalidRows) (.type "BaseException") = some true) (tC_InvalidRows : PySem.W.typeIn K (.ref c_InvalidRows) = some (.type "type")) (pC_InvalidRows : PySem.W.keepIn K (.ref c_InvalidRows) = true) (ga_InvalidRows : PySem.W.findIn K (.ref c_InvalidRows) "__getattribute__" = some (some (.builtin "BaseException.__getattribute__"))) (gg_InvalidRows : PySem.W.findIn K (.ref c_InvalidRows) "__getattr__" = some none) (cl_InvalidRows : PySem.W.findIn K (.ref c_InvalidRows) "__class__" = some (some (.builtin "object.__class__"))) (hd_InvalidRows : PySem.W.hasDictIn K c_InvalidRows = true) (ic_InvalidRows : PySem.W.isClsIn K c_InvalidRows = true) (ob_InvalidRows : PySem.W.mroIn K c_InvalidRows (.type "object") = some true)
    (no_InvalidRows_part : PySem.W.findIn K (.ref c_InvalidRows) "part" = some none)
    (aC_InvalidRow : PySem.W.nsIn K mainGlobals "InvalidRow" = some (some (.ref c_InvalidRow))) (xL_InvalidRow : K.lookup c_InvalidRow = some (excClassObj nm_InvalidRow q_InvalidRow c_InvalidRow N_InvalidRow bs_InvalidRow [.ref cO, .type "ValueError", .type "Exception", .type "BaseException", .type "object"] true sn_InvalidRow sub_InvalidRow ab_InvalidRow col_InvalidRow dd_InvalidRow m0_InvalidRow m1_InvalidRow m2_InvalidRow m3_InvalidRow m5_InvalidRow "ValueError.__new__"))
    (iC_InvalidRow : PySem.W.findIn K (.ref c_InvalidRow) "__init__" = some (some (.ref g_InvalidRow))) (iT_InvalidRow : PySem.W.typeIn K (.ref g_InvalidRow) = some (.type "function")) (lC_InvalidRow : K.lookup g_InvalidRow = some ⟨oc_InvalidRow, od_InvalidRow, .func (PySem.W.fnOf "__init__" "InvalidRow.__init__" (defArgs s_InvalidRow_init) (defBody s_InvalidRow_init) (defScope s_InvalidRow_init) .none kV_InvalidRow dc_InvalidRow pm_InvalidRow an_InvalidRow cd_InvalidRow ct_InvalidRow), sl_InvalidRow⟩) (cC_InvalidRow : PySem.W.codeIn K cd_InvalidRow "InvalidRow.__init__" = true) (kC_InvalidRow : PySem.W.keepIn K (.ref g_InvalidRow) = true)
    (sa_InvalidRow : PySem.W.findIn K (.ref c_InvalidRow) "__setattr__" = some (some (.builtin "object.__setattr__"))) (eC_InvalidRow : PySem.W.subIn K (.ref c_InvalidRow) (.type "BaseException") = some true) (tC_InvalidRow : PySem.W.typeIn K (.ref c_InvalidRow) = some (.type "type")) (pC_InvalidRow : PySem.W.keepIn K (.ref c_InvalidRow) = true) (ga_InvalidRow : PySem.W.findIn K (.ref c_InvalidRow) "__getattribute__" = some (some (.builtin "BaseException.__getattribute__"))) (gg_InvalidRow : PySem.W.findIn K (.ref c_InvalidRow) "__getattr__" = some none) (cl_InvalidRow : PySem.W.findIn K (.ref c_InvalidRow) "__class__" = some (some (.builtin "object.__class__"))) (hd_InvalidRow : PySem.W.hasDictIn K c_InvalidRow = true) (ic_InvalidRow : PySem.W.isClsIn K c_InvalidRow = true) (ob_InvalidRow : PySem.W.mroIn K c_InvalidRow (.type "object") = some true)
    (no_InvalidRow_value : PySem.W.findIn K (.ref c_InvalidRow) "value" = some none)
    (aC_NoCondition : PySem.W.nsIn K mainGlobals "NoCondition" = some (some (.ref c_NoCondition))) (xL_NoCondition : K.lookup c_NoCondition = some (excClassObj nm_NoCondition q_NoCondition c_NoCondition N_NoCondition bs_NoCondition [.ref cO, .type "ValueError", .type "Exception", .type "BaseException", .type "object"] true sn_NoCondition sub_NoCondition ab_NoCondition col_NoCondition dd_NoCondition m0_NoCondition m1_NoCondition m2_NoCondition m3_NoCondition m5_NoCondition "ValueError.__new__"))
    (iC_NoCondition : PySem.W.findIn K (.ref c_NoCondition) "__init__" = some (some (.ref g_NoCondition))) (iT_NoCondition : PySem.W.typeIn K (.ref g_NoCondition) = some (.type "function")) (lC_NoCondition : K.lookup g_NoCondition = some ⟨oc_NoCondition, od_NoCondition, .func (PySem.W.fnOf "__init__" "NoCondition.__init__" (defArgs s_NoCondition_init) (defBody s_NoCondition_init) (defScope s_NoCondition_init) .none kV_NoCondition dc_NoCondition pm_NoCondition an_NoCondition cd_NoCondition ct_NoCondition), sl_NoCondition⟩) (cC_NoCondition : PySem.W.codeIn K cd_NoCondition "NoCondition.__init__" = true) (kC_NoCondition : PySem.W.keepIn K (.ref g_NoCondition) = true)
    (sa_NoCondition : PySem.W.findIn K (.ref c_NoCondition) "__setattr__" = some (some (.builtin "object.__setattr__"))) (eC_NoCondition : PySem.W.subIn K (.ref c_NoCondition) (.type "BaseException") = some true) (tC_NoCondition : PySem.W.typeIn K (.ref c_NoCondition) = some (.type "type")) (pC_NoCondition : PySem.W.keepIn K (.ref c_NoCondition) = true) (ga_NoCondition : PySem.W.findIn K (.ref c_NoCondition) "__getattribute__" = some (some (.builtin "BaseException.__getattribute__"))) (gg_NoCondition : PySem.W.findIn K (.ref c_NoCondition) "__getattr__" = some none) (cl_NoCondition : PySem.W.findIn K (.ref c_NoCondition) "__class__" = some (some (.builtin "object.__class__"))) (hd_NoCondition : PySem.W.hasDictIn K c_NoCondition = true) (ic_NoCondition : PySem.W.isClsIn K c_NoCondition = true) (ob_NoCondition : PySem.W.mroIn K c_NoCondition (.type "object") = some true)
    (no_NoCondition_name : PySem.W.findIn K (.ref c_NoCondition) "name" = some none)
    (zg : PySem.W.specialIn K (.builtin "object.__class__") "__get__" = some (some (.builtin "getset_descriptor.__get__"))) (zt : PySem.W.takesIn K (.builtin "object.__class__") = some true)
    (xmIR : PySem.W.exmOne K (.ref c_InvalidRow) (.ref c_InvalidRow) = some true)
    (koIR1 : PySem.W.kitOne K (.ref c_InvalidRow) (.ref cO) = some true)
    (koIR2 : PySem.W.kitOne K (.ref c_InvalidRow) (.ref c_NoCondition) = some false)
    (xmNC : PySem.W.exmOne K (.ref c_NoCondition) (.ref c_NoCondition) = some true)
    (koNC1 : PySem.W.kitOne K (.ref c_NoCondition) (.ref cO) = some true)
    (koNC2 : PySem.W.kitOne K (.ref c_NoCondition) (.ref c_InvalidRow) = some false) :
    ∃ fd : FuncData, (∀ (s : Shared) (v : Value), BindsTo s fd ⟨[v], []⟩ [("_law_script", v)]) ∧ ∀ base : Heap, K.In base → base.Ns mainGlobals mg → FnG l.prog w K mg base 9 fa fd ["_law_script"] (spLaw K) := by
  have e := hfa.symm.trans (PySem.W.mg_of X G a20)
  cases e
  have F1 := fun_mk (st := s_is_name) l1 c1 k1
  have b1 := F1.binds (ps := ["value"]) fun _ _ _ _ _ _ us hl => match us, hl with | [_], _ => rfl
  have F2 := fun_mk (st := s_are_names) l2 c2 k2
  have b2 := F2.binds (ps := ["values", "most"]) fun _ _ _ _ _ _ us hl => match us, hl with | [_, _], _ => rfl
  have F3 := fun_mk (st := s_check_conditions) l3 c3 k3
  have b3 := F3.binds (ps := ["conditions"]) fun _ _ _ _ _ _ us hl => match us, hl with | [_], _ => rfl
  have F4 := fun_mk (st := s_row_with) l4 c4 k4
  have b4 := F4.binds (ps := ["conditions", "raised"]) fun _ _ _ _ _ _ us hl => match us, hl with | [_, _], _ => rfl
  have F5 := fun_mk (st := s_row_number) l5 c5 k5
  have b5 := F5.binds (ps := ["conditions", "row"]) fun _ _ _ _ _ _ us hl => match us, hl with | [_, _], _ => rfl
  have F6 := fun_mk (st := s_is_row) l6 c6 k6
  have b6 := F6.binds (ps := ["conditions", "value"]) fun _ _ _ _ _ _ us hl => match us, hl with | [_, _], _ => rfl
  have F7 := fun_mk (st := s_Rows_number) l7 c7 k7
  have b7 := F7.binds (ps := ["self", "row"]) fun _ _ _ _ _ _ us hl => match us, hl with | [_, _], _ => rfl
  have F8 := fun_mk (st := s_Rows_having) l8 c8 k8
  have F9 := fun_mk (st := s_Rows_init) l9 c9 k9
  have F10 := fun_mk (st := s_Rows_of) l10 c10 k10
  have b10 := F10.binds (ps := ["cls", "conditions", "possible"]) fun _ _ _ _ _ _ us hl => match us, hl with | [_, _, _], _ => rfl
  have F11 := fun_mk (st := s__law_pen) l11 c11 k11
  have b11 := F11.binds (ps := ["_law_script"]) fun _ _ _ _ _ _ us hl => match us, hl with | [_], _ => rfl
  have F12 := fun_mk (st := s__law_draw) l12 c12 k12
  have b12 := F12.binds (ps := ["_law_pen_here", "_law_many"]) fun _ _ _ _ _ _ us hl => match us, hl with | [_, _], _ => rfl
  have F13 := fun_mk (st := s__law_pick) l13 c13 k13
  have b13 := F13.binds (ps := ["_law_pen_here", "_law_some"]) fun _ _ _ _ _ _ us hl => match us, hl with | [_, _], _ => rfl
  have F14 := fun_mk (st := s__law_conditions) l14 c14 k14
  have b14 := F14.binds (ps := ["_law_pen_here", "_law_most"]) fun _ _ _ _ _ _ us hl => match us, hl with | [_, _], _ => rfl
  have F15 := fun_mk (st := s__law_row) l15 c15 k15
  have b15 := F15.binds (ps := ["_law_conditions_here", "_law_bits"]) fun _ _ _ _ _ _ us hl => match us, hl with | [_, _], _ => rfl
  have F16 := fun_mk (st := s__law_having) l16 c16 k16
  have b16 := F16.binds (ps := ["_law_made", "_law_names"]) fun _ _ _ _ _ _ us hl => match us, hl with | [_, _], _ => rfl
  have F17 := fun_mk (st := s__law_refused) l17 c17 k17
  have b17 := F17.binds (ps := ["_law_made", "_law_thing"]) fun _ _ _ _ _ _ us hl => match us, hl with | [_, _], _ => rfl
  have F18 := fun_mk (st := s__law_told) l18 c18 k18
  have b18 := F18.binds (ps := ["_law_made", "_law_names"]) fun _ _ _ _ _ _ us hl => match us, hl with | [_, _], _ => rfl
  have F19 := fun_mk (st := s__law_named) l19 c19 k19
  have b19 := F19.binds (ps := ["_law_pen_here", "_law_made"]) fun _ _ _ _ _ _ us hl => match us, hl with | [_, _], _ => rfl
  have F20 := fun_mk (st := s_law) l20 c20 k20
  have b20 := F20.binds (ps := ["_law_script"]) fun _ _ _ _ _ _ us hl => match us, hl with | [_], _ => rfl
  have F_InvalidRows := fun_mk (st := s_InvalidRows_init) lC_InvalidRows cC_InvalidRows kC_InvalidRows
  have b_InvalidRows := F_InvalidRows.binds (ps := ["self", "part"]) fun _ _ _ _ _ _ us hl => match us, hl with | [_, _], _ => rfl
  have F_InvalidRow := fun_mk (st := s_InvalidRow_init) lC_InvalidRow cC_InvalidRow kC_InvalidRow
  have b_InvalidRow := F_InvalidRow.binds (ps := ["self", "value"]) fun _ _ _ _ _ _ us hl => match us, hl with | [_, _], _ => rfl
  have F_NoCondition := fun_mk (st := s_NoCondition_init) lC_NoCondition cC_NoCondition kC_NoCondition
  have b_NoCondition := F_NoCondition.binds (ps := ["self", "name"]) fun _ _ _ _ _ _ us hl => match us, hl with | [_, _], _ => rfl
  let T : Txt K mg := {
    c_Rows := c_Rows,
    m_Rows := PySem.W.mg_of X G aR_Rows,
    mc_Rows := .type "type",
    k_Rows := ⟨pg_Rows, hdR_Rows, po_Rows, saR_Rows⟩,
    cr_Rows := ⟨rd_Rows, gaR_Rows⟩,
    na_conditions := na_Rows_conditions,
    na_possible := na_Rows_possible,
    mt_number := ⟨a7, g7, k7⟩,
    mt_having := ⟨a8, g8, k8⟩,
    mk_Rows := ⟨mk_Rows, a9, g9, kp_Rows⟩,
    q_of := q10,
    cm_of := ⟨a10, ⟨_, r10⟩, g10⟩,
    xm_IR := xmIR,
    ko_IR1 := koIR1,
    ko_IR2 := koIR2,
    xm_NC := xmNC,
    ko_NC1 := koNC1,
    ko_NC2 := koNC2,
    f_is_name := f1,
    fd_is_name := _,
    F_is_name := F1,
    b_is_name := b1,
    m_is_name := PySem.W.mg_of X G a1,
    f_are_names := f2,
    fd_are_names := _,
    F_are_names := F2,
    b_are_names := b2,
    m_are_names := PySem.W.mg_of X G a2,
    f_check_conditions := f3,
    fd_check_conditions := _,
    F_check_conditions := F3,
    b_check_conditions := b3,
    m_check_conditions := PySem.W.mg_of X G a3,
    f_row_with := f4,
    fd_row_with := _,
    F_row_with := F4,
    b_row_with := b4,
    m_row_with := PySem.W.mg_of X G a4,
    f_row_number := f5,
    fd_row_number := _,
    F_row_number := F5,
    b_row_number := b5,
    m_row_number := PySem.W.mg_of X G a5,
    f_is_row := f6,
    fd_is_row := _,
    F_is_row := F6,
    b_is_row := b6,
    m_is_row := PySem.W.mg_of X G a6,
    f_Rows_number := f7,
    fd_Rows_number := _,
    F_Rows_number := F7,
    b_Rows_number := b7,
    f_Rows_having := f8,
    fd_Rows_having := _,
    F_Rows_having := F8,
    f_Rows_init := f9,
    fd_Rows_init := _,
    F_Rows_init := F9,
    f_Rows_of := f10,
    fd_Rows_of := _,
    F_Rows_of := F10,
    b_Rows_of := b10,
    f__law_pen := f11,
    fd__law_pen := _,
    F__law_pen := F11,
    b__law_pen := b11,
    m__law_pen := PySem.W.mg_of X G a11,
    f__law_draw := f12,
    fd__law_draw := _,
    F__law_draw := F12,
    b__law_draw := b12,
    m__law_draw := PySem.W.mg_of X G a12,
    f__law_pick := f13,
    fd__law_pick := _,
    F__law_pick := F13,
    b__law_pick := b13,
    m__law_pick := PySem.W.mg_of X G a13,
    f__law_conditions := f14,
    fd__law_conditions := _,
    F__law_conditions := F14,
    b__law_conditions := b14,
    m__law_conditions := PySem.W.mg_of X G a14,
    f__law_row := f15,
    fd__law_row := _,
    F__law_row := F15,
    b__law_row := b15,
    m__law_row := PySem.W.mg_of X G a15,
    f__law_having := f16,
    fd__law_having := _,
    F__law_having := F16,
    b__law_having := b16,
    m__law_having := PySem.W.mg_of X G a16,
    f__law_refused := f17,
    fd__law_refused := _,
    F__law_refused := F17,
    b__law_refused := b17,
    m__law_refused := PySem.W.mg_of X G a17,
    f__law_told := f18,
    fd__law_told := _,
    F__law_told := F18,
    b__law_told := b18,
    m__law_told := PySem.W.mg_of X G a18,
    f__law_named := f19,
    fd__law_named := _,
    F__law_named := F19,
    b__law_named := b19,
    m__law_named := PySem.W.mg_of X G a19,
    f_law := fa,
    fd_law := _,
    F_law := F20,
    b_law := b20,
    m_law := PySem.W.mg_of X G a20,
    n_abs := PySem.W.mg_none_of X G z_abs,
    n_all := PySem.W.mg_none_of X G z_all,
    n_bool := PySem.W.mg_none_of X G z_bool,
    n_classmethod := PySem.W.mg_none_of X G z_classmethod,
    n_enumerate := PySem.W.mg_none_of X G z_enumerate,
    n_int := PySem.W.mg_none_of X G z_int,
    n_isinstance := PySem.W.mg_none_of X G z_isinstance,
    n_len := PySem.W.mg_none_of X G z_len,
    n_list := PySem.W.mg_none_of X G z_list,
    n_range := PySem.W.mg_none_of X G z_range,
    n_repr := PySem.W.mg_none_of X G z_repr,
    n_set := PySem.W.mg_none_of X G z_set,
    n_sorted := PySem.W.mg_none_of X G z_sorted,
    n_str := PySem.W.mg_none_of X G z_str,
    n_sum := PySem.W.mg_none_of X G z_sum,
    n_tuple := PySem.W.mg_none_of X G z_tuple,
    v_LETTERS := _,
    g_LETTERS := PySem.W.mg_of X G y_LETTERS,
    r_LETTERS := ⟨_, rfl⟩,
    v_MOST_CONDITIONS := _,
    g_MOST_CONDITIONS := PySem.W.mg_of X G y_MOST_CONDITIONS,
    r_MOST_CONDITIONS := ⟨_, rfl⟩,
    v_MOST_SIGNS := _,
    g_MOST_SIGNS := PySem.W.mg_of X G y_MOST_SIGNS,
    r_MOST_SIGNS := ⟨_, rfl⟩,
    a_RESERVED := q_RESERVED,
    g_RESERVED := PySem.W.mg_of X G y_RESERVED,
    r_RESERVED := rfl,
    t_RESERVED := fun H => .inr ⟨o_RESERVED, i_RESERVED, n_RESERVED, w_RESERVED, w2_RESERVED.1, w2_RESERVED.2.1, w2_RESERVED.2.2.1, w2_RESERVED.2.2.2⟩,
    v_SIGNS := _,
    g_SIGNS := PySem.W.mg_of X G y_SIGNS,
    r_SIGNS := ⟨_, rfl⟩,
    c_InvalidRows := c_InvalidRows,
    f_InvalidRows_init := g_InvalidRows,
    fd_InvalidRows_init := _,
    F_InvalidRows_init := F_InvalidRows,
    b_InvalidRows_init := b_InvalidRows,
    m_InvalidRows := PySem.W.mg_of X G aC_InvalidRows,
    ex_InvalidRows := ⟨⟨⟨_, _, _, _, _, _, _, _, _, _, _, _, _, _, _, xL_InvalidRows, rfl⟩, sa_InvalidRows, eC_InvalidRows, tC_InvalidRows, pC_InvalidRows⟩, iC_InvalidRows, iT_InvalidRows, ga_InvalidRows, gg_InvalidRows, cl_InvalidRows, hd_InvalidRows, ic_InvalidRows, ob_InvalidRows⟩,
    no_InvalidRows_part := no_InvalidRows_part,
    c_InvalidRow := c_InvalidRow,
    f_InvalidRow_init := g_InvalidRow,
    fd_InvalidRow_init := _,
    F_InvalidRow_init := F_InvalidRow,
    b_InvalidRow_init := b_InvalidRow,
    m_InvalidRow := PySem.W.mg_of X G aC_InvalidRow,
    ex_InvalidRow := ⟨⟨⟨_, _, _, _, _, _, _, _, _, _, _, _, _, _, _, xL_InvalidRow, rfl⟩, sa_InvalidRow, eC_InvalidRow, tC_InvalidRow, pC_InvalidRow⟩, iC_InvalidRow, iT_InvalidRow, ga_InvalidRow, gg_InvalidRow, cl_InvalidRow, hd_InvalidRow, ic_InvalidRow, ob_InvalidRow⟩,
    no_InvalidRow_value := no_InvalidRow_value,
    c_NoCondition := c_NoCondition,
    f_NoCondition_init := g_NoCondition,
    fd_NoCondition_init := _,
    F_NoCondition_init := F_NoCondition,
    b_NoCondition_init := b_NoCondition,
    m_NoCondition := PySem.W.mg_of X G aC_NoCondition,
    ex_NoCondition := ⟨⟨⟨_, _, _, _, _, _, _, _, _, _, _, _, _, _, _, xL_NoCondition, rfl⟩, sa_NoCondition, eC_NoCondition, tC_NoCondition, pC_NoCondition⟩, iC_NoCondition, iT_NoCondition, ga_NoCondition, gg_NoCondition, cl_NoCondition, hd_NoCondition, ic_NoCondition, ob_NoCondition⟩,
    no_NoCondition_name := no_NoCondition_name,
    c_OrError := cO,
    m_OrError := PySem.W.mg_of X G aO,
    Z := ⟨zg, zt⟩ }
  exact ⟨PySem.W.fnOf "law" "law" (defArgs s_law) (defBody s_law) (defScope s_law) .none kV20 dc20 pm20 an20 cd20 ct20, fun s v => .of_eq rfl, fun base _ _ => ok_law T⟩
end Toy
open PySem PySem.W PyProof.Rows
set_option maxRecDepth 100000 in
set_option maxHeartbeats 0 in
theorem PySem.Challenge.cw_orplaces_k04_numbers_of_rows_holds : PySem.Challenge.rw_orplaces_k04_numbers_of_rows.Holds := by
  w_on; o_law; k_headL; (case hw => w_witness2)
  k_fill
  refine Lx.walkG (l := PySem.Challenge.rw_orplaces_k04_numbers_of_rows) (n := 63) (k := 9) (x := "_law_script") (sp := fun w => Toy.spLaw _) rfl (by decide) rfl ⟨rfl, by decide, by decide⟩ (fun w h Y => PySem.W.kIn_of Y) ?F (fun _ _ a ns hl _ hS => ⟨a, ns, rfl, hS, hl, fun _ => rfl⟩)
  case F =>
    intro w mg fa h KX G hmg
    refine' Toy.all_mk KX G hmg ?aR_Rows ?pg_Rows ?hdR_Rows ?po_Rows ?saR_Rows ?mk_Rows ?kp_Rows ?rd_Rows ?gaR_Rows ?na_Rows_conditions ?na_Rows_possible ?a1 ?l1 ?c1 ?k1 ?a2 ?l2 ?c2 ?k2 ?a3 ?l3 ?c3 ?k3 ?a4 ?l4 ?c4 ?k4 ?a5 ?l5 ?c5 ?k5 ?a6 ?l6 ?c6 ?k6 ?a7 ?g7 ?l7 ?c7 ?k7 ?a8 ?g8 ?l8 ?c8 ?k8 ?a9 ?g9 ?l9 ?c9 ?k9 ?a10 ?r10 ?g10 ?l10 ?c10 ?k10 ?a11 ?l11 ?c11 ?k11 ?a12 ?l12 ?c12 ?k12 ?a13 ?l13 ?c13 ?k13 ?a14 ?l14 ?c14 ?k14 ?a15 ?l15 ?c15 ?k15 ?a16 ?l16 ?c16 ?k16 ?a17 ?l17 ?c17 ?k17 ?a18 ?l18 ?c18 ?k18 ?a19 ?l19 ?c19 ?k19 ?a20 ?l20 ?c20 ?k20 ?z_abs ?z_all ?z_bool ?z_classmethod ?z_enumerate ?z_int ?z_isinstance ?z_len ?z_list ?z_range ?z_repr ?z_set ?z_sorted ?z_str ?z_sum ?z_tuple ?y_LETTERS ?y_MOST_CONDITIONS ?y_MOST_SIGNS ?y_RESERVED ?w_RESERVED ?w2_RESERVED ?y_SIGNS ?aO ?aC_InvalidRows ?xL_InvalidRows ?iC_InvalidRows ?iT_InvalidRows ?lC_InvalidRows ?cC_InvalidRows ?kC_InvalidRows ?sa_InvalidRows ?eC_InvalidRows ?tC_InvalidRows ?pC_InvalidRows ?ga_InvalidRows ?gg_InvalidRows ?cl_InvalidRows ?hd_InvalidRows ?ic_InvalidRows ?ob_InvalidRows ?no_InvalidRows_part ?aC_InvalidRow ?xL_InvalidRow ?iC_InvalidRow ?iT_InvalidRow ?lC_InvalidRow ?cC_InvalidRow ?kC_InvalidRow ?sa_InvalidRow ?eC_InvalidRow ?tC_InvalidRow ?pC_InvalidRow ?ga_InvalidRow ?gg_InvalidRow ?cl_InvalidRow ?hd_InvalidRow ?ic_InvalidRow ?ob_InvalidRow ?no_InvalidRow_value ?aC_NoCondition ?xL_NoCondition ?iC_NoCondition ?iT_NoCondition ?lC_NoCondition ?cC_NoCondition ?kC_NoCondition ?sa_NoCondition ?eC_NoCondition ?tC_NoCondition ?pC_NoCondition ?ga_NoCondition ?gg_NoCondition ?cl_NoCondition ?hd_NoCondition ?ic_NoCondition ?ob_NoCondition ?no_NoCondition_name ?zg ?zt ?xmIR ?koIR1 ?koIR2 ?xmNC ?koNC1 ?koNC2
    (case aR_Rows => k_is)
    (case pg_Rows => k_is)
    (case hdR_Rows => k_is)
    (case po_Rows => k_is)
    (case saR_Rows => k_is)
    (case mk_Rows => k_is)
    (case kp_Rows => k_is)
    (case rd_Rows => k_is)
    (case gaR_Rows => k_is)
    (case na_Rows_conditions => k_is)
    (case na_Rows_possible => k_is)
    (case a1 => k_is)
    (case l1 => k_is)
    (case c1 => k_is)
    (case k1 => k_is)
    (case a2 => k_is)
    (case l2 => k_is)
    (case c2 => k_is)
    (case k2 => k_is)
    (case a3 => k_is)
    (case l3 => k_is)
    (case c3 => k_is)
    (case k3 => k_is)
    (case a4 => k_is)
    (case l4 => k_is)
    (case c4 => k_is)
    (case k4 => k_is)
    (case a5 => k_is)
    (case l5 => k_is)
    (case c5 => k_is)
    (case k5 => k_is)
    (case a6 => k_is)
    (case l6 => k_is)
    (case c6 => k_is)
    (case k6 => k_is)
    (case a7 => k_is)
    (case g7 => k_is)
    (case l7 => k_is)
    (case c7 => k_is)
    (case k7 => k_is)
    (case a8 => k_is)
    (case g8 => k_is)
    (case l8 => k_is)
    (case c8 => k_is)
    (case k8 => k_is)
    (case a9 => k_is)
    (case g9 => k_is)
    (case l9 => k_is)
    (case c9 => k_is)
    (case k9 => k_is)
    (case a10 => k_is)
    (case r10 => k_is)
    (case g10 => k_is)
    (case l10 => k_is)
    (case c10 => k_is)
    (case k10 => k_is)
    (case a11 => k_is)
    (case l11 => k_is)
    (case c11 => k_is)
    (case k11 => k_is)
    (case a12 => k_is)
    (case l12 => k_is)
    (case c12 => k_is)
    (case k12 => k_is)
    (case a13 => k_is)
    (case l13 => k_is)
    (case c13 => k_is)
    (case k13 => k_is)
    (case a14 => k_is)
    (case l14 => k_is)
    (case c14 => k_is)
    (case k14 => k_is)
    (case a15 => k_is)
    (case l15 => k_is)
    (case c15 => k_is)
    (case k15 => k_is)
    (case a16 => k_is)
    (case l16 => k_is)
    (case c16 => k_is)
    (case k16 => k_is)
    (case a17 => k_is)
    (case l17 => k_is)
    (case c17 => k_is)
    (case k17 => k_is)
    (case a18 => k_is)
    (case l18 => k_is)
    (case c18 => k_is)
    (case k18 => k_is)
    (case a19 => k_is)
    (case l19 => k_is)
    (case c19 => k_is)
    (case k19 => k_is)
    (case a20 => k_is)
    (case l20 => k_is)
    (case c20 => k_is)
    (case k20 => k_is)
    (case z_abs => k_is)
    (case z_all => k_is)
    (case z_bool => k_is)
    (case z_classmethod => k_is)
    (case z_enumerate => k_is)
    (case z_int => k_is)
    (case z_isinstance => k_is)
    (case z_len => k_is)
    (case z_list => k_is)
    (case z_range => k_is)
    (case z_repr => k_is)
    (case z_set => k_is)
    (case z_sorted => k_is)
    (case z_str => k_is)
    (case z_sum => k_is)
    (case z_tuple => k_is)
    (case y_LETTERS => k_is)
    (case y_MOST_CONDITIONS => k_is)
    (case y_MOST_SIGNS => k_is)
    (case y_RESERVED => k_is)
    (case w_RESERVED => k_is)
    (case w2_RESERVED => exact ⟨rfl, rfl, by decide +kernel, by first | exact L2.Paired.nil | (repeat (first | exact .nil | refine .cons ⟨_, rfl⟩ ?_))⟩)
    (case y_SIGNS => k_is)
    (case aO => k_is)
    (case aC_InvalidRows => k_is)
    (case xL_InvalidRows => k_is)
    (case iC_InvalidRows => k_is)
    (case iT_InvalidRows => k_is)
    (case lC_InvalidRows => k_is)
    (case cC_InvalidRows => k_is)
    (case kC_InvalidRows => k_is)
    (case sa_InvalidRows => k_is)
    (case eC_InvalidRows => k_is)
    (case tC_InvalidRows => k_is)
    (case pC_InvalidRows => k_is)
    (case ga_InvalidRows => k_is)
    (case gg_InvalidRows => k_is)
    (case cl_InvalidRows => k_is)
    (case hd_InvalidRows => k_is)
    (case ic_InvalidRows => k_is)
    (case ob_InvalidRows => k_is)
    (case no_InvalidRows_part => k_is)
    (case aC_InvalidRow => k_is)
    (case xL_InvalidRow => k_is)
    (case iC_InvalidRow => k_is)
    (case iT_InvalidRow => k_is)
    (case lC_InvalidRow => k_is)
    (case cC_InvalidRow => k_is)
    (case kC_InvalidRow => k_is)
    (case sa_InvalidRow => k_is)
    (case eC_InvalidRow => k_is)
    (case tC_InvalidRow => k_is)
    (case pC_InvalidRow => k_is)
    (case ga_InvalidRow => k_is)
    (case gg_InvalidRow => k_is)
    (case cl_InvalidRow => k_is)
    (case hd_InvalidRow => k_is)
    (case ic_InvalidRow => k_is)
    (case ob_InvalidRow => k_is)
    (case no_InvalidRow_value => k_is)
    (case aC_NoCondition => k_is)
    (case xL_NoCondition => k_is)
    (case iC_NoCondition => k_is)
    (case iT_NoCondition => k_is)
    (case lC_NoCondition => k_is)
    (case cC_NoCondition => k_is)
    (case kC_NoCondition => k_is)
    (case sa_NoCondition => k_is)
    (case eC_NoCondition => k_is)
    (case tC_NoCondition => k_is)
    (case pC_NoCondition => k_is)
    (case ga_NoCondition => k_is)
    (case gg_NoCondition => k_is)
    (case cl_NoCondition => k_is)
    (case hd_NoCondition => k_is)
    (case ic_NoCondition => k_is)
    (case ob_NoCondition => k_is)
    (case no_NoCondition_name => k_is)
    (case zg => k_is)
    (case zt => k_is)
    (case xmIR => kernel_rfl)
    (case koIR1 => kernel_rfl)
    (case koIR2 => kernel_rfl)
    (case xmNC => kernel_rfl)
    (case koNC1 => kernel_rfl)
    (case koNC2 => kernel_rfl)
